import PyProof.Rows.All
import Wide.All
import OpenK.AllK
import Wide.FinOn
import Lean
import PyProof.EqAt
import PyProof.EqKinds
import PyProof.TupleCall
import PyProof.DictWalks
import PyProof.ListMulRoad
import PyProof.Rows.Range3
import PyProof.StationsW
import OpenK.KOwn
import PyProof.ExcBaseAll.ValueError
import PyProof.MaxThree
import KE.KIsAll
import KE.KIsNot
import PyProof.RulesAs
import PyProof.ExcArgsOwn
import PyProof.ExcAttrAll.ValueError
import KE.KRevSl
import PyProof.ListRange
import PyProof.StrBlock2
import PyProof.StrBlockH
import PyProof.StrBlockL
import PyProof.StrCalls2
import PyProof.SliceStr2
import PyProof.StrBlockI
import PyProof.StrLawsTight
import PyProof.StrLawsChain
import PyProof.Rows.StrItems
import PyProof.StrWalks
import PyProof.EnumMake
import PyProof.Draws
import PyProof.StrLawsJoin
import PySem.Challenge.RW_beadrods_k62_whole_unlike_drawings
set_option Elab.async false
set_option linter.all false
set_option maxRecDepth 100000
set_option maxHeartbeats 4000000
abbrev Fg:=PySem.W.Frag
abbrev SV:=PySem.Str->Option PySem.Value
abbrev OP:=Option PySem.PyData
abbrev LP:=List PySem.PyData
abbrev SP0:=PySem.Shared->Prop
theorem zzA {α : Type _} {a : α} {l : List α} : (a :: l)[0]? = some a := rfl
theorem zzB {α : Type _} {a : α} {i : Nat} {l : List α} : (a :: l)[i + 1]? = l[i]? := rfl
theorem zzC {α : Type _} {o : Option α} : (some o).join = o := rfl
theorem zzD {α β : Type _} (a : α) (f : α → Option β) : (some a).bind f = f a := rfl
theorem zzE {α β : Type _} (a : α) (f : α → β) : Option.map f (some a) = some (f a) := rfl
theorem zzF {α : Type _} {x : α} {xs : List α} {i : Nat} {a : α} : (x :: xs).set (i + 1) a = x :: xs.set i a := rfl
theorem zzG {α : Type _} {x : α} {xs : List α} {a : α} : (x :: xs).set 0 a = a :: xs := rfl
theorem zzH {α β : Type _} (f : α → Option β) : (none : Option α).bind f = none := rfl
theorem zzI {α β : Type _} (f : α → β) : Option.map f (none : Option α) = none := rfl
theorem zzJ : (!true) = false := rfl
theorem zzK : (!false) = true := rfl
theorem zzL : (false = true) = False := Bool.false_eq_true
theorem zzM {α : Sort _} {x : Decidable True} (a b : α) : ite True a b = a := if_true a b
theorem zzN {α : Sort _} {x : Decidable False} (a b : α) : ite False a b = b := if_false a b
section
namespace L2
open PySem PySem.Spec PyProof.Rows
noncomputable abbrev Key:=Sum Int Str
noncomputable def abl:Key->Value->Bool
 | .inl k,v=>Value.isInt k v
 | .inr x,v=>Value.isStrOf x v
noncomputable def amQ (w:World):Key->Int
 | .inl k=>hashInt k
 | .inr x=>hashStr w x
theorem j6:∀ {k:Key}{v:Value},abl k v=true->(∃ i t,k=Sum.inl i/\v=Value.int i t) ∨ (∃ x t,k=Sum.inr x/\v=Value.str x t)
 | .inl i,v,h=>by
  obtain ⟨t,e⟩:=Value.isInt_shape (k:=i) (v:=v) h
  exact .inl ⟨i,t,rfl,e⟩
 | .inr x,v,h=>by
  obtain ⟨t,e⟩:=Value.isStrOf_shape (x:=x) (v:=v) h
  exact .inr ⟨x,t,rfl,e⟩
theorem afx (i:Int) (t:Tok):abl (.inl i) (.int i t)=true:=by simp [abl,Value.isInt]
theorem afy (x:Str) (t:Tok):abl (.inr x) (.str x t)=true:=by simp [abl,Value.isStrOf]
theorem akn (a b:Int):decide ((Sum.inl a:Key)=Sum.inl b)=(a == b):=by
 by_cases e:a=b
 ·subst e; simp
 ·have h:¬ (Sum.inl a:Key)=Sum.inl b:=fun q=>e (Sum.inl.inj q)
  rw [decide_eq_false h]
  exact (beq_eq_false_iff_ne.mpr e).symm
theorem ako (a b:Str):decide ((Sum.inr a:Key)=Sum.inr b)=decide (a=b):=by
 by_cases e:a=b
 ·subst e; simp
 ·have h:¬ (Sum.inr a:Key)=Sum.inr b:=fun q=>e (Sum.inr.inj q)
  rw [decide_eq_false h,decide_eq_false e]
theorem akp (a:Int) (b:Str):decide ((Sum.inl a:Key)=Sum.inr b)=false:=decide_eq_false (fun q=>nomatch q)
theorem akq (a:Str) (b:Int):decide ((Sum.inr a:Key)=Sum.inl b)=false:=decide_eq_false (fun q=>nomatch q)
noncomputable def qy (prog:Program) (w:World):PySem.KeyKind prog w Key where
 is:=abl
 hash:=amQ w
 inj:=fun v a b ha hb=>by
  rcases j6 ha with ⟨i,t,rfl,rfl⟩ | ⟨x,t,rfl,rfl⟩
  ·rcases j6 hb with ⟨j,u,rfl,e⟩ | ⟨y,u,rfl,e⟩
   ·injection e with e1 _; rw [e1]
   ·exact nomatch e
  ·rcases j6 hb with ⟨j,u,rfl,e⟩ | ⟨y,u,rfl,e⟩
   ·exact nomatch e
   ·injection e with e1 _; rw [e1]
 byValue:=fun k v h=>by
  rcases j6 h with ⟨i,t,rfl,rfl⟩ | ⟨x,t,rfl,rfl⟩ <;> rfl
 pyHash:=fun hv h=>by
  rcases j6 hv with ⟨i,t,rfl,rfl⟩ | ⟨x,t,rfl,rfl⟩
  ·exact wpAny_pyHash_int h
  ·exact wpAny_pyHash_str h
 eqBool:=fun hu hv h=>by
  rcases j6 hu with ⟨i,t,rfl,rfl⟩ | ⟨x,t,rfl,rfl⟩
  ·rcases j6 hv with ⟨j,u,rfl,rfl⟩ | ⟨y,u,rfl,rfl⟩
   ·rw [akn] at h; exact wpAny_eqBool_int h
   ·rw [akp] at h; exact SeqAt.EqAt.int_str i t y u _ _ _ _ h
  ·rcases j6 hv with ⟨j,u,rfl,rfl⟩ | ⟨y,u,rfl,rfl⟩
   ·rw [akq] at h; exact SeqAt.EqAt.str_int x t j u _ _ _ _ h
   ·rw [ako] at h; exact wpAny_eqBool_str h
 «strs»:=fun k x t v h=>by
  rcases j6 h with ⟨i,u,rfl,e⟩ | ⟨y,u,rfl,e⟩
  ·exact nomatch e
  ·injection e with e1 _
   subst e1
   cases v <;> rfl
theorem acS (prog:Program) (w:World) (i:Int) (t:Tok):(qy prog w).is (.inl i) (.int i t)=true:=afx i t
theorem acT (prog:Program) (w:World) (x:Str) (t:Tok):(qy prog w).is (.inr x) (.str x t)=true:=afy x t
inductive V where
 | non | bl (b:Bool) | int (i:Int) | str (x:Str) | byt (b:Array UInt8) | flt (b:UInt64) | ref (a:Addr) | ty (n:String)
 deriving DecidableEq
noncomputable def jQ:V->Value->Prop
 | .non,u=>u=Value.none
 | .bl b,u=>u=Value.bool b
 | .int i,u=>∃ t,u=Value.int i t
 | .str x,u=>∃ t,u=Value.str x t
 | .byt b,u=>∃ t,u=Value.bytes b t
 | .flt b,u=>∃ t,u=Value.float b t
 | .ref a,u=>u=Value.ref a
 | .ty n,u=>u=Value.type n
noncomputable abbrev jG:List V->List Value->Prop:=Paired jQ
theorem jG.length {xs:List V}{us:List Value} (r:jG xs us):xs.length=us.length:=Paired.length r
theorem jG.get:∀ {xs:List V}{us:List Value}{i:Nat}{x:V},jG xs us->xs[i]?=some x->∃ u,us[i]?=some u/\jQ x u
 | _,_,_,_,.nil,e=>by simp at e
 | _,_,0,_,.cons r _,e=>by simp at e; subst e; exact ⟨_,rfl,r⟩
 | _,_,i+1,x,.cons _ t,e=>by
  obtain ⟨u,h1,h2⟩:=jG.get (i:=i) (x:=x) t (by simpa using e)
  exact ⟨u,by simpa using h1,h2⟩
theorem jG.set {x:V}{u:Value} (r:jQ x u):∀ {xs:List V}{us:List Value} (i:Nat),jG xs us->jG (xs.set i x) (us.set i u)
 | _,_,_,.nil=> .nil
 | _,_,0,.cons _ t=> .cons r t
 | _,_,i+1,.cons q t=> .cons q (jG.set r i t)
theorem jG.append:∀ {xs ys:List V}{us ws:List Value},jG xs us->jG ys ws->jG (xs++ys) (us++ws)
 | _,_,_,_,.nil,s=>s
 | _,_,_,_,.cons r t,s=> .cons r (jG.append t s)
theorem jG.take:∀ {xs:List V}{us:List Value} (n:Nat),jG xs us->jG (xs.take n) (us.take n)
 | _,_,0,_=> .nil
 | _,_,_+1,.nil=> .nil
 | _,_,n+1,.cons r t=> .cons r (jG.take n t)
theorem jG.drop:∀ {xs:List V}{us:List Value} (n:Nat),jG xs us->jG (xs.drop n) (us.drop n)
 | _,_,0,r=>r
 | _,_,_+1,.nil=> .nil
 | _,_,n+1,.cons _ t=>jG.drop n t
noncomputable def ZX:Option V->Option Value->Prop
 | some v,some u=>jQ v u
 | none,none=>True
 | _,_=>False
noncomputable def KV {κ:Type}:List (κ × V)->List (κ × Value)->Prop:=Paired fun (p:κ × V) (q:κ × Value)=>p.1=q.1/\jQ p.2 q.2
noncomputable def kV:Key->V
 | .inl i=> .int i
 | .inr x=> .str x
inductive HO where
 | lst (xs:List V)
 | tup (xs:List V)
 | dK (kvs:List (Key × V)) | dT (kvs:List (List Key × V))
 | set (S:Int->Bool) (n:Nat)
 | ins (C dx:Addr) (fs:List (Str × V))
 | own (x:Addr)
 | xd (fs:List (Str × V))
 | met (f x:Addr)
 | rng (lo hi:Int)
 | frz (o:Obj) (u:HO)
 | tbl (ps:Array Value)
 | ext (φ:Heap->Prop)
noncomputable abbrev Hp:=Addr->Option HO
noncomputable def upd (H:Hp) (a:Addr) (o:HO):Hp:=fun b=>if b=a then some o else H b
theorem jt {H:Hp}{a:Addr}{o:HO}:upd H a o a=some o:=by unfold upd; rw [if_pos rfl]
theorem ji {H:Hp}{a b:Addr}{o:HO} (h:b ≠ a):upd H a o b=H b:=by unfold upd; rw [if_neg h]
theorem QO {H:Hp}{a:Addr}{o u:HO}:upd (upd H a o) a u=upd H a u:=by
 funext b; unfold upd; split <;> rfl
theorem alS {H:Hp}{a b:Addr}{o u:HO} (h:H a=some o) (h':H b=some u) (d:o ≠ u):a ≠ b:=by
 intro e; subst e; rw [h] at h'; exact d (Option.some.inj h')
theorem qj {H:Hp}{a b:Addr}{o:HO} (h:H a=some o) (h':H b=none):a ≠ b:=by
 intro e; subst e; rw [h] at h'; cases h'
section
variable (P:Program) (w:World)
noncomputable def qq (H:Hp) (h:Heap) (a:Addr):HO->Prop
 | .lst xs=>xs.length<=sizeLine/\∃ (its:List Value) (n:Nat),jG xs its/\h.get? a=some { cls:= .type "list",data:= .seq its.toArray n }
 | .tup xs=>xs.length<=sizeLine/\∃ its:List Value,jG xs its/\IsTup h a its.toArray
 | .dK kvs=>kvs.length<=sizeLine/\(a == sysModules)=false/\∃ vs,KV kvs vs/\h.DictOf (qy P w) a vs
 | .dT kvs=>kvs.length<=sizeLine/\(a == sysModules)=false/\∃ xs:List (List Key × Addr × Value),
   Paired (fun (p:List Key × V) (q:List Key × Addr × Value)=>p.1=q.1/\H q.2.1=some (.tup (p.1.map kV))/\jQ p.2 q.2.2) kvs xs/\
   ∃ o es ep,h.get? a=some o/\o.ExactDict/\o.data= .dict es ep/\es.toList=xs.map (entryOfKey (tupleKind (qy P w)))/\(xs.map (·.1)).Nodup
 | .set S n=>h.SetOf (intKind P w) a S n
 | .ins C dx fs=>H dx=some (.own a)/\fs.length<=1000/\dx ≠ a/\h.get? a=some (PySem.W.instObj C dx)/\
   ∃ mA,h.Ns1 dx mA/\(∀ f,ZX (fs.lookup f) (mA f))/\PySem.Within mA (fs.map (·.1))
 | .own _=>∃ o,h.get? a=some o
 | .xd fs=>∃ mA,h.Ns1 a mA/\∀ f,ZX (fs.lookup f) (mA f)
 | .rng lo hi=>∃ t u v,h.get? a=some { cls:= .type "range",data:= .fields #[.int lo t,.int hi u,.int 1 v] }
 | .frz o u=>h.get? a=some o/\qq H h a u
 | .tbl ps=>h.get? a=some { cls:= .none,data:= .fields ps }
 | .met f x=>h.get? a=some (PySem.W.methodObj (.ref f) (.ref x))
 | .ext φ=>φ h/\(∃ o,h.get? a=some o)/\∀ h1 h2:Heap,φ h1->(∀ o,h1.get? a=some o->h2.get? a=some o)->φ h2
noncomputable def HOk (H:Hp) (h:Heap):Prop:=∀ a o,H a=some o->qq P w H h a o
end
section
variable {P:Program}{w:World}{H H':Hp}{h h':Heap}{a:Addr}{o:HO}
theorem qq.lt (x:qq P w H h a o):a<h.objs.size:=by
 cases o with
 | lst xs=>obtain ⟨_,_,_,_,e⟩:=x; exact Heap.lt_size e
 | tup xs=>obtain ⟨_,_,_,p⟩:=x; exact p.lt
 | dK kvs=>obtain ⟨_,_,_,_,o,_,_,e,_⟩:=x; exact Heap.lt_size e
 | dT kvs=>obtain ⟨_,_,_,_,o,_,_,e,_⟩:=x; exact Heap.lt_size e
 | set S n=>obtain ⟨o,_,_,_,e,_⟩:=x; exact Heap.lt_size e
 | ins C dx fs=>obtain ⟨_,_,_,e,_⟩:=x; exact Heap.lt_size e
 | own y=>obtain ⟨_,e⟩:=x; exact Heap.lt_size e
 | xd fs=>obtain ⟨_,⟨_,_,_,e,_⟩,_⟩:=x; exact Heap.lt_size e
 | rng lo hi=>obtain ⟨_,_,_,e⟩:=x; exact Heap.lt_size e
 | frz ob u=>obtain ⟨e,_⟩:=x; exact Heap.lt_size e
 | tbl ps=>exact Heap.lt_size (show h.get? a=some _ from x)
 | met f y=>exact Heap.lt_size (show h.get? a=some _ from x)
 | ext φ=>obtain ⟨_,⟨_,e⟩,_⟩:=x; exact Heap.lt_size e
theorem Paired.mapP {α β:Type}{F G:α->β->Prop}:∀ {l₁:List α}{l₂:List β},Paired F l₁ l₂->(∀ a b,F a b->G a b)->Paired G l₁ l₂
 | _,_,.nil,_=> .nil
 | _,_,.cons r t,f=> .cons (f _ _ r) (Paired.mapP t f)
theorem qq.stay (x:qq P w H h a o) (k:∀ b u,(b=a ∨ H b=some (.own a))->h.get? b=some u->h'.get? b=some u)
  (ho:∀ b,H b=some (.own a)->H' b=some (.own a)) (ht:∀ b xs,H b=some (.tup xs)->H' b=some (.tup xs)):qq P w H' h' a o:=by
 induction o with
 | lst xs=>obtain ⟨z,its,n,r,e⟩:=x; exact ⟨z,its,n,r,k _ _ (.inl rfl) e⟩
 | tup xs=>obtain ⟨z,its,r,ob,e,c⟩:=x; exact ⟨z,its,r,ob,k _ _ (.inl rfl) e,c⟩
 | dK kvs=>obtain ⟨z,y,vs,r,ob,es,ep,e,c⟩:=x; exact ⟨z,y,vs,r,ob,es,ep,k _ _ (.inl rfl) e,c⟩
 | dT kvs=>
  obtain ⟨z,y,xs,r,ob,es,ep,e,c⟩:=x
  exact ⟨z,y,xs,Paired.mapP r fun p q z=>⟨z.1,ht _ _ z.2.1,z.2.2⟩,ob,es,ep,k _ _ (.inl rfl) e,c⟩
 | set S n=>obtain ⟨ob,es,ep,t,e,c⟩:=x; exact ⟨ob,es,ep,t,k _ _ (.inl rfl) e,c⟩
 | ins C dx fs=>
  obtain ⟨d,z,ne,e,mA,⟨od,es,ep,e2,c⟩,r⟩:=x
  exact ⟨ho _ d,z,ne,k _ _ (.inl rfl) e,mA,⟨od,es,ep,k _ _ (.inr d) e2,c⟩,r⟩
 | own y=>obtain ⟨ob,e⟩:=x; exact ⟨ob,k _ _ (.inl rfl) e⟩
 | xd fs=>obtain ⟨mA,⟨od,es,ep,e,c⟩,r⟩:=x; exact ⟨mA,⟨od,es,ep,k _ _ (.inl rfl) e,c⟩,r⟩
 | rng lo hi=>obtain ⟨t,u,v,e⟩:=x; exact ⟨t,u,v,k _ _ (.inl rfl) e⟩
 | frz ob u ih=>obtain ⟨e,q⟩:=x; exact ⟨k _ _ (.inl rfl) e,ih q⟩
 | tbl ps=>
  have e:h.get? a=some { cls:= .none,data:= .fields ps }:=x
  show h'.get? a=some { cls:= .none,data:= .fields ps }
  exact k a _ (.inl rfl) e
 | met f y=>
  have e:h.get? a=some (PySem.W.methodObj (.ref f) (.ref y)):=x
  show h'.get? a=some (PySem.W.methodObj (.ref f) (.ref y))
  exact k a _ (.inl rfl) e
 | ext φ=>obtain ⟨p,⟨o,e⟩,st⟩:=x; exact ⟨st _ _ p fun o q=>k _ _ (.inl rfl) q,⟨o,k _ _ (.inl rfl) e⟩,st⟩
theorem HOk.lt (x:HOk P w H h) (e:H a=some o):a<h.objs.size:=(x a o e).lt
theorem HOk.fresh (x:HOk P w H h) (e:h.objs.size<=a):H a=none:=by
 cases q:H a with
 | none=>rfl
 | some u=>exact absurd (Nat.lt_of_lt_of_le (x.lt q) e) (Nat.lt_irrefl _)
theorem HOk.kept (x:HOk P w H h) (k:∀ b u,h.get? b=some u->h'.get? b=some u):HOk P w H h':=fun a o e=>
 (x a o e).stay (fun b u _ q=>k b u q) (fun _ q=>q) fun _ _ q=>q
theorem HOk.laid (x:HOk P w H h) (k:∀ b u,h.get? b=some u->h'.get? b=some u) (hp:h.objs.size<=a) (new:qq P w (upd H a o) h' a o):HOk P w (upd H a o) h':=fun b u e=>by
 have hn:=x.fresh hp
 by_cases hb:b=a
 ·subst hb; rw [jt] at e; cases e; exact new
 ·rw [ji hb] at e
  exact (x b u e).stay (fun c v _ q=>k c v q) (fun c q=>by rw [ji (qj q hn)]; exact q) fun c xs q=>by rw [ji (qj q hn)]; exact q
end
noncomputable def Rd (H:Hp) (a:Addr) (u:HO):Prop:=H a=some u ∨ ∃ o,H a=some (.frz o u)
theorem Rd.of {H:Hp}{a:Addr}{u:HO} (h:H a=some u):Rd H a u:= .inl h
theorem Rd.ok {P:Program}{w:World}{H:Hp}{h:Heap}{a:Addr}{u:HO} (r:Rd H a u) (x:HOk P w H h):qq P w H h a u:=by
 rcases r with r | ⟨o,r⟩
 ·exact x a u r
 ·obtain ⟨_,q⟩:=x a _ r
  exact q
noncomputable def Mut:Option HO->Prop
 | some (.lst _)=>True
 | some (.dK _)=>True
 | some (.dT _)=>True
 | some (.set _ _)=>True
 | some (.ins _ _ _)=>True
 | some (.ext _)=>True
 | _=>False
section
variable {P:Program}{w:World}{H:Hp}{h h':Heap}{x e:Addr}{o':HO}
theorem HOk.write (ok:HOk P w H h) (mu:Mut (H x)) (he:e=x ∨ H e=some (.own x)) (k:∀ b u,b ≠ e->h.get? b=some u->h'.get? b=some u) (heo:∃ u,h'.get? e=some u)
  (new:qq P w (upd H x o') h' x o'):HOk P w (upd H x o') h':=fun b u q=>by
 have nown:∀ c y,H c=some (.own y)->c ≠ x:=fun c y r z=>by subst z; rw [r] at mu; exact mu
 have ntup:∀ c xs,H c=some (.tup xs)->c ≠ x:=fun c xs r z=>by subst z; rw [r] at mu; exact mu
 by_cases hb:b=x
 ·subst hb; rw [jt] at q; cases q; exact new
 ·rw [ji hb] at q
  by_cases hbe:b=e
  ·have q':H b=some (.own x):=by
    rcases he with z | z
    ·exact absurd (hbe.trans z) hb
    ·rw [hbe]; exact z
   rw [q] at q'; cases q'
   obtain ⟨v,hv⟩:=heo
   exact ⟨v,by rw [hbe]; exact hv⟩
  ·refine (ok b u q).stay (fun c v hc r=>k c v ?_ r) (fun c r=>by rw [ji (nown c b r)]; exact r) fun c xs r=>by rw [ji (ntup c xs r)]; exact r
   rcases hc with rfl | hc
   ·exact hbe
   ·rintro rfl
    rcases he with z | z
    ·exact nown c b hc z
    ·rw [hc] at z; cases z; exact hb rfl
end
structure Un (fs ex:List Addr) (H H':Hp) (h h':Heap):Prop where
 keep:∀ b o,h.get? b=some o->H b=none->b ∉ fs->b ∉ ex->h'.get? b=some o
 slot:∀ b o,h.get? b=some o->H b=none->b ∈ fs->b ∉ ex->∃ sl,h'.get? b=some { o with slots:=sl }
 free:∀ b o,h.get? b=some o->H b=none->b ∉ ex->H' b=none
 there:∀ b o,h.get? b=some o->b ∉ ex->∃ o',h'.get? b=some o'
 tups:∀ b xs,H b=some (.tup xs)->H' b=some (.tup xs)
 frzs:∀ b o u,H b=some (.frz o u)->H' b=some (.frz o u)
 tbls:∀ b ps,H b=some (.tbl ps)->∃ more,H' b=some (.tbl (ps++more))
section
variable {fs fs' ex ex':List Addr}{H H1 H2:Hp}{h h1 h2 h':Heap}{a x e:Addr}{o:HO}
theorem Un.any (u:Un fs ex H H1 h h1) {b:Addr}{ob:Obj} (q:h.get? b=some ob) (n:H b=none) (hx:b ∉ ex):∃ sl,h1.get? b=some { ob with slots:=sl }:=by
 by_cases hb:b ∈ fs
 ·exact u.slot b ob q n hb hx
 ·exact ⟨ob.slots,u.keep b ob q n hb hx⟩
theorem Un.trans (a:Un fs ex H H1 h h1) (b:Un fs ex H1 H2 h1 h2):Un fs ex H H2 h h2 where
 keep:=fun c ob q n hc hx=>b.keep c ob (a.keep c ob q n hc hx) (a.free c ob q n hx) hc hx
 slot:=fun c ob q n hc hx=>by
  obtain ⟨sl,e1⟩:=a.slot c ob q n hc hx
  obtain ⟨sl',e2⟩:=b.slot c _ e1 (a.free c ob q n hx) hc hx
  exact ⟨sl',e2⟩
 free:=fun c ob q n hx=>by
  obtain ⟨o',e1⟩:=a.there c ob q hx
  exact b.free c o' e1 (a.free c ob q n hx) hx
 there:=fun c ob q hx=>by
  obtain ⟨o',e1⟩:=a.there c ob q hx
  exact b.there c o' e1 hx
 tups:=fun c xs q=>b.tups c xs (a.tups c xs q)
 frzs:=fun c ob xs q=>b.frzs c ob xs (a.frzs c ob xs q)
 tbls:=fun c ps q=>by
  obtain ⟨m1,e1⟩:=a.tbls c ps q
  obtain ⟨m2,e2⟩:=b.tbls c _ e1
  exact ⟨m1++m2,by rw [e2,Array.append_assoc]⟩
theorem Un.kept (k:∀ b u,h.get? b=some u->h'.get? b=some u):Un fs ex H H h h':=
 ⟨fun b ob q _ _ _=>k b ob q,fun b ob q _ _ _=>⟨ob.slots,k b ob q⟩,fun _ _ _ n _=>n,fun b ob q _=>⟨ob,k b ob q⟩,fun _ _ q=>q,fun _ _ _ q=>q,fun _ ps q=>⟨#[],by rw [q]; simp⟩⟩
theorem Un.refl:Un fs ex H H h h:=Un.kept fun _ _ q=>q
theorem Un.laid (k:∀ b u,h.get? b=some u->h'.get? b=some u) (hp:h.objs.size<=a) (hn:H a=none):Un fs ex H (upd H a o) h h' where
 keep:=fun b u q _ _ _=>k b u q
 slot:=fun b u q _ _ _=>⟨u.slots,k b u q⟩
 free:=fun b u q n _=>by rw [ji (Nat.ne_of_lt (Nat.lt_of_lt_of_le (Heap.lt_size q) hp))]; exact n
 there:=fun b u q _=>⟨u,k b u q⟩
 tups:=fun b xs q=>by rw [ji (qj q hn)]; exact q
 frzs:=fun b u xs q=>by rw [ji (qj q hn)]; exact q
 tbls:=fun b ps q=>⟨#[],by rw [ji (qj q hn),q]; simp⟩
theorem Un.write (mu:Mut (H x)) (he:e=x ∨ H e=some (.own x)) (k:∀ b u,b ≠ e->h.get? b=some u->h'.get? b=some u) (heo:∃ u,h'.get? e=some u):Un fs ex H (upd H x o) h h':=by
 have hx:∀ b,H b=none->b ≠ x:=fun b n z=>by subst z; rw [n] at mu; exact mu
 have hb:∀ b,H b=none->b ≠ e:=fun b n z=>by
  subst z
  rcases he with r | r
  ·exact hx b n r
  ·rw [n] at r; cases r
 have hm:∀ b u,H b=some u->¬ Mut (some u)->b ≠ x:=fun b u q nm z=>by subst z; rw [q] at mu; exact nm mu
 refine ⟨fun b u q n _ _=>k b u (hb b n) q,fun b u q n _ _=>⟨u.slots,k b u (hb b n) q⟩,fun b u q n _=>by rw [ji (hx b n)]; exact n,fun b u q _=>?_,
  fun b xs q=>by rw [ji (hm b _ q fun z=>z)]; exact q,fun b u xs q=>by rw [ji (hm b _ q fun z=>z)]; exact q,fun b ps q=>⟨#[],by rw [ji (hm b _ q fun z=>z),q]; simp⟩⟩
 by_cases hbe:b=e
 ·subst hbe; exact heo
 ·exact ⟨u,k b u hbe q⟩
theorem Un.mono (u:Un fs ex H H1 h h1) (hs:∀ b ∈ fs,b ∈ fs') (hx:∀ b ∈ ex,b ∈ ex'):Un fs' ex' H H1 h h1:=
 ⟨fun b ob q n hb he=>u.keep b ob q n (fun z=>hb (hs b z)) fun z=>he (hx b z),fun _ _ q n _ he=>u.any q n fun z=>he (hx _ z),fun b ob q n he=>u.free b ob q n fun z=>he (hx b z),fun b ob q he=>u.there b ob q fun z=>he (hx b z),u.tups,u.frzs,u.tbls⟩
end
noncomputable def trk (h:Heap) (H:Hp):List Addr:=(List.range h.objs.size).filter fun a=>(H a).isSome
noncomputable def ab4 (h:Heap) (H:Hp):Heap:=PySem.W.hideAll h (trk h H)
theorem afz (h:Heap) (H:Hp):(ab4 h H).objs.size=h.objs.size:=PySem.W.hideAll_size _ _
theorem agH {h:Heap}{H:Hp}{b:Addr}{o:Obj} (e:h.get? b=some o) (n:H b=none):(ab4 h H).get? b=some o:=
 PySem.W.hideAll_get _ e fun hm=>by
  have q:(H b).isSome=true:=(List.mem_filter.mp hm).2
  rw [n] at q; simp at q
theorem aiH {h:Heap}{H:Hp}{b:Addr}{o:Obj} (e:(ab4 h H).get? b=some o):h.get? b=some o/\H b=none:=by
 have e':h.get? b=some o:=PySem.W.of_hideAll (trk h H) e
 refine ⟨e',?_⟩
 cases q:H b with
 | none=>rfl
 | some x=>
  have hm:b ∈ trk h H:=List.mem_filter.mpr ⟨List.mem_range.mpr (Heap.lt_size e'),by simp [q]⟩
  have z:(ab4 h H).get? b=none:=PySem.W.hideAll_none (trk h H) hm
  rw [z] at e; cases e
noncomputable def aiI (g h:Heap) (L:Addr):List (Addr × Obj):=(List.range h.objs.size).filterMap fun a=>if a=L ∨ (g.get? a).isSome=true then none else (h.get? a).map fun o=>(a,o)
noncomputable def qg (g h:Heap) (L d:Addr):List (Addr × Obj):=(aiI g h L).filter fun p=>decide (p.1 ≠ d)
structure Mod (K:Fg) (mg:SV) (base:Heap):Prop where
 kin:K.In base
 glob:base.Ns mainGlobals mg
 blt:∃ mb,base.Ns builtinsNs mb/\∀ x:Str,x ≠ "__name__"->mb x=bootBuiltins x
 nolimit:base.NoLimit
structure Cx where
 prog:Program
 w:World
 K:Fg
 mg:SV
 base:Heap
 A:Around
 N:List Str
 s₀:Shared
 H₀:Hp
 env:Env
 Ko:List Env
 stack:List Env
 ex:List Addr
 fn:Str->Bool
 calm:Bool
 pn:List (Addr × Obj)
 xe:Value->SP0
noncomputable def frs (l:List Env):List Addr:=l.filterMap (·.frame)
noncomputable abbrev Cx.fs (X:Cx):List Addr:=frs X.Ko
noncomputable def Vis (sc:Scope) (x:Str):Prop:=sc.names.lookup x=some .local ∨ sc.names.lookup x=some .cell ∨ sc.names.lookup x=some .free
noncomputable def Loc (sc:Scope) (x:Str):Prop:=sc.names.lookup x=some .local ∨ sc.names.lookup x=some .cell
noncomputable def amR (env:Env) (h:Heap) (m:SV) (x:Str) (u:Value):Prop:=
 (env.kindOf x=some .local/\m x=some u) ∨ ((env.kindOf x=some .cell ∨ env.kindOf x=some .free)/\∃ c,env.cells.lookup x=some c/\h.IsCell c (some u))
structure Cx.Ok (X:Cx):Prop where
 mod:Mod X.K X.mg X.base
 kind:X.env.scope.kind= .function
 glob:X.env.globals=mainGlobals
 blt:X.env.builtins=builtinsNs
 above:X.s₀.heap.objs.size<=X.env.locals
 inj:∀ x y c,X.env.cells.lookup x=some c->X.env.cells.lookup y=some c->x=y
 has:∀ x,(X.env.kindOf x=some .cell ∨ X.env.kindOf x=some .free)->∃ c,X.env.cells.lookup x=some c
 cab:∀ x c,X.fn x=true->X.env.cells.lookup x=some c->X.s₀.heap.objs.size<=c
 hd:X.calm=true->X.A.handled=none
 frames:X.A.frames=some X.stack
 stk:X.stack=X.Ko ∨ (X.stack=X.env::X.Ko/\X.env.frame=some X.env.locals)
 exf:∀ b ∈ X.ex,b ≠ X.env.locals/\∀ x c,X.env.cells.lookup x=some c->c ≠ b
 bs:∀ b o,X.base.get? b=some o->X.s₀.heap.get? b=some o/\X.H₀ b=none
 bsz:X.base.objs.size<=X.s₀.heap.objs.size
 noex:∀ b o,X.base.get? b=some o->b ∉ X.ex
 exfs:∀ b ∈ X.ex,b ∉ X.fs
 funs:X.s₀.heap.FunFrames X.base X.Ko
 frf:∀ b ∈ X.fs,X.H₀ b=none
structure Inv (X:Cx) (Kp:List (Addr × Obj)) (σ:List (Option V)) (H:Hp) (s:Shared):Prop where
 ok:X.Ok
 os:s.os=X.s₀.os
 bare:AllBare s.gens
 base:Un X.fs X.ex X.H₀ H X.s₀.heap s.heap
 loc:∃ m,s.heap.Ns X.env.locals m/\∀ (i:Nat) (x:Str) (v:V),X.N[i]?=some x->σ[i]?=some (some v)->Vis X.env.scope x->∃ u,jQ v u/\amR X.env s.heap m x u
 cell:∀ x c,X.env.cells.lookup x=some c->∃ v,s.heap.IsCell c v
 free:H X.env.locals=none
 freeC:∀ x c,X.env.cells.lookup x=some c->H c=none
 pin:∀ p ∈ X.pn++Kp,s.heap.get? p.1=some p.2/\H p.1=none/\p.1 ≠ X.env.locals/\p.1 ∉ X.fs/\∀ v,p.2.data ≠ .cell v
 hok:HOk X.prog X.w H s.heap
 len:σ.length=X.N.length
section
variable {X:Cx}{Kp:List (Addr × Obj)}{σ:List (Option V)}{H H':Hp}{s:Shared}{h':Heap}
theorem Cx.Ok.nofr (ok:X.Ok) {b:Addr}{o:Obj} (e:X.base.get? b=some o):b ∉ X.fs:=fun hb=>by
 have:=(ok.funs.mem hb).1
 rw [e] at this; cases this
theorem Inv.bs (I:Inv X Kp σ H s):∀ b o,X.base.get? b=some o->s.heap.get? b=some o/\H b=none:=fun b o e=>
 ⟨I.base.keep b o (I.ok.bs b o e).1 (I.ok.bs b o e).2 (I.ok.nofr e) (I.ok.noex b o e),I.base.free b o (I.ok.bs b o e).1 (I.ok.bs b o e).2 (I.ok.noex b o e)⟩
theorem Inv.bk (I:Inv X Kp σ H s):∀ b o,X.base.get? b=some o->s.heap.get? b=some o:=fun b o e=>(I.bs b o e).1
theorem Inv.mod (I:Inv X Kp σ H s):Mod X.K X.mg X.base:=I.ok.mod
theorem Inv.kIn (I:Inv X Kp σ H s):X.K.In s.heap:=I.ok.mod.kin.keeps I.bk
theorem Inv.nolimit (I:Inv X Kp σ H s):s.heap.NoLimit:=I.ok.mod.nolimit.keeps I.bk
theorem Inv.fr (I:Inv X Kp σ H s):∃ m,Fr X.base X.env.locals s.heap m:=
 let ⟨m,hn,_⟩:=I.loc
 ⟨m,hn,I.bk,Nat.le_trans I.ok.bsz I.ok.above⟩
theorem Inv.lt (I:Inv X Kp σ H s):X.env.locals<s.heap.objs.size:=let ⟨_,hn,_⟩:=I.loc; hn.lt
theorem Inv.sz (I:Inv X Kp σ H s):X.s₀.heap.objs.size<=s.heap.objs.size:=Nat.le_trans I.ok.above (Nat.le_of_lt I.lt)
theorem Inv.nofs (I:Inv X Kp σ H s) {a:Addr} (h:s.heap.objs.size<=a):a ∉ X.fs:=fun hb=>by
 obtain ⟨_,o,ho,_⟩:=I.ok.funs.mem hb
 exact absurd (Nat.lt_of_lt_of_le (Heap.lt_size ho) (Nat.le_trans I.sz h)) (Nat.lt_irrefl _)
theorem Inv.cne (I:Inv X Kp σ H s):∀ x c,X.env.cells.lookup x=some c->c ≠ X.env.locals:=fun x c e z=>by
 obtain ⟨v,o,ho,hd⟩:=I.cell x c e
 obtain ⟨m,⟨o',es,ep,ho',hd',_⟩,_⟩:=I.loc
 rw [z,ho'] at ho; cases ho; rw [hd'] at hd; cases hd
theorem Inv.funs (I:Inv X Kp σ H s):s.heap.FunFrames X.base X.Ko:=by
 have all:∀ (l:List Env),(∀ b ∈ frs l,b ∈ X.fs)->X.s₀.heap.FunFrames X.base l->s.heap.FunFrames X.base l:=by
  intro l
  induction l with
  | nil=>intro _ _; trivial
  | cons env r ih=>
   intro hs hl
   obtain ⟨hk,⟨L,o,hf,hn,ho,hd⟩,hr⟩:=hl
   have hL:L ∈ X.fs:=hs L (by unfold frs; rw [List.filterMap_cons,hf]; exact List.mem_cons_self)
   obtain ⟨sl,e⟩:=I.base.slot L o ho (I.ok.frf L hL) hL fun z=>I.ok.exfs L z hL
   exact ⟨hk,⟨L,_,hf,hn,e,hd⟩,ih (fun b hb=>hs b (by unfold frs; rw [List.filterMap_cons,hf]; exact List.mem_cons_of_mem _ hb)) hr⟩
 exact all X.Ko (fun _ hb=>hb) I.ok.funs
theorem Inv.stack (I:Inv X Kp σ H s):s.heap.FunFrames X.base X.stack:=by
 rcases I.ok.stk with e | ⟨e,hf⟩
 ·rw [e]; exact I.funs
 ·rw [e]
  obtain ⟨m,hn,_⟩:=I.loc
  refine .cons (by rw [I.ok.kind]; decide) hf hn ?_ I.funs
  exact Heap.get?_none_of_le (Nat.le_trans I.ok.bsz I.ok.above)
theorem Inv.stkSub (I:Inv X Kp σ H s):∀ b ∈ frs X.stack,b ∈ X.env.locals::X.fs:=fun b hb=>by
 rcases I.ok.stk with e | ⟨e,hf⟩
 ·rw [e] at hb; exact List.mem_cons_of_mem _ hb
 ·rw [e] at hb
  unfold frs at hb
  rw [List.filterMap_cons,hf] at hb
  exact hb
theorem Inv.stkFree (I:Inv X Kp σ H s):∀ b ∈ frs X.stack,H b=none:=fun b hb=>by
 rcases List.mem_cons.mp (I.stkSub b hb) with e | hb
 ·rw [e]; exact I.free
 ·obtain ⟨_,o,ho,_⟩:=I.ok.funs.mem hb
  exact I.base.free b o ho (I.ok.frf b hb) fun z=>I.ok.exfs b z hb
theorem Inv.step {g':Array GenState}{t':Nat}{d':Drawn}{ch:List Addr} (I:Inv X Kp σ H s)
  (hch:∀ b ∈ ch,(b ∈ X.ex ∨ X.s₀.heap.objs.size<=b)/\b ≠ X.env.locals/\(∀ x c,X.env.cells.lookup x=some c->c ≠ b)/\∀ p ∈ X.pn++Kp,p.1 ≠ b)
  (keep:∀ b o,b ≠ X.env.locals->b ∉ X.fs->b ∉ ch->s.heap.get? b=some o->H b=none->h'.get? b=some o)
  (slot:∀ b o,b ≠ X.env.locals->b ∈ X.fs->b ∉ ch->s.heap.get? b=some o->H b=none->∃ sl,h'.get? b=some { o with slots:=sl }) (free:∀ b o,b ∉ ch->s.heap.get? b=some o->H b=none->H' b=none)
  (there:∀ b o,b ∉ ch->s.heap.get? b=some o->∃ o',h'.get? b=some o')
  (tups:∀ b xs,H b=some (.tup xs)->H' b=some (.tup xs)) (frzs:∀ b o u,H b=some (.frz o u)->H' b=some (.frz o u)) (tbls:∀ b ps,H b=some (.tbl ps)->∃ more,H' b=some (.tbl (ps++more)))
  (ns:∀ m,s.heap.Ns X.env.locals m->h'.Ns X.env.locals m) (hok:HOk X.prog X.w H' h') (hg:AllBare g'):
  Inv X Kp σ H' { s with heap:=h',gens:=g',drawn:=d',toks:=t' }:=by
 have neL:∀ b o,X.s₀.heap.get? b=some o->b ≠ X.env.locals:=fun b o e=>Nat.ne_of_lt (Nat.lt_of_lt_of_le (Heap.lt_size e) I.ok.above)
 have neC:∀ b o,X.s₀.heap.get? b=some o->b ∉ X.ex->b ∉ ch:=fun b o e hx hb=>by
  rcases (hch b hb).1 with z | z
  ·exact hx z
  ·exact absurd (Nat.lt_of_lt_of_le (Heap.lt_size e) z) (Nat.lt_irrefl _)
 have cellK:∀ x c,X.env.cells.lookup x=some c->∀ v,s.heap.IsCell c v->h'.IsCell c v:=fun x c e v ⟨o,ho,hd⟩=>by
  have nch:c ∉ ch:=fun z=>(hch c z).2.2.1 x c e rfl
  by_cases hc:c ∈ X.fs
  ·obtain ⟨sl,q⟩:=slot c o (I.cne x c e) hc nch ho (I.freeC x c e)
   exact ⟨_,q,hd⟩
  ·exact ⟨o,keep c o (I.cne x c e) hc nch ho (I.freeC x c e),hd⟩
 refine ⟨I.ok,I.os,hg,⟨fun b o e n hb hx=>?_,fun b o e n hb hx=>?_,fun b o e n hx=>?_,fun b o e hx=>?_,fun b xs e=>tups b xs (I.base.tups b xs e),fun b o xs e=>frzs b o xs (I.base.frzs b o xs e),fun b ps e=>?_⟩,?_,fun x c e=>?_,?_,fun x c e=>?_,fun p hp=>?_,hok,I.len⟩
 ·exact keep b o (neL b o e) hb (neC b o e hx) (I.base.keep b o e n hb hx) (I.base.free b o e n hx)
 ·obtain ⟨sl,e1⟩:=I.base.slot b o e n hb hx
  obtain ⟨sl',e2⟩:=slot b _ (neL b o e) hb (neC b o e hx) e1 (I.base.free b o e n hx)
  exact ⟨sl',e2⟩
 ·obtain ⟨o',e1⟩:=I.base.there b o e hx
  exact free b o' (neC b o e hx) e1 (I.base.free b o e n hx)
 ·obtain ⟨o',e1⟩:=I.base.there b o e hx
  exact there b o' (neC b o e hx) e1
 ·obtain ⟨m1,e1⟩:=I.base.tbls b ps e
  obtain ⟨m2,e2⟩:=tbls b _ e1
  exact ⟨m1++m2,by rw [e2,Array.append_assoc]⟩
 ·obtain ⟨m,hn,hl⟩:=I.loc
  refine ⟨m,ns m hn,fun i x v e1 e2 e3=>?_⟩
  obtain ⟨u,r,l⟩:=hl i x v e1 e2 e3
  refine ⟨u,r,?_⟩
  rcases l with l | ⟨k,c,e,z⟩
  ·exact .inl l
  ·exact .inr ⟨k,c,e,cellK x c e _ z⟩
 ·obtain ⟨v,z⟩:=I.cell x c e
  exact ⟨v,cellK x c e v z⟩
 ·obtain ⟨m,⟨o,_,_,ho,_⟩,_⟩:=I.loc
  exact free _ o (fun z=>(hch _ z).2.1 rfl) ho I.free
 ·obtain ⟨v,o,ho,hd⟩:=I.cell x c e
  exact free c o (fun z=>(hch c z).2.2.1 x c e rfl) ho (I.freeC x c e)
 ·obtain ⟨e,n,ne,nf,d⟩:=I.pin p hp
  have nch:p.1 ∉ ch:=fun z=>(hch p.1 z).2.2.2 p hp rfl
  exact ⟨keep p.1 p.2 ne nf nch e n,free p.1 p.2 nch e n,ne,nf,d⟩
theorem Inv.un {t':Nat} (I:Inv X Kp σ H s) (u:Un X.fs [] H H' s.heap h') (hok:HOk X.prog X.w H' h'):Inv X Kp σ H' { s with heap:=h',toks:=t' }:=by
 obtain ⟨m,⟨o,es,ep,ho,r⟩,_⟩:=id I.loc
 obtain ⟨sl,hL⟩:=u.any ho I.free (by simp)
 exact I.step (g':=s.gens) (d':=s.drawn) (ch:=[]) (fun _ z=>nomatch z) (fun b o _ hb _ e n=>u.keep b o e n hb (by simp)) (fun b o _ hb _ e n=>u.slot b o e n hb (by simp)) (fun b o _ e n=>u.free b o e n (by simp)) (fun b o _ e=>u.there b o e (by simp)) u.tups u.frzs u.tbls (fun m' hm=>by
  obtain ⟨o',es',ep',ho',r'⟩:=hm
  rw [ho] at ho'; cases ho'
  exact ⟨_,es',ep',hL,r'⟩) hok I.bare
theorem Inv.call {g':Array GenState}{t':Nat}{d':Drawn}{ch:List Addr} (I:Inv X Kp σ H s) (u:Un (frs X.stack) ch H H' s.heap h') (hok:HOk X.prog X.w H' h') (hg:AllBare g')
  (hch:∀ b ∈ ch,(b ∈ X.ex ∨ X.s₀.heap.objs.size<=b)/\b ≠ X.env.locals/\(∀ x c,X.env.cells.lookup x=some c->c ≠ b)/\∀ p ∈ X.pn++Kp,p.1 ≠ b):
  Inv X Kp σ H' { s with heap:=h',gens:=g',drawn:=d',toks:=t' }:=by
 obtain ⟨m,⟨o,es,ep,ho,r⟩,_⟩:=id I.loc
 obtain ⟨sl,hL⟩:=u.any ho I.free fun z=>(hch _ z).2.1 rfl
 exact I.step (ch:=ch) hch (fun b o hL hb hc e n=>u.keep b o e n (fun z=>(List.mem_cons.mp (I.stkSub b z)).elim hL hb) hc) (fun b o _ _ hc e n=>u.any e n hc) (fun b o hc e n=>u.free b o e n hc) (fun b o hc e=>u.there b o e hc) u.tups u.frzs u.tbls (fun m' hm=>by
  obtain ⟨o',es',ep',ho',r'⟩:=hm
  rw [ho] at ho'; cases ho'
  exact ⟨_,es',ep',hL,r'⟩) hok hg
theorem Inv.turned {t':Nat}{it:Addr} (I:Inv X Kp σ H s) (k:∀ b o,b ≠ it->s.heap.get? b=some o->h'.get? b=some o) (hn:H it=none) (hL:it ≠ X.env.locals)
  (h1:it ∈ X.ex ∨ X.s₀.heap.objs.size<=it) (h2:∀ x c,X.env.cells.lookup x=some c->c ≠ it) (h3:∀ p ∈ X.pn++Kp,p.1 ≠ it):Inv X Kp σ H { s with heap:=h',toks:=t' }:=by
 have nit:∀ b u,H b=some u->b ≠ it:=fun b u e z=>by rw [z,hn] at e; cases e
 refine I.step (g':=s.gens) (d':=s.drawn) (ch:=[it]) (fun b hb=>?_) (fun b o _ _ hc e _=>k b o (fun z=>hc (by simp [z])) e) (fun b o _ _ hc e _=>⟨o.slots,k b o (fun z=>hc (by simp [z])) e⟩) (fun _ _ _ _ n=>n)
  (fun b o hc e=>⟨o,k b o (fun z=>hc (by simp [z])) e⟩) (fun _ _ e=>e) (fun _ _ _ e=>e) (fun b ps e=>⟨#[],by rw [e]; simp⟩) (fun m hm=>?_) (fun b u e=>?_) I.bare
 ·have e:b=it:=by simpa using hb
  subst e
  exact ⟨h1,hL,h2,h3⟩
 ·obtain ⟨o,es,ep,ho,r⟩:=hm
  exact ⟨o,es,ep,k _ o (Ne.symm hL) ho,r⟩
 ·refine (I.hok b u e).stay (fun c v hc q=>k c v ?_ q) (fun _ q=>q) fun _ _ q=>q
  rcases hc with z | z
  ·rw [z]; exact nit b u e
  ·exact nit c _ z
theorem Inv.tok (I:Inv X Kp σ H s) (t:Nat):Inv X Kp σ H { s with toks:=t }:=I.un (h':=s.heap) (t':=t) Un.refl I.hok
theorem Inv.kept {t':Nat} (I:Inv X Kp σ H s) (k:∀ b u,s.heap.get? b=some u->h'.get? b=some u):Inv X Kp σ H { s with heap:=h',toks:=t' }:=I.un (Un.kept k) (I.hok.kept k)
theorem Inv.laid {a:Addr}{o:HO}{t':Nat} (I:Inv X Kp σ H s) (k:∀ b u,s.heap.get? b=some u->h'.get? b=some u) (hp:s.heap.objs.size<=a) (new:qq X.prog X.w (upd H a o) h' a o):
  Inv X Kp σ (upd H a o) { s with heap:=h',toks:=t' }:=I.un (Un.laid k hp (I.hok.fresh hp)) (I.hok.laid k hp new)
theorem Inv.write {x e:Addr}{o:HO}{t':Nat} (I:Inv X Kp σ H s) (mu:Mut (H x)) (he:e=x ∨ H e=some (.own x)) (k:∀ b u,b ≠ e->s.heap.get? b=some u->h'.get? b=some u) (heo:∃ u,h'.get? e=some u)
  (new:qq X.prog X.w (upd H x o) h' x o):Inv X Kp σ (upd H x o) { s with heap:=h',toks:=t' }:=I.un (Un.write mu he k heo) (I.hok.write mu he k heo new)
theorem Inv.pins_of {pins':List (Addr × Obj)} (I:Inv X Kp σ H s) (h:∀ p ∈ pins',s.heap.get? p.1=some p.2/\H p.1=none/\p.1 ≠ X.env.locals/\p.1 ∉ X.fs/\∀ v,p.2.data ≠ .cell v):Inv X pins' σ H s:=
 ⟨I.ok,I.os,I.bare,I.base,I.loc,I.cell,I.free,I.freeC,fun p hp=>(List.mem_append.mp hp).elim (fun z=>I.pin p (List.mem_append_left _ z)) (h p),I.hok,I.len⟩
theorem acU {N:List Str} (hN:N.Nodup) {i j:Nat}{x:Str} (a:N[i]?=some x) (b:N[j]?=some x):i=j:=by
 obtain ⟨h1,e1⟩:=List.getElem?_eq_some_iff.mp a
 obtain ⟨h2,e2⟩:=List.getElem?_eq_some_iff.mp b
 exact (List.getElem_inj hN).mp (e1.trans e2.symm)
theorem abm {M:Model}{A:Around}{E:Value->SP0}{i:Nat}{x:Str}{v:V}{u:Value}{Q:Unit->SP0} (I:Inv X Kp σ H s) (hN:X.N.Nodup) (hi:X.N[i]?=some x) (hx:Loc X.env.scope x) (r:jQ v u)
  (h:∀ s',Inv X Kp (σ.set i (some v)) H s'->(∃ a,Heap.SameBut a s.heap s'.heap/\(a=X.env.locals ∨ X.env.cells.lookup x=some a))->Q () s') (hf:X.fn x=true ∨ X.env.scope.names.lookup x=some .local:=by first | exact .inl rfl | exact .inr rfl | assumption):wpAny M A (storeName X.env x u) Q E s:=by
 obtain ⟨m,hn,hl⟩:=id I.loc
 have hcls:(X.env.scope.kind == .class || (X.env.scope.kind == .module && X.env.locals != X.env.globals))=false:=by rw [I.ok.kind]; rfl
 have hiσ:i < σ.length:=by rw [I.len]; exact (List.getElem?_eq_some_iff.mp hi).1
 have cne:=I.cne
 have tracked:∀ {a:Addr} {h':Heap},(∃ o,s.heap.get? a=some o/\H a=none)->Heap.SameBut a s.heap h'->HOk X.prog X.w H h':=fun {a h'} ha hs b ob e=>by
  obtain ⟨_,_,hfree⟩:=ha
  refine (I.hok b ob e).stay (fun c w' hc q=>(hs.2 c ?_).trans q) (fun _ q=>q) fun _ _ q=>q
  rintro rfl
  rcases hc with rfl | hc
  ·rw [hfree] at e; cases e
  ·rw [hfree] at hc; cases hc
 rcases hx with hk | hk
 ·refine wpAny_storeName_local hk hn (fun h' hn' hs=>?_) hcls
  obtain ⟨oL,_,_,hoL,_⟩:=id hn
  refine h _ ⟨I.ok,I.os,I.bare,⟨fun b o e n hb hx=>?_,fun b o e n hb hx=>?_,I.base.free,fun b o e hx=>?_,I.base.tups,I.base.frzs,I.base.tbls⟩,⟨_,hn',fun j y v' e1 e2 e3=>?_⟩,fun y c e=>?_,I.free,I.freeC,fun p hp=>?_,tracked ⟨oL,hoL,I.free⟩ hs,by simpa using I.len⟩ ⟨_,hs,.inl rfl⟩
  ·exact (hs.2 b (Nat.ne_of_lt (Nat.lt_of_lt_of_le (Heap.lt_size e) I.ok.above))).trans (I.base.keep b o e n hb hx)
  ·obtain ⟨sl,e1⟩:=I.base.slot b o e n hb hx
   exact ⟨sl,(hs.2 b (Nat.ne_of_lt (Nat.lt_of_lt_of_le (Heap.lt_size e) I.ok.above))).trans e1⟩
  ·obtain ⟨o',e1⟩:=I.base.there b o e hx
   exact ⟨o',(hs.2 b (Nat.ne_of_lt (Nat.lt_of_lt_of_le (Heap.lt_size e) I.ok.above))).trans e1⟩
  ·by_cases hj:j=i
   ·subst hj
    rw [hi] at e1; cases e1
    rw [List.getElem?_set_self hiσ] at e2
    cases e2
    exact ⟨u,r,.inl ⟨hk,by simp⟩⟩
   ·rw [List.getElem?_set_ne (Ne.symm hj)] at e2
    obtain ⟨u',r',q⟩:=hl j y v' e1 e2 e3
    refine ⟨u',r',?_⟩
    rcases q with ⟨k,e⟩ | ⟨k,c,e,z⟩
    ·refine .inl ⟨k,?_⟩
     have:y ≠ x:=fun e=>hj (acU hN e1 (e ▸ hi))
     simp [this,e]
    ·exact .inr ⟨k,c,e,z.sameBut hs (cne y c e)⟩
  ·obtain ⟨w',z⟩:=I.cell y c e
   exact ⟨w',z.sameBut hs (cne y c e)⟩
  ·obtain ⟨e,n,ne,nf,d⟩:=I.pin p hp
   exact ⟨(hs.2 p.1 ne).trans e,n,ne,nf,d⟩
 ·have hfn:X.fn x=true:=by
   rcases hf with z | z
   ·exact z
   ·rw [z] at hk; cases hk
  obtain ⟨c,hc⟩:=I.ok.has x (.inl hk)
  obtain ⟨w',z⟩:=I.cell x c hc
  refine wpAny_storeName_cell I.ok.kind hk hc z (fun h' hc' hs=>?_)
  obtain ⟨oc,hoc,hocd⟩:=id z
  refine h { s with heap:=h' } ⟨I.ok,I.os,I.bare,⟨fun b o e n hb hx=>?_,fun b o e n hb hx=>?_,I.base.free,fun b o e hx=>?_,I.base.tups,I.base.frzs,I.base.tbls⟩,⟨m,hn.sameBut hs (Ne.symm (cne x c hc)),fun j y v' e1 e2 e3=>?_⟩,fun y c' e=>?_,I.free,I.freeC,fun p hp=>?_,tracked ⟨oc,hoc,I.freeC x c hc⟩ hs,by simpa using I.len⟩ ⟨c,hs,.inr hc⟩
  ·exact (hs.2 b (Nat.ne_of_lt (Nat.lt_of_lt_of_le (Heap.lt_size e) (I.ok.cab x c hfn hc)))).trans (I.base.keep b o e n hb hx)
  ·obtain ⟨sl,e1⟩:=I.base.slot b o e n hb hx
   exact ⟨sl,(hs.2 b (Nat.ne_of_lt (Nat.lt_of_lt_of_le (Heap.lt_size e) (I.ok.cab x c hfn hc)))).trans e1⟩
  ·obtain ⟨o',e1⟩:=I.base.there b o e hx
   exact ⟨o',(hs.2 b (Nat.ne_of_lt (Nat.lt_of_lt_of_le (Heap.lt_size e) (I.ok.cab x c hfn hc)))).trans e1⟩
  ·by_cases hj:j=i
   ·subst hj
    rw [hi] at e1; cases e1
    rw [List.getElem?_set_self hiσ] at e2
    cases e2
    exact ⟨u,r,.inr ⟨.inl hk,c,hc,hc'⟩⟩
   ·rw [List.getElem?_set_ne (Ne.symm hj)] at e2
    obtain ⟨u',r',q⟩:=hl j y v' e1 e2 e3
    refine ⟨u',r',?_⟩
    rcases q with q | ⟨k,c',e,z'⟩
    ·exact .inl q
    ·refine .inr ⟨k,c',e,z'.sameBut hs ?_⟩
     rintro rfl
     exact hj (acU hN e1 (I.ok.inj _ _ _ e hc ▸ hi))
  ·by_cases hcc:c'=c
   ·subst hcc; exact ⟨_,hc'⟩
   ·obtain ⟨w2,z2⟩:=I.cell y c' e
    exact ⟨w2,z2.sameBut hs hcc⟩
  ·obtain ⟨e,n,ne,nf,d⟩:=I.pin p hp
   refine ⟨(hs.2 p.1 ?_).trans e,n,ne,nf,d⟩
   intro q
   rw [q,hoc] at e
   have q':oc=p.2:=Option.some.inj e
   exact d w' (by rw [←q']; exact hocd)
theorem acV {M:Model}{A:Around}{E:Value->SP0}{i:Nat}{x:Str}{v:V}{u:Value}{Q:Unit->SP0} (I:Inv X Kp σ H s) (hN:X.N.Nodup) (hi:X.N[i]?=some x) (hx:Loc X.env.scope x) (r:jQ v u)
  (h:∀ s',Inv X Kp (σ.set i (some v)) H s'->Q () s') (hf:X.fn x=true ∨ X.env.scope.names.lookup x=some .local:=by first | exact .inl rfl | exact .inr rfl | assumption):wpAny M A (storeName X.env x u) Q E s:=
 abm I hN hi hx r (fun s' I' _=>h s' I') hf
theorem Inv.call' {s':Shared}{ch:List Addr} (I:Inv X Kp σ H s) (ho:s'.os=s.os) (u:Un (frs X.stack) ch H H' s.heap s'.heap) (hok:HOk X.prog X.w H' s'.heap) (hg:AllBare s'.gens)
  (hch:∀ b ∈ ch,(b ∈ X.ex ∨ X.s₀.heap.objs.size<=b)/\b ≠ X.env.locals/\(∀ x c,X.env.cells.lookup x=some c->c ≠ b)/\∀ p ∈ X.pn++Kp,p.1 ≠ b):Inv X Kp σ H' s':=by
 obtain ⟨h',g',d',t',o'⟩:=s'
 have e:o'=s.os:=ho
 subst e
 exact I.call (g':=g') (t':=t') (d':=d') u hok hg hch
end
noncomputable abbrev XK:=Value->Option Addr->Hp->Prop
noncomputable abbrev St:=List (Option V)
noncomputable abbrev VK:=V->Hp->Prop
noncomputable abbrev TE:=St->Hp->VK->Prop
noncomputable abbrev TT:=St->Hp->(Bool->Hp->Prop)->Prop
noncomputable abbrev TA:=St->Hp->(List V->Hp->Prop)->Prop
structure Ends where
 nx:St->Hp->Prop
 rt:VK
 bk:St->Hp->Prop:=fun _ _=>False
 ct:St->Hp->Prop:=fun _ _=>False
noncomputable abbrev TS:=Ends->St->Hp->Prop
noncomputable def EP (X:Cx) (Kp:List (Addr × Obj)) (σ:St) (Q:VK) (u:Value) (s':Shared):Prop:=∃ v H',Inv X Kp σ H' s'/\jQ v u/\Q v H'
noncomputable def TP (X:Cx) (Kp:List (Addr × Obj)) (σ:St) (Q:Bool->Hp->Prop) (b:Bool) (s':Shared):Prop:=∃ H',Inv X Kp σ H' s'/\Q b H'
noncomputable def AP (X:Cx) (Kp:List (Addr × Obj)) (σ:St) (Q:List V->Hp->Prop) (us:List Value) (s':Shared):Prop:=∃ vs H',Inv X Kp σ H' s'/\jG vs us/\Q vs H'
noncomputable def SP (X:Cx) (Kp:List (Addr × Obj)) (D:Ends) (f:Flow) (s':Shared):Prop:=
 match f with
 | .next=>∃ σ' H',Inv X Kp σ' H' s'/\D.nx σ' H'
 | .brk=>∃ σ' H',Inv X Kp σ' H' s'/\D.bk σ' H'
 | .cont=>∃ σ' H',Inv X Kp σ' H' s'/\D.ct σ' H'
 | .ret u=>∃ v σ' H',Inv X Kp σ' H' s'/\jQ v u/\D.rt v H'
noncomputable def PE (X:Cx) (e:Expr) (t:TE):Prop:=
 ∀ (Kp:List (Addr × Obj)) (s:Shared) (σ:St) (H:Hp) (Q:VK),Inv X Kp σ H s->t σ H Q->wpAny (model X.prog X.w) X.A (eval e X.env) (EP X Kp σ Q) X.xe s
noncomputable def PT (X:Cx) (e:Expr) (t:TT):Prop:=
 ∀ (Kp:List (Addr × Obj)) (s:Shared) (σ:St) (H:Hp) (Q:Bool->Hp->Prop),Inv X Kp σ H s->t σ H Q->wpAny (model X.prog X.w) X.A (isTrue e X.env (eval e X.env)) (TP X Kp σ Q) X.xe s
noncomputable def PW (X:Cx) (e:Expr) (t:TT):Prop:=
 ∀ (whole:Sem Value) (Kp:List (Addr × Obj)) (s:Shared) (σ:St) (H:Hp) (Q:Bool->Hp->Prop),Inv X Kp σ H s->t σ H Q->wpAny (model X.prog X.w) X.A (isTrue e X.env whole) (TP X Kp σ Q) X.xe s
theorem PW.pt {X:Cx}{e:Expr}{t:TT} (h:PW X e t):PT X e t:=h _
noncomputable def PA (X:Cx) (es:List Expr) (t:TA):Prop:=
 ∀ (pos:Pos) (Kp:List (Addr × Obj)) (s:Shared) (σ:St) (H:Hp) (Q:List V->Hp->Prop),Inv X Kp σ H s->t σ H Q->wpAny (model X.prog X.w) X.A (spliced (backTo pos (starEach es X.env))) (AP X Kp σ Q) X.xe s
noncomputable def PS (X:Cx) (st:Stmt) (t:TS):Prop:=
 ∀ (Kp:List (Addr × Obj)) (s:Shared) (σ:St) (H:Hp) (D:Ends),Inv X Kp σ H s->t D σ H->wpAny (model X.prog X.w) X.A (exec st X.env) (SP X Kp D) X.xe s
noncomputable def PSs (X:Cx) (st:List Stmt) (t:TS):Prop:=
 ∀ (Kp:List (Addr × Obj)) (s:Shared) (σ:St) (H:Hp) (D:Ends),Inv X Kp σ H s->t D σ H->wpAny (model X.prog X.w) X.A (execs st X.env) (SP X Kp D) X.xe s
theorem thn {α:Type}{t:Sem α}{Q Q':α->SP0}{M:Model}{A:Around}{E:Value->SP0}{s:Shared} (h:wpAny M A t Q E s) (hQ:∀ a s,Q a s->Q' a s):wpAny M A t Q' E s:=wpAny_mono h hQ fun _ _ x=>x
section
variable {X:Cx}
noncomputable def alT (i:Nat):TE:=fun σ H Q=>∃ v,σ[i]?=some (some v)/\Q v H
noncomputable def tC (v:V):TE:=fun _ H Q=>Q v H
theorem ab5 {i:Nat}{x:Str}{pos:Pos} (hN:X.N[i]?=some x) (hv:Vis X.env.scope x) (hd:(x == ("__debug__":Str))=false:=by decide) (hcd:(x == ("__classdict__":Str))=false:=by decide):PE X (.Name x pos) (alT i):=by
 intro Kp s σ H Q I h
 obtain ⟨v,e,h⟩:=h
 obtain ⟨m,hn,hl⟩:=I.loc
 obtain ⟨u,r,l⟩:=hl i x v hN e hv
 have fin:EP X Kp σ Q u s:=⟨v,H,I,r,h⟩
 rcases l with ⟨hk,hm⟩ | ⟨hk,c,hc,hcell⟩
 ·exact wpAny_Name (wpAny_loadName_local I.ok.kind hk hn hm fin) hd
 ·rcases hk with hk | hk
  ·exact wpAny_Name (wpAny_loadName_cell I.ok.kind hk hc hcell fin) hd
  ·exact wpAny_Name (wpAny_loadName_free I.ok.kind hk hc hcell fin hcd) hd
theorem akr {i j pos}:PE X (.Constant (.int i) j pos) (tC (.int i)):=fun _ _ _ H _ I h=>wpAny_Constant_int ⟨.int i,H,I.tok _,⟨_,rfl⟩,h⟩
theorem alU {b j pos}:PE X (.Constant (.bool b) j pos) (tC (.bl b)):=fun _ _ _ H _ I h=>Constant_bool ⟨.bl b,H,I,rfl,h⟩
theorem aks {j pos}:PE X (.Constant .none j pos) (tC .non):=fun _ _ _ H _ I h=>Constant_none ⟨.non,H,I,rfl,h⟩
theorem agI {x j pos}:PE X (.Constant (.str x) j pos) (tC (.str x)):=fun _ _ _ H _ I h=>Calls.Constant_str ⟨.str x,H,I.tok _,⟨_,rfl⟩,h⟩
noncomputable def Gl (X:Cx) (x:Str):Prop:=X.env.kindOf x=some .globalImplicit
theorem ab6 {E:Value->SP0}{Kp:List (Addr × Obj)}{s:Shared}{σ:St}{H:Hp}{x:Str}{u:Value}{pos:Pos}{Q:Value->SP0} (I:Inv X Kp σ H s) (hg:Gl X x) (hm:X.mg x=some u) (h:Q u s)
  (hd:(x == ("__debug__":Str))=false:=by decide):wpAny (model X.prog X.w) X.A (eval (.Name x pos) X.env) Q E s:=
 Calls.Name_function_global I.ok.kind hg (Calls.loadGlobal_global (by rw [I.ok.glob]; exact I.mod.glob.keeps I.bk) hm h) hd
theorem QF {E:Value->SP0}{Kp:List (Addr × Obj)}{s:Shared}{σ:St}{H:Hp}{x:Str}{u:Value}{pos:Pos}{Q:Value->SP0} (I:Inv X Kp σ H s) (hg:Gl X x) (hm:X.mg x=none) (hv:bootBuiltins x=some u) (h:Q u s)
  (hn:x ≠ "__name__":=by decide) (hd:(x == ("__debug__":Str))=false:=by decide):wpAny (model X.prog X.w) X.A (eval (.Name x pos) X.env) Q E s:=by
 obtain ⟨mb,h1,h2⟩:=I.mod.blt
 exact Calls.Name_function_global I.ok.kind hg (Calls.loadGlobal_builtin (by rw [I.ok.glob]; exact I.mod.glob.keeps I.bk) hm (by rw [I.ok.blt]; exact h1.keeps I.bk) ((h2 x hn).trans hv) h) hd
theorem aeM {x:Str}{v:V}{u:Value}{pos:Pos} (hg:Gl X x) (hm:X.mg x=some u) (r:jQ v u) (hd:(x == ("__debug__":Str))=false:=by decide):PE X (.Name x pos) (tC v):=
 fun _ _ _ H _ I h=>ab6 I hg hm ⟨v,H,I,r,h⟩ hd
theorem aeN {x:Str}{v:V}{u:Value}{pos:Pos} (hg:Gl X x) (hm:X.mg x=none) (hv:bootBuiltins x=some u) (r:jQ v u) (hn:x ≠ "__name__":=by decide) (hd:(x == ("__debug__":Str))=false:=by decide):PE X (.Name x pos) (tC v):=
 fun _ _ _ H _ I h=>QF I hg hm hv ⟨v,H,I,r,h⟩ hn hd
variable {a b:Expr}{ta tb:TE}{pos:Pos}
noncomputable def PC (X:Cx) (op:CmpOp) (a b:Expr) (t:TE):Prop:=
 ∀ (Kp:List (Addr × Obj)) (s:Shared) (σ:St) (H:Hp) (Q:VK),Inv X Kp σ H s->t σ H Q->
  wpAny (model X.prog X.w) X.A (eval a X.env) (fun v s₁=>wpAny (model X.prog X.w) X.A (eval b X.env) (fun u s₂=>wpAny (model X.prog X.w) X.A (compareOp op v u) (EP X Kp σ Q) X.xe s₂) X.xe s₁) X.xe s
theorem agJ (b:Expr) {op:CmpOp} (h:op ≠ .In) (h2:op ≠ .NotIn):behindInMarks op b=false:=by
 have e1:(op == CmpOp.In)=false:=by cases op <;> first | rfl | exact absurd rfl h
 have e2:(op == CmpOp.NotIn)=false:=by cases op <;> first | rfl | exact absurd rfl h2
 cases b <;> simp [behindInMarks,e1,e2]
noncomputable def tB (t:TE):TT:=fun σ H Q=>t σ H fun x H1=>∃ c,x= .bl c/\Q c H1
theorem akt {op:CmpOp}{t:TE} (h:PC X op a b t) (h1:behindInMarks op b=false:=by first | exact agJ _ (by decide) (by decide) | rfl):PE X (.Compare a [op] [b] pos) t:=fun Kp s σ H Q I hw=>wpAny_Compare1 (h Kp s σ H Q I hw) h1
theorem aku {e:Expr}{t:TE} (h:PE X e t) (he:∀ whole,isTrue e X.env whole=(do let v ←whole; standAt e.pos; holding [v] (truthy v)):=by intro _; rfl):PT X e (tB t):=by
 intro Kp s σ H Q I hw
 refine isTrue_plain (thn (h Kp s σ H _ I hw) fun v s1 ⟨x,H1,I1,r1,q1⟩=>?_) (he _)
 obtain ⟨d,rfl,q⟩:=q1
 cases r1
 exact wpAny_truthy_bool ⟨H1,I1,q⟩
variable {tA tB':TT}{qg:List Expr}
noncomputable def tOr (t u:TT):TT:=fun σ H Q=>t σ H fun c H1=>if c=true then Q true H1 else u σ H1 Q
noncomputable def amS (t:TT):TT:=fun σ H Q=>t σ H fun c H1=>Q (!c) H1
theorem akv (ha:PT X a tA):PW X (.BoolOp .Or [a] pos) tA:=by
 intro wh Kp s σ H Q I h
 refine isTrue_or (thn (ha Kp s σ H Q I h) fun c s1 e=>?_)
 cases c with
 | false=>exact isTrue_or_nil e
 | true=>exact e
theorem alV (ha:PT X a tA) (hb:PW X (.BoolOp .Or (b::qg) pos) tB'):PW X (.BoolOp .Or (a::b::qg) pos) (tOr tA tB'):=by
 intro wh Kp s σ H Q I h
 refine isTrue_or (thn (ha Kp s σ H _ I h) fun c s1 ⟨H1,I1,q1⟩=>?_)
 cases c with
 | true=>exact ⟨H1,I1,q1⟩
 | false=>exact hb wh Kp s1 σ H1 Q I1 q1
theorem akw (ha:PT X a tA):PT X (.UnaryOp .Not a pos) (amS tA):=by
 intro Kp s σ H Q I h
 exact isTrue_not (ha Kp s σ H (fun c H1=>Q (!c) H1) I h)
noncomputable def alW (ta tb:TE):TE:=fun σ H Q=>ta σ H fun x H1=>∃ c,x= .bl c/\if c=true then tb σ H1 Q else Q (.bl false) H1
theorem akx {op}{t:TE} (h:PE X a t):PE X (.BoolOp op [a] pos) t:=fun Kp s σ H Q I hw=>BoolOp_one (h Kp s σ H Q I hw)
theorem aky (ha:PE X a ta) (hb:PE X (.BoolOp .And (b::qg) pos) tb):PE X (.BoolOp .And (a::b::qg) pos) (alW ta tb):=by
 intro Kp s σ H Q I h
 refine BoolOp_and (thn (ha Kp s σ H _ I h) fun v s1 ⟨x,H1,I1,r1,q1⟩=>?_)
 obtain ⟨c,rfl,q1⟩:=q1
 cases r1
 refine wpAny_truthy_bool ?_
 cases c with
 | true=>exact hb Kp s1 σ H1 Q I1 q1
 | false=>exact ⟨.bl false,H1,I1,rfl,q1⟩
end
noncomputable def SqL (K:Fg) (H:Hp) (a:Addr) (xs:List V):Prop:=
 Rd H a (.lst xs) ∨
  ∃ (o:Obj) (its:Array Value) (n:Nat),K.lookup a=some o/\o.cls= .type "list"/\o.dict=none/\o.data= .seq its n/\its.size<=sizeLine/\jG xs its.toList
noncomputable def SqT (K:Fg) (H:Hp) (a:Addr) (xs:List V):Prop:=
 Rd H a (.tup xs) ∨
  ∃ (o:Obj) (its:Array Value) (n:Nat),K.lookup a=some o/\o.cls= .type "tuple"/\o.data= .seq its n/\its.size<=sizeLine/\jG xs its.toList
noncomputable def amT:Value->Option V
 | .none=>some .non
 | .bool b=>some (.bl b)
 | .int i _=>some (.int i)
 | .str x _=>some (.str x)
 | .bytes b _=>some (.byt b)
 | .float b _=>some (.flt b)
 | .ref a=>some (.ref a)
 | .type n=>some (.ty n)
 | _=>none
theorem jQ.abs {x:V}{u:Value} (r:jQ x u):amT u=some x:=by
 cases x with
 | non=>cases r; rfl
 | bl _=>cases r; rfl
 | int _=>obtain ⟨t,rfl⟩:=r; rfl
 | str _=>obtain ⟨t,rfl⟩:=r; rfl
 | byt _=>obtain ⟨t,rfl⟩:=r; rfl
 | flt _=>obtain ⟨t,rfl⟩:=r; rfl
 | ref _=>cases r; rfl
 | ty _=>cases r; rfl
theorem jQ.inj {x y:V}{u:Value} (r:jQ x u) (q:jQ y u):x=y:=Option.some.inj (r.abs.symm.trans q.abs)
theorem jG.inj:∀ {xs ys:List V}{us:List Value},jG xs us->jG ys us->xs=ys
 | _,_,_,.nil,.nil=>rfl
 | _,_,_,.cons r t,.cons r' t'=>by rw [r.inj r',jG.inj t t']
section
variable {X:Cx}{Kp:List (Addr × Obj)}{σ:St}{H:Hp}{s:Shared}{a:Addr}{xs ys:List V}
theorem SqL.of {K:Fg} (h:H a=some (.lst xs)):SqL K H a xs:= .inl (.inl h)
theorem SqT.of {K:Fg} (h:H a=some (.tup xs)):SqT K H a xs:= .inl (.inl h)
theorem Inv.list (I:Inv X Kp σ H s) (h:SqL X.K H a xs):∃ its:List Value,jG xs its/\PlainL s.heap a its.toArray/\xs.length<=sizeLine:=by
 rcases h with h | ⟨o,its,n,hk,hc,hd,hs,hz,r⟩
 ·obtain ⟨z,its,n,r,e⟩:=h.ok I.hok
  exact ⟨its,r,⟨_,n,e,rfl,rfl,rfl⟩,z⟩
 ·refine ⟨its.toList,r,⟨o,n,I.kIn a o hk,hc,hd,by simpa using hs⟩,?_⟩
  have e:=r.length
  simp only [Array.length_toList] at e
  omega
theorem Inv.tuple (I:Inv X Kp σ H s) (h:SqT X.K H a xs):∃ its:List Value,jG xs its/\IsTup s.heap a its.toArray/\xs.length<=sizeLine:=by
 rcases h with h | ⟨o,its,n,hk,hc,hs,hz,r⟩
 ·obtain ⟨z,its,r,p⟩:=h.ok I.hok
  exact ⟨its,r,p,z⟩
 ·refine ⟨its.toList,r,⟨o,I.kIn a o hk,hc,n,by simpa using hs⟩,?_⟩
  have e:=r.length
  simp only [Array.length_toList] at e
  omega
theorem Inv.list_inj (I:Inv X Kp σ H s) (h:SqL X.K H a xs) (h':SqL X.K H a ys):xs=ys:=by
 obtain ⟨its,r,⟨o,n,e,_,_,d⟩,_⟩:=I.list h
 obtain ⟨its',r',⟨o',n',e',_,_,d'⟩,_⟩:=I.list h'
 rw [e] at e'; cases e'
 rw [d] at d'
 injection d' with d1 _
 have:its=its':=by simpa using congrArg Array.toList d1
 subst this
 exact r.inj r'
theorem Inv.tuple_inj (I:Inv X Kp σ H s) (h:SqT X.K H a xs) (h':SqT X.K H a ys):xs=ys:=by
 obtain ⟨its,r,⟨o,e,_,n,d⟩,_⟩:=I.tuple h
 obtain ⟨its',r',⟨o',e',_,n',d'⟩,_⟩:=I.tuple h'
 rw [e] at e'; cases e'
 rw [d] at d'
 injection d' with d1 _
 have:its=its':=by simpa using congrArg Array.toList d1
 subst this
 exact r.inj r'
end
noncomputable abbrev Cx.wish (X:Cx) (E:Value->SP0):Cx:={ X with xe:=E }
noncomputable abbrev Cx.nox (X:Cx):Cx:=X.wish fun _ _=>False
theorem Cx.Ok.wish {X:Cx} (ok:X.Ok) (E:Value->SP0):(X.wish E).Ok:=
 ⟨ok.mod,ok.kind,ok.glob,ok.blt,ok.above,ok.inj,ok.has,ok.cab,ok.hd,ok.frames,ok.stk,ok.exf,ok.bs,ok.bsz,ok.noex,ok.exfs,ok.funs,ok.frf⟩
theorem Cx.Ok.unwish {X:Cx}{E:Value->SP0} (ok:(X.wish E).Ok):X.Ok:=
 ⟨ok.mod,ok.kind,ok.glob,ok.blt,ok.above,ok.inj,ok.has,ok.cab,ok.hd,ok.frames,ok.stk,ok.exf,ok.bs,ok.bsz,ok.noex,ok.exfs,ok.funs,ok.frf⟩
section
variable {X:Cx}{Kp:List (Addr × Obj)}{σ:St}{H:Hp}{s:Shared}{E:Value->SP0}
theorem Inv.wish (I:Inv X Kp σ H s) (E:Value->SP0):Inv (X.wish E) Kp σ H s:=⟨I.ok.wish E,I.os,I.bare,I.base,I.loc,I.cell,I.free,I.freeC,I.pin,I.hok,I.len⟩
theorem Inv.unwish (I:Inv (X.wish E) Kp σ H s):Inv X Kp σ H s:=⟨I.ok.unwish,I.os,I.bare,I.base,I.loc,I.cell,I.free,I.freeC,I.pin,I.hok,I.len⟩
theorem SP.unwish {D:Ends}{f:Flow}{s':Shared} (h:SP (X.wish E) Kp D f s'):SP X Kp D f s':=by
 cases f with
 | next=>obtain ⟨σ',H',I,q⟩:=h; exact ⟨σ',H',I.unwish,q⟩
 | brk=>obtain ⟨σ',H',I,q⟩:=h; exact ⟨σ',H',I.unwish,q⟩
 | cont=>obtain ⟨σ',H',I,q⟩:=h; exact ⟨σ',H',I.unwish,q⟩
 | ret u=>obtain ⟨v,σ',H',I,r,q⟩:=h; exact ⟨v,σ',H',I.unwish,r,q⟩
theorem PE.nox {e:Expr}{t:TE} (h:PE X.nox e t):PE X e t:=fun Kp s σ H Q I hw=>
 wpAny_mono (h Kp s σ H Q (I.wish _) hw) (fun _ _ ⟨v,H',I',r,q⟩=>⟨v,H',I'.unwish,r,q⟩) fun _ _ z=>False.elim z
theorem PT.nox {e:Expr}{t:TT} (h:PT X.nox e t):PT X e t:=fun Kp s σ H Q I hw=>
 wpAny_mono (h Kp s σ H Q (I.wish _) hw) (fun _ _ ⟨H',I',q⟩=>⟨H',I'.unwish,q⟩) fun _ _ z=>False.elim z
theorem PSs.nox {st:List Stmt}{t:TS} (h:PSs X.nox st t):PSs X st t:=fun Kp s σ H D I hw=>
 wpAny_mono (h Kp s σ H D (I.wish _) hw) (fun _ _ q=>q.unwish) fun _ _ z=>False.elim z
end
section
variable {X:Cx}{st:Stmt}{qg:List Stmt}{t u:TS}{e:Expr}{te:TE}{pos:Pos}
noncomputable def alX:TS:=fun D σ H=>D.nx σ H
noncomputable def amU (t u:TS):TS:=fun D σ H=>t { D with nx:=u D } σ H
theorem aeO:PSs X [] alX:=fun _ _ σ H _ I h=>wpAny_execs_nil ⟨σ,H,I,h⟩
theorem J2 (h1:PS X st t) (h2:PSs X qg u):PSs X (st::qg) (amU t u):=by
 intro Kp s σ H D I h
 refine wpAny_execs_cons (thn (h1 Kp s σ H { D with nx:=u D } I h) fun f s1 q=>?_)
 cases f with
 | next=>
  obtain ⟨σ',H',I',q⟩:=q
  exact h2 Kp s1 σ' H' D I' q
 | ret v=>exact q
 | brk=>exact q
 | cont=>exact q
theorem ab7 (h1:PS X st t):PSs X [st] t:=by
 intro Kp s σ H D I h
 refine wpAny_execs_cons (thn (h1 Kp s σ H D I h) fun f s1 q=>?_)
 cases f with
 | next=>exact wpAny_execs_nil q
 | ret v=>exact q
 | brk=>exact q
 | cont=>exact q
theorem Inv.quiet {Kp:List (Addr × Obj)}{σ:St}{H:Hp}{s:Shared} (I:Inv X Kp σ H s):interactive X.env=false:=by simp [interactive,I.ok.kind]
noncomputable def alY (te:TE):TS:=fun D σ H=>te σ H fun _ H1=>D.nx σ H1
theorem ab8 (he:PE X e te) (hs:swapsWith e none pos.line X.env=pure false:=by rfl):PS X (.Expr e pos) (alY te):=by
 intro Kp s σ H D I h
 exact wpAny_Expr_any (thn (he Kp s σ H _ I h) fun v s1 ⟨x,H1,I1,r1,q1⟩=>⟨σ,H1,I1,q1⟩) I.quiet hs
noncomputable def amV (te:TE):TS:=fun D σ H=>te σ H D.rt
theorem adX (he:PE X e te):PS X (.Return (some e) pos) (amV te):=by
 intro Kp s σ H D I h
 exact wpAny_Return_some (thn (he Kp s σ H _ I h) fun v s1 ⟨x,H1,I1,r1,q1⟩=>⟨x,σ,H1,I1,r1,q1⟩)
noncomputable def amW (c:TT) (t u:TS):TS:=fun D σ H=>c σ H fun b H1=>if b=true then t D σ H1 else u D σ H1
theorem alZ {c:Expr}{a b:List Stmt}{tc:TT} (hc:PT X c tc) (ha:PSs X a t) (hb:PSs X b u):PS X (.If c a b pos) (amW tc t u):=by
 intro Kp s σ H D I h
 refine wpAny_If (thn (hc Kp s σ H _ I h) fun d s1 ⟨H1,I1,q1⟩=>?_)
 cases d with
 | true=>exact ha Kp s1 σ H1 D I1 q1
 | false=>exact hb Kp s1 σ H1 D I1 q1
noncomputable def agK:TS:=fun _ _ _=>False
theorem agL:PS X st agK:=fun _ _ _ _ _ _ h=>h.elim
theorem afA {sts:List Stmt}:PSs X sts agK:=fun _ _ _ _ _ _ h=>h.elim
end
noncomputable abbrev TG:=V->St->Hp->(St->Hp->Prop)->Prop
noncomputable abbrev TGs:=List V->St->Hp->(St->Hp->Prop)->Prop
noncomputable def PG (X:Cx) (target:Expr) (t:TG):Prop:=
 ∀ (Kp:List (Addr × Obj)) (s:Shared) (σ:St) (H:Hp) (v:V) (u:Value) (Q:St->Hp->Prop),Inv X Kp σ H s->jQ v u->t v σ H Q->
  wpAny (model X.prog X.w) X.A (assign target X.env u) (fun _ s'=>∃ σ' H',Inv X Kp σ' H' s'/\Q σ' H') X.xe s
noncomputable def PGs (X:Cx) (ts:List Expr) (t:TGs):Prop:=
 ∀ (Kp:List (Addr × Obj)) (s:Shared) (σ:St) (H:Hp) (vs:List V) (us:List Value) (Q:St->Hp->Prop),Inv X Kp σ H s->jG vs us->t vs σ H Q->
  wpAny (model X.prog X.w) X.A (assignInOrder ((assignEach ts X.env).map (·.2)) us) (fun _ s'=>∃ σ' H',Inv X Kp σ' H' s'/\Q σ' H') X.xe s
noncomputable abbrev akz:=V->V->V->Hp->(Hp->Prop)->Prop
noncomputable def al0 (X:Cx) (t:akz):Prop:=
 ∀ (Kp:List (Addr × Obj)) (s:Shared) (σ:St) (H:Hp) (o i v:V) (ov iv u:Value) (Q:Hp->Prop),Inv X Kp σ H s->jQ o ov->jQ i iv->jQ v u->t o i v H Q->
  wpAny (model X.prog X.w) X.A (setItem ov iv u) (fun _ s'=>∃ H',Inv X Kp σ H' s'/\Q H') X.xe s
section
variable {X:Cx}{pos:Pos}
noncomputable def agM (i:Nat):TG:=fun v σ H Q=>Q (σ.set i (some v)) H
theorem Z3 {i:Nat}{x:Str} (hN:X.N.Nodup) (hi:X.N[i]?=some x) (hx:Loc X.env.scope x) (hf:X.fn x=true ∨ X.env.scope.names.lookup x=some .local:=by first | exact .inl rfl | exact .inr rfl | assumption):PG X (.Name x pos) (agM i):=by
 intro Kp s σ H v u Q I r h
 exact wpAny_assign_Name (acV I hN hi hx r (fun s' I'=>⟨_,H,I',h⟩) hf)
noncomputable def amX:TGs:=fun vs σ H Q=>vs=[]/\Q σ H
noncomputable def al1 (t:TG) (u:TGs):TGs:=fun vs σ H Q=>∃ v r,vs=v::r/\t v σ H fun σ' H'=>u r σ' H' Q
theorem aiJ:PGs X [] amX:=by
 intro Kp s σ H vs us Q I r h
 obtain ⟨e,h⟩:=h
 subst e
 cases r
 exact assignInOrder_nil ⟨σ,H,I,h⟩
theorem agN {e:Expr}{es:List Expr}{t:TG}{u:TGs} (h1:PG X e t) (h2:PGs X es u)
  (hs:(assignEach (e::es) X.env).map (·.2)=assign e X.env::(assignEach es X.env).map (·.2):=by rfl):PGs X (e::es) (al1 t u):=by
 intro Kp s σ H vs us Q I r h
 obtain ⟨v,vr,e1,h⟩:=h
 subst e1
 cases r with
 | cons r rr=>
  rw [hs]
  refine assignInOrder_cons (thn (h1 Kp s σ H _ _ _ I r h) fun _ s1 ⟨σ1,H1,I1,q1⟩=>?_)
  exact h2 Kp s1 σ1 H1 _ _ Q I1 rr q1
noncomputable def amY (K:Fg) (n:Nat) (t:TGs):TG:=fun v σ H Q=>∃ a xs,v= .ref a/\SqT K H a xs/\xs.length=n/\t xs σ H Q
theorem akA {es:List Expr}{k:Nat}{t:TGs}{n:Nat} (hc:X.calm=true) (h:PGs X es t)
  (hn:(assignEach es X.env).length=n:=by rfl) (hst:(assignEach es X.env).findIdx? (·.1)=none:=by rfl):PG X (.Tuple es k pos) (amY X.K n t):=by
 intro Kp s σ H v u Q I r hw
 obtain ⟨a,xs,e1,hq,hl,hw⟩:=hw
 subst e1
 cases r
 obtain ⟨its,rv,ht,hz⟩:=I.tuple hq
 refine assign_Tuple_tuple (I.ok.hd hc) ht (by simp [hn,←hl,rv.length]) hst fun h' hx=>?_
 have I1:Inv X Kp σ H { s with heap:=h' }:=I.kept (t':=s.toks) fun b o e=>hx b o (Nat.ne_of_lt (Heap.lt_size e)) e
 exact h Kp _ σ H xs _ Q I1 (by simpa using rv) hw
noncomputable def amZ (to ti:TE) (t:akz):TG:=fun v σ H Q=>to σ H fun o H1=>ti σ H1 fun i H2=>t o i v H2 fun H3=>Q σ H3
theorem akB {o i:Expr}{to ti:TE}{t:akz} (ho:PE X o to) (hi:PE X i ti) (hs:al0 X t)
  (ha:∀ v,assign (.Subscript o i pos) X.env v=(do
   let ov ←holding [v] (eval o X.env)
   let iv ←holding [v,ov] (eval i X.env)
   standAt pos
   holding [v,ov,iv] (setItem ov iv v)
   release [v,ov,iv] []):=by intro _; rfl):PG X (.Subscript o i pos) (amZ to ti t):=by
 intro Kp s σ H v u Q I r h
 rw [ha]
 refine wpAny_bind (wpAny_holding (thn (ho Kp s σ H _ I h) fun ov s1 ⟨x,H1,I1,r1,q1⟩=>?_))
 refine wpAny_bind (wpAny_holding (thn (hi Kp s1 σ H1 _ I1 q1) fun iv s2 ⟨y,H2,I2,r2,q2⟩=>?_))
 refine wpAny_bind (wpAny_standAt (wpAny_bind (wpAny_holding (thn (hs Kp s2 σ H2 x y v ov iv u _ I2 r1 r2 r q2) fun _ s3 ⟨H3,I3,q3⟩=>?_))))
 exact wpAny_release ⟨σ,H3,I3,q3⟩
noncomputable def akC (te:TE) (g:TG):TS:=fun D σ H=>te σ H fun x H1=>g x σ H1 D.nx
theorem agO {tg e:Expr}{te:TE}{g:TG} (he:PE X e te) (hg:PG X tg g) (hs:swapsWithSole [tg] e pos.line X.env=pure false:=by rfl) (hw:swappedStores [tg] e X.env=pure none:=by rfl)
  (h1:(assignEach [tg] X.env).map (·.2)=[assign tg X.env]:=by rfl):PS X (.Assign [tg] e pos) (akC te g):=by
 intro Kp s σ H D I h
 refine wpAny_Assign_stores (thn (he Kp s σ H _ I h) fun v s1 ⟨x,H1,I1,r1,q1⟩=>?_) hs hw
 rw [h1]
 exact thn (hg Kp s1 σ H1 x v _ I1 r1 q1) fun _ s2 q=>q
theorem adY {i:Nat}{x:Str}{e:Expr}{te:TE}{pos':Pos} (hN:X.N.Nodup) (hi:X.N[i]?=some x) (hx:Loc X.env.scope x) (he:PE X e te) (hs:swapsWith e (some (.Name x pos')) pos.line X.env=pure false:=by rfl) (hf:X.fn x=true ∨ X.env.scope.names.lookup x=some .local:=by first | exact .inl rfl | exact .inr rfl | assumption):
  PS X (.Assign [.Name x pos'] e pos) (akC te (agM i)):=by
 intro Kp s σ H D I h
 refine wpAny_Assign_Name (thn (he Kp s σ H _ I h) fun v s1 ⟨y,H1,I1,r1,q1⟩=>?_) hs
 exact acV I1 hN hi hx r1 (fun s2 I2=>⟨_,H1,I2,q1⟩) hf
end
section
variable {X:Cx}{pos:Pos}
end
structure It where
 go:Nat->Hp->Prop
 yld:Nat->Hp->V->Hp->Prop
 stop:Nat->Hp->Prop
noncomputable def acW (X:Cx) (Kp:List (Addr × Obj)) (H:Hp) (b:Addr):Prop:=
 H b=none/\b ≠ X.env.locals/\b ∉ X.fs/\(b ∈ X.ex ∨ X.s₀.heap.objs.size<=b)/\(∀ x c,X.env.cells.lookup x=some c->c ≠ b)/\∀ p ∈ X.pn++Kp,p.1 ≠ b
theorem Inv.fpOk {X:Cx}{Kp:List (Addr × Obj)}{σ:St}{H H':Hp}{s:Shared}{b:Addr} (I:Inv X Kp σ H s) (hb:s.heap.objs.size<=b) (hn:H' b=none):acW X Kp H' b:=by
 refine ⟨hn,Nat.ne_of_gt (Nat.lt_of_lt_of_le I.lt hb),I.nofs hb,.inr (Nat.le_trans I.sz hb),fun x c e z=>?_,fun p hp z=>?_⟩
 ·obtain ⟨v,q⟩:=I.cell x c e
  exact absurd (Nat.lt_of_lt_of_le q.lt (by rw [z]; exact hb)) (Nat.lt_irrefl _)
 ·exact absurd (Nat.lt_of_lt_of_le (Heap.lt_size (I.pin p hp).1) (by rw [z]; exact hb)) (Nat.lt_irrefl _)
structure Turn (P:Program) (w:World) (K:Fg) (tg:Expr) (J:It) (fp:List Addr) (it:Addr) (tn:Nat->Heap->Prop):Prop where
 mem:it ∈ fp
 obj:∀ i h,tn i h->∀ b ∈ fp,∃ o,h.get? b=some o/\∀ v,o.data ≠ .cell v
 keep:∀ i h h',tn i h->(∀ b ∈ fp,∀ o,h.get? b=some o->h'.get? b=some o)->tn i h'
 item:∀ (X:Cx),X.prog=P->X.w=w->X.K=K->X.calm=true->∀ (i:Nat) (Kp:List (Addr × Obj)) (s:Shared) (σ:St) (H:Hp) (E:Value->SP0),Inv X Kp σ H s->(∀ b ∈ fp,acW X Kp H b)->tn i s.heap->J.go i H->
  wpAny (model P w) X.A (pyNext (.ref it)) (fun r s1=>∃ u,r=some u/\
   wpAny (model P w) X.A (letOwnedTupleGo tg (.ref it) u) (fun _ s2=>∃ x H',Inv X Kp σ H' s2/\jQ x u/\J.yld i H x H'/\tn (i+1) s2.heap/\∀ b ∈ fp,H' b=none) E s1) E s
 done:∀ (X:Cx),X.prog=P->X.w=w->X.K=K->X.calm=true->∀ (i:Nat) (Kp:List (Addr × Obj)) (s:Shared) (σ:St) (H:Hp) (E:Value->SP0),Inv X Kp σ H s->(∀ b ∈ fp,acW X Kp H b)->tn i s.heap->J.stop i H->
  wpAny (model P w) X.A (pyNext (.ref it)) (fun r s1=>r=none/\Inv X Kp σ H s1) E s
 self:∀ (A:Around) (i:Nat) (s:Shared) (Q:Value->SP0) (E:Value->SP0),tn i s.heap->Q (.ref it) s->wpAny (model P w) A (pyIter (.ref it)) Q E s
noncomputable abbrev TI:=St->Hp->(It->Hp->Prop)->Prop
noncomputable def PIE (X:Cx) (Kp:List (Addr × Obj)) (σ:St) (tg:Expr) (R:It->Hp->Prop) (itv:Value) (s2:Shared):Prop:=
 ∃ (it:Addr) (fp:List Addr) (tn:Nat->Heap->Prop) (J:It) (H':Hp),itv= .ref it/\Inv X Kp σ H' s2/\Turn X.prog X.w X.K tg J fp it tn/\tn 0 s2.heap/\(∀ b ∈ fp,acW X Kp H' b)/\R J H'
noncomputable def PI (X:Cx) (tg iter:Expr) (wi:TI):Prop:=
 ∀ (Kp:List (Addr × Obj)) (s:Shared) (σ:St) (H:Hp) (R:It->Hp->Prop),Inv X Kp σ H s->wi σ H R->
  wpAny (model X.prog X.w) X.A (eval iter X.env) (fun v s1=>wpAny (model X.prog X.w) X.A (pyIter v) (PIE X Kp σ tg R) X.xe s1) X.xe s
theorem agP {M : Model} {A : Around} {E : Value -> Shared -> Prop} {s : Shared} {tg : Expr} {it : Addr} {u : Value} {o : Obj} {n : String} {vs : Array Value} {Q : Unit -> Shared -> Prop} (ho : s.heap.get? it = some o) (hc : o.cls = .type n) (hd : o.data = .fields vs)
    (hn : ["enumerate", "zip", "dict_itemiterator", "dict_reverseitemiterator", "odict_iterator", "itertools.zip_longest", "itertools.pairwise"].contains n = false) (hQ : Q () s) : wpAny M A (letOwnedTupleGo tg (.ref it) u) Q E s := by
  unfold letOwnedTupleGo
  cases tg <;> first
    | exact wpAny_pure hQ
    | (cases u <;> first
        | exact wpAny_pure hQ
        | (refine wpAny_bind (wpAny_load ho ?_)
           rw [hc, hd]
           show wpAny M A (if (["enumerate", "zip", "dict_itemiterator", "dict_reverseitemiterator", "odict_iterator", "itertools.zip_longest", "itertools.pairwise"].contains n && vs[0]? == some (rawInt _)) = true then _ else _) Q E s
           rw [if_neg (by intro h; rw [hn, Bool.false_and] at h; cases h)]
           exact wpAny_pure hQ))
noncomputable def Itl (K:Fg) (a:Addr):It:=
 ⟨fun i H=>∃ xs x,SqL K H a xs/\xs[i]?=some x,fun i H x H'=>H'=H/\∀ xs,SqL K H a xs->xs[i]?=some x,fun i H=>∃ xs,SqL K H a xs/\xs.length<=i⟩
noncomputable def Itt (K:Fg) (a:Addr):It:=
 ⟨fun i H=>∃ xs x,SqT K H a xs/\xs[i]?=some x,fun i H x H'=>H'=H/\∀ xs,SqT K H a xs->xs[i]?=some x,fun i H=>∃ xs,SqT K H a xs/\xs.length<=i⟩
noncomputable def Itr (lo:Int) (n:Nat):It:=⟨fun i _=>i<n,fun i H x H'=>H'=H/\x= .int (lo+i),fun i _=>n<=i⟩
theorem afB {P:Program}{w:World}{K:Fg}{tg:Expr} (a it:Addr):Turn P w K tg (Itl K a) [it] it (fun i h=>h.IsListIter it a i) where
 mem:=by simp
 obj:=fun i h st b hb=>by
  have e:b=it:=by simpa using hb
  subst e
  obtain ⟨o,e,c,d⟩:=st
  exact ⟨o,e,fun v z=>by rw [d] at z; cases z⟩
 keep:=fun i h h' st k=>st.at fun o e=>k it (by simp) o e
 item:=by
  intro X hP hw hK hc i Kp s σ H E I hf st hg
  subst hP hw hK
  obtain ⟨xs,x,hq,hx⟩:=hg
  obtain ⟨its,rv,p,hz⟩:=I.list hq
  obtain ⟨u,hu,ru⟩:=rv.get hx
  obtain ⟨f0,f1,f2,f3,f4,f5⟩:=hf it (by simp)
  refine wpAny_pyNext_list_item st p.isList (x:=u) (by simpa using hu) fun h' st' sb=>?_
  have I1:Inv X Kp σ H { s with heap:=h' }:=I.turned (t':=s.toks) (fun b o hb e=>(sb.2 b hb).trans e) f0 f1 f3 f4 f5
  obtain ⟨o,e,c,d⟩:=id st'
  exact ⟨u,rfl,agP (s:={ s with heap:=h' }) e c d (by decide) ⟨x,H,I1,ru,⟨rfl,fun ys hy=>by rw [I.list_inj hy hq]; exact hx⟩,st',fun b hb=>(hf b hb).1⟩⟩
 done:=by
  intro X hP hw hK hc i Kp s σ H E I hf st hg
  subst hP hw hK
  obtain ⟨xs,hq,hx⟩:=hg
  obtain ⟨its,rv,p,hz⟩:=I.list hq
  obtain ⟨f0,f1,f2,f3,f4,f5⟩:=hf it (by simp)
  have hl:=rv.length
  exact wpAny_pyNext_list_end (I.ok.hd hc) st p.isList (by simp; omega) fun h' eb=>⟨rfl,I.turned (t':=s.toks) (fun b o hb e=>eb b o hb e) f0 f1 f3 f4 f5⟩
 self:=fun _ _ _ _ _ st h=>wpAny_pyIter_listiter st h
theorem adZ {P:Program}{w:World}{K:Fg}{tg:Expr} (a it:Addr):Turn P w K tg (Itt K a) [it] it (fun i h=>h.IsTupleIter it a i) where
 mem:=by simp
 obj:=fun i h st b hb=>by
  have e:b=it:=by simpa using hb
  subst e
  obtain ⟨o,e,c,d⟩:=st
  exact ⟨o,e,fun v z=>by rw [d] at z; cases z⟩
 keep:=fun i h h' st k=>st.at fun o e=>k it (by simp) o e
 item:=by
  intro X hP hw hK hc i Kp s σ H E I hf st hg
  subst hP hw hK
  obtain ⟨xs,x,hq,hx⟩:=hg
  obtain ⟨its,rv,p,hz⟩:=I.tuple hq
  obtain ⟨u,hu,ru⟩:=rv.get hx
  obtain ⟨f0,f1,f2,f3,f4,f5⟩:=hf it (by simp)
  refine wpAny_pyNext_tuple_item st (show s.heap.IsTuple a its.toArray from p) (x:=u) (by simpa using hu) fun h' st' sb=>?_
  have I1:Inv X Kp σ H { s with heap:=h' }:=I.turned (t':=s.toks) (fun b o hb e=>(sb.2 b hb).trans e) f0 f1 f3 f4 f5
  obtain ⟨o,e,c,d⟩:=id st'
  exact ⟨u,rfl,agP (s:={ s with heap:=h' }) e c d (by decide) ⟨x,H,I1,ru,⟨rfl,fun ys hy=>by rw [I.tuple_inj hy hq]; exact hx⟩,st',fun b hb=>(hf b hb).1⟩⟩
 done:=by
  intro X hP hw hK hc i Kp s σ H E I hf st hg
  subst hP hw hK
  obtain ⟨xs,hq,hx⟩:=hg
  obtain ⟨its,rv,p,hz⟩:=I.tuple hq
  obtain ⟨f0,f1,f2,f3,f4,f5⟩:=hf it (by simp)
  have hl:=rv.length
  exact wpAny_pyNext_tuple_end (I.ok.hd hc) st (show s.heap.IsTuple a its.toArray from p) (by simp; omega) fun h' eb=>⟨rfl,I.turned (t':=s.toks) (fun b o hb e=>eb b o hb e) f0 f1 f3 f4 f5⟩
 self:=fun _ _ _ _ _ st h=>wpAny_pyIter_tupleiter st h
theorem ad0 {P:Program}{w:World}{K:Fg}{tg:Expr} (it:Addr) (lo:Int) (n:Nat):Turn P w K tg (Itr lo n) [it] it (fun i h=>IsRangeIter h it (lo+(i:Nat)*1) ((n:Int) - (i:Nat)) 1) where
 mem:=by simp
 obj:=fun i h st b hb=>by
  have e:b=it:=by simpa using hb
  subst e
  exact ⟨_,st,fun v z=>by
   have z':Data.fields _=Data.cell v:=z
   cases z'⟩
 keep:=fun i h h' st k=>k it (by simp) _ st
 item:=by
  intro X hP hw hK hc i Kp s σ H E I hf st hg
  subst hP hw hK
  obtain ⟨f0,f1,f2,f3,f4,f5⟩:=hf it (by simp)
  have W:=Walks.range (prog:=X.prog) (w:=X.w) (I.ok.hd hc) it lo 1 n
  refine W.item i s _ _ hg st fun v h' tk hv st' kk=>?_
  obtain ⟨t,rfl⟩:=hv
  have I1:Inv X Kp σ H { s with heap:=h',toks:=tk }:=I.turned (fun b o hb e=>kk b o (by simpa using hb) e) f0 f1 f3 f4 f5
  refine ⟨_,rfl,agP (s:={ s with heap:=h',toks:=tk }) (n:="range_iterator") st' rfl rfl (by decide) ⟨.int (lo+i),H,I1,⟨t,?_⟩,⟨rfl,rfl⟩,st',fun b hb=>(hf b hb).1⟩⟩
  rw [Int.mul_one]
 done:=by
  intro X hP hw hK hc i Kp s σ H E I hf st hg
  subst hP hw hK
  obtain ⟨f0,f1,f2,f3,f4,f5⟩:=hf it (by simp)
  exact wpAny_pyNext_range_end (I.ok.hd hc) st (by have:n<=i:=hg; omega) fun h' eb=>⟨rfl,I.turned (t':=s.toks) (fun b o hb e=>eb b o hb e) f0 f1 f3 f4 f5⟩
 self:=fun _ _ _ _ _ st h=>wpAny_pyIter_rangeiter st h
section
variable {X:Cx}{tg:Expr}
noncomputable def al2 (K:Fg) (tl:TE):TI:=fun σ H R=>tl σ H fun x H1=>∃ a,x= .ref a/\(∃ xs,SqL K H1 a xs)/\R (Itl K a) H1
noncomputable def am0 (K:Fg) (tl:TE):TI:=fun σ H R=>tl σ H fun x H1=>∃ a,x= .ref a/\(∃ xs,SqT K H1 a xs)/\R (Itt K a) H1
theorem aiK {l:Expr}{tl:TE} (hl:PE X l tl):PI X tg l (al2 X.K tl):=by
 intro Kp s σ H R I h
 refine thn (hl Kp s σ H _ I h) fun v s1 ⟨x,H1,I1,r1,q1⟩=>?_
 obtain ⟨a,e,⟨xs,hq⟩,q⟩:=q1
 subst e
 cases r1
 obtain ⟨its,rv,p,hz⟩:=I1.list hq
 refine wpAny_pyIter_list p.isList ?_
 refine ⟨s1.heap.objs.size,[s1.heap.objs.size],_,_,H1,rfl,I1.kept (t':=s1.toks) fun b o e=>Heap.get?_push_of_some _ e,afB a _,⟨_,Heap.get?_push_size _ rfl,rfl,rfl⟩,fun b hb=>?_,q⟩
 have e:b=s1.heap.objs.size:=by simpa using hb
 subst e
 exact I1.fpOk (Nat.le_refl _) (I1.hok.fresh (Nat.le_refl _))
theorem akD {l:Expr}{tl:TE} (hl:PE X l tl):PI X tg l (am0 X.K tl):=by
 intro Kp s σ H R I h
 refine thn (hl Kp s σ H _ I h) fun v s1 ⟨x,H1,I1,r1,q1⟩=>?_
 obtain ⟨a,e,⟨xs,hq⟩,q⟩:=q1
 subst e
 cases r1
 obtain ⟨its,rv,p,hz⟩:=I1.tuple hq
 refine wpAny_pyIter_tuple (show s1.heap.IsTuple a its.toArray from p) ?_
 refine ⟨s1.heap.objs.size,[s1.heap.objs.size],_,_,H1,rfl,I1.kept (t':=s1.toks) fun b o e=>Heap.get?_push_of_some _ e,adZ a _,⟨_,Heap.get?_push_size _ rfl,rfl,rfl⟩,fun b hb=>?_,q⟩
 have e:b=s1.heap.objs.size:=by simpa using hb
 subst e
 exact I1.fpOk (Nat.le_refl _) (I1.hok.fresh (Nat.le_refl _))
theorem agQ {Kp:List (Addr × Obj)}{σ:St}{H:Hp}{s:Shared}{R:It->Hp->Prop}{E:Value->SP0}{lo hi:Int}{t u v:Tok}{tk:Nat} (I:Inv X Kp σ H s) (h1:-(2 ^ 62)<=lo) (h2:lo<2 ^ 62) (h3:-(2 ^ 62)<=hi) (h4:hi<2 ^ 62)
  (q:R (Itr lo (hi - lo).toNat) H):wpAny (model X.prog X.w) X.A (pyIter (.ref s.heap.objs.size)) (PIE X Kp σ tg R) E { s with heap:=s.heap.push { cls:= .type "range",data:= .fields #[.int lo t,.int hi u,.int 1 v] },toks:=tk }:=by
 refine wpAny_pyIter_range (IsRange.new ..) (small_one h1 h2 h3 h4) ?_
 have I1:Inv X Kp σ H { s with heap:=s.heap.push { cls:= .type "range",data:= .fields #[.int lo t,.int hi u,.int 1 v] },toks:=tk }:=I.kept fun b o e=>Heap.get?_push_of_some _ e
 refine ⟨(s.heap.push { cls:= .type "range",data:= .fields #[.int lo t,.int hi u,.int 1 v] }).objs.size,[(s.heap.push { cls:= .type "range",data:= .fields #[.int lo t,.int hi u,.int 1 v] }).objs.size],_,_,H,rfl,
  I1.kept (t':=tk) fun b o e=>Heap.get?_push_of_some _ e,ad0 _ lo (hi - lo).toNat,?_,fun b hb=>?_,q⟩
 ·have e1:lo+((0:Nat):Int)*1=lo:=by simp
  have e2:(((hi - lo).toNat:Nat):Int) - ((0:Nat):Int)=Builtin.Range.rangeSize lo hi 1:=by rw [rangeSize_one]; split <;> omega
  show IsRangeIter _ _ (lo+((0:Nat):Int)*1) ((((hi - lo).toNat:Nat):Int) - ((0:Nat):Int)) 1
  rw [e1,e2]
  exact Heap.get?_push_size _ rfl
 ·have e:b=(s.heap.push { cls:= .type "range",data:= .fields #[.int lo t,.int hi u,.int 1 v] }).objs.size:=by simpa using hb
  subst e
  exact I1.fpOk (Nat.le_refl _) (I1.hok.fresh (Nat.le_refl _))
noncomputable def al3 (ta:TA):TI:=fun σ H R=>ta σ H fun vs H1=>∃ j:Int,vs=[.int j]/\-(2 ^ 62)<=j/\j<2 ^ 62/\R (Itr 0 j.toNat) H1
theorem Zp {a:Expr}{ta:TA}{p pos:Pos} (hg:Gl X "range") (hm:X.mg "range"=none) (ha:PA X [a] ta) (hs:starEach [a] X.env=[(false,eval a X.env)]:=by rfl):PI X tg (.Call (.Name "range" p) [a] [] pos) (al3 ta):=by
 intro Kp s σ H R I h
 refine Call_ (QF I hg hm boot_range (PyProof.Rows.callWith_type1 (thn (ha pos Kp s σ H _ I h) fun us s1 ⟨vs,H1,I1,r1,q1⟩=>?_) hs rfl))
 obtain ⟨j,e,q1,q2,q⟩:=q1
 subst e
 cases r1 with
 | cons r rr=>
  cases rr
  obtain ⟨t,rfl⟩:=r
  exact call_range_1 (agQ I1 (by omega) (by omega) q1 q2 (by simpa using q))
noncomputable def am1 (wi:TI) (g:TG) (tb:TS):TS:=fun D σ H=>wi σ H fun J H1=>∃ W:Nat->Nat->St->Hp->Prop,(∃ m,W 0 m σ H1)/\∀ i m σ H,W i m σ H->
 (J.stop i H/\D.nx σ H) ∨ (J.go i H/\∃ N:St->Hp->Prop,(∀ σ' H',N σ' H'->∃ m',m' < m/\W (i+1) m' σ' H')/\∀ x H',J.yld i H x H'->g x σ H' fun σ2 H2=>tb { D with nx:=N,ct:=N,bk:=D.nx } σ2 H2)
noncomputable def Zq (fp:List Addr) (h:Heap):List (Addr × Obj):=fp.filterMap fun b=>(h.get? b).map fun o=>(b,o)
theorem zk {fp:List Addr}{h:Heap}{b:Addr}{o:Obj} (hb:b ∈ fp) (e:h.get? b=some o):(b,o) ∈ Zq fp h:=List.mem_filterMap.mpr ⟨b,hb,by rw [e]; rfl⟩
theorem afC {fp:List Addr}{h:Heap}{p:Addr × Obj} (hp:p ∈ Zq fp h):p.1 ∈ fp/\h.get? p.1=some p.2:=by
 obtain ⟨b,hb,e⟩:=List.mem_filterMap.mp hp
 cases q:h.get? b with
 | none=>rw [q] at e; cases e
 | some o=>
  rw [q] at e
  have e':(b,o)=p:=Option.some.inj e
  subst e'
  exact ⟨hb,q⟩
theorem Inv.pinned {Kp:List (Addr × Obj)}{σ:St}{H:Hp}{s:Shared}{fp:List Addr} (I:Inv X Kp σ H s) (hf:∀ b ∈ fp,acW X Kp H b) (ho:∀ b ∈ fp,∃ o,s.heap.get? b=some o/\∀ v,o.data ≠ .cell v):Inv X (Kp++Zq fp s.heap) σ H s:=
 I.pins_of fun p hp=>(List.mem_append.mp hp).elim (fun z=>I.pin p (List.mem_append_right _ z)) fun z=>by
  obtain ⟨hb,e⟩:=afC z
  obtain ⟨f0,f1,f2,_⟩:=hf p.1 hb
  obtain ⟨o,e',d⟩:=ho p.1 hb
  rw [e] at e'; cases e'
  exact ⟨e,f0,f1,f2,d⟩
theorem Inv.unpinned {Kp pl:List (Addr × Obj)}{σ:St}{H:Hp}{s:Shared} (I:Inv X (Kp++pl) σ H s):Inv X Kp σ H s:=I.pins_of fun p hp=>I.pin p (List.mem_append_right _ (List.mem_append_left _ hp))
theorem ab9 {iter:Expr}{body:List Stmt}{wi:TI}{g:TG}{tb:TS}{pos:Pos} (hp:PassesOwn (model X.prog X.w) X.A X.env X.xe) (hc:X.calm=true) (hi:PI X tg iter wi) (hg:PG X tg g) (hb:PSs X body tb)
  (hs:∀ x,foldedSetIterable iter X.env x=pure x:=by intro _; rfl):PS X (.For tg iter body [] pos) (am1 wi g tb):=by
 intro Kp s σ H D I h
 refine wpAny_For (thn (hi Kp s σ H _ I h) fun v s1 h1=>thn h1 fun itv s2 h2=>?_) hs
 obtain ⟨it,fp,tn,J,H2,e,I2,T,st2,f2,W,⟨m0,w0⟩,turn⟩:=h2
 subst e
 have stat:∀ {H':Hp},(∀ b ∈ fp,H' b=none)->∀ b ∈ fp,acW X Kp H' b:=fun hn b hb=>⟨hn b hb,(f2 b hb).2⟩
 refine codeAny_forLoop_any (fun n s'=>∃ i σ' H',Inv X Kp σ' H' s'/\tn i s'.heap/\(∀ b ∈ fp,H' b=none)/\W i n σ' H') ?_ m0 ⟨0,σ,H2,I2,st2,fun b hb=>(f2 b hb).1,w0⟩
 rintro n s3 ⟨i,σ3,H3,I3,st3,fr3,w3⟩
 rcases turn i n σ3 H3 w3 with ⟨stop,qn⟩ | ⟨go,N,hN,step⟩
 ·refine wpAny_passesOwn hp (thn (T.done X rfl rfl rfl hc i Kp s3 σ3 H3 X.xe I3 (stat fr3) st3 stop) fun r s4 ⟨hr,I4⟩=>?_)
  subst hr
  exact wpAny_execs_nil ⟨σ3,H3,I4,qn⟩
 ·refine wpAny_passesOwn hp (thn (T.item X rfl rfl rfl hc i Kp s3 σ3 H3 X.xe I3 (stat fr3) st3 go) fun r s4 ⟨u,hr,h4⟩=>?_)
  subst hr
  refine wpAny_passesOwn hp (thn h4 fun _ s5 ⟨x,H5,I5,r5,y5,st5,fr5⟩=>?_)
  have I5':=I5.pinned (stat fr5) (T.obj _ _ st5)
  refine wpAny_passesOwn hp (thn (hg _ s5 σ3 H5 x u _ I5' r5 (step x H5 y5)) fun _ s6 ⟨σ6,H6,I6,q6⟩=>?_)
  refine wpAny_passesOwn hp (thn (hb _ s6 σ6 H6 _ I6 q6) fun f s7 q7=>?_)
  have again:∀ {σ7:St} {H7:Hp},Inv X (Kp++Zq fp s5.heap) σ7 H7 s7->N σ7 H7->∃ m,m<n/\∃ i σ' H',Inv X Kp σ' H' s7/\tn i s7.heap/\(∀ b ∈ fp,H' b=none)/\W i m σ' H':=fun {σ7 H7} I7 n7=>by
   obtain ⟨m',hm,w7⟩:=hN σ7 H7 n7
   refine ⟨m',hm,i+1,σ7,H7,I7.unpinned,T.keep _ _ _ st5 fun b hb o e=>(I7.pin (b,o) (List.mem_append_right _ (List.mem_append_right _ (zk hb e)))).1,fun b hb=>?_,w7⟩
   obtain ⟨o,e,d⟩:=T.obj _ _ st5 b hb
   exact (I7.pin (b,o) (List.mem_append_right _ (List.mem_append_right _ (zk hb e)))).2.1
  cases f with
  | next=>obtain ⟨σ7,H7,I7,n7⟩:=q7; exact again I7 n7
  | cont=>obtain ⟨σ7,H7,I7,n7⟩:=q7; exact again I7 n7
  | brk=>obtain ⟨σ7,H7,I7,q7⟩:=q7; exact ⟨σ7,H7,I7.unpinned,q7⟩
  | ret v=>obtain ⟨x7,σ7,H7,I7,r7,q7⟩:=q7; exact ⟨x7,σ7,H7,I7.unpinned,r7,q7⟩
end
theorem abn {lo:Int}{n:Nat}{g:TG}{tb:TS}{D:Ends}{σ:St}{H:Hp} (Pv:Nat->St->Hp->Prop) (h0:Pv 0 σ H)
  (hs:∀ i σ H,i<n->Pv i σ H->g (.int (lo+i)) σ H fun σ2 H2=>tb { D with nx:=Pv (i+1),ct:=Pv (i+1),bk:=D.nx } σ2 H2) (hd:∀ σ H,Pv n σ H->D.nx σ H):
  ∃ W:Nat->Nat->St->Hp->Prop,(∃ m,W 0 m σ H)/\∀ i m σ H,W i m σ H->
   ((Itr lo n).stop i H/\D.nx σ H) ∨ ((Itr lo n).go i H/\∃ N:St->Hp->Prop,(∀ σ' H',N σ' H'->∃ m',m' < m/\W (i+1) m' σ' H')/\∀ x H',(Itr lo n).yld i H x H'->g x σ H' fun σ2 H2=>tb { D with nx:=N,ct:=N,bk:=D.nx } σ2 H2):=by
 refine ⟨fun i m σ H=>m=n - i/\i<=n/\Pv i σ H,⟨n,by simp,Nat.zero_le _,h0⟩,?_⟩
 rintro i m σ H ⟨rfl,hi,p⟩
 by_cases hlt:i<n
 ·refine .inr ⟨hlt,Pv (i+1),fun σ' H' p'=>⟨n - (i+1),by omega,rfl,hlt,p'⟩,fun x H' y=>?_⟩
  obtain ⟨e,y⟩:=y
  subst e y
  exact hs i σ _ hlt p
 ·have e:i=n:=by omega
  subst e
  exact .inl ⟨Nat.le_refl _,hd σ H p⟩
noncomputable abbrev R2:=V->V->Hp->VK->Prop
noncomputable def OpR (X:Cx) (f:Value->Value->Sem Value) (r:R2):Prop:=
 ∀ (Kp:List (Addr × Obj)) (s:Shared) (σ:St) (H:Hp) (x y:V) (v u:Value) (Q:VK),Inv X Kp σ H s->jQ x v->jQ y u->r x y H Q->
  wpAny (model X.prog X.w) X.A (f v u) (EP X Kp σ Q) X.xe s
noncomputable def UnR (X:Cx) (f:Value->Sem Value) (r:V->Hp->VK->Prop):Prop:=
 ∀ (Kp:List (Addr × Obj)) (s:Shared) (σ:St) (H:Hp) (x:V) (v:Value) (Q:VK),Inv X Kp σ H s->jQ x v->r x H Q->
  wpAny (model X.prog X.w) X.A (f v) (EP X Kp σ Q) X.xe s
noncomputable def zK (X:Cx) (f:Value) (r:List V->Hp->VK->Prop):Prop:=
 ∀ (Kp:List (Addr × Obj)) (s:Shared) (σ:St) (H:Hp) (xs:List V) (us:List Value) (Q:VK),Inv X Kp σ H s->jG xs us->r xs H Q->
  wpAny (model X.prog X.w) X.A (call f us) (EP X Kp σ Q) X.xe s
noncomputable def tOp (r:R2) (ta tb:TE):TE:=fun σ H Q=>ta σ H fun x H1=>tb σ H1 fun y H2=>r x y H2 Q
noncomputable def tUn (r:V->Hp->VK->Prop) (ta:TE):TE:=fun σ H Q=>ta σ H fun x H1=>r x H1 Q
noncomputable def rI (C:Int->Int->Prop) (g:Int->Int->V):R2:=fun x y H Q=>∃ i j,x= .int i/\y= .int j/\C i j/\Q (g i j) H
noncomputable def rI0 (g:Int->Int->V):R2:=fun x y H Q=>∃ i j,x= .int i/\y= .int j/\Q (g i j) H
noncomputable def rU (g:Int->V):V->Hp->VK->Prop:=fun x H Q=>∃ i,x= .int i/\Q (g i) H
section
variable {X:Cx}{a b c:Expr}{ta tb tc:TE}{pos:Pos}
theorem aiL (ha:PE X a ta) (hb:PE X b tb) {Kp:List (Addr × Obj)}{s:Shared}{σ:St}{H:Hp}{R:V->V->Hp->Prop} (I:Inv X Kp σ H s)
  (h:ta σ H fun x H1=>tb σ H1 fun y H2=>R x y H2) {Q:Value->SP0} {f:Value->Value->Sem Value}
  (hf:∀ v u s2 x y H2,Inv X Kp σ H2 s2->jQ x v->jQ y u->R x y H2->wpAny (model X.prog X.w) X.A (f v u) Q X.xe s2):
  wpAny (model X.prog X.w) X.A (eval a X.env) (fun v s₁=>wpAny (model X.prog X.w) X.A (eval b X.env) (fun u s₂=>wpAny (model X.prog X.w) X.A (f v u) Q X.xe s₂) X.xe s₁) X.xe s:=by
 refine thn (ha Kp s σ H _ I h) fun v s1 ⟨x,H1,I1,r1,q1⟩=>?_
 refine thn (hb Kp s1 σ H1 _ I1 q1) fun u s2 ⟨y,H2,I2,r2,q2⟩=>?_
 exact hf v u s2 x y H2 I2 r1 r2 q2
theorem al4 {op:Operator}{r:R2} (ho:OpR X (binaryOp op) r) (ha:PE X a ta) (hb:PE X b tb):PE X (.BinOp a op b pos) (tOp r ta tb):=by
 intro Kp s σ H Q I h
 exact wpAny_BinOp (aiL ha hb I h fun v u s2 x y H2 I2 rx ry q=>ho Kp s2 σ H2 x y v u Q I2 rx ry q)
theorem al5 {op:UnaryOp}{r:V->Hp->VK->Prop} (ho:UnR X (unaryOp op) r) (ha:PE X a ta):PE X (.UnaryOp op a pos) (tUn r ta):=by
 intro Kp s σ H Q I h
 exact UnaryOp_ (thn (ha Kp s σ H _ I h) fun v s1 ⟨x,H1,I1,r1,q1⟩=>ho Kp s1 σ H1 x v Q I1 r1 q1)
theorem opI {f:Value->Value->Sem Value}{C:Int->Int->Prop}{g:Int->Int->Int}
  (rule:∀ (i j:Int) (t u:Tok) (s:Shared) (Q:Value->SP0) (E:Value->SP0),C i j->Q (.int (g i j) s.toks) { s with toks:=s.toks+1 }->wpAny (model X.prog X.w) X.A (f (.int i t) (.int j u)) Q E s):
  OpR X f (rI C fun i j=> .int (g i j)):=by
 intro Kp s σ H x y v u Q I rx ry h
 obtain ⟨i,j,rfl,rfl,hc,q⟩:=h
 obtain ⟨t,rfl⟩:=rx
 obtain ⟨t',rfl⟩:=ry
 exact rule i j t t' s _ _ hc ⟨.int (g i j),H,I.tok _,⟨_,rfl⟩,q⟩
theorem al6 {f:Value->Value->Sem Value}{g:Int->Int->Int}
  (rule:∀ (i j:Int) (t u:Tok) (s:Shared) (Q:Value->SP0) (E:Value->SP0),Q (.int (g i j) s.toks) { s with toks:=s.toks+1 }->wpAny (model X.prog X.w) X.A (f (.int i t) (.int j u)) Q E s):
  OpR X f (rI0 fun i j=> .int (g i j)):=by
 intro Kp s σ H x y v u Q I rx ry h
 obtain ⟨i,j,rfl,rfl,q⟩:=h
 obtain ⟨t,rfl⟩:=rx
 obtain ⟨t',rfl⟩:=ry
 exact rule i j t t' s _ _ ⟨.int (g i j),H,I.tok _,⟨_,rfl⟩,q⟩
theorem akE {f:Value->Value->Sem Value}{g:Int->Int->Bool}
  (rule:∀ (i j:Int) (t u:Tok) (s:Shared) (Q:Value->SP0) (E:Value->SP0),Q (.bool (g i j)) s->wpAny (model X.prog X.w) X.A (f (.int i t) (.int j u)) Q E s):
  OpR X f (rI0 fun i j=> .bl (g i j)):=by
 intro Kp s σ H x y v u Q I rx ry h
 obtain ⟨i,j,rfl,rfl,q⟩:=h
 obtain ⟨t,rfl⟩:=rx
 obtain ⟨t',rfl⟩:=ry
 exact rule i j t t' s _ _ ⟨.bl (g i j),H,I,rfl,q⟩
noncomputable def am2 (i j:Int):Prop:=0<j/\j<1073741824
noncomputable def akF (i j:Int):Prop:=(-(2 ^ 64)<i/\i<2 ^ 64) ∨ (-(2 ^ 64)<j/\j<2 ^ 64)
theorem akF.ok {i j:Int} (h:akF i j):IntMulOk i j:=by
 rcases h with ⟨h1,h2⟩ | ⟨h1,h2⟩
 ·exact .of_left (intBits_le_64 h1 h2)
 ·exact .of_right (intBits_le_64 h1 h2)
theorem akG:OpR X (binaryOp .Add) (rI0 fun i j=> .int (i+j)):=al6 fun _ _ _ _ _ _ _ q=>add_int q
theorem akH:OpR X (binaryOp .Sub) (rI0 fun i j=> .int (i - j)):=al6 fun _ _ _ _ _ _ _ q=>sub_int q
theorem akI:OpR X (binaryOp .Mult) (rI akF fun i j=> .int (i*j)):=opI fun _ _ _ _ _ _ _ hc q=>mul_int q hc.ok
theorem aiM:OpR X (binaryOp .FloorDiv) (rI am2 fun i j=> .int (i / j)):=opI fun i j _ _ _ _ _ hc q=>by
 have h1:(0:Int)<j:=hc.1
 have h2:j<1073741824:=hc.2
 exact floordiv_int (by omega) (by rw [Int.fdiv_eq_ediv_of_nonneg i (by omega)]; exact q) (.inl (PyProof.noPylong_small (by omega)))
theorem akJ:OpR X (binaryOp .Mod) (rI (fun _ j=>0<j) fun i j=> .int (i % j)):=opI fun i j _ _ _ _ _ hc q=>by
 have h1:(0:Int)<j:=hc
 exact mod_int' (by omega) (by rw [Int.fmod_eq_emod_of_nonneg i (by omega)]; exact q)
theorem unI {f:Value->Sem Value}{g:Int->Int}
  (rule:∀ (i:Int) (t:Tok) (s:Shared) (Q:Value->SP0) (E:Value->SP0),Q (.int (g i) s.toks) { s with toks:=s.toks+1 }->wpAny (model X.prog X.w) X.A (f (.int i t)) Q E s):
  UnR X f (rU fun i=> .int (g i)):=by
 intro Kp s σ H x v Q I rx h
 obtain ⟨i,rfl,q⟩:=h
 obtain ⟨t,rfl⟩:=rx
 exact rule i t s _ _ ⟨.int (g i),H,I.tok _,⟨_,rfl⟩,q⟩
theorem akK:UnR X (unaryOp .USub) (rU fun i=> .int (-i)):=unI fun _ _ _ _ _ q=>neg_int q
end
section
variable {X:Cx}{a b c:Expr}{ta tb tc:TE}{pos:Pos}
theorem akL {Kp:List (Addr × Obj)}{σ:St}{H:Hp}{s:Shared}{Q:VK}{k k':Bool} (I:Inv X Kp σ H s) (q:Q (.bl k) H) (e:k=k'):EP X Kp σ Q (.bool k') s:=by
 subst e
 exact ⟨.bl k,H,I,rfl,q⟩
theorem al7:OpR X (compareOp .Lt) (rI0 fun i j=> .bl (decide (i<j))):=akE fun _ _ _ _ _ _ _ q=>lt_int q
theorem al8:OpR X (compareOp .LtE) (rI0 fun i j=> .bl (decide (i<=j))):=akE fun _ _ _ _ _ _ _ q=>le_int q
theorem al9:OpR X (compareOp .Gt) (rI0 fun i j=> .bl (decide (j<i))):=akE fun _ _ _ _ _ _ _ q=>gt_int q
theorem aiN:OpR X (compareOp .IsNot) (fun x y H Q=>y= .non/\Q (.bl (!decide (x= .non))) H):=by
 intro Kp s σ H x y v u Q I rx ry h
 obtain ⟨rfl,q⟩:=h
 cases ry
 refine isnot_none_gen (akL I q ?_)
 cases x <;> first
  | (cases rx; rfl)
  | (obtain ⟨t,rfl⟩:=rx; rfl)
theorem OpR.or {f:Value->Value->Sem Value}{r r':R2} (h:OpR X f r) (h':OpR X f r'):OpR X f (fun x y H Q=>r x y H Q ∨ r' x y H Q):=by
 intro Kp s σ H x y v u Q I rx ry q
 rcases q with q | q
 ·exact h Kp s σ H x y v u Q I rx ry q
 ·exact h' Kp s σ H x y v u Q I rx ry q
theorem ad1 (b:Expr) {op:CmpOp} (h:op ≠ .In:=by decide) (h2:op ≠ .NotIn:=by decide):behindInMarks op b=false:=by
 have e1:(op == CmpOp.In)=false:=by cases op <;> first | rfl | exact absurd rfl h
 have e2:(op == CmpOp.NotIn)=false:=by cases op <;> first | rfl | exact absurd rfl h2
 cases b <;> simp [behindInMarks,e1,e2]
theorem aiO {op:CmpOp}{r:R2} (ho:OpR X (compareOp op) r) (ha:PE X a ta) (hb:PE X b tb) (hm:behindInMarks op b=false):PE X (.Compare a [op] [b] pos) (tOp r ta tb):=by
 intro Kp s σ H Q I h
 exact wpAny_Compare1 (aiL ha hb I h fun v u s2 x y H2 I2 rx ry q=>ho Kp s2 σ H2 x y v u Q I2 rx ry q) hm
noncomputable def akc (t:TE):TT:=fun σ H Q=>t σ H fun x H'=>∃ k,x= .bl k/\Q k H'
theorem aiP {op:CmpOp}{r:R2} (ho:OpR X (compareOp op) r) (ha:PE X a ta) (hb:PE X b tb) (hm:behindInMarks op b=false):PT X (.Compare a [op] [b] pos) (akc (tOp r ta tb)):=by
 intro Kp s σ H Q I h
 refine wpAny_isTrue_Compare1 (thn (ha Kp s σ H _ I h) fun v s1 ⟨x,H1,I1,r1,q1⟩=>thn (hb Kp s1 σ H1 _ I1 q1) fun u s2 ⟨y,H2,I2,r2,q2⟩=>
  thn (ho Kp s2 σ H2 x y v u _ I2 r1 r2 q2) fun c s3 ⟨z,H3,I3,r3,k,e,q3⟩=>?_) hm
 subst e
 cases r3
 exact wpAny_truthy_bool ⟨H3,I3,q3⟩
noncomputable def ad2 (r r':R2) (ta tb tc:TE):TE:=fun σ H Q=>ta σ H fun x H1=>tb σ H1 fun y H2=>r x y H2 fun z H3=>∃ k,z= .bl k/\
 (if k=true then tc σ H3 fun w' H4=>r' y w' H4 Q else Q (.bl false) H3)
theorem agR {op op':CmpOp}{r r':R2} (ho:OpR X (compareOp op) r) (ho':OpR X (compareOp op') r') (ha:PE X a ta) (hb:PE X b tb) (hc:PE X c tc)
  (hm:lastMarks [op,op'] [b,c]=false:=by with_unfolding_all rfl):PE X (.Compare a [op,op'] [b,c] pos) (ad2 r r' ta tb tc):=by
 intro Kp s σ H Q I h
 refine Compare_chain (thn (ha Kp s σ H _ I h) fun v s1 ⟨x,H1,I1,r1,q1⟩=>chain_link (thn (hb Kp s1 σ H1 _ I1 q1) fun u s2 ⟨y,H2,I2,r2,q2⟩=>
  thn (ho Kp s2 σ H2 x y v u _ I2 r1 r2 q2) fun d s3 ⟨z,H3,I3,r3,k,e,q3⟩=>?_)) hm
 subst e
 cases r3
 refine wpAny_truthy_bool ?_
 cases k with
 | false=>exact ite_ff ⟨.bl false,H3,I3,rfl,q3⟩
 | true=>exact ite_tt (chain_last (thn (hc Kp s3 σ H3 _ I3 q3) fun w' s4 ⟨z',H4,I4,r4,q4⟩=>ho' Kp s4 σ H4 y z' u w' Q I4 r2 r4 q4))
theorem agS {op op':CmpOp}{r r':R2} (ho:OpR X (compareOp op) r) (ho':OpR X (compareOp op') r') (ha:PE X a ta) (hb:PE X b tb) (hc:PE X c tc)
  (hm:lastMarks [op,op'] [b,c]=false:=by with_unfolding_all rfl):PT X (.Compare a [op,op'] [b,c] pos) (akc (ad2 r r' ta tb tc)):=by
 intro Kp s σ H Q I h
 refine isTrue_chain (thn (ha Kp s σ H _ I h) fun v s1 ⟨x,H1,I1,r1,q1⟩=>test_link (thn (hb Kp s1 σ H1 _ I1 q1) fun u s2 ⟨y,H2,I2,r2,q2⟩=>
  thn (ho Kp s2 σ H2 x y v u _ I2 r1 r2 q2) fun d s3 ⟨z,H3,I3,r3,k,e,q3⟩=>?_)) hm
 subst e
 cases r3
 refine wpAny_truthy_bool ?_
 cases k with
 | false=>
  obtain ⟨k',e',q'⟩:=q3
  cases e'
  exact ite_ff ⟨H3,I3,q'⟩
 | true=>
  refine ite_tt (test_last (thn (hc Kp s3 σ H3 _ I3 q3) fun w' s4 ⟨z',H4,I4,r4,q4⟩=>thn (ho' Kp s4 σ H4 y z' u w' _ I4 r2 r4 q4) fun d' s5 ⟨z2,H5,I5,r5,k2,e2,q5⟩=>?_))
  subst e2
  cases r5
  exact wpAny_truthy_bool ⟨H5,I5,q5⟩
theorem aag:(sizeLine:Nat)<2 ^ 63:=by rw [sizeLine_eq]; decide
theorem ad3:OpR X (binaryOp .Add) (fun x y H Q=>∃ i j,x= .str i/\y= .str j/\i.length+j.length<=sizeLine/\Q (.str (i++j)) H):=by
 intro Kp s σ H x y v u Q I rx ry h
 obtain ⟨i,j,rfl,rfl,hz,q⟩:=h
 obtain ⟨t,rfl⟩:=rx
 obtain ⟨t',rfl⟩:=ry
 exact add_str (fun t' tk=>⟨.str (i++j),H,I.tok _,⟨_,rfl⟩,q⟩) hz
noncomputable def acX (b:Expr):Prop:=∀ o i,subscripted b false o i=operate [o,i] (getItem o i)
theorem acY (ha:PE X a ta) (hb:PE X b tb) (hs:acX b):
  PE X (.Subscript a b pos) (tOp (fun x y H Q=>∃ z i c,x= .str z/\y= .int i/\0<=i/\i<2 ^ 63/\i<z.length/\z.cps[i.toNat]?=some c/\Q (.str ⟨#[c]⟩) H) ta tb):=by
 intro Kp s σ H Q I h
 refine Subscript_ (aiL ha hb I h fun v u s2 x y H2 I2 rx ry q=>?_)
 obtain ⟨z,i,c,rfl,rfl,h0,h63,h1,hc,q⟩:=q
 obtain ⟨t,rfl⟩:=rx
 obtain ⟨t',rfl⟩:=ry
 have e:seqIndex? i z.length=some i.toNat:=PySem.StrLaws.seqIndex_nonneg h0 h1
 exact tail_any (typeIs_str s2 z t) slot_str_getitem.lookup (getItem_str (c:=c) (by
  have e1:decide (i < -(2 ^ 63:Int))=false:=decide_eq_false (by omega)
  have e2:decide (i >= 2 ^ 63)=false:=decide_eq_false (by omega)
  rw [e1,e2] <;> rfl) (by rw [e]; exact hc) ⟨.str ⟨#[c]⟩,H2,I2.tok _,⟨_,rfl⟩,q⟩) (hs _ _)
theorem acZ {x:V}{us:List Value} (r:jG [x] us):∃ u,us=[u]/\jQ x u:=by
 cases r with
 | cons r1 r2=>cases r2; exact ⟨_,rfl,r1⟩
theorem agT {x y:V}{us:List Value} (r:jG [x,y] us):∃ u w',us=[u,w']/\jQ x u/\jQ y w':=by
 cases r with
 | cons r1 r2=>
  cases r2 with
  | cons r3 r4=>cases r4; exact ⟨_,_,rfl,r1,r3⟩
theorem afD (hc:X.calm=true):zK X (.builtin "max") (fun xs H Q=>∃ i j,xs=[.int i,.int j]/\Q (.int (if j > i then j else i)) H):=by
 intro Kp s σ H xs us Q I r h
 obtain ⟨i,j,rfl,q⟩:=h
 obtain ⟨u,w',rfl,⟨t,rfl⟩,⟨t',rfl⟩⟩:=agT r
 refine max_two_ints (I.ok.hd hc) fun h' tk k=>⟨_,H,I.kept k,?_,q⟩
 by_cases hj:j > i
 ·rw [if_pos hj,if_pos hj]; exact ⟨_,rfl⟩
 ·rw [if_neg hj,if_neg hj]; exact ⟨_,rfl⟩
theorem afE (hc:X.calm=true):zK X (.builtin "min") (fun xs H Q=>∃ i j,xs=[.int i,.int j]/\Q (.int (if j<i then j else i)) H):=by
 intro Kp s σ H xs us Q I r h
 obtain ⟨i,j,rfl,q⟩:=h
 obtain ⟨u,w',rfl,⟨t,rfl⟩,⟨t',rfl⟩⟩:=agT r
 refine min_two_ints (I.ok.hd hc) fun h' tk k=>⟨_,H,I.kept k,?_,q⟩
 by_cases hj:j<i
 ·rw [if_pos hj,if_pos hj]; exact ⟨_,rfl⟩
 ·rw [if_neg hj,if_neg hj]; exact ⟨_,rfl⟩
end
structure ObjM (h:Heap) (x dx C:Addr) (mA:SV):Prop where
 obj:h.get? x=some (PySem.W.instObj C dx)
 ns:h.Ns1 dx mA
 ne:dx ≠ x
section
variable {prog:Program}{w:World}{A:Around}{E:Value->SP0}{s:Shared}{K:Fg}{x dx C f:Addr}{mA:SV}{name:Str}{v:Value}
end
noncomputable def akM (f:Str) (v:V):List (Str × V)->List (Str × V)
 | []=>[(f,v)]
 | (g,x)::r=>if g=f then (g,v)::r else (g,x)::akM f v r
theorem ZX.some_of {v:V}{o:Option Value} (r:ZX (some v) o):∃ u,o=some u/\jQ v u:=by
 cases o with
 | none=>exact (show False from r).elim
 | some u=>exact ⟨u,rfl,r⟩
section
variable {P:Program}{w:World}{H H':Hp}{h h':Heap}{a C dx:Addr}{fs fs':List (Str × V)}
end
structure Cls (K:Fg) (C:Addr):Prop where
 pg:PySem.W.plainGet K C Str.empty=true
 hd:PySem.W.hasDictIn K C=true
 po:PySem.W.plainOver K C=true
 sa:PySem.W.findIn K (.ref C) "__setattr__"=some (some (.builtin "object.__setattr__"))
theorem Cls.get {K:Fg}{C:Addr} (c:Cls K C) (f:Str):PySem.W.plainGet K C f=true:=c.pg
noncomputable def akN (K:Fg) (C:Addr) (f:Str):Prop:=PySem.W.findIn K (.ref C) f=some none
structure Con (K:Fg) (C:Addr) (f:Str) (v:V) (u:Value):Prop where
 at_:PySem.W.findIn K (.ref C) f=some (some u)
 rel:jQ v u
 get:PySem.W.specialIn K u "__get__"=some none
 cp:PySem.W.copiedNames.contains f=false
structure Meth (K:Fg) (C:Addr) (m:Str) (f:Addr):Prop where
 at_:PySem.W.findIn K (.ref C) m=some (some (.ref f))
 fn:PySem.W.isFn K (.ref f)=true
 kp:PySem.W.keepIn K (.ref f)=true
section
variable {X:Cx}{Kp:List (Addr × Obj)}{σ:St}{H:Hp}{s:Shared}{a C dx:Addr}{fs:List (Str × V)}{f:Str}{v:V}{A:Around}{E:Value->SP0}
end
section
variable {X:Cx}{o e value:Expr}{f:Str}{pos pos' tpos:Pos}{ta tv:TE}
end
section
variable {X:Cx}{Kp:List (Addr × Obj)}{σ:St}{H:Hp}{s:Shared}{A:Around}{E:Value->SP0}{Q:Value->SP0}{c:Value}{b:Bool}
inductive TyOf (K:Fg) (H:Hp):V->Value->Prop where
 | non:TyOf K H .non (.type "NoneType")
 | bl (x:Bool):TyOf K H (.bl x) (.type "bool")
 | int (i:Int):TyOf K H (.int i) (.type "int")
 | str (x:Str):TyOf K H (.str x) (.type "str")
 | flt (x:UInt64):TyOf K H (.flt x) (.type "float")
 | lst {a:Addr} {xs:List V} (e:H a=some (.lst xs)):TyOf K H (.ref a) (.type "list")
 | frz {a:Addr} {o:Obj} {xs:List V} (e:H a=some (.frz o (.lst xs))):TyOf K H (.ref a) (.type "list")
 | tup {a:Addr} {xs:List V} (e:H a=some (.tup xs)):TyOf K H (.ref a) (.type "tuple")
 | dK {a:Addr} {kvs:List (Key × V)} (e:H a=some (.dK kvs)):TyOf K H (.ref a) (.type "dict")
 | dT {a:Addr} {kvs:List (List Key × V)} (e:H a=some (.dT kvs)):TyOf K H (.ref a) (.type "dict")
 | ins {a C dx:Addr} {fs:List (Str × V)} (e:H a=some (.ins C dx fs)) (cl:Cls K C) (ha:PySem.W.findIn K (.ref C) "__class__"=some (some (.builtin "object.__class__")))
   (hn:PySem.W.specialIn K (.builtin "object.__class__") "__get__"=some (some (.builtin "getset_descriptor.__get__"))) (htk:PySem.W.takesIn K (.builtin "object.__class__")=some true)
   (hm:PySem.W.mroIn K C (.type "object")=some true):TyOf K H (.ref a) (.ref C)
end
structure Room (k:Nat) (A:Around):Prop where
 hd:A.handled=none
 dp:A.depth+3*k+5<recursionLimit
 un:A.units+16*k+200<cLine
theorem Room.mono {j k:Nat}{A:Around} (r:Room k A) (h:j<=k):Room j A:=⟨r.hd,by have:=r.dp; omega,by have:=r.un; omega⟩
theorem Room.deeper {k:Nat}{A:Around} (r:Room (k+1) A) (env:Env):Room k (A.deeper env):=
 ⟨r.hd,by have:=r.dp; show A.depth+1+3*k+5<_; omega,by have:=r.un; show A.units+3+16*k+200<_; omega⟩
theorem Room.in1 {k:Nat}{A:Around} (r:Room (k+1) A):Room k A.in1:=
 ⟨r.hd,by have:=r.dp; show A.depth+3*k+5<_; omega,by have:=r.un; show A.units+1+16*k+200<_; omega⟩
theorem Room.depth {k:Nat}{A:Around} (r:Room k A):A.depth<recursionLimit:=by have:=r.dp; omega
theorem Room.units {k:Nat}{A:Around} (r:Room k A):A.units+64<cLine:=by have:=r.un; omega
noncomputable def am3:TA:=fun _ H Q=>Q [] H
noncomputable def ama (ta:TE) (tr:TA):TA:=fun σ H Q=>ta σ H fun x H1=>tr σ H1 fun xs H2=>Q (x::xs) H2
section
variable {X:Cx}{e:Expr}{es:List Expr}{te:TE}{t:TA}{pos:Pos}
theorem ac0 {α:Type}:∀ (us:List α),us.length=1->∃ a,us=[a]
 | [a],_=>⟨a,rfl⟩
theorem QP {α:Type} (us:List α) (h:us.length=2):∃ a b,us=[a,b]:=by
 cases us with
 | nil=>cases h
 | cons a r=>obtain ⟨b,rfl⟩:=ac0 r (Nat.succ.inj h); exact ⟨a,b,rfl⟩
theorem afF {α:Type} (us:List α) (h:us.length=3):∃ a b c,us=[a,b,c]:=by
 cases us with
 | nil=>cases h
 | cons a r=>obtain ⟨b,c,rfl⟩:=QP r (Nat.succ.inj h); exact ⟨a,b,c,rfl⟩
theorem am4 {α:Type} (us:List α) (h:us.length=4):∃ a b c d,us=[a,b,c,d]:=by
 cases us with
 | nil=>cases h
 | cons a r=>obtain ⟨b,c,d,rfl⟩:=afF r (Nat.succ.inj h); exact ⟨a,b,c,d,rfl⟩
theorem JN:PA X [] am3:=fun _ _ _ _ H Q I h=>Calls.spliced_nil ⟨[],H,I,.nil,h⟩
theorem q0 (ha:PE X e te) (hr:PA X es t) (hs:starEach (e::es) X.env=(false,eval e X.env)::starEach es X.env:=by rfl):PA X (e::es) (ama te t):=by
 intro pos Kp s σ H Q I h
 rw [hs]
 show wpAny _ _ (spliced ((false,eval e X.env)::backTo pos (starEach es X.env))) _ _ s
 refine Calls.spliced_cons (thn (ha Kp s σ H _ I h) fun u s1 ⟨x,H1,I1,r1,q1⟩=>?_)
 exact thn (hr pos Kp s1 σ H1 _ I1 q1) fun us s2 ⟨xs,H2,I2,r2,q2⟩=>⟨x::xs,H2,I2,.cons r1 r2,q2⟩
noncomputable def am5 (t:TA):TE:=fun σ H Q=>t σ H fun xs H1=>xs.length<=sizeLine/\∀ p,H1 p=none->Q (.ref p) (upd H1 p (.tup xs))
noncomputable def am6 (t:TA):TE:=fun σ H Q=>t σ H fun xs H1=>xs.length<=sizeLine/\∀ p,H1 p=none->Q (.ref p) (upd H1 p (.lst xs))
theorem agU {x1} (h:PA X es t):PE X (.Tuple es x1 pos) (am5 t):=by
 intro Kp s σ H Q I hq
 refine wpAny_Tuple_spliced (thn (h pos Kp s σ H _ I hq) fun us s1 ⟨xs,H1,I1,r,z,q⟩=>⟨by rw [←r.length]; exact z,?_⟩)
 have hf:H1 s1.heap.objs.size=none:=I1.hok.fresh (Nat.le_refl _)
 refine ⟨.ref s1.heap.objs.size,upd H1 s1.heap.objs.size (.tup xs),I1.laid (t':=s1.toks) (fun b u e=>Heap.get?_push_of_some _ e) (Nat.le_refl _) ?_,rfl,q _ hf⟩
 exact ⟨z,us,r,⟨_,Heap.get?_push_size _ rfl,rfl,_,rfl⟩⟩
theorem ad4 (h:PA X es t):PE X (.List es pos) (am6 t):=by
 intro Kp s σ H Q I hq
 refine wpAny_List_spliced (thn (h pos Kp s σ H _ I hq) fun us s1 ⟨xs,H1,I1,r,z,q⟩=>⟨by rw [←r.length]; exact z,?_⟩)
 have hf:H1 s1.heap.objs.size=none:=I1.hok.fresh (Nat.le_refl _)
 refine ⟨.ref s1.heap.objs.size,upd H1 s1.heap.objs.size (.lst xs),I1.laid (t':=s1.toks) (fun b u e=>Heap.get?_push_of_some _ e) (Nat.le_refl _) ?_,rfl,q _ hf⟩
 exact ⟨z,us,0,r,Heap.get?_push_size _ rfl⟩
end
noncomputable abbrev Sp:=List V->Hp->VK->XK->Prop
noncomputable abbrev CXT:=List Env->Hp->Shared->XK->Value->SP0
structure Env0 (P:Program) (w:World) (K:Fg) (mg:SV) (base:Heap) (A:Around) (Ko:List Env) (s:Shared) (H:Hp):Prop where
 frames:A.frames=some Ko
 mod:Mod K mg base
 bs:∀ b o,base.get? b=some o->s.heap.get? b=some o/\H b=none
 bsz:base.objs.size<=s.heap.objs.size
 funs:s.heap.FunFrames base Ko
 frf:∀ b ∈ frs Ko,H b=none
 hok:HOk P w H s.heap
 bare:AllBare s.gens
noncomputable def CE (Ko:List Env) (P:Program) (w:World) (H:Hp) (s:Shared) (Q:VK) (u:Value) (s':Shared):Prop:=
 ∃ v H',s'.os=s.os/\AllBare s'.gens/\Un (frs Ko) [] H H' s.heap s'.heap/\HOk P w H' s'.heap/\jQ v u/\Q v H'
noncomputable def CR (CX:CXT) (Ko:List Env) (P:Program) (w:World) (H:Hp) (s:Shared) (Q:VK) (E:XK) (r:Result) (s':Shared):Prop:=
 match r with
 | .ok (.ret u)=>CE Ko P w H s Q u s'
 | .ok _=>False
 | .error e=>CX Ko H s E e s'
structure FnOk (P:Program) (w:World) (K:Fg) (mg:SV) (base:Heap) (CX:CXT) (k:Nat) (f:Addr) (fd:FuncData) (ps:List Str) (sp:Sp):Prop where
 len:∀ vs H Q E,sp vs H Q E->vs.length=ps.length
 run:∀ (A:Around) (Ko:List Env) (s:Shared) (H:Hp) (args:Args) (us:List Value) (vs:List V) (Q:VK) (E:XK),Room k A->Env0 P w K mg base A Ko s H->BindsTo s fd args (ps.zip us)->jG vs us->sp vs H Q E->
  codeAny (model P w) A (.call (.ref f) args) (CR CX Ko P w H s Q E) s
theorem FnOk.mono {P:Program}{w:World}{K:Fg}{mg:SV}{base:Heap}{CX:CXT}{j k:Nat}{f:Addr}{fd:FuncData}{ps:List Str}{sp:Sp} (F:FnOk P w K mg base CX j f fd ps sp) (h:j<=k):
  FnOk P w K mg base CX k f fd ps sp:=⟨F.len,fun A Ko s H args us vs Q E hr=>F.run A Ko s H args us vs Q E (hr.mono h)⟩
theorem FnOk.imp {P:Program}{w:World}{K:Fg}{mg:SV}{base:Heap}{CX:CXT}{k:Nat}{f:Addr}{fd:FuncData}{ps:List Str}{sp sp':Sp} (F:FnOk P w K mg base CX k f fd ps sp)
  (h:∀ vs H Q E,sp' vs H Q E->sp vs H Q E):FnOk P w K mg base CX k f fd ps sp':=
 ⟨fun vs H Q E q=>F.len vs H Q E (h _ _ _ _ q),fun A Ko s H args us vs Q E hr he hb hv hs=>F.run A Ko s H args us vs Q E hr he hb hv (h _ _ _ _ hs)⟩
theorem Env0.in1 {P:Program}{w:World}{K:Fg}{mg:SV}{base:Heap}{A:Around}{Ko:List Env}{s:Shared}{H:Hp} (e:Env0 P w K mg base A Ko s H):
  Env0 P w K mg base A.in1 Ko s H:=⟨e.frames,e.mod,e.bs,e.bsz,e.funs,e.frf,e.hok,e.bare⟩
section
variable {X:Cx}{Kp:List (Addr × Obj)}{σ:St}{H:Hp}{s s':Shared}
theorem Inv.env0 (I:Inv X Kp σ H s):Env0 X.prog X.w X.K X.mg X.base X.A X.stack s H:=
 ⟨I.ok.frames,I.ok.mod,I.bs,Nat.le_trans I.ok.bsz I.sz,I.stack,I.stkFree,I.hok,I.bare⟩
theorem Inv.after {Q:VK}{u:Value} (I:Inv X Kp σ H s) (h:CE X.stack X.prog X.w H s Q u s'):EP X Kp σ Q u s':=by
 obtain ⟨v,H',os,bare,un,hok,r,q⟩:=h
 obtain ⟨hh,g,d,t,os'⟩:=s'
 obtain rfl:os'=s.os:=os
 exact ⟨v,H',I.call (h':=hh) (g':=g) (d':=d) (t':=t) (ch:=[]) un hok bare (fun b z=>absurd z (by simp)),r,q⟩
end
noncomputable def amb (sp:Sp) (dvs:List V) (E:XK) (t:TA):TE:=fun σ H Q=>t σ H fun vs H1=>sp (vs++dvs) H1 Q E
noncomputable def QB (K:Fg) (fd:FuncData) (ps:List Str) (ds:List Value):Prop:=
 ∀ (s:Shared) (us:List Value),K.In s.heap->(us++ds).length=ps.length->BindsTo s fd ⟨us,[]⟩ (ps.zip (us++ds))
theorem QB.all {K:Fg}{fd:FuncData}{ps:List Str} (h:∀ us:List Value,us.length=ps.length->bindArgs fd ⟨us,[]⟩=pure (ps.zip us)):QB K fd ps []:=fun s us _ hl=>by
 rw [List.append_nil] at hl ⊢
 exact .of_eq (h us hl)
noncomputable def ad5 (CX:CXT) (X:Cx) (E:XK):Prop:=∀ (Kp:List (Addr × Obj)) (σ:St) (H:Hp) (s:Shared) (e:Value) (s':Shared),Inv X Kp σ H s->CX X.stack H s E e s'->X.xe e s'
section
variable {X:Cx}{CX:CXT}{k:Nat}{f C:Addr}{fd:FuncData}{ps:List Str}{sp:Sp}{dvs:List V}{ds:List Value}{E:XK}{x m:Str}{p pos apos:Pos}{e o:Expr}{es:List Expr}{ta:TE}{t:TA}
theorem akO {Kp:List (Addr × Obj)}{σ:St}{H:Hp}{s:Shared}{Q:VK}{us:List Value}{vs:List V} (F:FnOk X.prog X.w X.K X.mg X.base CX k f fd ps sp) (hr:Room k X.A) (hb:QB X.K fd ps ds) (hd:jG dvs ds) (hx:ad5 CX X E)
  (I:Inv X Kp σ H s) (r:jG vs us) (h:sp (vs++dvs) H Q E):wpAny (model X.prog X.w) X.A (call (.ref f) us) (EP X Kp σ Q) X.xe s:=by
 have r2:jG (vs++dvs) (us++ds):=r.append hd
 have hl:(us++ds).length=ps.length:=by rw [←r2.length]; exact F.len _ _ _ _ h
 refine wpAny_call (codeAny_mono (F.run X.A X.stack s H ⟨us,[]⟩ (us++ds) (vs++dvs) Q E hr I.env0 (hb s us I.kIn hl) r2 h) fun r s' hq=>?_)
 cases r with
 | error e=>exact hx Kp σ H s e s' I hq
 | ok fl=>
  cases fl with
  | ret u=>exact I.after hq
  | next=>exact False.elim hq
  | brk=>exact False.elim hq
  | cont=>exact False.elim hq
theorem aiQ (F:FnOk X.prog X.w X.K X.mg X.base CX k f fd ps sp) (hr:Room k X.A) (hg:Gl X x) (hm:X.mg x=some (.ref f)) (hk:PySem.W.keepIn X.K (.ref f)=true) (hb:QB X.K fd ps ds) (hd:jG dvs ds) (hx:ad5 CX X E)
  (ha:PA X (e::es) t) (hdb:(x == ("__debug__":Str))=false:=by decide) (he:starEach (e::es) X.env=(false,eval e X.env)::starEach es X.env:=by rfl) (hpl:(backTo pos (starEach es X.env)).any (·.1)=false:=by rfl):
  PE X (.Call (.Name x p) (e::es) [] pos) (amb sp dvs E t):=by
 intro Kp s σ H Q I h
 refine wpAny_Call_Name_kw (ab6 I hg hm ?_ hdb)
 refine PySem.W.callWith_K (h₀:=X.base) I.ok.mod.kin hk (thn (ha pos Kp s σ H _ I h) fun us s1 ⟨vs,H1,I1,r,q⟩=>⟨I1.kIn,?_⟩) he hpl
 exact akO F hr hb hd hx I1 r q
structure Mk (K:Fg) (C f:Addr):Prop where
 makes:PySem.W.makesIn K C=true
 init:PySem.W.findIn K (.ref C) "__init__"=some (some (.ref f))
 fn:PySem.W.isFn K (.ref f)=true
 kp:PySem.W.keepIn K (.ref C)=true
end
section
variable {X:Cx}{CX:CXT}{k:Nat}{f C:Addr}{fd:FuncData}{ps ks:List Str}{sp:Sp}{E:XK}{x m:Str}{p pos apos kpos:Pos}{e o:Expr}{es:List Expr}{kws:List Keyword}{te ta:TE}{t tk:TA}{nm:Option Str}
structure KBinds (K:Fg) (fd:FuncData) (ps ks:List Str) (g:List Value->List Value->List Value) (gV:List V->List V->List V):Prop where
 to:∀ (s:Shared) (us ws:List Value),K.In s.heap->(g us ws).length=ps.length->BindsTo s fd ⟨us,ks.zip ws⟩ (ps.zip (g us ws))
 rel:∀ {vs:List V} {us:List Value} {zs:List V} {ws:List Value},jG vs us->jG zs ws->jG (gV vs zs) (g us ws)
variable {g:List Value->List Value->List Value}{gV:List V->List V->List V}
end
structure FnScope (N P:List Str) (sc:Scope):Prop where
 kind:sc.kind= .function
 co:sc.isCoroutine=false
 gen:sc.isGenerator=false
 nd:N.Nodup
 pre:N.take P.length=P
 par:∀ x ∈ P,sc.names.lookup x=some .local ∨ sc.names.lookup x=some .cell
 nofree:∀ y ∈ sc.names,y.2 ≠ .free
theorem abo {kindOf:Str->Option NameKind}{x:Str}:∀ {binds:List (Str × Value)}{m:SV},(∀ v,(x,v) ∉ binds)->bindL kindOf binds m x=m x
 | [],_,_=>rfl
 | (n,v)::r,m,h=>by
  unfold bindL
  rw [abo fun w hw=>h w (List.mem_cons_of_mem _ hw)]
  split
  ·have:x ≠ n:=by rintro rfl; exact h v List.mem_cons_self
   simp [this]
  ·rfl
theorem abp {kindOf:Str->Option NameKind}{x:Str}:∀ {binds:List (Str × Value)}{m:SV},(∀ v,(x,v) ∉ binds)->bindC kindOf binds m x=m x
 | [],_,_=>rfl
 | (n,v)::r,m,h=>by
  unfold bindC
  rw [abp fun w hw=>h w (List.mem_cons_of_mem _ hw)]
  split
  ·rfl
  ·have:x ≠ n:=by rintro rfl; exact h v List.mem_cons_self
   simp [this]
theorem abq {kindOf:Str->Option NameKind}{x:Str}{v:Value}:∀ {P:List Str}{vs:List Value}{i:Nat}{m:SV},P.Nodup->P[i]?=some x->vs[i]?=some v->kindOf x=some .local->
  bindL kindOf (P.zip vs) m x=some v
 | [],_,_,_,_,h,_,_=>by simp at h
 | _::_,[],_,_,_,_,h,_=>by simp at h
 | p::P,w::vs,0,m,nd,h1,h2,hk=>by
  simp at h1 h2; subst h1; subst h2
  show bindL kindOf ((p,w)::P.zip vs) m p=_
  unfold bindL
  rw [abo fun v hv=>(List.nodup_cons.mp nd).1 (List.of_mem_zip hv).1,if_pos hk]
  simp
 | p::P,w::vs,i+1,m,nd,h1,h2,hk=>by
  show bindL kindOf ((p,w)::P.zip vs) m x=_
  unfold bindL
  exact abq (i:=i) (List.nodup_cons.mp nd).2 (by simpa using h1) (by simpa using h2) hk
theorem abr {kindOf:Str->Option NameKind}{x:Str}{v:Value}:∀ {P:List Str}{vs:List Value}{i:Nat}{m:SV},P.Nodup->P[i]?=some x->vs[i]?=some v->kindOf x ≠ some .local->
  bindC kindOf (P.zip vs) m x=some v
 | [],_,_,_,_,h,_,_=>by simp at h
 | _::_,[],_,_,_,_,h,_=>by simp at h
 | p::P,w::vs,0,m,nd,h1,h2,hk=>by
  simp at h1 h2; subst h1; subst h2
  show bindC kindOf ((p,w)::P.zip vs) m p=_
  unfold bindC
  rw [abp fun v hv=>(List.nodup_cons.mp nd).1 (List.of_mem_zip hv).1,if_neg hk]
  simp
 | p::P,w::vs,i+1,m,nd,h1,h2,hk=>by
  show bindC kindOf ((p,w)::P.zip vs) m x=_
  unfold bindC
  exact abr (i:=i) (List.nodup_cons.mp nd).2 (by simpa using h1) (by simpa using h2) hk
noncomputable def J3 (N:List Str) (vs:List V):St:=vs.map some++List.replicate (N.length - vs.length) none
noncomputable def aah (CX:CXT) (P:Program) (w:World) (K:Fg) (mg:SV) (base:Heap) (N:List Str) (qual:Str) (scope:Scope) (f:Addr) (cd:Value) (A:Around) (Ko:List Env) (s:Shared) (H:Hp) (E:XK):Cx where
 prog:=P
 w:=w
 K:=K
 mg:=mg
 base:=base
 A:=A.deeper (envOfC qual scope s.heap.objs.size f cd)
 N:=N
 s₀:=s
 H₀:=H
 env:=envOfC qual scope s.heap.objs.size f cd
 Ko:=Ko
 stack:=envOfC qual scope s.heap.objs.size f cd::Ko
 ex:=[]
 calm:=true
 fn:=fun _=>true
 pn:=[]
 xe:=fun e s'=>wpAny (model P w) (A.deeper (envOfC qual scope s.heap.objs.size f cd)) (leaving (envOfC qual scope s.heap.objs.size f cd) e) (fun _ s''=>CX Ko H s E e s'') (fun e' s''=>CX Ko H s E e' s'') s'
theorem ac1 {sc:Scope}{n:Nat}{x:Str} (h:sc.names.lookup x=some .cell):∃ c,(cellsFrom n sc.names []).lookup x=some c:=by
 have q:=PySem.W.cellsFrom_some sc.names n [] (.inl h)
 exact Option.isSome_iff_exists.mp q
theorem afG {CX:CXT}{P:Program}{w:World}{K:Fg}{mg:SV}{base:Heap}{N ps:List Str}{qual:Str}{scope:Scope}{f:Addr}{cd:Value}{A:Around}{Ko:List Env}{s s1:Shared}{H:Hp}{E:XK}{us:List Value}{vs:List V}
  (S:FnScope N ps scope) (hd:A.handled=none) (e0:Env0 P w K mg base A Ko s H) (hl:vs.length=ps.length) (r:jG vs us)
  (x:InCallC s s.heap.objs.size (bindL (envOfC qual scope s.heap.objs.size f cd).kindOf (ps.zip us) fun _=>none) (cellsFrom (s.heap.objs.size+1) scope.names []) (bindC (envOfC qual scope s.heap.objs.size f cd).kindOf (ps.zip us) fun _=>none) s1):
  Inv (aah CX P w K mg base N qual scope f cd A Ko s H E) [] (J3 N vs) H s1:=by
 have hpl:ps.length<=N.length:=by have:=congrArg List.length S.pre; rw [List.length_take] at this; omega
 obtain ⟨h1,tk,rfl,hk⟩:=x.done
 have noA:∀ b:Addr,b ∉ (aah CX P w K mg base N qual scope f cd A Ko s H E).ex:=fun b z=>absurd (show b ∈ ([]:List Addr) from z) (by simp)
 refine ⟨⟨e0.mod,S.kind,rfl,rfl,Nat.le_refl _,fun y z c h1 h2=>?_,fun y hy=>?_,fun y c _ h=>?_,fun _=>hd,Around.frames_deeper e0.frames,.inr ⟨rfl,rfl⟩,fun b z=>absurd z (noA b),e0.bs,e0.bsz,fun b _ _=>noA b,fun b z=>absurd z (noA b),e0.funs,e0.frf⟩,
  rfl,e0.bare,Un.kept hk,⟨_,x.toInCall.ns,fun i y v h1 h2 h3=>?_⟩,fun y c h=>⟨_,x.cell y c h⟩,e0.hok.fresh (Nat.le_refl _),fun y c h=>?_,fun p hp=>absurd (show p ∈ ([]:List (Addr × Obj)) from hp) (by simp),e0.hok.kept hk,?_⟩
 ·exact name_of_addr x.apart (PySem.mem_of_lookup h1) (PySem.mem_of_lookup h2)
 ·have hy:scope.names.lookup y=some .cell ∨ scope.names.lookup y=some .free:=hy
  rcases hy with hy | hy
  ·exact ac1 hy
  ·exact absurd rfl (S.nofree _ (PySem.mem_of_lookup hy))
 ·exact Nat.le_of_lt (x.above y c (PySem.mem_of_lookup h))
 ·have hi:i<vs.length:=by
   unfold J3 at h2
   by_cases hi:i<vs.length
   ·exact hi
   ·rw [List.getElem?_append_right (by simpa using hi)] at h2
    rw [List.getElem?_replicate] at h2
    split at h2 <;> cases h2
  have ha:vs[i]?=some v:=by
   unfold J3 at h2
   rw [List.getElem?_append_left (by simpa using hi),List.getElem?_map] at h2
   cases e:vs[i]? with
   | none=>rw [e] at h2; cases h2
   | some a=>rw [e] at h2; cases h2; rfl
  obtain ⟨u,hu,rv⟩:=r.get ha
  have hp:ps[i]?=some y:=by
   rw [←S.pre,List.getElem?_take_of_lt (by omega)]; exact h1
  have ndP:ps.Nodup:=by rw [←S.pre]; exact S.nd.sublist (List.take_sublist _ _)
  refine ⟨u,rv,?_⟩
  rcases S.par y (List.mem_of_getElem? hp) with k | k
  ·exact .inl ⟨k,abq ndP hp hu k⟩
  ·obtain ⟨c,e⟩:=ac1 (n:=s.heap.objs.size+1) k
   refine .inr ⟨.inl k,c,e,?_⟩
   have q:=x.cell y c e
   rw [abr ndP hp hu (by show scope.names.lookup y ≠ _; rw [k]; decide)] at q
   exact q
 ·exact e0.hok.fresh (Nat.le_of_lt (x.above y c (PySem.mem_of_lookup h)))
 ·unfold J3
  show _=N.length
  rw [List.length_append,List.length_map,List.length_replicate]
  omega
theorem amc {CX:CXT}{P:Program}{w:World}{K:Fg}{mg:SV}{base:Heap}{k:Nat}{f:Addr}{name qual:Str}{params:Arguments}{body:List Stmt}{scope:Scope}{dV kV doc pm Kc ct oc:Value}{an od:Option Addr}
  {osl:Array (Option Value)} {N ps:List Str} {sp:Sp} (lk:K.lookup f=some ⟨oc,od,.func (PySem.W.fnOf name qual params body scope dV kV doc pm an Kc ct),osl⟩) (hcd:PySem.W.codeIn K Kc qual=true) (S:FnScope N ps scope)
  (len:∀ vs H Q E,sp vs H Q E->vs.length=ps.length)
  (hbody:∀ (A:Around) (Ko:List Env) (s:Shared) (H:Hp) (vs:List V) (Q:VK) (E:XK),Room k (A.deeper (envOfC qual scope s.heap.objs.size f Kc))->sp vs H Q E->
   ∃ t,PSs (aah CX P w K mg base N qual scope f Kc A Ko s H E) body t/\t { nx:=fun _ H'=>Q .non H',rt:=Q } (J3 N vs) H):
  FnOk P w K mg base CX (k+1) f (PySem.W.fnOf name qual params body scope dV kV doc pm an Kc ct) ps sp:=by
 refine ⟨len,fun A Ko s H args us vs Q E hr e0 hb r hsp=>?_⟩
 have hl:=len _ _ _ _ hsp
 have KX:K.In s.heap:=e0.mod.kin.keeps fun b o e=>(e0.bs b o e).1
 have lim:s.heap.NoLimit:=e0.mod.nolimit.keeps fun b o e=>(e0.bs b o e).1
 have hkind:∀ y ∈ ps.zip us,scope.names.lookup y.1=some .local ∨ (scope.names.lookup y.1=some .cell/\((cellsFrom (s.heap.objs.size+1) scope.names []).lookup y.1).isSome=true):=fun ⟨n,v⟩ hy=>by
  rcases S.par n (List.of_mem_zip hy).1 with q | q
  ·exact .inl q
  ·exact .inr ⟨q,PySem.W.cellsFrom_some _ _ _ (.inl q)⟩
 refine codeAny_call_function hr.depth (KX _ _ lk) rfl S.co S.gen rfl (PySem.W.codeRec_of KX hcd) (hb _ _ _ _ ?_)
 refine wpAny_newFunctionEnv_cells S.kind hkind fun env he s1 x=>?_
 subst he
 refine ⟨lim.keeps x.toInCall.keep,codeAny_func ?_⟩
 obtain ⟨t,ht,hq⟩:=hbody A Ko s H vs Q E (hr.deeper _) hsp
 have I:Inv (aah CX P w K mg base N qual scope f Kc A Ko s H E) [] (J3 N vs) H s1:=afG S hr.hd e0 hl r x
 refine wpAny_mono (ht [] s1 (J3 N vs) H _ I hq) (fun fl s' hs=>?_) fun e s' hs=>hs
 have fin:∀ {σ':St} {H':Hp} {v:V} {u:Value},Inv (aah CX P w K mg base N qual scope f Kc A Ko s H E) [] σ' H' s'->jQ v u->Q v H'->CE Ko P w H s Q u s':=
  fun {σ' H' v u} J rv q=>⟨v,H',J.os,J.bare,J.base,J.hok,rv,q⟩
 cases fl with
 | ret u=>
  obtain ⟨v,σ',H',J,rv,q⟩:=hs
  exact fin J rv q
 | next=>
  obtain ⟨σ',H',J,q⟩:=hs
  exact fin (v:=V.non) (u:=Value.none) J rfl q
 | brk=>
  obtain ⟨_,_,_,q⟩:=hs
  exact False.elim q
 | cont=>
  obtain ⟨_,_,_,q⟩:=hs
  exact False.elim q
section
variable {X:Cx}{x:Str}{p pos:Pos}{e:Expr}{es:List Expr}{t:TA}{id T:String}{r:List V->Hp->VK->Prop}
noncomputable def tCB (r:List V->Hp->VK->Prop) (t:TA):TE:=fun σ H Q=>t σ H fun vs H1=>r vs H1 Q
theorem aai (hc:zK X (.builtin id) r) (hg:Gl X x) (hm:X.mg x=none) (hv:bootBuiltins x=some (.builtin id)) (ha:PA X (e::es) t) (hn:x ≠ "__name__":=by decide) (hdb:(x == ("__debug__":Str))=false:=by decide)
  (he:starEach (e::es) X.env=(false,eval e X.env)::starEach es X.env:=by rfl) (hpl:(backTo pos (starEach es X.env)).any (·.1)=false:=by rfl):PE X (.Call (.Name x p) (e::es) [] pos) (tCB r t):=by
 intro Kp s σ H Q I h
 refine wpAny_Call_Name_kw (QF I hg hm hv ?_ hn hdb)
 exact PyProof.Rows.callWith_builtin1 (thn (ha pos Kp s σ H _ I h) fun us s1 ⟨vs,H1,I1,r1,q1⟩=>hc Kp s1 σ H1 vs us Q I1 r1 q1) he hpl
theorem afH (hc:zK X (.type T) r) (hg:Gl X x) (hm:X.mg x=none) (hv:bootBuiltins x=some (.type T)) (ha:PA X (e::es) t) (hn:x ≠ "__name__":=by decide) (hdb:(x == ("__debug__":Str))=false:=by decide)
  (he:starEach (e::es) X.env=(false,eval e X.env)::starEach es X.env:=by rfl) (hpl:(backTo pos (starEach es X.env)).any (·.1)=false:=by rfl):PE X (.Call (.Name x p) (e::es) [] pos) (tCB r t):=by
 intro Kp s σ H Q I h
 refine wpAny_Call_Name_kw (QF I hg hm hv ?_ hn hdb)
 exact PyProof.Rows.callWith_type1 (thn (ha pos Kp s σ H _ I h) fun us s1 ⟨vs,H1,I1,r1,q1⟩=>hc Kp s1 σ H1 vs us Q I1 r1 q1) he hpl
end
end L2
namespace HT
open PySem PyProof.Rows
section
open PySem.SeqAt
open PySem.AutoSeq1 (wpAny_loadPart')
open PySem.MeetsSeq PySem.MeetsSeq2 PySem.MeetsSeq3
end
section
variable {prog:Program}{w:World}{A:Around}{E:Value->SP0}{s:Shared}
theorem cat_tup {t b:Addr}{vs ws:List Value}{Q:Value->SP0} (ht:IsTup s.heap t vs.toArray) (hb:IsTup s.heap b ws.toArray) (hv:vs ≠ [])
  (h1:ws=[]->Q (.ref t) s) (h2:ws ≠ []->Q (.ref s.heap.objs.size) { s with heap:=s.heap.push { cls:= .type "tuple",data:= .seq (vs++ws).toArray } })
  (hsz:vs.length+ws.length<=sizeLine):wpAny (model prog w) A (binaryOp .Add (.ref t) (.ref b)) Q E s:=by
 obtain ⟨⟨cls,dd,data,sl⟩,ho,hc,n,hd⟩:=id ht
 obtain ⟨⟨cls2,dd2,data2,sl2⟩,ho2,hc2,n2,hd2⟩:=id hb
 simp only at hc hd hc2 hd2
 subst hc hd hc2 hd2
 have e:vs.toArray++ws.toArray=(vs++ws).toArray:=by simp
 by_cases hw:ws=[]
 ·exact concat_meets ⟨_,ho,rfl⟩ ⟨_,ho2,rfl⟩ noFill_tuple_add seq_tuple_add PySem.F.slot_tuple_add PySem.F.entry_tuple_add (PySem.F.args_tuple_add_2 _ _)
   (tuple_addW1 t b vs.toArray ws.toArray n n2 dd dd2 sl sl2 (by simpa using hv) (by simp [hw])) ⟨ho,ho2,h1 hw⟩
 ·refine concat_meets ⟨_,ho,rfl⟩ ⟨_,ho2,rfl⟩ noFill_tuple_add seq_tuple_add PySem.F.slot_tuple_add PySem.F.entry_tuple_add (PySem.F.args_tuple_add_2 _ _)
   (tuple_addW2 t b vs.toArray ws.toArray n n2 dd dd2 sl sl2 (by simpa using hv) (by simpa using hw) (by rw [List.size_toArray,List.size_toArray]; exact hsz)) ⟨ho,ho2,?_⟩
  rw [e]
  exact h2 hw
noncomputable def sIx (n d:Nat):Option Int->Nat
 | none=>d
 | some v=>if v<0 then (v+(n:Int)).toNat else min v.toNat n
theorem sIx_none (n d:Nat):sIx n d none=d:=rfl
theorem sIx_nat (n d k:Nat):sIx n d (some (k:Int))=min k n:=by
 show (if (k:Int)<0 then ((k:Int)+(n:Int)).toNat else min (k:Int).toNat n)=min k n
 rw [if_neg (by omega),Int.toNat_natCast]
theorem akP (n d:Nat) (hd:d<=n) (o:Option Int):sIx n d o<=n:=by
 cases o with
 | none=>exact hd
 | some v=>
  show (if v<0 then (v+(n:Int)).toNat else min v.toNat n)<=n
  by_cases hv:v<0
  ·rw [if_pos hv]; omega
  ·rw [if_neg hv]; exact Nat.min_le_right _ _
theorem aeP (v:Int) (n d:Nat):(if v<0 then max (v+(n:Int)) 0 else min v (n:Int))=((sIx n d (some v):Nat):Int):=by
 show (if v<0 then max (v+(n:Int)) 0 else min v (n:Int))=(((if v<0 then (v+(n:Int)).toNat else min v.toNat n):Nat):Int)
 by_cases hv:v<0
 ·simp only [if_pos hv]; omega
 ·simp only [if_neg hv]; omega
theorem ad6 (lo hi:Option Int) (n:Nat):Builtin.Slice.sliceAdjust lo hi 1 (n:Int)=(((sIx n 0 lo:Nat):Int),((sIx n n hi:Nat):Int)):=by
 have h1:¬ ((1:Int)<0):=by omega
 unfold Builtin.Slice.sliceAdjust
 simp only [h1,zzN]
 refine Prod.ext ?_ ?_
 ·cases lo with
  | none=>rfl
  | some v=>exact aeP v n 0
 ·cases hi with
  | none=>rfl
  | some v=>exact aeP v n n
theorem ad7 (i j:Nat):Builtin.Slice.slicePlaces (i:Int) (j:Int) 1=j - i:=by
 unfold Builtin.Slice.slicePlaces
 have h1:(1:Int) > 0:=by omega
 simp only [h1,zzM,Int.ediv_one]
 split <;> omega
theorem aaj {v:Value}{o:Option Int}{Q:Option Int->SP0} (p:IsPart v o) (h:Q o s):wpAny (model prog w) A (Builtin.Slice.slicePartIndex v) Q E s:=by
 cases p with
 | none=>exact slicePart_none h
 | int i t=>exact slicePart_int h
theorem sliceApplied_gen {sl:Addr}{vl vu:Value}{lo hi:Option Int}{n:Nat}{Q:Int × Int × Nat->SP0} (hs:s.heap.IsSliceOf sl vl vu .none) (pl:IsPart vl lo) (pu:IsPart vu hi)
  (h:Q (((sIx n 0 lo:Nat):Int),1,sIx n n hi - sIx n 0 lo) s):wpAny (model prog w) A (Builtin.Slice.sliceApplied (.ref sl) (pure (n:Int))) Q E s:=by
 obtain ⟨os,hos,hcs,hds⟩:=id hs
 unfold Builtin.Slice.sliceApplied Builtin.Slice.sliceFields
 refine wpAny_bind (wpAny_bind (wpAny_field hos hds (x:=vl) rfl (wpAny_bind (wpAny_field hos hds (x:=vu) rfl (wpAny_bind (wpAny_field hos hds (x:= .none) rfl (wpAny_pure ?_)))))))
 refine wpAny_bind (slicePart_none ?_)
 show wpAny _ _ (if ((1:Int) == 0)=true then _ else _) _ _ s
 rw [if_neg (by decide)]
 refine wpAny_bind (aaj pl (wpAny_bind (aaj pu (wpAny_bind (wpAny_pure ?_)))))
 show wpAny _ _ (match Builtin.Slice.sliceAdjust lo hi 1 (n:Int) with | (lo,hi)=>pure (lo,(1:Int),Builtin.Slice.slicePlaces lo hi 1)) _ _ s
 rw [ad6 lo hi n]
 show wpAny _ _ (pure (((sIx n 0 lo:Nat):Int),(1:Int),Builtin.Slice.slicePlaces ((sIx n 0 lo:Nat):Int) ((sIx n n hi:Nat):Int) 1)) _ _ s
 rw [ad7]
 exact wpAny_pure h
theorem agV (xs:Array Value) (i k:Nat):((List.range k).filterMap fun (m:Nat)=>xs[((i:Int)+(m:Int)*1).toNat]?).toArray=((xs.toList.drop i).take k).toArray:=by
 have e:(fun (m:Nat)=>xs[((i:Int)+(m:Int)*1).toNat]?)=fun m=>xs[i+m]?:=by
  funext m
  have:((i:Int)+(m:Int)*1).toNat=i+m:=by omega
  rw [this]
 rw [e]
 have:=pick_run xs i k
 rw [List.filterMap_map] at this
 have e2:((fun x=>xs[x]?) ∘ fun x=>i+x)=fun m=>xs[i+m]?:=rfl
 rw [e2] at this
 rw [this]
theorem getItem_tuple_cut {t sl:Addr}{items:Array Value}{vl vu:Value}{lo hi:Option Int}{Q:Value->SP0} (ht:IsTup s.heap t items) (hs:s.heap.IsSliceOf sl vl vu .none) (pl:IsPart vl lo) (pu:IsPart vu hi)
  (hw:¬ (sIx items.size 0 lo=0/\sIx items.size items.size hi=items.size))
  (h:Q (.ref s.heap.objs.size) { s with heap:=s.heap.push { cls:= .type "tuple",data:= .seq ((items.toList.drop (sIx items.size 0 lo)).take (sIx items.size items.size hi - sIx items.size 0 lo)).toArray } })
  (hsz:items.size<=sizeLine):wpAny (model prog w) A (getItem (.ref t) (.ref sl)) Q E s:=by
 have htake:sizeOk (.seq ((items.toList.drop (sIx items.size 0 lo)).take (sIx items.size items.size hi - sIx items.size 0 lo)).toArray):=by
  show ((items.toList.drop (sIx items.size 0 lo)).take (sIx items.size items.size hi - sIx items.size 0 lo)).toArray.size<=sizeLine
  rw [List.size_toArray,List.length_take,List.length_drop,Array.length_toList]
  omega
 have hj:sIx items.size items.size hi<=items.size:=akP _ _ (Nat.le_refl _) hi
 obtain ⟨os,hos,hcs,hds⟩:=id hs
 have hTs:s.TypeIs (.ref sl) "slice":=⟨os,hos,hcs⟩
 unfold getItem
 try with_reducible refine wpAny_holding ?_
 first | refine wpAny_bind (wpAny_pure ?_) | skip
 refine wpAny_bind (wpAny_sequenceKey ht.typeIs (by decide) ?_)
 refine wpAny_bind (wpAny_callSpecial?_slot (name:=Str.ofString "__getitem__") ht.typeIs PyProof.Rows.slot_tuple_getitem
  (wpAny_call_entry PyProof.Rows.slot_tuple_getitem ht.typeIs entry_tuple_getitem ?_ (args_tuple_getitem _ _)))
 show wpAny _ _ (Builtin.Tuple.tupleItemsOf (.ref t) >>= _) _ _ s
 refine wpAny_bind (tupleItemsOf_ ht ?_)
 refine wpAny_bind (wpAny_typeOf hTs ?_)
 rw [if_pos (by decide)]
 refine wpAny_bind (sliceApplied_gen hs pl pu ?_)
 have hno:¬ ((((sIx items.size 0 lo:Nat):Int) == 0 && (1:Int) == 1 && (sIx items.size items.size hi - sIx items.size 0 lo) == items.size)=true):=by
  intro q
  rw [Bool.and_eq_true,Bool.and_eq_true] at q
  have q1:((sIx items.size 0 lo:Nat):Int)=0:=eq_of_beq q.1.1
  have q2:sIx items.size items.size hi - sIx items.size 0 lo=items.size:=eq_of_beq q.2
  exact hw ⟨by omega,by omega⟩
 show wpAny _ _ (if (((sIx items.size 0 lo:Nat):Int) == 0 && (1:Int) == 1 && (sIx items.size items.size hi - sIx items.size 0 lo) == items.size)=true then _ else _) _ _ s
 rw [if_neg hno,agV]
 first
  | exact wpAny_bind (m:=Builtin.Tuple.tupleExact _) (wpAny_newObj_type (wpAny_pure ⟨_,rfl,wpAny_pure h⟩) htake)
  | exact wpAny_bind (m:=Builtin.Tuple.tupleExact _) (wpAny_newObj_type (wpAny_bind (wpAny_pure (wpAny_pure ⟨_,rfl,wpAny_pure h⟩))) htake)
  | exact wpAny_bind (wpAny_bind (m:=Builtin.Tuple.tupleExact _) (wpAny_newObj_type (wpAny_pure (wpAny_pure ⟨_,rfl,wpAny_pure h⟩)) htake))
  | exact wpAny_bind (wpAny_bind (m:=Builtin.Tuple.tupleExact _) (wpAny_newObj_type (wpAny_pure ⟨_,rfl,wpAny_pure h⟩) htake))
end
end HT
namespace L2
open PySem PySem.Spec PyProof.Rows
noncomputable abbrev TO:=St->Hp->(Option Int->Hp->Prop)->Prop
noncomputable def PO (X:Cx) (e:Option Expr) (t:TO):Prop:=
 ∀ (Kp:List (Addr × Obj)) (s:Shared) (σ:St) (H:Hp) (Q:Option Int->Hp->Prop),Inv X Kp σ H s->t σ H Q->
  wpAny (model X.prog X.w) X.A (evalPart e X.env) (fun u s'=>∃ o H',Inv X Kp σ H' s'/\IsPart u o/\Q o H') X.xe s
noncomputable def aiR:TO:=fun _ H Q=>Q none H
noncomputable def amd (t:TE):TO:=fun σ H Q=>t σ H fun x H1=>∃ i,x= .int i/\Q (some i) H1
section
variable {X:Cx}{e:Expr}{te:TE}{lo hi:Option Expr}{tl th:TO}{pos p2:Pos}
theorem Z4:PO X none aiR:=by
 intro Kp s σ H Q I h
 rw [evalPart_none]
 exact wpAny_pure ⟨none,H,I,.none,h⟩
theorem Z5 (h:PE X e te):PO X (some e) (amd te):=by
 intro Kp s σ H Q I hw
 rw [evalPart_some]
 refine thn (h Kp s σ H _ I hw) fun u s1 ⟨x,H1,I1,r1,q1⟩=>?_
 obtain ⟨i,rfl,q⟩:=q1
 obtain ⟨t,rfl⟩:=r1
 exact ⟨some i,H1,I1,.int i t,q⟩
noncomputable def SlR (X:Cx) (r:V->Option Int->Option Int->Hp->VK->Prop):Prop:=
 ∀ (Kp:List (Addr × Obj)) (s:Shared) (σ:St) (H:Hp) (x:V) (v vl vu:Value) (lo hi:Option Int) (sl:Addr) (Q:VK),Inv X Kp σ H s->jQ x v->s.heap.IsSliceOf sl vl vu .none->IsPart vl lo->IsPart vu hi->r x lo hi H Q->
  ∃ T id,typeLookup (.type T) "__getitem__"=pure (some (.builtin id))/\s.TypeIs v T/\wpAny (model X.prog X.w) X.A (getItem v (.ref sl)) (EP X Kp σ Q) X.xe s
theorem SlR.or {r r':V->Option Int->Option Int->Hp->VK->Prop} (h:SlR X r) (h':SlR X r'):SlR X (fun x lo hi H Q=>r x lo hi H Q ∨ r' x lo hi H Q):=by
 intro Kp s σ H x v vl vu lo hi sl Q I rx hs pl pu q
 rcases q with q | q
 ·exact h Kp s σ H x v vl vu lo hi sl Q I rx hs pl pu q
 ·exact h' Kp s σ H x v vl vu lo hi sl Q I rx hs pl pu q
noncomputable def tSl (r:V->Option Int->Option Int->Hp->VK->Prop) (te:TE) (tl th:TO):TE:=fun σ H Q=>te σ H fun x H1=>tl σ H1 fun l H2=>th σ H2 fun u H3=>r x l u H3 Q
theorem QQ {r:V->Option Int->Option Int->Hp->VK->Prop} (hr:SlR X r) (he:PE X e te) (hl:PO X lo tl) (hu:PO X hi th):PE X (.Subscript e (.Slice lo hi none p2) pos) (tSl r te tl th):=by
 intro Kp s σ H Q I h
 refine Subscript_ (thn (he Kp s σ H _ I h) fun v s1 ⟨x,H1,I1,r1,q1⟩=>?_)
 refine wpAny_Slice (thn (hl Kp s1 σ H1 _ I1 q1) fun vl s2 ⟨l,H2,I2,pl,q2⟩=>thn (hu Kp s2 σ H2 _ I2 q2) fun vu s3 ⟨u,H3,I3,pu,q3⟩=>?_)
 rw [evalPart_none]
 refine wpAny_pure ?_
 have I4:Inv X Kp σ H3 { s3 with heap:=s3.heap.push { cls:= .type "slice",data:= .fields #[vl,vu,.none] } }:=I3.kept (t':=s3.toks) fun b ob q=>Heap.get?_push_of_some _ q
 obtain ⟨T,id,hT,ht,hg⟩:=hr Kp { s3 with heap:=s3.heap.push { cls:= .type "slice",data:= .fields #[vl,vu,.none] } } σ H3 x v vl vu l u s3.heap.objs.size Q I4 r1 (Heap.IsSliceOf.new ..) pl pu q3
 show wpAny (model X.prog X.w) X.A (subscriptTail e (.Slice lo hi none p2) v (.ref s3.heap.objs.size)) (EP X Kp σ Q) X.xe { s3 with heap:=s3.heap.push { cls:= .type "slice",data:= .fields #[vl,vu,.none] } }
 exact tail_any (ops:=[.ref s3.heap.objs.size,v]) ht hT hg (by with_unfolding_all rfl)
noncomputable def QR (xs:List V) (lo hi:Option Int):List V:=(xs.drop (HT.sIx xs.length 0 lo)).take (HT.sIx xs.length xs.length hi - HT.sIx xs.length 0 lo)
theorem ZH (xs:List V) (lo hi:Option Int):(QR xs lo hi).length<=xs.length:=by
 unfold QR
 rw [List.length_take,List.length_drop]
 omega
noncomputable def ame (K:Fg):V->Option Int->Option Int->Hp->VK->Prop:=fun x lo hi H Q=>∃ a xs,x= .ref a/\SqT K H a xs/\
 ¬ (HT.sIx xs.length 0 lo=0/\HT.sIx xs.length xs.length hi=xs.length)/\∀ p,H p=none->Q (.ref p) (upd H p (.tup (QR xs lo hi)))
theorem agW:SlR X (ame X.K):=by
 intro Kp s σ H x v vl vu lo hi sl Q I rx hs pl pu h
 obtain ⟨a,xs,rfl,hx,hw,q⟩:=h
 cases rx
 obtain ⟨its,r,ht,hz⟩:=I.tuple hx
 have hlen:its.toArray.size=xs.length:=by rw [List.size_toArray]; exact r.length.symm
 refine ⟨"tuple",_,PyProof.Rows.slot_tuple_getitem.lookup,ht.typeIs,?_⟩
 refine HT.getItem_tuple_cut ht hs pl pu (by rw [hlen]; exact hw) ?_ (by rw [hlen]; exact hz)
 rw [hlen]
 refine ⟨.ref s.heap.objs.size,_,I.laid (t':=s.toks) (o:= .tup (QR xs lo hi)) (fun b ob q=>Heap.get?_push_of_some _ q) (Nat.le_refl _) ?_,rfl,q _ (I.hok.fresh (Nat.le_refl _))⟩
 exact ⟨Nat.le_trans (ZH xs lo hi) hz,_,(r.drop (HT.sIx xs.length 0 lo)).take (HT.sIx xs.length xs.length hi - HT.sIx xs.length 0 lo),IsTup.new _ _⟩
noncomputable def amf (K:Fg):R2:=fun x y H Q=>∃ a b xs ys,x= .ref a/\y= .ref b/\SqT K H a xs/\SqT K H b ys/\xs ≠ []/\xs.length+ys.length<=sizeLine/\
 (ys=[]->Q (.ref a) H)/\(ys ≠ []->∀ p,H p=none->Q (.ref p) (upd H p (.tup (xs++ys))))
theorem jG.nil_iff {xs:List V}{us:List Value} (r:jG xs us):us=[] ↔ xs=[]:=by
 cases r with
 | nil=>simp
 | cons _ _=>simp
theorem aiS:OpR X (binaryOp .Add) (amf X.K):=by
 intro Kp s σ H x y v u Q I rx ry h
 obtain ⟨a,b,xs,ys,rfl,rfl,ha,hb,hx,hz,q1,q2⟩:=h
 cases rx
 cases ry
 obtain ⟨its,r1,p1,_⟩:=I.tuple ha
 obtain ⟨its2,r2,p2,_⟩:=I.tuple hb
 refine HT.cat_tup p1 p2 (fun z=>hx (r1.nil_iff.mp z)) (fun z=>⟨.ref a,H,I,rfl,q1 (r2.nil_iff.mp z)⟩) (fun z=>?_) (by rw [←r1.length,←r2.length]; exact hz)
 refine ⟨.ref s.heap.objs.size,_,I.laid (t':=s.toks) (o:= .tup (xs++ys)) (fun b ob q=>Heap.get?_push_of_some _ q) (Nat.le_refl _) ?_,rfl,q2 (fun w=>z (r2.nil_iff.mpr w)) _ (I.hok.fresh (Nat.le_refl _))⟩
 exact ⟨by rw [List.length_append]; exact hz,_,r1.append r2,IsTup.new _ _⟩
end
noncomputable def ixN (n:Nat) (i:Int):Option Nat:=if 0<=i then (if i<n then some i.toNat else none) else if -(n:Int)<=i then some (i+n).toNat else none
noncomputable def atI {α:Type} (xs:List α) (i:Int):Option α:=(ixN xs.length i).bind fun j=>xs[j]?
theorem aiT {n:Nat}{i:Int}{j:Nat} (h:ixN n i=some j):seqIndex? i n=some j/\j<n/\-(n:Int)<=i/\i<n:=by
 unfold ixN at h
 by_cases h0:0<=i
 ·rw [if_pos h0] at h
  by_cases h1:i<n
  ·rw [if_pos h1] at h
   have e:i.toNat=j:=Option.some.inj h
   exact ⟨by rw [seqIndex_of h0 h1,e],by omega,by omega,h1⟩
  ·rw [if_neg h1] at h; cases h
 ·rw [if_neg h0] at h
  by_cases h1:-(n:Int)<=i
  ·rw [if_pos h1] at h
   have e:(i+n).toNat=j:=Option.some.inj h
   exact ⟨by rw [seqIndex_neg (by omega) h1,e],by omega,h1,by omega⟩
  ·rw [if_neg h1] at h; cases h
theorem aca {α:Type}{xs:List α}{i:Int}{v:α} (h:atI xs i=some v):∃ j,seqIndex? i xs.length=some j/\xs[j]?=some v/\j<xs.length/\-(xs.length:Int)<=i/\i<xs.length:=by
 unfold atI at h
 cases e:ixN xs.length i with
 | none=>rw [e] at h; cases h
 | some j=>
  rw [e] at h
  obtain ⟨h1,h2,h3,h4⟩:=aiT e
  exact ⟨j,h1,h,h2,h3,h4⟩
noncomputable def aeQ (b:Expr):Prop:=∀ o i,subscripted b false o i=operate [o,i] (getItem o i)
noncomputable def IxR (X:Cx) (r:R2):Prop:=
 ∀ (value slice:Expr) (Kp:List (Addr × Obj)) (s:Shared) (σ:St) (H:Hp) (x y:V) (v u:Value) (Q:VK),Inv X Kp σ H s->jQ x v->jQ y u->r x y H Q->
  subscripted slice false v u=operate [v,u] (getItem v u)->wpAny (model X.prog X.w) X.A (subscriptTail value slice v u) (EP X Kp σ Q) X.xe s
noncomputable def MtR (X:Cx) (id:String) (r:V->List V->Hp->VK->Prop):Prop:=
 ∀ (Kp:List (Addr × Obj)) (s:Shared) (σ:St) (H:Hp) (x:V) (xs:List V) (v:Value) (us:List Value) (Q:VK),Inv X Kp σ H s->jQ x v->jG xs us->r x xs H Q->
  wpAny (model X.prog X.w) X.A (call (.builtin id) (v::us)) (EP X Kp σ Q) X.xe s
section
variable {X:Cx}{a b:Expr}{ta tb:TE}{pos:Pos}
theorem IxR.or {r r':R2} (h:IxR X r) (h':IxR X r'):IxR X (fun x y H Q=>r x y H Q ∨ r' x y H Q):=by
 intro value slice Kp s σ H x y v u Q I rx ry q hs
 rcases q with q | q
 ·exact h value slice Kp s σ H x y v u Q I rx ry q hs
 ·exact h' value slice Kp s σ H x y v u Q I rx ry q hs
theorem MtR.or {id:String}{r r':V->List V->Hp->VK->Prop} (h:MtR X id r) (h':MtR X id r'):MtR X id (fun x xs H Q=>r x xs H Q ∨ r' x xs H Q):=by
 intro Kp s σ H x xs v us Q I rx rs q
 rcases q with q | q
 ·exact h Kp s σ H x xs v us Q I rx rs q
 ·exact h' Kp s σ H x xs v us Q I rx rs q
theorem amg {r:R2} (hr:IxR X r) (ha:PE X a ta) (hb:PE X b tb) (hs:aeQ b):PE X (.Subscript a b pos) (tOp r ta tb):=by
 intro Kp s σ H Q I h
 exact Subscript_ (aiL ha hb I h fun v u s2 x y H2 I2 rx ry q=>hr a b Kp s2 σ H2 x y v u Q I2 rx ry q (hs _ _))
noncomputable def am7 (K:Fg):R2:=fun x y H Q=>∃ p xs i v,x= .ref p/\y= .int i/\SqL K H p xs/\atI xs i=some v/\Q v H
noncomputable def am8 (K:Fg):R2:=fun x y H Q=>∃ p xs i v,x= .ref p/\y= .int i/\SqT K H p xs/\atI xs i=some v/\Q v H
noncomputable def am9:R2:=fun x y H Q=>∃ z i c,x= .str z/\y= .int i/\z.length<=sizeLine/\atI z.cps.toList i=some c/\Q (.str ⟨#[c]⟩) H
theorem aiU:IxR X (am7 X.K):=by
 intro value slice Kp s σ H x y v u Q I rx ry h hs
 obtain ⟨p,xs,i,z,rfl,rfl,hq,he,q⟩:=h
 cases rx
 obtain ⟨t,rfl⟩:=ry
 obtain ⟨its,r,pl,hz⟩:=I.list hq
 obtain ⟨j,h1,h2,h3,h4,h5⟩:=aca he
 obtain ⟨w,ew,rw'⟩:=r.get h2
 have hl:=r.length
 have hn:=aag
 have fin:EP X Kp σ Q w s:=⟨z,H,I,rw',q⟩
 by_cases h0:0<=i
 ·have hj:i.toNat=j:=by
   rw [seqIndex_of h0 h5] at h1
   exact Option.some.inj h1
  exact item_listR pl.isList h0 (by omega) (by rw [hj]; simpa using ew) fin hs
 ·have hj:(i+(its.toArray.size:Int)).toNat=j:=by
   rw [seqIndex_neg (by omega) h4] at h1
   rw [List.size_toArray,←hl]
   exact Option.some.inj h1
  exact subscriptTail_builtinR (x:=w) pl.isList.typeIs slot_list_getitem.lookup
   (wpAny_getItem_list_neg (Q:=fun r s'=>r=w/\EP X Kp σ Q r s') pl.isList (by omega) (by rw [List.size_toArray] <;> omega) (by omega) (by rw [hj]; simpa using ew) ⟨rfl,fin⟩) hs
theorem akQ:IxR X (am8 X.K):=by
 intro value slice Kp s σ H x y v u Q I rx ry h hs
 obtain ⟨p,xs,i,z,rfl,rfl,hq,he,q⟩:=h
 cases rx
 obtain ⟨t,rfl⟩:=ry
 obtain ⟨its,r,pl,hz⟩:=I.tuple hq
 obtain ⟨j,h1,h2,h3,h4,h5⟩:=aca he
 obtain ⟨w,ew,rw'⟩:=r.get h2
 have hl:=r.length
 have hn:=aag
 have fin:EP X Kp σ Q w s:=⟨z,H,I,rw',q⟩
 exact subscriptTail_builtinR (x:=w) pl.typeIs slot_tuple_getitem.lookup
  (getItem_tuple (j:=j) (Q:=fun r s'=>r=w/\EP X Kp σ Q r s') pl (by omega) (by omega) (by rw [List.size_toArray,←hl]; exact h1) (by simpa using ew) ⟨rfl,fin⟩) hs
theorem aak:IxR X am9:=by
 intro value slice Kp s σ H x y v u Q I rx ry h hs
 obtain ⟨z,i,c,rfl,rfl,hz,he,q⟩:=h
 obtain ⟨t,rfl⟩:=rx
 obtain ⟨t',rfl⟩:=ry
 obtain ⟨j,h1,h2,h3,h4,h5⟩:=aca he
 have hl:z.cps.toList.length=z.length:=by simp [Str.length]
 rw [hl] at h1 h4 h5
 have hn:=aag
 exact tail_any (typeIs_str s z t) slot_str_getitem.lookup (getItem_str (c:=c) (by
  have e1:decide (i < -(2 ^ 63:Int))=false:=decide_eq_false (by omega)
  have e2:decide (i >= 2 ^ 63)=false:=decide_eq_false (by omega)
  rw [e1,e2,Bool.or_false]) (by rw [h1]; simpa using h2) ⟨.str ⟨#[c]⟩,H,I.tok _,⟨_,rfl⟩,q⟩) hs
theorem Inv.lst {Kp:List (Addr × Obj)}{σ:St}{H:Hp}{s:Shared}{p:Addr}{xs:List V} (I:Inv X Kp σ H s) (h:H p=some (.lst xs)):
  ∃ (its:List Value) (n:Nat),jG xs its/\s.heap.get? p=some { cls:= .type "list",data:= .seq its.toArray n }/\xs.length<=sizeLine:=by
 obtain ⟨z,its,n,r,e⟩:=I.hok p _ h
 exact ⟨its,n,r,e,z⟩
theorem acb (lo hi:Option Int) (n:Nat):(sliceBounds lo hi none n).1=((HT.sIx n 0 lo:Nat):Int)/\(sliceBounds lo hi none n).2.1=((HT.sIx n n hi:Nat):Int)/\(sliceBounds lo hi none n).2.2=1:=by
 refine ⟨?_,?_,rfl⟩
 ·cases lo with
  | none=>simp [sliceBounds,HT.sIx]
  | some i=>
   simp only [sliceBounds,HT.sIx,Option.getD_none,show (1:Int) > 0 by decide,zzM]
   by_cases h:i<0
   ·simp only [h,zzM] <;> omega
   ·simp only [h,zzN] <;> omega
 ·cases hi with
  | none=>simp [sliceBounds,HT.sIx]
  | some i=>
   simp only [sliceBounds,HT.sIx,Option.getD_none,show (1:Int) > 0 by decide,zzM]
   by_cases h:i<0
   ·simp only [h,zzM] <;> omega
   ·simp only [h,zzN] <;> omega
theorem aa5 (its:List Value) (lo hi:Option Int):slicePick its.toArray lo hi none=((its.drop (HT.sIx its.length 0 lo)).take (HT.sIx its.length its.length hi - HT.sIx its.length 0 lo)).toArray:=by
 obtain ⟨h1,h2,h3⟩:=acb lo hi its.toArray.size
 unfold slicePick
 rw [h1,h2,h3]
 simp only [sliceRange_one,pick_run,List.size_toArray] <;> rfl
noncomputable def ana (K:Fg):V->Option Int->Option Int->Hp->VK->Prop:=fun x lo hi H Q=>∃ a xs,x= .ref a/\SqL K H a xs/\∀ p,H p=none->Q (.ref p) (upd H p (.lst (QR xs lo hi)))
theorem aiV:SlR X (ana X.K):=by
 intro Kp s σ H x v vl vu lo hi sl Q I rx hs pl pu h
 obtain ⟨a,xs,rfl,hx,q⟩:=h
 cases rx
 obtain ⟨its,r,ht,hz⟩:=I.list hx
 have hlen:=r.length
 refine ⟨"list",_,slot_list_getitem.lookup,ht.isList.typeIs,?_⟩
 refine wpAny_getItem_list_slice ht.isList hs pl pu .none (by simp) ?_ (by rw [List.size_toArray] <;> omega)
 rw [aa5,←hlen]
 refine ⟨.ref s.heap.objs.size,_,I.laid (t':=s.toks) (o:= .lst (QR xs lo hi)) (fun b ob q=>Heap.get?_push_of_some _ q) (Nat.le_refl _) ?_,rfl,q _ (I.hok.fresh (Nat.le_refl _))⟩
 exact ⟨Nat.le_trans (ZH xs lo hi) hz,_,0,(r.drop (HT.sIx xs.length 0 lo)).take (HT.sIx xs.length xs.length hi - HT.sIx xs.length 0 lo),Heap.get?_push_size _ rfl⟩
theorem acd:zK X (.builtin "len") (fun xs H Q=>∃ p ys,xs=[.ref p]/\(SqL X.K H p ys ∨ SqT X.K H p ys)/\Q (.int ys.length) H):=by
 intro Kp s σ H xs us Q I r h
 obtain ⟨p,ys,rfl,hq,q⟩:=h
 obtain ⟨u,rfl,rx⟩:=acZ r
 cases rx
 have hn:=aag
 rcases hq with hq | hq
 ·obtain ⟨its,r',pl,hz⟩:=I.list hq
  have hlen:=r'.length
  exact Calls.call_len_list pl.isList (by simp only [List.size_toArray] <;> omega) ⟨.int ys.length,H,I.tok _,⟨s.toks+1,by rw [List.size_toArray,hlen]⟩,q⟩
 ·obtain ⟨its,r',pl,hz⟩:=I.tuple hq
  have hlen:=r'.length
  exact len_tuple pl (by simp only [List.size_toArray] <;> omega) ⟨.int ys.length,H,I.tok _,⟨s.toks+1,by rw [List.size_toArray,hlen]⟩,q⟩
theorem ace:zK X (.builtin "len") (fun xs H Q=>∃ z,xs=[.str z]/\z.length<=sizeLine/\Q (.int z.length) H):=by
 intro Kp s σ H xs us Q I r h
 obtain ⟨z,rfl,hz,q⟩:=h
 obtain ⟨u,rfl,t,rfl⟩:=acZ r
 have hn:=aag
 exact len_str (by omega) ⟨.int z.length,H,I.tok _,⟨_,rfl⟩,q⟩
theorem zK.or {f:Value}{r r':List V->Hp->VK->Prop} (h:zK X f r) (h':zK X f r'):zK X f (fun xs H Q=>r xs H Q ∨ r' xs H Q):=by
 intro Kp s σ H xs us Q I rs q
 rcases q with q | q
 ·exact h Kp s σ H xs us Q I rs q
 ·exact h' Kp s σ H xs us Q I rs q
theorem aa6:zK X (.type "tuple") (fun xs H Q=>∃ p ys,xs=[.ref p]/\((SqL X.K H p ys/\∀ l,H l=none->Q (.ref l) (upd H l (.tup ys))) ∨ (SqT X.K H p ys/\Q (.ref p) H))):=by
 intro Kp s σ H xs us Q I r h
 obtain ⟨p,ys,rfl,h⟩:=h
 obtain ⟨u,rfl,rx⟩:=acZ r
 cases rx
 rcases h with ⟨hq,q⟩ | ⟨hq,q⟩
 ·obtain ⟨its,r',pl,hz⟩:=I.list hq
  have hlen:=r'.length
  refine call_tuple_list pl.isList (fun h' kp=>?_) (by simp only [List.size_toArray] <;> omega)
  have I1:Inv X Kp σ H { s with heap:=h' }:=I.kept (t':=s.toks) kp
  have I2:Inv X Kp σ (upd H h'.objs.size (.tup ys)) { s with heap:=h'.push { cls:= .type "tuple",data:= .seq its.toArray } }:=
   I1.laid (t':=s.toks) (fun b o e=>Heap.get?_push_of_some _ e) (Nat.le_refl _) (show qq X.prog X.w _ _ _ (.tup ys) from ⟨hz,its,r',IsTup.new _ _⟩)
  exact ⟨.ref h'.objs.size,_,I2,rfl,q _ (I1.hok.fresh (Nat.le_refl _))⟩
 ·obtain ⟨its,r',pl,hz⟩:=I.tuple hq
  exact call_tuple_same pl ⟨.ref p,H,I,rfl,q⟩
noncomputable def tyV (K:Fg) (T:String) (x:V) (H:Hp):Prop:=match x with
 | .str _=>T="str"
 | .int _=>T="int"
 | .ref p=>(T="list"/\∃ xs,SqL K H p xs) ∨ (T="tuple"/\∃ o,K.lookup p=some o/\o.cls= .type "tuple"/\o.dict=none) ∨
   (T="dict"/\((∃ kvs,H p=some (.dK kvs)) ∨ ∃ kvs,H p=some (.dT kvs))) ∨ (T="set"/\∃ S n,H p=some (.set S n))
 | _=>False
theorem akR {Kp:List (Addr × Obj)}{σ:St}{H:Hp}{s:Shared}{T:String}{x:V}{v:Value} (I:Inv X Kp σ H s) (r:jQ x v) (ty:tyV X.K T x H):
  s.TypeIs v T/\∀ a,v= .ref a->∃ ob,s.heap.get? a=some ob/\ob.dict=none:=by
 cases x with
 | str z=>
  obtain ⟨t,rfl⟩:=r
  cases (show T="str" from ty)
  exact ⟨typeIs_str s z t,fun _ e=>nomatch e⟩
 | int i=>
  obtain ⟨t,rfl⟩:=r
  cases (show T="int" from ty)
  exact ⟨typeIs_int s i t,fun _ e=>nomatch e⟩
 | ref p=>
  cases r
  rcases ty with ⟨rfl,xs,hq⟩ | ⟨rfl,o,hk,hc,hd⟩ | ⟨rfl,hk⟩ | ⟨rfl,S,n,hk⟩
  ·obtain ⟨its,_,pl,_⟩:=I.list hq
   refine ⟨pl.isList.typeIs,fun a e=>?_⟩
   cases e
   obtain ⟨o,n,e,c,hd,_⟩:=pl
   exact ⟨o,e,hd⟩
  ·refine ⟨⟨o,I.kIn p o hk,hc⟩,fun a e=>?_⟩
   cases e
   exact ⟨o,I.kIn _ o hk,hd⟩
  ·have z:∃ o,s.heap.get? p=some o/\o.ExactDict:=by
    rcases hk with ⟨kvs,hk⟩ | ⟨kvs,hk⟩
    ·obtain ⟨_,_,_,_,o,_,_,e,ex,_⟩:=I.hok p _ hk
     exact ⟨o,e,ex⟩
    ·obtain ⟨_,_,_,_,o,_,_,e,ex,_⟩:=I.hok p _ hk
     exact ⟨o,e,ex⟩
   obtain ⟨o,e,ex⟩:=z
   refine ⟨⟨o,e,ex.1⟩,fun a e2=>?_⟩
   cases e2
   exact ⟨o,e,ex.2.1⟩
  ·obtain ⟨o,_,_,_,e,ex,_⟩:=I.hok p _ hk
   refine ⟨⟨o,e,ex.1⟩,fun a e2=>?_⟩
   cases e2
   exact ⟨o,e,ex.2.1⟩
 | _=>exact False.elim ty
noncomputable def tBM (K:Fg) (T:String) (r:V->List V->Hp->VK->Prop) (to:TE) (t:TA):TE:=fun σ H Q=>to σ H fun x H1=>tyV K T x H1/\t σ H1 fun xs H2=>r x xs H2 Q
variable {o e:Expr}{es:List Expr}{to:TE}{t:TA}{name:Str}{apos cpos:Pos}{T id:String}{r:V->List V->Hp->VK->Prop}
theorem agX (pa:PlainAttrs T) (slot:Slot T name id) (hty:typeOf (.builtin id)=pure (.type "method_descriptor")) (hm:MtR X id r) (ho:PE X o to) (ha:PA X (e::es) t)
  (hbase:attributeBase o name X.env (eval o X.env)=eval o X.env:=by rfl)
  (hfew:((backTo cpos (starEach (e::es) X.env)).all (fun x=>!x.1) && (backToKw cpos (keywordEach [] X.env)).all (fun x=>x.1.isSome)
   && decide ((e::es).length+([]:List Keyword).length+(if ([]:List Keyword).isEmpty then 0 else 1)<30))=true:=by rfl)
  (hline:(apos.endLine == cpos.line)=true:=by rfl) (hs:starEach (e::es) X.env=(false,eval e X.env)::starEach es X.env:=by rfl) (hplain:(backTo cpos (starEach es X.env)).any (·.1)=false:=by rfl):
  PE X (.Call (.Attribute o name apos) (e::es) [] cpos) (tBM X.K T r to t):=by
 intro Kp s σ H Q I h
 refine wpAny_Call_method_late hbase hfew hline rfl (thn (ho Kp s σ H _ I h) fun v s1 ⟨x,H1,I1,r1,ty,q1⟩=>?_)
 obtain ⟨h1,h2⟩:=akR I1 r1 ty
 refine ⟨T,id,pa,slot,hty,h1,h2,?_⟩
 have hA:=ha cpos Kp s1 σ H1 _ I1 q1
 rw [hs] at hA ⊢
 refine Calls.callWith_builtin (by show (false || (backTo cpos (starEach es X.env)).any (·.1))=false; rw [hplain] <;> rfl) (Calls.evalArgs_plain ?_)
 exact thn hA fun us s2 ⟨vs,H2,I2,r2,q2⟩=>hm Kp s2 σ H2 x vs v us Q I2 r1 r2 q2
end
noncomputable def MtM (X:Cx) (id:String) (r:V->List V->Hp->VK->Prop):Prop:=
 ∀ (Kp:List (Addr × Obj)) (s:Shared) (σ:St) (H:Hp) (x:V) (xs:List V) (v:Value) (us:List Value) (Q:VK),Inv X Kp σ H s->jQ x v->jG xs us->r x xs H Q->
  wpAny (model X.prog X.w) X.A (call (.builtin id) (v::us)) (EP X Kp σ Q) X.xe s
theorem jG.one:∀ {x:V}{us:List Value},jG [x] us->∃ u,us=[u]/\jQ x u
 | _,_,.cons r .nil=>⟨_,rfl,r⟩
theorem jG.rep {xs:List V}{us:List Value} (h:jG xs us):∀ k:Nat,jG (List.replicate k xs).flatten (List.replicate k us).flatten
 | 0=> .nil
 | k+1=>by
  rw [List.replicate_succ,List.replicate_succ,List.flatten_cons,List.flatten_cons]
  exact jG.append h (jG.rep h k)
theorem abt (its:List Value):∀ (k:Nat) (acc:List Value),
  List.foldl (fun x1 x2=>x1++x2) acc.toArray (List.replicate k its.toArray)=(acc++(List.replicate k its).flatten).toArray
 | 0,acc=>by simp
 | k+1,acc=>by
  have e:acc.toArray++its.toArray=(acc++its).toArray:=by simp
  have e2:(acc++its)++(List.replicate k its).flatten=acc++(List.replicate (k+1) its).flatten:=by
   rw [List.replicate_succ,List.flatten_cons,List.append_assoc]
  rw [←e2,←abt its k (acc++its),←e,List.replicate_succ,List.foldl_cons]
section
variable {X:Cx}{Kp:List (Addr × Obj)}{σ:St}{H:Hp}{s:Shared}{l b:Addr}{xs ys zs:List V}
theorem Inv.lset {its its':List Value}{n:Nat}{f:Array Value->Array Value}{t':Nat} (I:Inv X Kp σ H s) (hH:H l=some (.lst xs))
  (e:s.heap.get? l=some { cls:= .type "list",data:= .seq its.toArray n }) (hf:f its.toArray=its'.toArray) (hv:jG ys its') (hz:ys.length<=sizeLine):
  Inv X Kp σ (upd H l (.lst ys)) { s with heap:=s.heap.update l (Obj.mapSeq f),toks:=t' }:=by
 have q:=PySem.IsL.update e f
 rw [hf] at q
 refine I.write (x:=l) (e:=l) (by rw [hH]; exact trivial) (.inl rfl) (fun b' u hb hu=>(Heap.get?_update_other s.heap (Obj.mapSeq f) (Ne.symm hb)).trans hu) ⟨_,q⟩ ?_
 exact ⟨hz,its',_,hv,q⟩
theorem Inv.lnew {its:List Value}{t':Nat} (I:Inv X Kp σ H s) (hv:jG ys its) (hz:ys.length<=sizeLine):
  Inv X Kp σ (upd H s.heap.objs.size (.lst ys)) { s with heap:=s.heap.push { cls:= .type "list",data:= .seq its.toArray },toks:=t' }:=
 I.laid (fun _ _ q=>Heap.get?_push_of_some _ q) (Nat.le_refl _) ⟨hz,its,0,hv,Heap.get?_push_size _ rfl⟩
theorem Inv.fresh (I:Inv X Kp σ H s):H s.heap.objs.size=none:=I.hok.fresh (Nat.le_refl _)
theorem Inv.lstM (I:Inv X Kp σ H s) (hH:H l=some (.lst xs)):xs.length<=sizeLine/\∃ (its:List Value) (n:Nat),jG xs its/\xs.length=its.length/\s.heap.get? l=some { cls:= .type "list",data:= .seq its.toArray n }:=by
 obtain ⟨z,its,n,r,e⟩:=I.hok l _ hH
 exact ⟨z,its,n,r,r.length,e⟩
theorem ac2 {n:Nat} (h:n<=sizeLine):Builtin.List.listTooLong n=false:=by
 unfold Builtin.List.listTooLong
 exact decide_eq_false (by omega)
end
section
variable {X:Cx}
noncomputable def aiW:V->List V->Hp->VK->Prop:=fun x vs H Q=>∃ l xs y,x= .ref l/\vs=[y]/\H l=some (.lst xs)/\xs.length<sizeLine/\Q .non (upd H l (.lst (xs++[y])))
theorem afI:MtM X "list.append" aiW:=by
 intro Kp s σ H x vs v us Q I rx rv h
 obtain ⟨l,xs,y,rfl,rfl,hH,hz,q⟩:=h
 cases rx
 obtain ⟨u,rfl,ru⟩:=rv.one
 obtain ⟨z,its,n,r,hl,e⟩:=I.lstM hH
 refine call_meets F.slot_list_append ⟨_,e,rfl⟩ F.entry_list_append (F.args_list_append_2 _ _) (PySem.list_append l its.toArray n u (by rw [List.size_toArray]; omega)) ⟨e,?_⟩
 refine ⟨.non,_,I.lset (its':=its++[u]) hH e (by simp) (r.append (.cons ru .nil)) ?_,rfl,q⟩
 rw [List.length_append,List.length_singleton]
 omega
noncomputable def aiX:V->List V->Hp->VK->Prop:=fun x vs H Q=>∃ l b xs zs,x= .ref l/\vs=[.ref b]/\H l=some (.lst xs)/\H b=some (.lst zs)/\xs.length+zs.length<=sizeLine/\Q .non (upd H l (.lst (xs++zs)))
theorem afJ:MtM X "list.extend" aiX:=by
 intro Kp s σ H x vs v us Q I rx rv h
 obtain ⟨l,b,xs,zs,rfl,rfl,hH,hB,hz,q⟩:=h
 cases rx
 obtain ⟨u,rfl,ru⟩:=rv.one
 cases ru
 obtain ⟨z,its,n,r,hl,e⟩:=I.lstM hH
 obtain ⟨z2,its2,n2,r2,hl2,e2⟩:=I.lstM hB
 have hsz:its.toArray.size+its2.toArray.size<=sizeLine:=by rw [List.size_toArray,List.size_toArray]; omega
 have hlong:¬ (!its.toArray.isEmpty && Builtin.List.listTooLong (its.toArray.size+its2.toArray.size))=true:=by
  rw [ac2 hsz,Bool.and_false]
  exact Bool.false_ne_true
 refine call_meets F.slot_list_extend ⟨_,e,rfl⟩ F.entry_list_extend (F.args_list_extend_2 _ _)
  (AutoSeq1.list_extend_list_list_0 l its.toArray n b its2.toArray n2 hlong (by rw [List.size_toArray]; omega) (by omega)) ⟨e,e2,?_⟩
 refine ⟨.non,_,I.lset (its':=its++its2) hH e (by simp) (r.append r2) ?_,rfl,q⟩
 rw [List.length_append]
 omega
noncomputable def anb:R2:=fun x y H Q=>∃ l b xs zs,x= .ref l/\y= .ref b/\H l=some (.lst xs)/\H b=some (.lst zs)/\xs.length+zs.length<=sizeLine/\∀ p,H p=none->Q (.ref p) (upd H p (.lst (xs++zs)))
theorem akS:OpR X (binaryOp .Add) anb:=by
 intro Kp s σ H x y v u Q I rx ry h
 obtain ⟨l,b,xs,zs,rfl,rfl,hH,hB,hz,q⟩:=h
 cases rx
 cases ry
 obtain ⟨z,its,n,r,hl,e⟩:=I.lstM hH
 obtain ⟨z2,its2,n2,r2,hl2,e2⟩:=I.lstM hB
 refine PySem.P.add_list e e2 ?_ (by rw [List.size_toArray,List.size_toArray]; omega)
 have ea:its.toArray++its2.toArray=(its++its2).toArray:=by simp
 rw [ea]
 exact ⟨.ref _,_,I.lnew (t':=s.toks) (r.append r2) (by rw [List.length_append]; omega),rfl,q _ I.fresh⟩
noncomputable def anc:R2:=fun x y H Q=>∃ l k xs,x= .ref l/\y= .int k/\H l=some (.lst xs)/\-(2 ^ 63)<=k/\k<2 ^ 63/\xs.length*k.toNat<=sizeLine/\
 ∀ p,H p=none->Q (.ref p) (upd H p (.lst (List.replicate k.toNat xs).flatten))
theorem aiY {α:Type} (xs:List α) (k:Nat):(List.replicate k xs).flatten.length=k*xs.length:=by
 induction k with
 | zero=>simp
 | succ k ih=>rw [List.replicate_succ,List.flatten_cons,List.length_append,ih,Nat.succ_mul,Nat.add_comm]
theorem akT:OpR X (binaryOp .Mult) anc:=by
 intro Kp s σ H x y v u Q I rx ry h
 obtain ⟨l,k,xs,rfl,rfl,hH,h1,h2,hz,q⟩:=h
 cases rx
 obtain ⟨t,rfl⟩:=ry
 obtain ⟨z,its,n,r,hl,e⟩:=I.lstM hH
 have hlen:its.toArray.size*k.toNat<=sizeLine:=by rw [List.size_toArray,←hl]; exact hz
 have hcap:¬ its.toArray.size*k.toNat > (2 ^ 63 - 1) / 8:=by
  have:(sizeLine:Nat)<=(2 ^ 63 - 1) / 8:=by decide
  omega
 have hfit:¬ (!Builtin.List.listFitsIndex k)=true:=by
  rw [fitsIndex_both h1 h2]
  exact Bool.false_ne_true
 have hlong:¬ Builtin.List.listTooLong (its.toArray.size*k.toNat)=true:=by
  rw [ac2 hlen]
  exact Bool.false_ne_true
 have hnew:List.foldl (fun x1 x2=>x1++x2) #[] (List.replicate (if its.toArray.isEmpty=true then 0 else k.toNat) its.toArray)=(List.replicate k.toNat its).flatten.toArray:=by
  have f0:∀ m:Nat,List.foldl (fun x1 x2=>x1++x2) #[] (List.replicate m its.toArray)=(List.replicate m its).flatten.toArray:=fun m=>by
   have:=abt its m []
   rw [List.nil_append] at this
   exact this
  rw [f0]
  cases its with
  | nil=>simp
  | cons a r'=>rw [if_neg (by simp)]
 refine wpAny_binaryOp_repeat_ref (T:="list") (U:="int") (by decide) ⟨_,e,rfl⟩ (fun s'=>typeIs_int s' k t) noFill_list_mul F.fills_int_mul F.slot_int_rmul repeat_list F.slot_int_index.lookup
  (call_meets F.slot_int_rmul (typeIs_int s k t) F.entry_int_rmul (F.args_int_rmul_2 _ _) (int___rmul___int_list k t l its.toArray n)
   ⟨e,rfl,⟨_,e,rfl⟩,call_meets F.slot_list_mul ⟨_,e,rfl⟩ F.entry_list_mul (F.args_list_mul_2 _ _) (AutoListH.list___mul___list_int_3 l its.toArray n k t hfit hcap hlong) ⟨e,?_⟩⟩)
 rw [hnew]
 exact ⟨.ref _,_,I.lnew (t':=s.toks) (r.rep k.toNat) (by rw [aiY,Nat.mul_comm]; exact hz),rfl,q _ I.fresh⟩
end
section
variable {prog:Program}{w:World}{A:Around}{E:Value->SP0}{s:Shared}
set_option maxRecDepth 100000 in
end
section
variable {X:Cx}
end
end L2
namespace Att
open PySem PySem.W PySem.Calls PyProof.Rows
theorem ZY {P:Params}{h:Heap}:∀ (ns:List Int) (vs:List Value),WellAll P h vs (ns.map WData.int)->IntsAre vs ns:=by
 intro ns
 induction ns with
 | nil=>
  intro vs w
  rw [List.map_nil] at w
  cases w
  exact .nil
 | cons n ns ih=>
  intro vs w
  rw [List.map_cons] at w
  cases w with
  | cons a b=>
   cases a
   exact .cons _ _ (ih _ b)
theorem afK {l:OpenLaw}{n:Nat} (hn:l.most=some n) {P:Params}{h:Heap}{args:List WData}{vals:List Value}
  (hpre:l.row.toRowW.claim.pre args=true) (hwl:WellAll P h vals args):
  ∃ a vs ns,vals=[Value.ref a]/\args=[WData.list (ns.map WData.int)]/\h.get? a=some { cls:= .type "list",data:= .seq vs.toArray }/\IntsAre vs ns/\ns.length<=n:=by
 have hsh:WShape.hasAll [] args [.list .int]=true:=(pre_splitW hpre).1
 have hc:l.pre.holds [] { args:=args }=true:=(pre_splitW hpre).2
 obtain ⟨d,r,rfl,h1,h2⟩:=hasAllW_cons hsh
 obtain rfl:=hasAllW_nil h2
 obtain ⟨xs,rfl,h3⟩:=hasW_list h1
 obtain ⟨ns,rfl⟩:=items_int h3
 have hlen:ns.length<=n:=by
  unfold OpenLaw.pre at hc
  have h4:(WTm.not (.lt (.lit (.int (n:Int))) (.len (.arg 0)))).holds [] { args:=[.list (ns.map .int)] }=true:=by
   have h4:=(holds_andW hc).1
   rw [hn] at h4
   exact h4
  have h5:=condW_of h4 (w_not (w_lt w_lit (w_len_list (w_arg rfl))))
  rw [List.length_map] at h5
  refine Nat.le_of_not_lt fun q=>?_
  have q':(n:Int)<((ns.length:Nat):Int):=by omega
  first
   | (rw [decide_eq_true q'] at h5; exact absurd h5 (by decide))
   | (simp at h5; omega)
 cases hwl with
 | cons w1 w2=>
  cases w2
  cases w1 with
  | list ho hall=>exact ⟨_,_,ns,rfl,rfl,ho,ZY ns _ hall,hlen⟩
theorem afL (l:OpenLaw) (args:List WData):l.row.toRowW.claim.post args (.bool true) args=true:=
 postW_of (r:=l.row.toRowW) (X:=(true == true))
  (show WShape.has [] (.bool true) .bool=true by first | rfl | decide | simp [WShape.has,WShape.arms,WShape.armsAll])
  (show (WTm.eq .res (.lit (.bool true))).value [] { args:=args,res:=some (.bool true),after:=args }=some (.bool (true == true)) from w_eq_bool (w_res rfl) w_lit) rfl
theorem attach_call {l:OpenLaw}{n:Nat}{q:Program}{loose:List Str}{XP:(SV)->Heap->Prop}{YP:World->Heap->Prop}{d:DefRec}
  (hn:l.most=some n) (hdf:d.params.defaults=[])
  (call:∀ (w:World) (s₀ s₁:Shared) (mg mb:SV) (fa:Addr) (o:Obj) (pm cd doc:Value) (a:Addr) (vs:List Value) (ns:List Int),
   Ground q loose [] XP w s₀ mg mb s₁.heap->YP w s₁.heap->
   s₁.heap.get? fa=some o->o.data= .func (docDef d.name d.params d.body d.scope pm cd doc)->s₁.heap.CodeRec cd d.name->mg d.name=some (.ref fa)->
   s₁.heap.get? a=some { cls:= .type "list",data:= .seq vs.toArray }->IntsAre vs ns->ns.length<=n->s₁.gens=#[]->
   codeAny (model l.prog w) callerA (.call (.ref fa) ⟨[.ref a],[]⟩) (fun r s'=>r= .ok (.ret (.bool true))/\OldK s₁.heap s'.heap/\s'.os=s₁.os/\AllBare s'.gens) s₁):
  WalkO q loose XP YP l.row.toRowW d [] (fun f vs=>PySem.call f vs):=by
 intro w s₀ s₁ mg mb G Y fa o pm cd doc dV kV ho hd hcd hD hmg hg args vals as hpre hlay hrd hwl hlo
 obtain rfl:dV= .none:=Dflts.none hD hdf
 obtain rfl:kV= .none:=Dflts.noKw hD
 obtain ⟨a,vs,ns,rfl,rfl,hobj,hints,hlen⟩:=afK hn hpre hwl
 refine enter_call (codeAny_mono (call w s₀ s₁ mg mb fa o pm cd doc a vs ns G Y ho (fd_plain hd) hcd hmg hobj hints hlen hg) fun r s' hq=>?_)
 obtain ⟨rfl,h2,h3,h4⟩:=hq
 exact ⟨.inl ⟨.bool true,.bool true,[],rfl,fun _=>rfl,.bool true,afL l _,fun _=>⟨List.Pairwise.nil,fun _ hm=>(nomatch hm)⟩⟩,h2,h3,h4⟩
section
variable {prog:Program}{w:World}{A:Around}{E:Value->SP0}{s:Shared}{K:Frag}
noncomputable def ane (h:Heap) (L d:Addr):List (Addr × Obj):=(List.range h.objs.size).filterMap fun a=>if a=L ∨ a=d then none else (h.get? a).map fun o=>(a,o)
end
end Att
namespace L2
open PySem PySem.Spec PyProof.Rows
theorem Qp:∀ {vs:List Value}{ns:List Int},IntsAre vs ns->jG (ns.map V.int) vs
 | _,_,.nil=> .nil
 | _,_,.cons n t h=> .cons ⟨t,rfl⟩ (Qp h)
noncomputable def akU (H:Hp):Prop:=∀ b,H b=none ∨ ∃ o xs,H b=some (.frz o (.lst xs))
theorem agY {P:Program}{w:World}{K:Fg}{mg mb:SV}{CX:CXT}{k:Nat}{fa a:Addr}{fd:FuncData}{x:Str}{sp:Sp}{s₁:Shared}{vs:List Value}{ns:List Int}
  (KX:K.In s₁.heap) (hns:s₁.heap.Ns mainGlobals mg) (hb:s₁.heap.Ns builtinsNs mb) (hbb:∀ x:Str,x ≠ "__name__"->mb x=bootBuiltins x) (hlim:s₁.heap.NoLimit) (hg:s₁.gens=#[])
  (ha:s₁.heap.get? a=some { cls:= .type "list",data:= .seq vs.toArray }) (hi:IntsAre vs ns) (hl:ns.length<=sizeLine) (hr:Room k callerA)
  (F:∀ base:Heap,K.In base->base.Ns mainGlobals mg->FnOk P w K mg base CX k fa fd [x] sp) (hbind:∀ (s:Shared) (u:Value),BindsTo s fd ⟨[u],[]⟩ [(x,u)])
  (hsp:∀ H:Hp,akU H->SqL K H a (ns.map V.int)->sp [.ref a] H (fun v _=>v= .bl true) fun _ _ _=>False)
  (hCX:∀ H e s',CX [] H s₁ (fun _ _ _=>False) e s'->False):
  codeAny (model P w) callerA (.call (.ref fa) ⟨[.ref a],[]⟩) (fun r s'=>r= .ok (.ret (.bool true))/\OldK s₁.heap s'.heap/\s'.os=s₁.os/\AllBare s'.gens) s₁:=by
 have rv:=Qp hi
 have lenV:=hi.length
 have core:∀ H:Hp,akU H->SqL K H a (ns.map V.int)->HOk P w H s₁.heap->(∀ b,H b ≠ none->b=a)->(H a ≠ none->K.lookup a=none)->
   codeAny (model P w) callerA (.call (.ref fa) ⟨[.ref a],[]⟩) (fun r s'=>r= .ok (.ret (.bool true))/\OldK s₁.heap s'.heap/\s'.os=s₁.os/\AllBare s'.gens) s₁:=by
  intro H hO hS hok hA hK
  have base_of:∀ {b:Addr} {o:Obj},s₁.heap.get? b=some o->H b=none->(ab4 s₁.heap H).get? b=some o:=fun e n=>agH e n
  have noA:∀ {b:Addr} {o:Obj} {es:Array DictEntry} {ep:Nat},s₁.heap.get? b=some o->o.data= .dict es ep->H b=none:=fun {b o es ep} e d=>by
   cases q:H b with
   | none=>rfl
   | some u=>
    have e':b=a:=hA b (by rw [q]; simp)
    subst e'
    rw [ha] at e; cases e
    have d':Data.seq vs.toArray _=Data.dict es ep:=d
    cases d'
  have nsK:∀ {b:Addr} {m:SV},s₁.heap.Ns b m->(ab4 s₁.heap H).Ns b m:=fun {b m} ⟨o,es,ep,e,d,r⟩=>⟨o,es,ep,base_of e (noA e d),d,r⟩
  have hKb:K.In (ab4 s₁.heap H):=fun b o e=>base_of (KX b o e) (by
   cases q:H b with
   | none=>rfl
   | some u=>
    have e':b=a:=hA b (by rw [q]; simp)
    subst e'
    rw [hK (by rw [q]; simp)] at e; cases e)
  have hM:Mod K mg (ab4 s₁.heap H):=⟨hKb,nsK hns,⟨mb,nsK hb,hbb⟩,let ⟨mc,h1,h2⟩:=hlim; ⟨mc,nsK h1,h2⟩⟩
  have e0:Env0 P w K mg (ab4 s₁.heap H) callerA [] s₁ H:=⟨rfl,hM,fun b o e=>aiH e,Nat.le_of_eq (afz _ _),trivial,fun b hb=>absurd (show b ∈ ([]:List Addr) from hb) (by simp),hok,.of_eq hg⟩
  refine codeAny_mono ((F _ hKb (nsK hns)).run callerA [] s₁ H ⟨[.ref a],[]⟩ [.ref a] [.ref a] _ _ hr e0 (hbind s₁ (.ref a)) (.cons rfl .nil) (hsp H hO hS)) fun r s' h=>?_
  cases r with
  | error e=>exact (hCX H e s' h).elim
  | ok fl=>
   cases fl with
   | next=>exact False.elim h
   | brk=>exact False.elim h
   | cont=>exact False.elim h
   | ret u=>
    obtain ⟨v,H',os,bare,un,hok',r',q⟩:=h
    have q':v= .bl true:=q
    subst q'
    obtain rfl:u=Value.bool true:=r'
    refine ⟨rfl,OldK.of_keep fun b o e=>?_,os,bare⟩
    cases q:H b with
    | none=>exact un.keep b o e q (by intro z; exact absurd (show b ∈ ([]:List Addr) from z) (by simp)) (by simp)
    | some u=>
     rcases hO b with z | ⟨ob,xs,z⟩
     ·rw [q] at z; cases z
     ·have z2:=un.frzs b ob _ z
      obtain ⟨e1,_⟩:=hok b _ z
      obtain ⟨e2,_⟩:=hok' b _ z2
      rw [e] at e1; cases e1
      exact e2
 cases hk:K.lookup a with
 | some o=>
  have e:=KX a o hk
  rw [ha] at e
  cases e
  refine core (fun _=>none) (fun _=> .inl rfl) (.inr ⟨_,vs.toArray,_,hk,rfl,rfl,rfl,by rw [List.size_toArray,lenV]; exact hl,by simpa using rv⟩) (fun b u z=>by have z':(none:Option HO)=some u:=z; cases z') (fun b z=>absurd rfl z) fun z=>absurd rfl z
 | none=>
  refine core (fun b=>if b=a then some (.frz { cls:= .type "list",data:= .seq vs.toArray } (.lst (ns.map V.int))) else none) (fun b=>?_) (.inl (.inr ⟨{ cls:= .type "list",data:= .seq vs.toArray },if_pos rfl⟩)) (fun b u z=>?_) (fun b z=>?_) fun _=>hk
  ·by_cases hb:b=a
   ·exact .inr ⟨_,_,if_pos hb⟩
   ·exact .inl (if_neg hb)
  ·by_cases hb:b=a
   ·have z':=(if_pos hb).symm.trans z
    cases z'
    subst hb
    exact ⟨ha,by rw [List.length_map]; exact hl,vs,_,rv,ha⟩
   ·have z':=(if_neg hb).symm.trans z
    cases z'
  ·by_cases hb:b=a
   ·exact hb
   ·exact absurd (if_neg hb) z
theorem aiZ {l:PySem.W.OpenLaw}{n k:Nat}{q:Program}{loose:List Str}{XP:(SV)->Heap->Prop}{YP:World->Heap->Prop}{d:DefRec}{K:Params->Fg}{CX:World->CXT}{sp:World->Sp}{x:Str}
  (hn:l.most=some n) (hn2:n<=sizeLine) (hdf:d.params.defaults=[]) (hr:Room k callerA)
  (hY:∀ (w:World) (h:Heap),YP w h->(K w.params).In h)
  (F:∀ (w:World) (mg:SV) (fa:Addr) (h:Heap),(K w.params).In h->h.Ns mainGlobals mg->mg d.name=some (.ref fa)->
   ∃ fd:FuncData,(∀ (s:Shared) (u:Value),BindsTo s fd ⟨[u],[]⟩ [(x,u)])/\
    ∀ base:Heap,(K w.params).In base->base.Ns mainGlobals mg->FnOk l.prog w (K w.params) mg base (CX w) k fa fd [x] (sp w))
  (hsp:∀ (w:World) (H:Hp) (a:Addr) (ns:List Int),ns.length<=n->akU H->SqL (K w.params) H a (ns.map V.int)->sp w [.ref a] H (fun v _=>v= .bl true) fun _ _ _=>False)
  (hCX:∀ (w:World) (H:Hp) (s:Shared) (e:Value) (s':Shared),CX w [] H s (fun _ _ _=>False) e s'->False):
  PySem.W.WalkO q loose XP YP l.row.toRowW d [] (fun f vs=>PySem.call f vs):=by
 refine Att.attach_call hn hdf fun w s₀ s₁ mg mb fa o pm cd doc a vs ns G Y ho hd hcd hmg hobj hints hlen hg=>?_
 have KX:=hY w _ Y
 obtain ⟨fd,hb,hF⟩:=F w mg fa _ KX G.T.g hmg
 exact agY KX G.T.g G.T.b G.T.builtins G.T.nolimit hg hobj hints (Nat.le_trans hlen hn2) hr hF hb (fun H hO hS=>hsp w H a ns hlen hO hS) fun H e s'=>hCX w H s₁ e s'
noncomputable def zB (s:Stmt):Arguments:=match s with
 | .FunctionDef _ a _ _ _ _ _ _ _ _=>a
 | _=>{ posonlyargs:=[],args:=[],vararg:=none,kwonlyargs:=[],kw_defaults:=[],kwarg:=none,defaults:=[] }
noncomputable def jX (s:Stmt):List Stmt:=match s with
 | .FunctionDef _ _ b _ _ _ _ _ _ _=>b
 | _=>[]
noncomputable def jh (s:Stmt):Scope:=match s with
 | .FunctionDef _ _ _ _ _ _ sc _ _ _=>sc
 | _=>{ kind:= .function,names:=[],isGenerator:=false,isCoroutine:=false }
noncomputable abbrev CX0:CXT:=fun _ _ _ _ _ _=>False
noncomputable abbrev E0:XK:=fun _ _ _=>False
theorem amh {X:Cx}:ad5 CX0 X E0:=fun _ _ _ _ _ _ _ h=>h.elim
structure Fun (K:Fg) (x qual:Str) (st:Stmt) (f:Addr) (fd:FuncData):Prop where
 ex:∃ (oc:Value) (od:Option Addr) (kV doc pm:Value) (an:Option Addr) (Kc ct:Value) (osl:Array (Option Value)),
  fd=PySem.W.fnOf x qual (zB st) (jX st) (jh st) .none kV doc pm an Kc ct/\K.lookup f=some ⟨oc,od,.func fd,osl⟩/\PySem.W.codeIn K Kc qual=true
 kp:PySem.W.keepIn K (.ref f)=true
section
variable {P:Program}{w:World}{K:Fg}{mg:SV}{base:Heap}
theorem Fun.ok {x qual:Str}{st:Stmt}{f:Addr}{fd:FuncData}{N ps:List Str}{k:Nat}{sp:Sp} (F:Fun K x qual st f fd) (S:FnScope N ps (jh st)) (len:∀ vs H Q E,sp vs H Q E->vs.length=ps.length)
  (hbody:∀ (Kc:Value) (A:Around) (Ko:List Env) (s:Shared) (H:Hp) (vs:List V) (Q:VK) (E:XK),Room k (A.deeper (envOfC qual (jh st) s.heap.objs.size f Kc))->sp vs H Q E->
   ∃ t,PSs (aah CX0 P w K mg base N qual (jh st) f Kc A Ko s H E).nox (jX st) t/\t { nx:=fun _ H'=>Q .non H',rt:=Q } (J3 N vs) H):FnOk P w K mg base CX0 (k+1) f fd ps sp:=by
 obtain ⟨oc,od,kV,doc,pm,an,Kc,ct,osl,rfl,lk,hcd⟩:=F.ex
 refine amc lk hcd S len fun A Ko s H vs Q E hr hsp=>?_
 obtain ⟨t,h,q⟩:=hbody Kc A Ko s H vs Q E hr hsp
 exact ⟨t,h.nox,q⟩
theorem Fun.binds {x qual:Str}{st:Stmt}{f:Addr}{fd:FuncData}{ps:List Str} (F:Fun K x qual st f fd)
  (h:∀ (kV doc pm:Value) (an:Option Addr) (Kc ct:Value) (us:List Value),us.length=ps.length->bindArgs (PySem.W.fnOf x qual (zB st) (jX st) (jh st) .none kV doc pm an Kc ct) ⟨us,[]⟩=pure (ps.zip us)):QB K fd ps []:=by
 obtain ⟨oc,od,kV,doc,pm,an,Kc,ct,osl,rfl,lk,hcd⟩:=F.ex
 exact .all (h kV doc pm an Kc ct)
theorem ad8 {x qual:Str}{st:Stmt}{f:Addr}{oc:Value}{od an:Option Addr}{osl:Array (Option Value)}{kV doc pm Kc ct:Value} (l:K.lookup f=some ⟨oc,od,.func (PySem.W.fnOf x qual (zB st) (jX st) (jh st) .none kV doc pm an Kc ct),osl⟩)
  (c:PySem.W.codeIn K Kc qual=true) (k:PySem.W.keepIn K (.ref f)=true):Fun K x qual st f (PySem.W.fnOf x qual (zB st) (jX st) (jh st) .none kV doc pm an Kc ct):=⟨⟨oc,od,kV,doc,pm,an,Kc,ct,osl,rfl,l,c⟩,k⟩
end
section
variable {X:Cx}
theorem pv (i:Nat) {x:Str}{pos:Pos} (hN:X.N[i]?=some x:=by rfl) (hv:Vis X.env.scope x:=by first | exact Or.inl rfl | exact Or.inr (Or.inl rfl) | exact Or.inr (Or.inr rfl)) (hd:(x == ("__debug__":Str))=false:=by decide)
  (hcd:(x == ("__classdict__":Str))=false:=by decide):PE X (.Name x pos) (alT i):=ab5 hN hv hd hcd
end
theorem ami {A B:Prop} (h:B):if false=true then A else B:=by
 rw [if_neg Bool.false_ne_true]
 exact h
theorem amj {A B:Prop} (h:A):if true=true then A else B:=by
 rw [if_pos rfl]
 exact h
noncomputable def jm (H H':Hp):Prop:=∀ b o,H b=some o->H' b=some o
theorem jm.refl (H:Hp):jm H H:=fun _ _ h=>h
theorem jm.trans {H H1 H2:Hp} (a:jm H H1) (b:jm H1 H2):jm H H2:=fun c o h=>b c o (a c o h)
theorem jm.free {H H':Hp} (e:jm H H') {l:Addr} (h:H' l=Option.none):H l=Option.none:=by
 cases q:H l with
 | none=>rfl
 | some o=>
  rw [e l o q] at h
  cases h
theorem jm.seq {K:Fg}{H H':Hp}{a:Addr}{xs:List V} (e:jm H H') (h:SqL K H a xs):SqL K H' a xs:=by
 rcases h with (h | ⟨o,h⟩) | h
 ·exact .inl (.inl (e _ _ h))
 ·exact .inl (.inr ⟨o,e _ _ h⟩)
 ·exact .inr h
section
variable {κ:Type} [DecidableEq κ]
noncomputable def JO (kvs:List (κ × V)) (k:κ):Option V:=(kvs.find? fun kv=>decide (kv.1=k)).map (·.2)
noncomputable def putK (kvs:List (κ × V)) (k:κ) (v:V):List (κ × V):=
 if (kvs.any fun kv=>decide (kv.1=k))=true then kvs.map (fun kv=>if kv.1=k then (kv.1,v) else kv) else kvs++[(k,v)]
noncomputable def akd (kvs:List (κ × V)) (k:κ):List (κ × V):=kvs.filter fun kv=>decide (kv.1 ≠ k)
theorem aal {p:κ × V}{r:List (κ × V)}{k:κ} (e:p.1=k):JO (p::r) k=some p.2:=by simp [JO,List.find?_cons,e]
theorem aam {p:κ × V}{r:List (κ × V)}{k:κ} (e:¬ p.1=k):JO (p::r) k=JO r k:=by simp [JO,List.find?_cons,e]
theorem ac3 (k:κ):∀ kvs:List (κ × V),(kvs.any fun kv=>decide (kv.1=k))=(JO kvs k).isSome
 | []=>rfl
 | p::r=>by
  rw [List.any_cons]
  by_cases e:p.1=k
  ·simp only [aal e,decide_eq_true e,Bool.true_or,Option.isSome_some]
  ·rw [aam e,decide_eq_false e,Bool.false_or]; exact ac3 k r
theorem ZI (kvs:List (κ × V)) (k:κ) (v:V):(putK kvs k v).length<=kvs.length+1:=by
 unfold putK
 split
 ·rw [List.length_map]; omega
 ·rw [List.length_append,List.length_cons,List.length_nil]; omega
theorem ZX.isSome_eq {o:Option V}{u:Option Value} (r:ZX o u):o.isSome=u.isSome:=by
 cases o with
 | none=>cases u with
  | none=>rfl
  | some _=>exact (show False from r).elim
 | some _=>cases u with
  | none=>exact (show False from r).elim
  | some _=>rfl
theorem ZX.getD {o:Option V}{u:Option Value}{d:V}{d':Value} (r:ZX o u) (rd:jQ d d'):jQ (o.getD d) (u.getD d'):=by
 cases o with
 | none=>cases u with
  | none=>exact rd
  | some _=>exact (show False from r).elim
 | some _=>cases u with
  | none=>exact (show False from r).elim
  | some _=>exact r
theorem KV.val {kvs:List (κ × V)}{vs:List (κ × Value)} (r:KV kvs vs) (k:κ):ZX (JO kvs k) (valueAt vs k):=by
 unfold KV at r
 induction r with
 | nil=>exact True.intro
 | @cons p q ps qs h t ih=>
  obtain ⟨h1,h2⟩:=h
  by_cases e:p.1=k
  ·have e':q.1=k:=h1.symm.trans e
   have b:valueAt (q::qs) k=some q.2:=by simp [valueAt,List.find?_cons,e']
   rw [aal e,b]; exact h2
  ·have e':¬ q.1=k:=fun z=>e (h1.trans z)
   have b:valueAt (q::qs) k=valueAt qs k:=by simp [valueAt,List.find?_cons,e']
   rw [aam e,b]; exact ih
theorem KV.any {kvs:List (κ × V)}{vs:List (κ × Value)} (r:KV kvs vs) (k:κ):(kvs.any fun kv=>decide (kv.1=k))=vs.any fun kv=>decide (kv.1=k):=by
 unfold KV at r
 induction r with
 | nil=>rfl
 | cons h t ih=>rw [List.any_cons,List.any_cons,ih,h.1]
theorem KV.repl {kvs:List (κ × V)}{vs:List (κ × Value)} (r:KV kvs vs) (k:κ) {y:V}{u:Value} (ry:jQ y u):
  KV (kvs.map fun kv=>if kv.1=k then (kv.1,y) else kv) (vs.map fun kv=>if kv.1=k then (kv.1,u) else kv):=by
 unfold KV at r ⊢
 induction r with
 | nil=>exact .nil
 | @cons p q ps qs h t ih=>
  rw [List.map_cons,List.map_cons]
  refine .cons ?_ ih
  obtain ⟨h1,h2⟩:=h
  by_cases e:p.1=k
  ·rw [if_pos e,if_pos (h1.symm.trans e)]; exact ⟨h1,ry⟩
  ·rw [if_neg e,if_neg (fun z=>e (h1.trans z))]; exact ⟨h1,h2⟩
theorem KV.put {kvs:List (κ × V)}{vs:List (κ × Value)} (r:KV kvs vs) (k:κ) {y:V}{u:Value} (ry:jQ y u):KV (putK kvs k y) (stored vs k u):=by
 unfold putK stored
 rw [r.any k]
 by_cases e:(vs.any fun kv=>decide (kv.1=k))=true
 ·rw [if_pos e,if_pos e]; exact r.repl k ry
 ·rw [if_neg e,if_neg e]; exact Paired.snoc r ⟨rfl,ry⟩
theorem KV.drop {kvs:List (κ × V)}{vs:List (κ × Value)} (r:KV kvs vs) (k:κ):KV (akd kvs k) (without vs k):=by
 unfold KV at r ⊢
 unfold akd without
 induction r with
 | nil=>exact .nil
 | @cons p q ps qs h t ih=>
  obtain ⟨h1,h2⟩:=h
  rw [List.filter_cons,List.filter_cons]
  by_cases e:p.1=k
  ·have a:¬ decide (p.1 ≠ k)=true:=by simp [e]
   have b:¬ decide (q.1 ≠ k)=true:=by simp [h1.symm.trans e]
   rw [if_neg a,if_neg b]; exact ih
  ·have e':¬ q.1=k:=fun z=>e (h1.trans z)
   have a:decide (p.1 ≠ k)=true:=by simp [e]
   have b:decide (q.1 ≠ k)=true:=by simp [e']
   rw [if_pos a,if_pos b]; exact .cons ⟨h1,h2⟩ ih
theorem KV.length {kvs:List (κ × V)}{vs:List (κ × Value)} (r:KV kvs vs):kvs.length=vs.length:=Paired.length r
end
theorem aeR {P:Program}{w:World}{k:Key}{u:Value} (r:jQ (kV k) u):(qy P w).is k u=true:=by
 cases k with
 | inl i=>obtain ⟨t,e⟩:=(show ∃ t,u=Value.int i t from r); subst e; exact acS P w i t
 | inr x=>obtain ⟨t,e⟩:=(show ∃ t,u=Value.str x t from r); subst e; exact acT P w x t
theorem abu {P:Program}{w:World}:∀ {ks:List Key}{us:List Value},jG (ks.map kV) us->ItemsAre (qy P w) ks us
 | [],_,r=>by rw [List.map_nil] at r; cases r; exact .nil
 | k::ks,_,r=>by
  rw [List.map_cons] at r
  cases r with
  | cons h t=>exact .cons (aeR h) (abu t)
noncomputable abbrev KT (H:Hp):List (List Key × V)->List (List Key × Addr × Value)->Prop:=Paired fun p q=>p.1=q.1/\H q.2.1=some (.tup (p.1.map kV))/\jQ p.2 q.2.2
theorem KT.val {H:Hp}{kvs:List (List Key × V)}{xs:List (List Key × Addr × Value)} (r:KT H kvs xs) (k:List Key):ZX (JO kvs k) ((atKey xs k).map (·.2)):=by
 induction r with
 | nil=>exact True.intro
 | @cons p q ps qs h t ih=>
  obtain ⟨h1,_,h2⟩:=h
  by_cases e:p.1=k
  ·have e':q.1=k:=h1.symm.trans e
   have b:atKey (q::qs) k=some q.2:=by simp [atKey,List.find?_cons,e']
   rw [aal e,b]; exact h2
  ·have e':¬ q.1=k:=fun z=>e (h1.trans z)
   have b:atKey (q::qs) k=atKey qs k:=by simp [atKey,List.find?_cons,e']
   rw [aam e,b]; exact ih
theorem KT.repl {H:Hp}{kvs:List (List Key × V)}{xs:List (List Key × Addr × Value)} (r:KT H kvs xs) (k:List Key) {y:V}{u:Value} (ry:jQ y u):
  KT H (kvs.map fun kv=>if kv.1=k then (kv.1,y) else kv) (xs.map (putAt k u)):=by
 induction r with
 | nil=>exact .nil
 | @cons p q ps qs h t ih=>
  rw [List.map_cons,List.map_cons]
  refine .cons ?_ ih
  obtain ⟨h1,h2,h3⟩:=h
  unfold putAt
  by_cases e:p.1=k
  ·rw [if_pos e,if_pos (h1.symm.trans e)]; exact ⟨h1,h2,ry⟩
  ·rw [if_neg e,if_neg (fun z=>e (h1.trans z))]; exact ⟨h1,h2,h3⟩
theorem KT.put {H:Hp}{kvs:List (List Key × V)}{xs:List (List Key × Addr × Value)} (r:KT H kvs xs) (k:List Key) {b:Addr}{y:V}{u:Value} (hb:H b=some (.tup (k.map kV))) (ry:jQ y u):
  KT H (putK kvs k y) (storedH xs k b u):=by
 have e:(kvs.any fun kv=>decide (kv.1=k))=(atKey xs k).isSome:=by
  rw [ac3,(r.val k).isSome_eq,Option.isSome_map]
 unfold putK storedH
 rw [e]
 by_cases q:(atKey xs k).isSome=true
 ·rw [if_pos q,if_pos q]; exact r.repl k ry
 ·rw [if_neg q,if_neg q]; exact Paired.snoc r ⟨rfl,hb,ry⟩
theorem KT.keeps {H H':Hp}{kvs:List (List Key × V)}{xs:List (List Key × Addr × Value)} (r:KT H kvs xs) (ht:∀ b ys,H b=some (.tup ys)->H' b=some (.tup ys)):KT H' kvs xs:=
 Paired.mapP r fun _ _ z=>⟨z.1,ht _ _ z.2.1,z.2.2⟩
section
variable {P:Program}{w:World}{H:Hp}{h:Heap}{a:Addr}
theorem ake {u:HO} (ok:HOk P w H h) (e:Rd H a u):qq P w H h a u:=e.ok ok
theorem ac4 {kvs:List (Key × V)} (ok:HOk P w H h) (e:Rd H a (.dK kvs)):kvs.length<=sizeLine/\(a == sysModules)=false/\∃ vs,KV kvs vs/\h.DictOf (qy P w) a vs:=
 show qq P w H h a (.dK kvs) from ake ok e
theorem amk {kvs:List (Key × V)} (ok:HOk P w H h) (e:H a=some (.dK kvs)):kvs.length<=sizeLine/\(a == sysModules)=false/\∃ vs,KV kvs vs/\h.DictOf (qy P w) a vs:=ac4 ok (.inl e)
theorem acf {ks:List Key} (ok:HOk P w H h) (e:H a=some (.tup (ks.map kV))):(tupleKind (qy P w)).is h ks a:=by
 obtain ⟨_,its,r,o,h1,h2,n,h3⟩:=(show qq P w H h a (.tup (ks.map kV)) from ok a _ e)
 exact ⟨o,its.toArray,n,h1,h2,h3,by simpa using abu r⟩
theorem aeS {kvs:List (List Key × V)} (ok:HOk P w H h) (e:Rd H a (.dT kvs)):kvs.length<=sizeLine/\(a == sysModules)=false/\
  ∃ xs,KT H kvs xs/\h.DictOfH (tupleKind (qy P w)) a xs:=by
 obtain ⟨z,y,xs,r,o,es,ep,h1,h2,h3,h4,h5⟩:=(show qq P w H h a (.dT kvs) from ake ok e)
 refine ⟨z,y,xs,r,o,es,ep,h1,h2,h3,h4,fun x hx=>?_,h5⟩
 have all:∀ {l:List (List Key × V)} {m:List (List Key × Addr × Value)},KT H l m->∀ x ∈ m,(tupleKind (qy P w)).is h x.1 x.2.1:=by
  intro l m q
  induction q with
  | nil=>intro x hx; exact nomatch hx
  | @cons p q ps qs hq t ih=>
   intro x hx
   rcases List.mem_cons.mp hx with e | hx
   ·subst e
    exact acf ok (by rw [←hq.1]; exact hq.2.1)
   ·exact ih x hx
 exact all r x hx
theorem aml {kvs:List (List Key × V)} (ok:HOk P w H h) (e:H a=some (.dT kvs)):kvs.length<=sizeLine/\(a == sysModules)=false/\
  ∃ xs,KT H kvs xs/\h.DictOfH (tupleKind (qy P w)) a xs:=aeS ok (.inl e)
end
noncomputable def aa7 (H:Hp) (a:Addr) (y:V) (r:Option V):Prop:=
 (∃ kvs k,Rd H a (.dK kvs)/\y=kV k/\r=JO kvs k) ∨ ∃ kvs k b,Rd H a (.dT kvs)/\y= .ref b/\H b=some (.tup (k.map kV))/\r=JO kvs k
noncomputable def afM (H:Hp) (a:Addr) (y v:V) (H':Hp):Prop:=
 (∃ kvs k,H a=some (.dK kvs)/\y=kV k/\kvs.length<sizeLine/\H'=upd H a (.dK (putK kvs k v))) ∨
 ∃ kvs k b,H a=some (.dT kvs)/\y= .ref b/\H b=some (.tup (k.map kV))/\kvs.length<sizeLine/\H'=upd H a (.dT (putK kvs k v))
theorem aa7.k {H:Hp}{a:Addr}{kvs:List (Key × V)}{k:Key} (e:H a=some (.dK kvs)):aa7 H a (kV k) (JO kvs k):= .inl ⟨kvs,k,.inl e,rfl,rfl⟩
theorem aa7.t {H:Hp}{a b:Addr}{kvs:List (List Key × V)}{k:List Key} (e:H a=some (.dT kvs)) (eb:H b=some (.tup (k.map kV))):aa7 H a (.ref b) (JO kvs k):= .inr ⟨kvs,k,b,.inl e,rfl,eb,rfl⟩
theorem afM.k {H:Hp}{a:Addr}{kvs:List (Key × V)}{k:Key}{v:V} (e:H a=some (.dK kvs)) (hl:kvs.length<sizeLine):afM H a (kV k) v (upd H a (.dK (putK kvs k v))):= .inl ⟨kvs,k,e,rfl,hl,rfl⟩
theorem afM.t {H:Hp}{a b:Addr}{kvs:List (List Key × V)}{k:List Key}{v:V} (e:H a=some (.dT kvs)) (eb:H b=some (.tup (k.map kV))) (hl:kvs.length<sizeLine):
  afM H a (.ref b) v (upd H a (.dT (putK kvs k v))):= .inr ⟨kvs,k,b,e,rfl,eb,hl,rfl⟩
section
variable {X:Cx}{Kp:List (Addr × Obj)}{σ:St}{H:Hp}{s:Shared}{a:Addr}{y v:V}{u r:Value}{o:Option V}{A:Around}{E:Value->SP0}
theorem Inv.big (I:Inv X Kp σ H s):sysModules<s.heap.objs.size:=by
 have h:mainGlobals<s.heap.objs.size:=(I.mod.glob.keeps I.bk).lt
 exact Nat.lt_trans (by decide) h
theorem afN {Q:Value->SP0} (hu:A.units+1<cLine) (I:Inv X Kp σ H s) (g:aa7 H a y (some v)) (ry:jQ y u) (h:∀ w' s',Inv X Kp σ H s'->jQ v w'->Q w' s'):
  wpAny (model X.prog X.w) A (getItem (.ref a) u) Q E s:=by
 rcases g with ⟨kvs,k,e,ey,l⟩ | ⟨kvs,k,b,e,ey,eb,l⟩
 ·subst ey
  obtain ⟨z,hd,vs,rel,dd⟩:=ac4 I.hok e
  obtain ⟨w',hw,rw'⟩:=ZX.some_of (v:=v) (o:=valueAt vs k) (by rw [l]; exact rel.val k)
  exact wpAny_getItem_of (aeR ry) dd.mapOf hw (h w' _ (I.tok _) rw')
 ·subst ey
  cases (show u=Value.ref b from ry)
  obtain ⟨z,hd,xs,rel,dd⟩:=aeS I.hok e
  obtain ⟨w',hw,rw'⟩:=ZX.some_of (v:=v) (o:=(atKey xs k).map (·.2)) (by rw [l]; exact rel.val k)
  obtain ⟨p,hp,hp2⟩:=Option.map_eq_some_iff.mp hw
  refine wpAny_getItem_heap (tupleKind_room_in1 hu) (acf I.hok eb) dd hp ?_
  rw [hp2]
  exact h w' _ (I.tok _) rw'
theorem anf {Q:Value->SP0} (hu:A.units+1<cLine) (I:Inv X Kp σ H s) (g:aa7 H a y o) (ry:jQ y u) (h:∀ s',Inv X Kp σ H s'->Q (.bool o.isSome) s'):
  wpAny (model X.prog X.w) A (compareOp .In u (.ref a)) Q E s:=by
 rcases g with ⟨kvs,k,e,ey,l⟩ | ⟨kvs,k,b,e,ey,eb,l⟩
 ·subst ey
  obtain ⟨z,hd,vs,rel,dd⟩:=ac4 I.hok e
  refine wpAny_in_of (aeR ry) hd dd.mapOf ?_
  rw [←(rel.val k).isSome_eq,←l]
  exact h _ (I.tok _)
 ·subst ey
  cases (show u=Value.ref b from ry)
  obtain ⟨z,hd,xs,rel,dd⟩:=aeS I.hok e
  refine wpAny_in_heap (tupleKind_room_in1 hu) (acf I.hok eb) hd dd ?_
  have q:=(rel.val k).isSome_eq
  rw [Option.isSome_map] at q
  rw [←q,←l]
  exact h _ (I.tok _)
theorem aeT {h':Heap}{t':Nat}{ob:HO} (I:Inv X Kp σ H s) (mu:Mut (H a)) (hs:Heap.SameBut a s.heap h') (he:∃ q,h'.get? a=some q) (new:qq X.prog X.w (upd H a ob) h' a ob):
  Inv X Kp σ (upd H a ob) { s with heap:=h',toks:=t' }:=
 I.write (x:=a) (e:=a) mu (.inl rfl) (fun b q hb z=>(hs.2 b hb).trans z) he new
theorem akV {P:Program}{w:World}{H':Hp}{h':Heap}{kvs:List (Key × V)}{vs:List (Key × Value)} (z:kvs.length<=sizeLine) (hd:(a == sysModules)=false) (rel:KV kvs vs) (dd:h'.DictOf (qy P w) a vs):
  qq P w H' h' a (.dK kvs):=⟨z,hd,vs,rel,dd⟩
theorem afO {H':Hp}{Q:Unit->SP0} (hu:A.units+1<cLine) (I:Inv X Kp σ H s) (g:afM H a y v H') (ry:jQ y u) (rv:jQ v r) (h:∀ s',Inv X Kp σ H' s'->Q () s'):
  wpAny (model X.prog X.w) A (setItem (.ref a) u r) Q E s:=by
 rcases g with ⟨kvs,k,e,ey,l,eH⟩ | ⟨kvs,k,b,e,ey,eb,l,eH⟩
 ·subst ey eH
  obtain ⟨z,hd,vs,rel,dd⟩:=amk I.hok e
  have hz:vs.length<=sizeLine:=by rw [←rel.length]; exact z
  have hl:(putK kvs k v).length<=sizeLine:=by have:=ZI kvs k v; omega
  refine wpAny_setItem_pairs (hsz:=hz) (aeR ry) dd fun h' dd' hs=>h _ ?_
  have he:∃ q,h'.get? a=some q:=let ⟨q,_,_,hq,_⟩:=dd'; ⟨q,hq⟩
  exact aeT I (by rw [e]; exact True.intro) hs he (akV hl hd (rel.put k rv) dd')
 ·subst ey eH
  cases (show u=Value.ref b from ry)
  obtain ⟨z,hd,xs,rel,dd⟩:=aml I.hok e
  have hz:xs.length<=sizeLine:=by rw [←Paired.length rel]; exact z
  have hl:(putK kvs k v).length<=sizeLine:=by have:=ZI kvs k v; omega
  refine wpAny_setItem_heap (hsz:=hz) (tupleKind_room_in1 hu) (acf I.hok eb) dd fun h' dd' hs=>h _ ?_
  obtain ⟨q,es,ep,hq,h2,h3,h4,_,h5⟩:=dd'
  refine aeT I (by rw [e]; exact True.intro) hs ⟨q,hq⟩ ⟨hl,hd,_,(rel.put k eb rv).keeps fun c ys ec=>?_,q,es,ep,hq,h2,h3,h4,h5⟩
  rw [ji (alS ec e (fun z=>nomatch z))]
  exact ec
end
section
variable {X:Cx}{Kp:List (Addr × Obj)}{σ:St}{H:Hp}{s:Shared}{a:Addr}{kvs:List (Key × V)}{k:Key}{u:Value}{A:Around}{E:Value->SP0}
end
noncomputable def akW (i:Expr):Prop:=∀ ov iv,subscripted i false ov iv=operate [ov,iv] (getItem ov iv)
theorem ai0 {prog:Program}{w:World}{A:Around}{E:Value->SP0}{s:Shared}{env:Env}{value slice:Expr}{pos:Pos}{T id:String}{Q:Value->SP0}
  (hl:typeLookup (.type T) "__getitem__"=pure (some (.builtin id))) (hs:akW slice)
  (h:wpAny (model prog w) A (eval value env) (fun o s₁=>wpAny (model prog w) A (eval slice env) (fun i s₂=>s₂.TypeIs o T/\wpAny (model prog w) A (getItem o i) Q E s₂) E s₁) E s):
  wpAny (model prog w) A (eval (.Subscript value slice pos) env) Q E s:=by
 refine Subscript_ (wpAny_mono h (fun o s₁ h₁=>wpAny_mono h₁ (fun i s₂ h₂=>?_) fun _ _ x=>x) fun _ _ x=>x)
 obtain ⟨hT,h₂⟩:=h₂
 unfold subscriptTail
 refine wpAny_bind ?_
 rw [getitemInPython_of_ne hT.not_modules]
 refine wpAny_bind (wpAny_specialOf hT hl ?_)
 have fin:wpAny (model prog w) A (subscripted slice false o i) (fun r s₃=>wpAny (model prog w) A (letTemporaryGo value o r >>= fun _=>pure r) Q E s₃) E s₂:=by
  rw [hs o i]
  exact wpAny_operating (wpAny_mono h₂ (fun r s₃ h₃=>wpAny_bind (wpAny_letTemporaryGo (wpAny_pure h₃))) fun _ _ x=>x)
 first
  | exact wpAny_pure (wpAny_bind fin)
  | exact wpAny_bind (wpAny_pure (wpAny_bind fin))
  | exact wpAny_bind fin
theorem ac5 {X:Cx}{Kp:List (Addr × Obj)}{σ:St}{H:Hp}{s:Shared}{a:Addr}{y:V}{o:Option V} (I:Inv X Kp σ H s) (g:aa7 H a y o):s.TypeIs (.ref a) "dict":=by
 rcases g with ⟨kvs,k,e,_,_⟩ | ⟨kvs,k,b,e,_,_,_⟩
 ·obtain ⟨_,_,vs,_,dd⟩:=ac4 I.hok e
  exact dd.typeIs
 ·obtain ⟨_,_,xs,_,dd⟩:=aeS I.hok e
  exact dd.typeIs
noncomputable def amm (td ty:TE):TE:=fun σ H Q=>td σ H fun x H1=>ty σ H1 fun y H2=>∃ a v,x= .ref a/\aa7 H2 a y (some v)/\Q v H2
noncomputable def ang (ty td:TE):TE:=fun σ H Q=>ty σ H fun y H1=>td σ H1 fun x H2=>∃ a o,x= .ref a/\aa7 H2 a y o/\Q (.bl o.isSome) H2
section
variable {X:Cx}{o i e value:Expr}{pos pos' tpos:Pos}{td ty tv:TE}
theorem ai1 (hu:X.A.units+1<cLine) (ho:PE X o td) (hi:PE X i ty) (hs:akW i):PE X (.Subscript o i pos) (amm td ty):=by
 intro Kp s σ H Q I h
 refine ai0 PySem.F.slot_dict_getitem.lookup hs (thn (ho Kp s σ H _ I h) fun u s1 ⟨x,H1,I1,rx,q1⟩=>thn (hi Kp s1 σ H1 _ I1 q1) fun iv s2 ⟨y,H2,I2,ry,a,v,ex,g,q2⟩=>?_)
 subst ex
 obtain rfl:u=Value.ref a:=rx
 exact ⟨ac5 I2 g,afN hu I2 g ry fun w' s3 I3 rw'=>⟨v,H2,I3,rw',q2⟩⟩
theorem akX (hu:X.A.units+1<cLine) (hi:PE X i ty) (ho:PE X o td):PC X .In i o (ang ty td):=by
 intro Kp s σ H Q I h
 refine thn (hi Kp s σ H _ I h) fun iv s1 ⟨y,H1,I1,ry,q1⟩=>thn (ho Kp s1 σ H1 _ I1 q1) fun u s2 ⟨x,H2,I2,rx,a,ov,ex,g,q2⟩=>?_
 subst ex
 obtain rfl:u=Value.ref a:=rx
 exact anf hu I2 g ry fun s3 I3=>⟨.bl ov.isSome,H2,I3,rfl,q2⟩
end
theorem agZ {P:Program}{w:World}{H:Hp} (h:Heap) (hb:sysModules<h.objs.size):qq P w H (h.push { cls:= .type "dict",data:= .dict #[] }) h.objs.size (.dK []):=
 ⟨Nat.zero_le _,beq_eq_false_iff_ne.mpr (Ne.symm (Nat.ne_of_lt hb)),[],.nil,Heap.DictOf.new h⟩
noncomputable def akY:TE:=fun _ H Q=>∀ p,H p=none->Q (.ref p) (upd H p (.dK []))
section
variable {X:Cx}{pos:Pos}
theorem ag0:PE X (.Dict [] [] pos) akY:=fun Kp s σ H Q I h=>
 wpAny_Dict_empty ⟨.ref s.heap.objs.size,_,I.laid (a:=s.heap.objs.size) (o:= .dK []) (t':=s.toks) (fun _ _ q=>Heap.get?_push_of_some _ q) (Nat.le_refl _) (agZ s.heap I.big),rfl,h _ (I.hok.fresh (Nat.le_refl _))⟩
end
structure M1 (X:Cx) (o:Expr) (m:Str) (apos:Pos) (e:Expr) (cpos:Pos):Prop where
 base:attributeBase o m X.env (eval o X.env)=eval o X.env
 few:((backTo cpos (starEach [e] X.env)).all (fun x=>!x.1) && (backToKw cpos (keywordEach [] X.env)).all (fun x=>x.1.isSome)
  && decide (([e]:List Expr).length+([]:List Keyword).length+(if ([]:List Keyword).isEmpty then 0 else 1)<30))=true
 line:(apos.endLine == cpos.line)=true
 trees:backTo cpos (starEach [e] X.env)=[(false,eval e X.env)]
structure M2 (X:Cx) (o:Expr) (m:Str) (apos:Pos) (e f:Expr) (cpos:Pos):Prop where
 base:attributeBase o m X.env (eval o X.env)=eval o X.env
 few:((backTo cpos (starEach [e,f] X.env)).all (fun x=>!x.1) && (backToKw cpos (keywordEach [] X.env)).all (fun x=>x.1.isSome)
  && decide (([e,f]:List Expr).length+([]:List Keyword).length+(if ([]:List Keyword).isEmpty then 0 else 1)<30))=true
 line:(apos.endLine == cpos.line)=true
 trees:backTo cpos (starEach [e,f] X.env)=[(false,eval e X.env),(false,eval f X.env)]
section
variable {X:Cx}{Kp:List (Addr × Obj)}{σ:St}{H:Hp}{s:Shared}{a:Addr}{y d:V}{u r:Value}{o:Option V}{A:Around}{E:Value->SP0}
end
section
variable {X:Cx}{o e f:Expr}{apos cpos:Pos}{td ty tx:TE}
end
section
variable {X:Cx}{Kp:List (Addr × Obj)}{σ:St}{H:Hp}{s:Shared}{a:Addr}{kvs:List (Key × V)}{A:Around}{E:Value->SP0}
end
section
variable {X:Cx}{Kp:List (Addr × Obj)}{σ:St}{H:Hp}{s:Shared}{a:Addr}{y:V}{u:Value}{A:Around}{E:Value->SP0}
end
section
variable {X:Cx}
end
section
variable {κ:Type} [DecidableEq κ]
end
end L2
end
section
namespace BX
open PySem PySem.Spec L2
open PyProof.Rows hiding St
noncomputable abbrev NoX:Value->SP0:=fun _ _=>False
noncomputable def aeU (ts:List Expr) (en:Env):Sem Bool:=
 forIn ts true fun c r=>if r=true then do let ok ←isTrue c en (eval c en); pure (ForInStep.yield ok) else pure (ForInStep.yield r)
section
variable {prog:Program}{w:World}{A:Around}{s:Shared}{R:Result->SP0}
theorem abv {el tg src:Expr}{ts:List Expr}{sc:Scope}{ps:Pos}{it acc:Value}{en:Env} (J:Nat->SP0)
  (turn:∀ n s,J n s->wpAny (model prog w) A (pyNext it) (fun r s1=>match r with
   | none=>R (.ok .next) s1
   | some v=>wpAny (model prog w) A (letOwnedTupleGo tg it v) (fun _ sg=>wpAny (model prog w) A (assign tg en v) (fun _ s2=>
     wpAny (model prog w) A (aeU ts en) (fun ok s3=>
      if ok=true then wpAny (model prog w) A (eval el en) (fun y s4=>
       wpAny (model prog w) A (call (.builtin "list.append") [acc,y]) (fun _ s5=>∃ m,m<n/\J m s5) NoX s4) NoX s3
      else ∃ m,m<n/\J m s3) NoX s2) NoX sg) NoX s1) NoX s)
  (n:Nat) (h:J n s):
  codeAny (model prog w) A (.compLoop (.ListComp el [⟨tg,src,ts,0⟩] sc ps) 0 it acc en) R s:=by
 refine codeAny_loop rfl J (fun n s hJ=>?_) n h
 show wpAny _ A
  ((compTurn (.ListComp el [⟨tg,src,ts,0⟩] sc ps) 0 it acc en).onRaise
   (fun x=>do noteFrame x en; theTreesLotGoes x)) _ _ s
 refine wpAny_noted ?_
 rw [compTurn_list]
 have no:∀ {E:Value->SP0} (e:Value) (s':Shared),NoX e s'->E e s':=fun _ _ z=>z.elim
 refine wpAny_bind (wpAny_standAt (wpAny_bind (wpAny_mono (turn n s hJ) (fun r s1 h1=>?_) no)))
 cases r with
 | none=>exact wpAny_pure h1
 | some v=>
  refine wpAny_bind (wpAny_mono h1 (fun _ sg hg=>?_) no)
  refine wpAny_bind (wpAny_mono hg (fun _ s2 h2=>?_) no)
  refine wpAny_bind (wpAny_mono h2 (fun ok s3 h3=>?_) no)
  cases ok with
  | false=>exact wpAny_pure ⟨rfl,h3⟩
  | true=>
   refine wpAny_bind (wpAny_bind (wpAny_mono h3 (fun y s4 h4=>?_) no))
   exact wpAny_bind (wpAny_mono h4 (fun _ s5 h5=>wpAny_pure (wpAny_pure ⟨rfl,h5⟩)) no)
end
noncomputable def J0 (en:Env):List (Str × NameKind)->List (Str × Addr)->List (Str × Addr)
 | [],cs=>cs
 | (n,k)::r,cs=>J0 en r (if k == .free then (n,(en.cells.lookup n).getD 0)::cs else cs)
theorem aeV (sc:Scope) (en:Env) (h:∀ x ∈ sc.names,x.2= .free->∃ c,en.cells.lookup x.1=some c):closureFor sc en=pure (J0 en sc.names []):=by
 have go:∀ (l:List (Str × NameKind)) (cs:List (Str × Addr)),(∀ x ∈ l,x.2= .free->∃ c,en.cells.lookup x.1=some c)->
   (forIn l cs (fun (x:Str × NameKind) (r:List (Str × Addr))=>(do
    if x.2 == .free then do
     let c ←cellOf en x.1
     pure (ForInStep.yield ((x.1,c)::r))
    else pure (ForInStep.yield r):Sem (ForInStep (List (Str × Addr))))):Sem _)=pure (J0 en l cs):=by
  intro l
  induction l with
  | nil=>intro cs _; rfl
  | cons x l ih=>
   intro cs hl
   obtain ⟨n,k⟩:=x
   rw [List.forIn_cons]
   by_cases hk:(k == NameKind.free)=true
   ·obtain ⟨c,e⟩:=hl (n,k) List.mem_cons_self (by simpa using hk)
    have e':en.cells.lookup n=some c:=e
    simp only [hk,zzM,cellOf,e',pure_bind,J0,Option.getD_some]
    exact ih _ fun y hy=>hl y (List.mem_cons_of_mem _ hy)
   ·simp only [hk,pure_bind,J0,zzL,zzN]
    exact ih _ fun y hy=>hl y (List.mem_cons_of_mem _ hy)
 have:=go sc.names [] h
 unfold closureFor
 rw [←this]
 first
  | (simp only [bind_pure_comp,id_map',map_pure]; done)
  | (simp only [bind_pure_comp,id_map',map_pure]; exact bind_pure _)
theorem Zr (en:Env):∀ (l:List (Str × NameKind)) (cs:List (Str × Addr)),(∀ x ∈ l,x.2= .free->∃ c,en.cells.lookup x.1=some c)->(∀ p ∈ cs,en.cells.lookup p.1=some p.2)->
  ∀ p ∈ J0 en l cs,en.cells.lookup p.1=some p.2
 | [],_,_,h,p,hp=>h p hp
 | (n,k)::r,cs,hl,h,p,hp=>by
  refine Zr en r _ (fun y hy=>hl y (List.mem_cons_of_mem _ hy)) (fun q hq=>?_) p hp
  by_cases hk:(k == NameKind.free)=true
  ·rw [if_pos hk] at hq
   rcases List.mem_cons.mp hq with rfl | hq
   ·obtain ⟨c,e⟩:=hl (n,k) List.mem_cons_self (by simpa using hk)
    have e':en.cells.lookup n=some c:=e
    show en.cells.lookup n=some ((en.cells.lookup n).getD 0)
    rw [e']; rfl
   ·exact h q hq
  ·rw [if_neg hk] at hq
   exact h q hq
theorem ZJ (en:Env):∀ (l:List (Str × NameKind)) (cs:List (Str × Addr)) (x:Str),(∃ c,(x,c) ∈ cs)->∃ c,(x,c) ∈ J0 en l cs
 | [],_,_,h=>h
 | (n,k)::r,cs,x,⟨c,h⟩=>by
  refine ZJ en r _ x ?_
  by_cases hk:(k == NameKind.free)=true
  ·rw [if_pos hk]; exact ⟨c,List.mem_cons_of_mem _ h⟩
  ·rw [if_neg hk]; exact ⟨c,h⟩
theorem Ju (en:Env):∀ (l:List (Str × NameKind)) (cs:List (Str × Addr)) (x:Str),(x,NameKind.free) ∈ l->∃ c,(x,c) ∈ J0 en l cs
 | (n,k)::r,cs,x,h=>by
  rcases List.mem_cons.mp h with e | h
  ·obtain ⟨e1,e2⟩:=Prod.mk.inj e
   subst e1; subst e2
   exact ZJ en r _ _ ⟨_,by rw [if_pos (by rfl)]; exact List.mem_cons_self⟩
  ·exact Ju en r _ x h
theorem qO {β:Type}:∀ {l:List (Str × β)}{x:Str}{c:β},(x,c) ∈ l->∃ d,l.lookup x=some d
 | (n,k)::r,x,c,h=>by
  by_cases e:x=n
  ·subst e; exact ⟨k,by simp [List.lookup_cons]⟩
  ·have eb:(x == n)=false:=by simpa using e
   rcases List.mem_cons.mp h with z | h
   ·cases z; exact absurd rfl e
   ·obtain ⟨d,hd⟩:=qO h
    exact ⟨d,by simp only [List.lookup_cons,eb]; exact hd⟩
theorem Ja {sc:Scope}{en:Env}{x:Str}{k:NameKind} (h:(x,k) ∈ (relabel sc en).names) (hc:∀ y ∈ sc.names,y.2 ≠ .cell) (hk:k= .cell ∨ k= .free):(x,NameKind.free) ∈ sc.names:=by
 obtain ⟨⟨n,j⟩,hm,e⟩:=List.mem_map.mp h
 by_cases q:(j == NameKind.free && en.scope.kind == .function && en.kindOf n == some .cell)=true
 ·have e1:(n,NameKind.cell)=(x,k):=by simpa only [q,zzM] using e
  cases e1
  have hj:j= .free:=by
   simp only [Bool.and_eq_true] at q
   simpa using q.1.1
  rw [←hj]; exact hm
 ·have e1:(n,j)=(x,k):=by simpa only [q,zzL,zzN] using e
  cases e1
  rcases hk with rfl | rfl
  ·exact absurd rfl (hc _ hm)
  ·exact hm
theorem JP {en:Env}:∀ {l:List (Str × NameKind)}{x:Str},l.lookup x=some .free->
  (l.map fun (n,k)=>if (k == NameKind.free && en.scope.kind == .function && en.kindOf n == some .cell) then (n,NameKind.cell) else (n,k)).lookup x=some .cell ∨
  (l.map fun (n,k)=>if (k == NameKind.free && en.scope.kind == .function && en.kindOf n == some .cell) then (n,NameKind.cell) else (n,k)).lookup x=some .free
 | (n,k)::r,x,h=>by
  rw [List.map_cons]
  cases hx:x == n with
  | true=>
   simp only [List.lookup_cons,hx] at h
   cases h
   by_cases q:(NameKind.free == NameKind.free && en.scope.kind == .function && en.kindOf n == some .cell)=true
   ·left; simp only [q,zzM,List.lookup_cons,hx]
   ·right; simp only [q,zzL,zzN,List.lookup_cons,hx]
  | false=>
   simp only [List.lookup_cons,hx] at h
   rcases JP (en:=en) h with g | g
   ·left
    by_cases q:(k == NameKind.free && en.scope.kind == .function && en.kindOf n == some .cell)=true
    ·simp only [q,zzM,List.lookup_cons,hx]; exact g
    ·simp only [q,zzL,zzN,List.lookup_cons,hx]; exact g
   ·right
    by_cases q:(k == NameKind.free && en.scope.kind == .function && en.kindOf n == some .cell)=true
    ·simp only [q,zzM,List.lookup_cons,hx]; exact g
    ·simp only [q,zzL,zzN,List.lookup_cons,hx]; exact g
noncomputable def blk (X:Cx) (N':List Str) (sc:Scope) (cl:List (Str × Addr)) (C:Addr) (s0:Shared) (H0:Hp) (fp:List Addr) (pn:List (Addr × Obj)):Cx:=
 { X with N:=N',s₀:=s0,H₀:=H0,env:=compEnvC sc cl C X.env,Ko:=X.stack,ex:=fp,fn:=fun _=>false,pn:=pn,xe:=NoX }
noncomputable def ZZ (cap:List (Option Nat)) (σ:St):St:=cap.map fun o=>o.bind fun i=>(σ[i]?).join
noncomputable def PTs (X:Cx) (ts:List Expr) (t:TT):Prop:=
 ∀ (Kp:List (Addr × Obj)) (s:Shared) (σ:St) (H:Hp) (Q:Bool->Hp->Prop),Inv X Kp σ H s->t σ H Q->wpAny (model X.prog X.w) X.A (aeU ts X.env) (TP X Kp σ Q) X.xe s
noncomputable def amn:TT:=fun _ H Q=>Q true H
theorem ai2 {X:Cx}:PTs X [] amn:=fun _ _ _ H _ I h=>wpAny_pure ⟨H,I,h⟩
theorem ai3 {X:Cx}{c:Expr}{t:TT} (h:PT X c t):PTs X [c] t:=fun Kp s σ H Q I hq=>wpAny_tests_one (h Kp s σ H Q I hq)
structure CompOk (X:Cx) (sc:Scope) (N':List Str) (cap:List (Option Nat)):Prop where
 fr:∀ x ∈ sc.names,x.2= .free->X.env.kindOf x.1=some .cell ∨ X.env.kindOf x.1=some .free
 nc:∀ x ∈ sc.names,x.2 ≠ .cell
 kind:sc.kind= .function
 nm:∀ x ∈ sc.names,x.2= .local->sc.names.lookup x.1=some .local
 len:cap.length=N'.length
 cp:∀ (j i:Nat) (x:Str),N'[j]?=some x->cap[j]?=some (some i)->X.N[i]?=some x/\sc.names.lookup x=some .free
noncomputable def ag1 (wi:TI) (cap:List (Option Nat)) (g:TG) (tt:TT) (te:TE):TE:=fun σ H Q=>wi σ H fun J H1=>
 ∃ W:Nat->Nat->St->List V->Hp->Prop,(∃ m,W 0 m (ZZ cap σ) [] H1)/\∀ i m τ ys H,W i m τ ys H->ys.length<sizeLine/\
  ((J.stop i H/\∀ l,H l=none->Q (.ref l) (upd H l (.lst ys))) ∨
   (J.go i H/\∀ x H',J.yld i H x H'->g x τ H' fun τ2 H2=>tt τ2 H2 fun b H3=>if b=true then te τ2 H3 fun y H4=>∃ m',m' < m/\W (i+1) m' τ2 (ys++[y]) H4 else ∃ m',m' < m/\W (i+1) m' τ2 ys H3))
theorem Inv.track {X:Cx}{Kp:List (Addr × Obj)}{σ:St}{H:Hp}{s:Shared}{D:Addr}{o:HO} (I:Inv X Kp σ H s) (hn:H D=none) (h1:X.s₀.heap.objs.size<=D) (h2:D ≠ X.env.locals) (h3:∀ x c,X.env.cells.lookup x=some c->c ≠ D)
  (h4:∀ p ∈ X.pn++Kp,p.1 ≠ D) (new:qq X.prog X.w (upd H D o) s.heap D o):Inv X Kp σ (upd H D o) s:=by
 have nd:∀ b u,H b=some u->b ≠ D:=fun b u e z=>by rw [z,hn] at e; cases e
 have hok:HOk X.prog X.w (upd H D o) s.heap:=fun b u e=>by
  by_cases hb:b=D
  ·subst hb; rw [jt] at e; cases e; exact new
  ·rw [ji hb] at e
   exact (I.hok b u e).stay (fun _ _ _ q=>q) (fun c q=>by rw [ji (nd c _ q)]; exact q) fun c xs q=>by rw [ji (nd c _ q)]; exact q
 refine I.step (h':=s.heap) (g':=s.gens) (d':=s.drawn) (t':=s.toks) (ch:=[D]) (fun b hb=>?_) (fun b o _ _ _ e _=>e) (fun b o _ _ _ e _=>⟨o.slots,e⟩) (fun b o hc _ n=>?_) (fun b o _ e=>⟨o,e⟩) (fun b xs e=>by rw [ji (nd b _ e)]; exact e)
  (fun b ob u e=>by rw [ji (nd b _ e)]; exact e) (fun b ps e=>⟨#[],by rw [ji (nd b _ e),e]; simp⟩) (fun m hm=>hm) hok I.bare
 ·have e:b=D:=by simpa using hb
  subst e
  exact ⟨.inr h1,h2,h3,h4⟩
 ·have e:b ≠ D:=by simpa using hc
  rw [ji e]; exact n
theorem ai4 {X : Cx} {el tg src : Expr} {ts : List Expr} {sc : Scope} {ps : Pos} {wi : TI} {g : TG} {tt : TT} {te : TE} {N' : List Str} {cap : List (Option Nat)} (hc : X.calm = true) (hi : PI X tg src wi) (ok : CompOk X sc N' cap)
    (body : ∀ cl C s0 H0 fp pn, PG (blk X N' sc cl C s0 H0 fp pn) tg g /\ PTs (blk X N' sc cl C s0 H0 fp pn) ts tt /\ PE (blk X N' sc cl C s0 H0 fp pn) el te)
    (hs : ∀ x, foldedSetIterable src X.env x = pure x := by intro _; rfl) : PE X (.ListComp el [⟨tg, src, ts, 0⟩] sc ps) (ag1 wi cap g tt te) := by
  intro Kp s σ H Q I h
  have hfr : ∀ x ∈ sc.names, x.2 = .free -> ∃ c, X.env.cells.lookup x.1 = some c := fun x hx e => I.ok.has x.1 (ok.fr x hx e)
  have hcl := aeV sc X.env hfr
  have clm : ∀ x c, (J0 X.env sc.names []).lookup x = some c -> X.env.cells.lookup x = some c := fun x c e =>
    Zr X.env sc.names [] hfr (fun _ z => nomatch z) (x, c) (PySem.mem_of_lookup e)
  generalize hgl : J0 X.env sc.names [] = cl at hcl clm
  rw [eval_ListComp]
  refine wpAny_comprehension_free (use := none) rfl hs hcl ok.kind ok.nm ?_
  refine thn (hi Kp s σ H _ I h) fun v s1 h1 => thn h1 fun itv s2 h2 => ?_
  obtain ⟨it, fp, tn, J, H2, e, I2, T, st2, f2, W, ⟨m0, w0⟩, turn⟩ := h2
  subst e
  refine wpAny_newObj_type (wpAny_newFunctionEnv ok.nc (by intro y hy; simp at hy) (fun h4 hns hsb => ?_) ok.kind)
  dsimp only at hns hsb ⊢
  generalize hH3 : s2.heap.push { cls := .type "list", dict := none, data := .seq ([] : List Value).toArray } = h3 at hns hsb ⊢
  have hC : h3.objs.size = s2.heap.objs.size + 1 := by rw [← hH3, Heap.size_push]
  generalize hCC : h3.objs.size = C at hns hsb hC ⊢
  generalize hDD : s2.heap.objs.size = D at hC ⊢
  have hDC : D ≠ C := by rw [hC]; exact Nat.ne_of_lt (Nat.lt_succ_self _)
  have old : ∀ b o, s2.heap.get? b = some o -> h4.get? b = some o := fun b o e => hsb.extBut b o (by have := Heap.lt_size e; rw [hDD] at this; rw [hC]; exact Nat.ne_of_lt (Nat.lt_succ_of_lt this)) (Heap.get?_push_of_some _ (hH3 ▸ Heap.get?_push_of_some _ e))
  have accO : h4.get? D = some { cls := .type "list", data := .seq ([] : List Value).toArray 0 } := hsb.extBut _ _ hDC (Heap.get?_push_of_some _ (by rw [← hH3, ← hDD]; exact Heap.get?_push_size _ rfl))
  have H2D : H2 D = none := I2.hok.fresh (by rw [hDD]; exact Nat.le_refl _)
  have H2C : H2 C = none := I2.hok.fresh (by rw [hDD, hC]; exact Nat.le_succ _)
  have cellsLt : ∀ x c, X.env.cells.lookup x = some c -> c<D := fun x c e => by
    obtain ⟨v, q⟩ := I2.cell x c e
    rw [← hDD]; exact q.lt
  have pinLt : ∀ p ∈ X.pn ++ Kp, p.1<D := fun p hp => by rw [← hDD]; exact Heap.lt_size (I2.pin p hp).1
  have stkLt : ∀ b ∈ frs X.stack, b<D := fun b hb => by
    obtain ⟨_, o, ho, _⟩ := I2.stack.mem hb
    rw [← hDD]; exact Heap.lt_size ho
  have fpLt : ∀ b ∈ fp, b<D := fun b hb => by
    obtain ⟨o, ho, _⟩ := T.obj _ _ st2 b hb
    rw [← hDD]; exact Heap.lt_size ho
  have ltC : ∀ {b : Addr}, b<D -> b ≠ C := fun hb => by rw [hC]; exact Nat.ne_of_lt (Nat.lt_succ_of_lt hb)
  have locLt : X.env.locals<D := by rw [← hDD]; exact I2.lt
  have hDge : s2.heap.objs.size <= D := by rw [hDD]; exact Nat.le_refl _
  have hCge : s2.heap.objs.size <= C := by rw [hDD, hC]; exact Nat.le_succ _
  have bok : (blk X N' sc cl C s2 H2 fp (X.pn ++ Kp)).Ok := by
    refine ⟨I2.ok.mod, ok.kind, I2.ok.glob, I2.ok.blt, hCge, fun x y c e1 e2 => I2.ok.inj x y c (clm x c e1) (clm y c e2), fun x hx => ?_, fun x c z _ => ?_, I2.ok.hd, I2.ok.frames, .inl rfl, fun b hb => ?_, I2.bs, Nat.le_trans I2.ok.bsz I2.sz, fun b o e hb => ?_, fun b hb z => ?_, I2.stack, I2.stkFree⟩
    · have hx' : (relabel sc X.env).names.lookup x = some .cell ∨ (relabel sc X.env).names.lookup x = some .free := hx
      have hm : (x, NameKind.free) ∈ sc.names := by
        rcases hx' with z | z
        · exact Ja (PySem.mem_of_lookup z) ok.nc (.inl rfl)
        · exact Ja (PySem.mem_of_lookup z) ok.nc (.inr rfl)
      obtain ⟨c, hc⟩ := Ju X.env sc.names [] x hm
      rw [hgl] at hc
      exact qO hc
    · exact absurd (show false = true from z) Bool.false_ne_true
    · exact ⟨ltC (fpLt b hb), fun x c e => (f2 b hb).2.2.2.2.1 x c (clm x c e)⟩
    · rcases (f2 b hb).2.2.2.1 with z | z
      · exact I2.ok.noex b o e z
      · have := Heap.lt_size e
        exact absurd (Nat.lt_of_lt_of_le this (Nat.le_trans I2.ok.bsz z)) (Nat.lt_irrefl _)
    · rcases List.mem_cons.mp (I2.stkSub b z) with q | q
      · exact (f2 b hb).2.1 q
      · exact (f2 b hb).2.2.1 q
  have pinB : ∀ p ∈ X.pn ++ Kp, p.1 ≠ C /\ p.1 ∉ frs X.stack := fun p hp => ⟨ltC (pinLt p hp), fun z => by
    rcases List.mem_cons.mp (I2.stkSub p.1 z) with q | q
    · exact (I2.pin p hp).2.2.1 q
    · exact (I2.pin p hp).2.2.2.1 q⟩
  have I4 : Inv (blk X N' sc cl C s2 H2 fp (X.pn ++ Kp)) [] (ZZ cap σ) H2 { s2 with heap := h4, toks := s2.toks + ([] : List (Str × Value)).length } := by
    refine ⟨bok, rfl, I2.bare, Un.kept old, ⟨_, hns, fun j x v e1 e2 e3 => ?_⟩, fun x c e => ?_, H2C, fun x c e => I2.freeC x c (clm x c e), fun p hp => ?_, I2.hok.kept old, ?_⟩
    · unfold ZZ at e2
      rw [List.getElem?_map] at e2
      cases e4 : cap[j]? with
      | none => rw [e4] at e2; cases e2
      | some o =>
        rw [e4] at e2
        cases o with
        | none => cases e2
        | some i =>
          obtain ⟨hNi, hf⟩ := ok.cp j i x e1 e4
          have e5 : (σ[i]?).join = some v := by
            have := Option.some.inj e2
            simpa using this
          have e6 : σ[i]? = some (some v) := by
            cases e7 : σ[i]? with
            | none => rw [e7] at e5; cases e5
            | some z => rw [e7] at e5; cases z with
              | none => cases e5
              | some z => cases e5; rfl
          have hk := ok.fr (x, .free) (PySem.mem_of_lookup hf) rfl
          obtain ⟨m, hn, hl⟩ := I2.loc
          have hv : Vis X.env.scope x := by
            rcases hk with z | z
            · exact .inr (.inl z)
            · exact .inr (.inr z)
          obtain ⟨u, r, lk⟩ := hl i x v hNi e6 hv
          have cellX : ∃ c, X.env.cells.lookup x = some c /\ s2.heap.IsCell c (some u) := by
            rcases lk with ⟨k1, _⟩ | ⟨_, c, e, z⟩
            · rcases hk with z | z
              · have z' : X.env.kindOf x = some .cell := z
                rw [k1] at z'; cases z'
              · have z' : X.env.kindOf x = some .free := z
                rw [k1] at z'; cases z'
            · exact ⟨c, e, z⟩
          obtain ⟨c, hc1, ob, hc2, hc3⟩ := cellX
          obtain ⟨c', hc'⟩ := Ju X.env sc.names [] x (PySem.mem_of_lookup hf)
          rw [hgl] at hc'
          obtain ⟨d, hd⟩ := qO hc'
          have ed : d = c := by
            have := clm x d hd
            rw [hc1] at this; cases this; rfl
          subst ed
          refine ⟨u, r, .inr ⟨?_, d, hd, ob, old _ _ hc2, hc3⟩⟩
          exact JP hf
    · obtain ⟨v, ob, ho, hd⟩ := I2.cell x c (clm x c e)
      exact ⟨v, ob, old _ _ ho, hd⟩
    · have hp' : p ∈ X.pn ++ Kp := by simpa [blk] using hp
      obtain ⟨e1, e2, e3, e4, e5⟩ := I2.pin p hp'
      exact ⟨old _ _ e1, e2, (pinB p hp').1, (pinB p hp').2, e5⟩
    · show (ZZ cap σ).length = N'.length
      unfold ZZ
      rw [List.length_map]; exact ok.len
  have fpB : ∀ {H' : Hp} {pl : List (Addr × Obj)}, (∀ b ∈ fp, H' b = none) -> (∀ p ∈ pl, p.1 ∉ fp) -> ∀ b ∈ fp, acW (blk X N' sc cl C s2 H2 fp (X.pn ++ Kp)) pl H' b := fun {H' pl} hn hpl b hb =>
    ⟨hn b hb, ltC (fpLt b hb), bok.exfs b hb, .inl hb, fun x c e => (f2 b hb).2.2.2.2.1 x c (clm x c e), fun p hp z => by
      rcases List.mem_append.mp (show p ∈ (X.pn ++ Kp) ++ pl from hp) with q | q
      · exact (f2 b hb).2.2.2.2.2 p q z
      · exact hpl p q (by rw [z]; exact hb)⟩
  have Dfp : ∀ (o : Obj), ∀ p ∈ [(D, o)], p.1 ∉ fp := fun o p hp z => by
    have e : p = (D, o) := by simpa using hp
    subst e
    exact Nat.lt_irrefl _ (fpLt D z)
  have Dfs : D ∉ frs X.stack := fun z => Nat.lt_irrefl _ (stkLt D z)
  obtain ⟨bG, bT, bE⟩ := body cl C s2 H2 fp (X.pn ++ Kp)
  have loop : codeAny (model X.prog X.w) X.A (.compLoop (.ListComp el [⟨tg, src, ts, 0⟩] sc ps) 0 (.ref it) (.ref D) (compEnvC sc cl C X.env)) (compPost (model X.prog X.w) X.A X.xe none (EP X Kp σ Q) (.ref D) C)
      { s2 with heap := h4, toks := s2.toks + ([] : List (Str × Value)).length } := by
    refine abv (fun n s' => ∃ i τ ys us k H', Inv (blk X N' sc cl C s2 H2 fp (X.pn ++ Kp)) [] τ H' s' /\ tn i s'.heap /\ (∀ b ∈ fp, H' b = none) /\ jG ys us /\ s'.heap.get? D = some { cls := .type "list", data := .seq us.toArray k } /\ H' D = none /\ W i n τ ys H') ?_ m0
      ⟨0, _, [], [], 0, H2, I4, T.keep _ _ _ st2 (fun b _ o e => old b o e), fun b hb => (f2 b hb).1, .nil, accO, H2D, w0⟩
    rintro n s5 ⟨i, τ, ys, us, k, H5, I5, st5, fr5, rv5, ho5, hD5, w5⟩
    obtain ⟨hsz, alt⟩ := turn i n τ ys H5 w5
    have I5p : Inv (blk X N' sc cl C s2 H2 fp (X.pn ++ Kp)) [(D, { cls := .type "list", data := .seq us.toArray k })] τ H5 s5 := I5.pins_of fun p hp => by
      have e : p = (D, { cls := .type "list", data := .seq us.toArray k }) := by simpa using hp
      subst e
      exact ⟨ho5, hD5, hDC, Dfs, fun v z => by cases z⟩
    rcases alt with ⟨stop, fin⟩ | ⟨go, step⟩
    · refine thn (T.done (blk X N' sc cl C s2 H2 fp (X.pn ++ Kp)) rfl rfl rfl hc i _ s5 τ H5 NoX I5p (fpB fr5 (Dfp _)) st5 stop) fun r s6 ⟨hr, I6⟩ => ?_
      subst hr
      have ho6 := (I6.pin (D, _) (List.mem_append_right _ (List.mem_singleton.mpr rfl))).1
      obtain ⟨m6, hn6, _⟩ := I6.loc
      refine ⟨m6, hn6, fun h7 hs7 => ?_⟩
      have J6 : Inv X Kp σ H5 s6 := I2.call' (ch := fp) I6.os I6.base I6.hok I6.bare fun b hb => ⟨(f2 b hb).2.2.2.1, (f2 b hb).2.1, (f2 b hb).2.2.2.2.1, (f2 b hb).2.2.2.2.2⟩
      have H5C : H5 C = none := I6.free
      have cne : ∀ {b : Addr}, b<D -> b ≠ C := ltC
      have J7 : Inv X Kp σ H5 { s6 with heap := h7, toks := s6.toks } := J6.turned (it := C) (fun b o hb e => hs7.extBut b o hb e) H5C (Ne.symm (ltC locLt)) (.inr (Nat.le_trans I2.sz hCge)) (fun x c e => ltC (cellsLt x c e)) (fun p hp => ltC (pinLt p hp))
      have ho7 : h7.get? D = some { cls := .type "list", data := .seq us.toArray k } := hs7.extBut D _ hDC ho6
      refine ⟨.ref D, upd H5 D (.lst ys), ?_, rfl, fin D hD5⟩
      exact Inv.track J7 hD5 (Nat.le_trans I2.sz hDge) (Ne.symm (Nat.ne_of_lt locLt)) (fun x c e => Nat.ne_of_lt (cellsLt x c e)) (fun p hp => Nat.ne_of_lt (pinLt p hp)) ⟨Nat.le_of_lt hsz, us, k, rv5, ho7⟩
    · refine thn (T.item (blk X N' sc cl C s2 H2 fp (X.pn ++ Kp)) rfl rfl rfl hc i _ s5 τ H5 NoX I5p (fpB fr5 (Dfp _)) st5 go) fun r s6 ⟨u, hr, h6⟩ => ?_
      subst hr
      refine thn h6 fun _ s7 ⟨x, H7, I7, r7, y7, st7, fr7⟩ => ?_
      have I7p := I7.pinned (fpB fr7 (Dfp _)) (T.obj _ _ st7)
      refine thn (bG _ s7 τ H7 x u _ I7p r7 (step x H7 y7)) fun _ s8 ⟨τ8, H8, I8, q8⟩ => ?_
      have back : ∀ {τ9 : St} {H9 : Hp} {s9 : Shared}, Inv (blk X N' sc cl C s2 H2 fp (X.pn ++ Kp)) ([(D, { cls := .type "list", data := .seq us.toArray k })] ++ Zq fp s7.heap) τ9 H9 s9 ->
          tn (i + 1) s9.heap /\ (∀ b ∈ fp, H9 b = none) /\ s9.heap.get? D = some { cls := .type "list", data := .seq us.toArray k } /\ H9 D = none := fun {τ9 H9 s9} I9 => by
        have pD := I9.pin (D, { cls := .type "list", data := .seq us.toArray k }) (List.mem_append_right _ (List.mem_append_left _ (List.mem_singleton.mpr rfl)))
        refine ⟨T.keep _ _ _ st7 fun b hb o e => (I9.pin (b, o) (List.mem_append_right _ (List.mem_append_right _ (zk hb e)))).1, fun b hb => ?_, pD.1, pD.2.1⟩
        obtain ⟨o, e, _⟩ := T.obj _ _ st7 b hb
        exact (I9.pin (b, o) (List.mem_append_right _ (List.mem_append_right _ (zk hb e)))).2.1
      have drop : ∀ {τ9 : St} {H9 : Hp} {s9 : Shared} {pl : List (Addr × Obj)}, Inv (blk X N' sc cl C s2 H2 fp (X.pn ++ Kp)) pl τ9 H9 s9 -> Inv (blk X N' sc cl C s2 H2 fp (X.pn ++ Kp)) [] τ9 H9 s9 := fun I9 => I9.pins_of fun p hp => nomatch hp
      refine thn (bT _ s8 τ8 H8 _ I8 q8) fun b s9 ⟨H9, I9, q9⟩ => ?_
      cases b with
      | false =>
        rw [if_neg Bool.false_ne_true] at q9 ⊢
        obtain ⟨m', hm, w9⟩ := q9
        obtain ⟨t9, f9, o9, d9⟩ := back I9
        exact ⟨m', hm, i + 1, τ8, ys, us, k, H9, drop I9, t9, f9, rv5, o9, d9, w9⟩
      | true =>
        rw [if_pos rfl] at q9 ⊢
        refine thn (bE _ s9 τ8 H9 _ I9 q9) fun y s10 ⟨z, H10, I10, r10, q10⟩ => ?_
        obtain ⟨m', hm, w10⟩ := q10
        obtain ⟨t10, f10, o10, d10⟩ := back I10
        have hl := rv5.length
        refine append_at (hsz := by show us.toArray.size <= sizeLine; rw [List.size_toArray, ← hl]; exact Nat.le_of_lt hsz) o10 fun h11 hs11 hD11 => ?_
        have I11 : Inv (blk X N' sc cl C s2 H2 fp (X.pn ++ Kp)) [] τ8 H10 { s10 with heap := h11, toks := s10.toks } := (drop I10).turned (it := D) (fun b o hb e => hs11.extBut b o hb e) d10 hDC (.inr hDge) (fun x c e => Nat.ne_of_lt (cellsLt x c (clm x c e)))
          (fun p hp => by have hp' : p ∈ X.pn ++ Kp := by simpa [blk] using hp
                          exact Nat.ne_of_lt (pinLt p hp'))
        refine ⟨m', hm, i + 1, τ8, ys ++ [z], us ++ [y], k + 1, H10, I11, T.keep _ _ _ t10 (fun b hb o e => hs11.extBut b o (Nat.ne_of_lt (fpLt b hb)) e), f10, rv5.append (.cons r10 .nil), ?_, d10, w10⟩
        rw [hD11]
        simp
  refine codeAny_compStart_list loop ?_
  exact T.self _ 0 _ _ _ (T.keep _ _ _ st2 (fun b _ o e => old b o e)) loop
theorem jm.tup {K:Fg}{H H':Hp}{a:Addr}{xs:List V} (e:jm H H') (h:SqT K H a xs):SqT K H' a xs:=by
 rcases h with (h | ⟨o,h⟩) | h
 ·exact .inl (.inl (e _ _ h))
 ·exact .inl (.inr ⟨o,e _ _ h⟩)
 ·exact .inr h
noncomputable def scr (ns:List Int):PyData:= .dict (ns.map fun n=>(.int n,.none))
noncomputable def aan:Key->PyData
 | .inl i=> .int i
 | .inr t=> .str t
mutual
noncomputable def Rep (K:Fg) (H:Hp):PyData->V->Prop
 | .none,v=>v= .non
 | .bool b,v=>v= .bl b
 | .int i,v=>v= .int i
 | .str x,v=>v= .str x
 | .tuple ds,v=>∃ a xs,v= .ref a/\SqT K H a xs/\Reps K H ds xs
 | .list ds,v=>∃ a xs,v= .ref a/\H a=some (.lst xs)/\Reps K H ds xs
 | .dict kvs,v=>∃ a,v= .ref a/\((∃ ns:List Int,SqL K H a (List.map V.int ns)/\kvs=ns.map (fun n=>(PyData.int n,PyData.none))) ∨ (∃ ks ob,H a=some (.frz ob (.dK ks))/\RepD K H kvs ks) ∨ (∃ x:Str,kvs=[(.str x,.none)]/\PySem.W.nsIn K mainGlobals x=some (some (.ref a))) ∨ (∃ (x:Str) (C:Addr) (oe:Obj),kvs=[(.str x,.bool true)]/\H a=some (.frz oe (.own a))/\PySem.W.nsIn K mainGlobals x=some (some (.ref C))/\oe.cls= .ref C/\oe.dict=none/\∃ vs,oe.data= .fields vs) ∨ kvs=[(.bool true,.int (a:Int))])
noncomputable def Reps (K:Fg) (H:Hp):LP->List V->Prop
 | [],xs=>xs=[]
 | d::ds,xs=>∃ x r,xs=x::r/\Rep K H d x/\Reps K H ds r
noncomputable def RepD (K:Fg) (H:Hp):List (PyData × PyData)->List (Key × V)->Prop
 | [],_=>False
 | (.none,_)::r,ks=>RepM K H r ks
 | _::_,_=>False
noncomputable def RepM (K:Fg) (H:Hp):List (PyData × PyData)->List (Key × V)->Prop
 | [],ks=>ks=[]
 | (k,d)::r,ks=>∃ i x s,k=aan i/\ks=(i,x)::s/\Rep K H d x/\RepM K H r s
end
noncomputable def zh (kvs:List (PyData × PyData)):Bool:=kvs.all fun p=>match p with
 | (.int _,.none)=>true
 | _=>false
theorem abw (ns:List Int):zh (ns.map fun n=>(PyData.int n,PyData.none))=true:=by
 simp [zh]
theorem RepD.out {K:Fg}{H:Hp}:∀ {kvs:List (PyData × PyData)}{ks:List (Key × V)},RepD K H kvs ks->∃ c r,kvs=(.none,c)::r/\RepM K H r ks
 | [],_,h=>h.elim
 | (.none,c)::r,ks,h=>⟨c,r,rfl,h⟩
 | (.bool _,_)::_,_,h=>h.elim
 | (.int _,_)::_,_,h=>h.elim
 | (.str _,_)::_,_,h=>h.elim
 | (.list _,_)::_,_,h=>h.elim
 | (.tuple _,_)::_,_,h=>h.elim
 | (.dict _,_)::_,_,h=>h.elim
theorem Rep.scrOut {K:Fg}{H:Hp}{kvs:List (PyData × PyData)}{v:V} (h:Rep K H (.dict kvs) v) (hs:zh kvs=true):∃ a ns,v= .ref a/\SqL K H a (List.map V.int ns)/\kvs=ns.map (fun n=>(PyData.int n,PyData.none)):=by
 obtain ⟨a,h1,h2 | ⟨ks,ob,h2,h3⟩ | ⟨x,h2,_⟩ | ⟨x,_,_,h2,_⟩ | h2⟩:=h
 ·obtain ⟨ns,q1,q2⟩:=h2; exact ⟨a,ns,h1,q1,q2⟩
 ·obtain ⟨c,r,rfl,_⟩:=h3.out
  simp [zh] at hs
 ·subst h2; simp [zh] at hs
 ·subst h2; simp [zh] at hs
 ·subst h2; simp [zh] at hs
noncomputable def anh (a:Addr):PyData:= .dict [(.bool true,.int (a:Int))]
noncomputable def ani (x:Str):PyData:= .dict [(.str x,.bool true)]
noncomputable def fnD (x:Str):PyData:= .dict [(.str x,.none)]
noncomputable def jS (H H':Hp):Prop:=∀ b o,H b=some o->(∀ φ,o ≠ .ext φ)->H' b=some o
theorem jm.e {H H':Hp} (s:jm H H'):jS H H':=fun b o h _=>s b o h
theorem jS.refl (H:Hp):jS H H:=fun _ _ h _=>h
theorem jS.trans {H H1 H2:Hp} (a:jS H H1) (b:jS H1 H2):jS H H2:=fun c o h n=>b c o (a c o h n) n
theorem jS.tup {K:Fg}{H H':Hp}{a:Addr}{xs:List V} (e:jS H H') (h:SqT K H a xs):SqT K H' a xs:=by
 rcases h with (h | ⟨o,h⟩) | h
 ·exact .inl (.inl (e _ _ h fun _ z=>nomatch z))
 ·exact .inl (.inr ⟨o,e _ _ h fun _ z=>nomatch z⟩)
 ·exact .inr h
theorem jS.sql {K:Fg}{H H':Hp}{a:Addr}{xs:List V} (e:jS H H') (h:SqL K H a xs):SqL K H' a xs:=by
 rcases h with (h | ⟨o,h⟩) | h
 ·exact .inl (.inl (e _ _ h fun _ z=>nomatch z))
 ·exact .inl (.inr ⟨o,e _ _ h fun _ z=>nomatch z⟩)
 ·exact .inr h
section
variable {K:Fg}{H H':Hp}
mutual
theorem Rep.mono (e:jm H H'):∀ (d:PyData) (v:V),Rep K H d v->Rep K H' d v
 | .none,v,h=>h
 | .bool _,v,h=>h
 | .int _,v,h=>h
 | .str _,v,h=>h
 | .tuple ds,v,⟨a,xs,h1,h2,h3⟩=>⟨a,xs,h1,jm.tup e h2,Reps.mono e ds xs h3⟩
 | .list ds,v,⟨a,xs,h1,h2,h3⟩=>⟨a,xs,h1,e _ _ h2,Reps.mono e ds xs h3⟩
 | .dict kvs,v,⟨a,h1,h2⟩=>⟨a,h1,h2.imp (fun ⟨ns,q1,q2⟩=>⟨ns,e.seq q1,q2⟩) fun z=>z.imp (fun ⟨ks,ob,q1,q2⟩=>⟨ks,ob,e _ _ q1,RepD.mono e kvs ks q2⟩) fun y=>y.imp id fun z=>z.imp (fun ⟨x,C,oe,q1,q2,q3⟩=>⟨x,C,oe,q1,e _ _ q2,q3⟩) id⟩
theorem Reps.mono (e:jm H H'):∀ (ds:LP) (xs:List V),Reps K H ds xs->Reps K H' ds xs
 | [],xs,h=>h
 | d::ds,xs,⟨x,r,h1,h2,h3⟩=>⟨x,r,h1,Rep.mono e d x h2,Reps.mono e ds r h3⟩
theorem RepD.mono (e:jm H H'):∀ (kvs:List (PyData × PyData)) (ks:List (Key × V)),RepD K H kvs ks->RepD K H' kvs ks
 | [],_,h=>h
 | (.none,c)::r,ks,h=>RepM.mono e r ks h
 | (.bool _,_)::_,_,h=>h
 | (.int _,_)::_,_,h=>h
 | (.str _,_)::_,_,h=>h
 | (.list _,_)::_,_,h=>h
 | (.tuple _,_)::_,_,h=>h
 | (.dict _,_)::_,_,h=>h
theorem RepM.mono (e:jm H H'):∀ (kvs:List (PyData × PyData)) (ks:List (Key × V)),RepM K H kvs ks->RepM K H' kvs ks
 | [],_,h=>h
 | (k,d)::r,ks,⟨i,x,s,h1,h2,h3,h4⟩=>⟨i,x,s,h1,h2,Rep.mono e d x h3,RepM.mono e r s h4⟩
end
mutual
theorem Rep.monoE (e:jS H H'):∀ (d:PyData) (v:V),Rep K H d v->Rep K H' d v
 | .none,v,h=>h
 | .bool _,v,h=>h
 | .int _,v,h=>h
 | .str _,v,h=>h
 | .tuple ds,v,⟨a,xs,h1,h2,h3⟩=>⟨a,xs,h1,jS.tup e h2,Reps.monoE e ds xs h3⟩
 | .list ds,v,⟨a,xs,h1,h2,h3⟩=>⟨a,xs,h1,e _ _ h2 (fun _ z=>nomatch z),Reps.monoE e ds xs h3⟩
 | .dict kvs,v,⟨a,h1,h2⟩=>⟨a,h1,h2.imp (fun ⟨ns,q1,q2⟩=>⟨ns,jS.sql e q1,q2⟩) fun z=>z.imp (fun ⟨ks,ob,q1,q2⟩=>⟨ks,ob,e _ _ q1 (fun _ z=>nomatch z),RepD.monoE e kvs ks q2⟩) fun y=>y.imp id fun z=>z.imp (fun ⟨x,C,oe,q1,q2,q3⟩=>⟨x,C,oe,q1,e _ _ q2 (fun _ z=>nomatch z),q3⟩) id⟩
theorem Reps.monoE (e:jS H H'):∀ (ds:LP) (xs:List V),Reps K H ds xs->Reps K H' ds xs
 | [],xs,h=>h
 | d::ds,xs,⟨x,r,h1,h2,h3⟩=>⟨x,r,h1,Rep.monoE e d x h2,Reps.monoE e ds r h3⟩
theorem RepD.monoE (e:jS H H'):∀ (kvs:List (PyData × PyData)) (ks:List (Key × V)),RepD K H kvs ks->RepD K H' kvs ks
 | [],_,h=>h
 | (.none,c)::r,ks,h=>RepM.monoE e r ks h
 | (.bool _,_)::_,_,h=>h
 | (.int _,_)::_,_,h=>h
 | (.str _,_)::_,_,h=>h
 | (.list _,_)::_,_,h=>h
 | (.tuple _,_)::_,_,h=>h
 | (.dict _,_)::_,_,h=>h
theorem RepM.monoE (e:jS H H'):∀ (kvs:List (PyData × PyData)) (ks:List (Key × V)),RepM K H kvs ks->RepM K H' kvs ks
 | [],_,h=>h
 | (k,d)::r,ks,⟨i,x,s,h1,h2,h3,h4⟩=>⟨i,x,s,h1,h2,Rep.monoE e d x h3,RepM.monoE e r s h4⟩
end
end
noncomputable def ag2:HO->Bool
 | .lst _=>true
 | .tup _=>true
 | .frz _ _=>true
 | _=>false
noncomputable def jC (H H':Hp):Prop:=∀ b o,H b=some o->ag2 o=true->H' b=some o
section
variable {K:Fg}{H H':Hp}
theorem jC.tup {a:Addr}{xs:List V} (e:jC H H') (h:SqT K H a xs):SqT K H' a xs:=by
 rcases h with (h | ⟨o,h⟩) | h
 ·exact .inl (.inl (e _ _ h rfl))
 ·exact .inl (.inr ⟨o,e _ _ h rfl⟩)
 ·exact .inr h
theorem jC.sql {a:Addr}{xs:List V} (e:jC H H') (h:SqL K H a xs):SqL K H' a xs:=by
 rcases h with (h | ⟨o,h⟩) | h
 ·exact .inl (.inl (e _ _ h rfl))
 ·exact .inl (.inr ⟨o,e _ _ h rfl⟩)
 ·exact .inr h
mutual
theorem Rep.monoA (e:jC H H'):∀ (d:PyData) (v:V),Rep K H d v->Rep K H' d v
 | .none,v,h=>h
 | .bool _,v,h=>h
 | .int _,v,h=>h
 | .str _,v,h=>h
 | .tuple ds,v,⟨a,xs,h1,h2,h3⟩=>⟨a,xs,h1,jC.tup e h2,Reps.monoA e ds xs h3⟩
 | .list ds,v,⟨a,xs,h1,h2,h3⟩=>⟨a,xs,h1,e _ _ h2 rfl,Reps.monoA e ds xs h3⟩
 | .dict kvs,v,⟨a,h1,h2⟩=>⟨a,h1,h2.imp (fun ⟨ns,q1,q2⟩=>⟨ns,jC.sql e q1,q2⟩) fun z=>z.imp (fun ⟨ks,ob,q1,q2⟩=>⟨ks,ob,e _ _ q1 rfl,RepD.monoA e kvs ks q2⟩) fun y=>y.imp id fun z=>z.imp (fun ⟨x,C,oe,q1,q2,q3⟩=>⟨x,C,oe,q1,e _ _ q2 rfl,q3⟩) id⟩
theorem Reps.monoA (e:jC H H'):∀ (ds:LP) (xs:List V),Reps K H ds xs->Reps K H' ds xs
 | [],xs,h=>h
 | d::ds,xs,⟨x,r,h1,h2,h3⟩=>⟨x,r,h1,Rep.monoA e d x h2,Reps.monoA e ds r h3⟩
theorem RepD.monoA (e:jC H H'):∀ (kvs:List (PyData × PyData)) (ks:List (Key × V)),RepD K H kvs ks->RepD K H' kvs ks
 | [],_,h=>h
 | (.none,c)::r,ks,h=>RepM.monoA e r ks h
 | (.bool _,_)::_,_,h=>h
 | (.int _,_)::_,_,h=>h
 | (.str _,_)::_,_,h=>h
 | (.list _,_)::_,_,h=>h
 | (.tuple _,_)::_,_,h=>h
 | (.dict _,_)::_,_,h=>h
theorem RepM.monoA (e:jC H H'):∀ (kvs:List (PyData × PyData)) (ks:List (Key × V)),RepM K H kvs ks->RepM K H' kvs ks
 | [],_,h=>h
 | (k,d)::r,ks,⟨i,x,s,h1,h2,h3,h4⟩=>⟨i,x,s,h1,h2,Rep.monoA e d x h3,RepM.monoA e r s h4⟩
end
end
theorem jm.a {H H':Hp} (s:jm H H'):jC H H':=fun b o h _=>s b o h
theorem jS.a {H H':Hp} (s:jS H H'):jC H H':=fun b o h q=>s b o h fun φ z=>by subst z; cases q
theorem jC.refl (H:Hp):jC H H:=fun _ _ h _=>h
theorem jC.trans {H H1 H2:Hp} (a:jC H H1) (b:jC H1 H2):jC H H2:=fun c o h n=>b c o (a c o h n) n
section
variable {K:Fg}{H H':Hp}
theorem Rep.cel (a:Addr):Rep K H (anh a) (.ref a):=⟨a,rfl,.inr (.inr (.inr (.inr rfl)))⟩
theorem Reps.length:∀ {ds:LP}{xs:List V},Reps K H ds xs->xs.length=ds.length
 | [],xs,h=>by cases h; rfl
 | d::ds,xs,⟨x,r,h1,h2,h3⟩=>by subst h1; simp [Reps.length h3]
theorem Reps.get:∀ {ds:LP}{xs:List V}{i:Nat}{d:PyData},Reps K H ds xs->ds[i]?=some d->∃ x,xs[i]?=some x/\Rep K H d x
 | [],xs,i,d,h,e=>by simp at e
 | c::ds,xs,0,d,⟨x,r,h1,h2,h3⟩,e=>by subst h1; simp at e; subst e; exact ⟨x,rfl,h2⟩
 | c::ds,xs,i+1,d,⟨x,r,h1,h2,h3⟩,e=>by
  subst h1
  obtain ⟨y,e1,e2⟩:=Reps.get (i:=i) h3 (by simpa using e)
  exact ⟨y,by simpa using e1,e2⟩
theorem Reps.append:∀ {ds es:LP}{xs ys:List V},Reps K H ds xs->Reps K H es ys->Reps K H (ds++es) (xs++ys)
 | [],es,xs,ys,h,g=>by cases h; exact g
 | d::ds,es,xs,ys,⟨x,r,h1,h2,h3⟩,g=>by subst h1; exact ⟨x,r++ys,rfl,h2,Reps.append h3 g⟩
theorem Reps.take:∀ {ds:LP}{xs:List V} (n:Nat),Reps K H ds xs->Reps K H (ds.take n) (xs.take n)
 | ds,xs,0,h=>by simp; rfl
 | [],xs,n+1,h=>by cases h; rfl
 | d::ds,xs,n+1,⟨x,r,h1,h2,h3⟩=>by subst h1; exact ⟨x,_,rfl,h2,Reps.take n h3⟩
theorem Reps.drop:∀ {ds:LP}{xs:List V} (n:Nat),Reps K H ds xs->Reps K H (ds.drop n) (xs.drop n)
 | ds,xs,0,h=>by simpa using h
 | [],xs,n+1,h=>by cases h; rfl
 | d::ds,xs,n+1,⟨x,r,h1,h2,h3⟩=>by subst h1; simpa using Reps.drop n h3
theorem Reps.ints:∀ {ns:List Int}{xs:List V},Reps K H (ns.map PyData.int) xs->xs=ns.map V.int
 | [],xs,h=>h
 | n::ns,xs,⟨x,r,h1,h2,h3⟩=>by subst h1; cases (show x=V.int n from h2); rw [Reps.ints h3]; rfl
end
section
variable {X:Cx}{Kp:List (Addr × Obj)}{σ:St}{H:Hp}{s:Shared}
mutual
theorem qr (I:Inv X Kp σ H s):∀ (d:PyData) (v:V) (u:Value),Rep X.K H d v->jQ v u->d.canLay0=true->∃ as,Reads s.heap u d as
 | .none,v,u,h,r,_=>by cases h; cases r; exact ⟨_,.none⟩
 | .bool b,v,u,h,r,_=>by cases h; cases r; exact ⟨_,.bool b⟩
 | .int i,v,u,h,r,_=>by cases h; obtain ⟨t,rfl⟩:=r; exact ⟨_,.int i t⟩
 | .str x,v,u,h,r,_=>by cases h; obtain ⟨t,rfl⟩:=r; exact ⟨_,.str x t⟩
 | .tuple ds,v,u,⟨a,xs,h1,h2,h3⟩,r,hc=>by
  subst h1; cases r
  obtain ⟨its,rv,⟨o,e1,e2,n,e3⟩,_⟩:=I.tuple h2
  obtain ⟨as,ra⟩:=readsAll_of I ds xs its h3 rv (by simpa [PyData.canLay0] using hc)
  exact ⟨as,.tuple e1 e2 e3 (by simpa using ra)⟩
 | .list ds,v,u,⟨a,xs,h1,h2,h3⟩,r,hc=>by
  subst h1; cases r
  obtain ⟨its,rv,⟨o,n,e1,e2,e3,e4⟩,_⟩:=I.list (SqL.of h2)
  obtain ⟨as,ra⟩:=readsAll_of I ds xs its h3 rv (by simpa [PyData.canLay0] using hc)
  exact ⟨a::as,.list e1 e2 e4 (by simpa using ra)⟩
 | .dict kvs,v,u,h,r,hc=>by simp [PyData.canLay0] at hc
theorem readsAll_of (I:Inv X Kp σ H s):∀ (ds:LP) (xs:List V) (us:List Value),Reps X.K H ds xs->jG xs us->PyData.canLayAll0 ds=true->∃ as,ReadsAll s.heap us ds as
 | [],xs,us,h,r,_=>by cases h; cases r; exact ⟨_,.nil⟩
 | d::ds,xs,us,⟨x,q,h1,h2,h3⟩,r,hc=>by
  subst h1
  cases r with
  | cons r1 r2=>
   have hc':d.canLay0=true/\PyData.canLayAll0 ds=true:=by simpa [PyData.canLayAll0] using hc
   obtain ⟨as,ra⟩:=qr I d x _ h2 r1 hc'.1
   obtain ⟨bs,rb⟩:=readsAll_of I ds q _ h3 r2 hc'.2
   exact ⟨_,.cons ra rb⟩
end
end
noncomputable abbrev Rho:=List (OP)
abbrev RP:=Rho->OP
structure EnvR (K:Fg) (H:Hp) (ρ:Rho) (σ:St):Prop where
 len:ρ.length=σ.length
 at':∀ (i:Nat) (d:PyData),ρ[i]?=some (some d)->∃ v,σ[i]?=some (some v)/\Rep K H d v
theorem EnvR.mono {K:Fg}{H H':Hp}{ρ:Rho}{σ:St} (e:EnvR K H ρ σ) (h:jm H H'):EnvR K H' ρ σ:=
 ⟨e.len,fun i d q=>let ⟨v,e1,e2⟩:=e.at' i d q; ⟨v,e1,Rep.mono h d v e2⟩⟩
theorem EnvR.set {K:Fg}{H:Hp}{ρ:Rho}{σ:St} (e:EnvR K H ρ σ) {i:Nat}{d:PyData}{v:V} (r:Rep K H d v):EnvR K H (ρ.set i (some d)) (σ.set i (some v)):=by
 refine ⟨by simp [e.len],fun j c q=>?_⟩
 by_cases hj:i=j
 ·subst hj
  rw [List.getElem?_set] at q ⊢
  simp only [zzM] at q ⊢
  by_cases hl:i < ρ.length
  ·rw [if_pos hl] at q
   rw [if_pos (by rw [←e.len]; exact hl)]
   cases q
   exact ⟨v,rfl,r⟩
  ·rw [if_neg hl] at q; cases q
 ·rw [List.getElem?_set_ne hj] at q ⊢
  exact e.at' j c q
noncomputable def lkp (i:Nat) (ρ:Rho):OP:=(ρ[i]?).join
theorem zt {i:Nat}{ρ:Rho}{d:PyData} (h:lkp i ρ=some d):ρ[i]?=some (some d):=by
 unfold lkp at h
 cases e:ρ[i]? with
 | none=>rw [e] at h; cases h
 | some o=>rw [e] at h; cases o with
  | none=>cases h
  | some c=>cases h; rfl
noncomputable def tD (K:Fg) (f:RP):TE:=fun σ H Q=>∃ ρ d,EnvR K H ρ σ/\f ρ=some d/\∀ v H',jm H H'->Rep K H' d v->Q v H'
@[irreducible] noncomputable def PD (X:Cx) (e:Expr) (f:RP):Prop:=PE X e (tD X.K f)
noncomputable def tDT (K:Fg) (f:Rho->Option Bool):TT:=fun σ H Q=>∃ ρ b,EnvR K H ρ σ/\f ρ=some b/\∀ H',jm H H'->Q b H'
@[irreducible] noncomputable def PTD (X:Cx) (e:Expr) (f:Rho->Option Bool):Prop:=PT X e (tDT X.K f)
noncomputable def tDA (K:Fg) (f:Rho->Option (LP)):TA:=fun σ H Q=>∃ ρ ds,EnvR K H ρ σ/\f ρ=some ds/\∀ vs H',jm H H'->Reps K H' ds vs->Q vs H'
@[irreducible] noncomputable def PAD (X:Cx) (es:List Expr) (f:Rho->Option (LP)):Prop:=PA X es (tDA X.K f)
inductive Out where
 | nx (ρ:Rho) | rt (d:PyData) | bk (ρ:Rho) | ct (ρ:Rho)
abbrev RO:=Rho->Option Out
noncomputable def aeW (K:Fg) (D:Ends) (H:Hp):Out->Prop
 | .nx ρ=>∀ σ H',jm H H'->EnvR K H' ρ σ->D.nx σ H'
 | .rt d=>∀ v H',jm H H'->Rep K H' d v->D.rt v H'
 | .bk ρ=>∀ σ H',jm H H'->EnvR K H' ρ σ->D.bk σ H'
 | .ct ρ=>∀ σ H',jm H H'->EnvR K H' ρ σ->D.ct σ H'
theorem aeW.mono {K:Fg}{D:Ends}{H H':Hp}{o:Out} (h:aeW K D H o) (e:jm H H'):aeW K D H' o:=by
 cases o with
 | nx ρ=>exact fun σ H2 e2 r=>h σ H2 (e.trans e2) r
 | rt d=>exact fun v H2 e2 r=>h v H2 (e.trans e2) r
 | bk ρ=>exact fun σ H2 e2 r=>h σ H2 (e.trans e2) r
 | ct ρ=>exact fun σ H2 e2 r=>h σ H2 (e.trans e2) r
noncomputable def tDS (K:Fg) (F:RO):TS:=fun D σ H=>∃ ρ o,EnvR K H ρ σ/\F ρ=some o/\aeW K D H o
@[irreducible] noncomputable def PSD (X:Cx) (st:Stmt) (F:RO):Prop:=PS X st (tDS X.K F)
@[irreducible] noncomputable def aao (X:Cx) (st:List Stmt) (F:RO):Prop:=PSs X st (tDS X.K F)
noncomputable def tDG (K:Fg) (ga:PyData->Rho->Option Rho):TG:=fun v σ H Q=>∃ ρ d ρ',EnvR K H ρ σ/\Rep K H d v/\ga d ρ=some ρ'/\∀ σ' H',jm H H'->EnvR K H' ρ' σ'->Q σ' H'
@[irreducible] noncomputable def PGD (X:Cx) (tg:Expr) (ga:PyData->Rho->Option Rho):Prop:=PG X tg (tDG X.K ga)
section
variable {X:Cx}{e a b c:Expr}{es:List Expr}{fa fb fc:RP}{pos:Pos}
theorem PE.imp {t t':TE} (h:PE X e t) (hi:∀ σ H Q,t' σ H Q->t σ H Q):PE X e t':=fun Kp s σ H Q I q=>h Kp s σ H Q I (hi σ H Q q)
theorem PT.imp {t t':TT} (h:PT X e t) (hi:∀ σ H Q,t' σ H Q->t σ H Q):PT X e t':=fun Kp s σ H Q I q=>h Kp s σ H Q I (hi σ H Q q)
theorem PA.imp {t t':TA} (h:PA X es t) (hi:∀ σ H Q,t' σ H Q->t σ H Q):PA X es t':=fun pos Kp s σ H Q I q=>h pos Kp s σ H Q I (hi σ H Q q)
theorem PS.imp {st:Stmt}{t t':TS} (h:PS X st t) (hi:∀ D σ H,t' D σ H->t D σ H):PS X st t':=fun Kp s σ H D I q=>h Kp s σ H D I (hi D σ H q)
theorem PSs.imp {st:List Stmt}{t t':TS} (h:PSs X st t) (hi:∀ D σ H,t' D σ H->t D σ H):PSs X st t':=fun Kp s σ H D I q=>h Kp s σ H D I (hi D σ H q)
theorem PG.imp {t t':TG} (h:PG X e t) (hi:∀ v σ H Q,t' v σ H Q->t v σ H Q):PG X e t':=fun Kp s σ H v u Q I r q=>h Kp s σ H v u Q I r (hi v σ H Q q)
theorem jb (i:Nat) {x:Str}{pos:Pos} (hN:X.N[i]?=some x:=by rfl) (hv:Vis X.env.scope x:=by first | exact Or.inl rfl | exact Or.inr (Or.inl rfl) | exact Or.inr (Or.inr rfl)) (hd:(x == ("__debug__":Str))=false:=by decide)
  (hcd:(x == ("__classdict__":Str))=false:=by decide):PD X (.Name x pos) (lkp i):=by
 with_unfolding_all exact (PE.imp (ab5 hN hv hd hcd) fun σ H Q ⟨ρ,d,e,h,k⟩=>let ⟨v,e1,e2⟩:=e.at' i d (zt h); ⟨v,e1,k v H (jm.refl H) e2⟩)
noncomputable def cst (d:PyData) (_:Rho):OP:=some d
theorem jf {i j pos}:PD X (.Constant (.int i) j pos) (cst (.int i)):=by
 with_unfolding_all exact (PE.imp akr fun σ H Q ⟨ρ,d,e,h,k⟩=>by cases h; exact k _ H (jm.refl H) rfl)
theorem zL {i j pos}:PD X (.Constant (.bool i) j pos) (cst (.bool i)):=by
 with_unfolding_all exact (PE.imp alU fun σ H Q ⟨ρ,d,e,h,k⟩=>by cases h; exact k _ H (jm.refl H) rfl)
theorem ad9 {j pos}:PD X (.Constant .none j pos) (cst .none):=by
 with_unfolding_all exact (PE.imp aks fun σ H Q ⟨ρ,d,e,h,k⟩=>by cases h; exact k _ H (jm.refl H) rfl)
theorem qz {i j pos}:PD X (.Constant (.str i) j pos) (cst (.str i)):=by
 with_unfolding_all exact (PE.imp agI fun σ H Q ⟨ρ,d,e,h,k⟩=>by cases h; exact k _ H (jm.refl H) rfl)
theorem ai5 {x:Str}{v:V}{u:Value}{d:PyData} (hg:Gl X x) (hm:X.mg x=some u) (r:jQ v u) (hr:∀ H,Rep X.K H d v) (hd:(x == ("__debug__":Str))=false:=by decide):PD X (.Name x pos) (cst d):=by
 with_unfolding_all exact (PE.imp (aeM hg hm r hd) fun σ H Q ⟨ρ,d',e,h,k⟩=>by cases h; exact k _ H (jm.refl H) (hr H))
noncomputable def op2 (g:PyData->PyData->OP) (fa fb:RP):RP:=fun ρ=>(fa ρ).bind fun x=>(fb ρ).bind fun y=>g x y
noncomputable def OpD (X:Cx) (f:Value->Value->Sem Value) (g:PyData->PyData->OP):Prop:=
 ∃ r,OpR X f r/\∀ p q d x y H Q,g p q=some d->Rep X.K H p x->Rep X.K H q y->(∀ v H',jm H H'->Rep X.K H' d v->Q v H')->r x y H Q
theorem ag3 {g:PyData->PyData->OP}{K:Fg}{r:R2} (hr:∀ p q d x y H Q,g p q=some d->Rep K H p x->Rep K H q y->(∀ v H',jm H H'->Rep K H' d v->Q v H')->r x y H Q)
  {σ:St} {H:Hp} {Q:VK} (h:tD K (op2 g fa fb) σ H Q):tOp r (tD K fa) (tD K fb) σ H Q:=by
 obtain ⟨ρ,d,e,h,k⟩:=h
 unfold op2 at h
 cases ha:fa ρ with
 | none=>rw [ha] at h; cases h
 | some p=>
  rw [ha] at h
  cases hb:fb ρ with
  | none=>rw [hb] at h; cases h
  | some q=>
   rw [hb] at h
   refine ⟨ρ,p,e,ha,fun x H1 s1 r1=>⟨ρ,q,e.mono s1,hb,fun y H2 s2 r2=>?_⟩⟩
   exact hr p q d x y H2 Q h (Rep.mono s2 p x r1) r2 fun v H' s3 r3=>k v H' (s1.trans (s2.trans s3)) r3
theorem jp {op:Operator}{g:PyData->PyData->OP} (ho:OpD X (binaryOp op) g) (ha:PD X a fa) (hb:PD X b fb):PD X (.BinOp a op b pos) (op2 g fa fb):=by
 with_unfolding_all
  obtain ⟨r,h1,h2⟩:=ho
  exact PE.imp (al4 h1 ha hb) fun σ H Q h=>ag3 h2 h
theorem acg {op:CmpOp}{g:PyData->PyData->OP} (ho:OpD X (compareOp op) g) (ha:PD X a fa) (hb:PD X b fb) (hm:behindInMarks op b=false:=by first | exact ad1 _ | with_unfolding_all rfl):PD X (.Compare a [op] [b] pos) (op2 g fa fb):=by
 with_unfolding_all
  obtain ⟨r,h1,h2⟩:=ho
  exact PE.imp (aiO h1 ha hb hm) fun σ H Q h=>ag3 h2 h
noncomputable def asB:PyData->Option Bool
 | .bool b=>some b
 | _=>none
noncomputable def tst (f:RP):Rho->Option Bool:=fun ρ=>(f ρ).bind asB
theorem Jv {d:PyData}{b:Bool} (h:asB d=some b):d= .bool b:=by
 cases d <;> simp [asB] at h
 rw [h]
theorem jW {op:CmpOp}{g:PyData->PyData->OP} (ho:OpD X (compareOp op) g) (ha:PD X a fa) (hb:PD X b fb) (hm:behindInMarks op b=false:=by first | exact ad1 _ | with_unfolding_all rfl):PTD X (.Compare a [op] [b] pos) (tst (op2 g fa fb)):=by
 with_unfolding_all
  obtain ⟨r,h1,h2⟩:=ho
  refine PT.imp (aiP h1 ha hb hm) fun σ H Q ⟨ρ,t,e,h,k⟩=>?_
  cases hd:op2 g fa fb ρ with
  | none=>simp [tst,hd] at h
  | some d=>
   have ht:d= .bool t:=Jv (by simpa [tst,hd] using h)
   subst ht
   exact ag3 h2 ⟨ρ,_,e,hd,fun v H' s r=>⟨t,r,k H' s⟩⟩
theorem j0 (h:PD X e fa) (he:∀ whole,isTrue e X.env whole=(do let v ←whole; standAt e.pos; holding [v] (truthy v)):=by intro _; rfl):PTD X e (tst fa):=by
 with_unfolding_all
  refine PT.imp (aku h he) fun σ H Q ⟨ρ,t,e,h,k⟩=>?_
  cases hd:fa ρ with
  | none=>simp [tst,hd] at h
  | some d=>
   have ht:d= .bool t:=Jv (by simpa [tst,hd] using h)
   subst ht
   exact ⟨ρ,_,e,hd,fun v H' s r=>⟨t,r,k H' s⟩⟩
variable {ta tb:Rho->Option Bool}{qg:List Expr}
@[irreducible] noncomputable def PWD (X:Cx) (e:Expr) (f:Rho->Option Bool):Prop:=PW X e (tDT X.K f)
theorem PW.imp {t t':TT} (h:PW X e t) (hi:∀ σ H Q,t' σ H Q->t σ H Q):PW X e t':=fun wh Kp s σ H Q I q=>h wh Kp s σ H Q I (hi σ H Q q)
noncomputable def akZ (ta tb:Rho->Option Bool):Rho->Option Bool:=fun ρ=>(ta ρ).bind fun x=>if x=true then tb ρ else some false
noncomputable def orB (ta tb:Rho->Option Bool):Rho->Option Bool:=fun ρ=>(ta ρ).bind fun x=>if x=true then some true else tb ρ
noncomputable def zz (ta:Rho->Option Bool):Rho->Option Bool:=fun ρ=>(ta ρ).map (!·)
theorem za (ha:PTD X a ta):PWD X (.BoolOp .Or [a] pos) ta:=by
 with_unfolding_all exact (akv ha)
theorem zM (ha:PTD X a ta) (hb:PWD X (.BoolOp .Or (b::qg) pos) tb):PWD X (.BoolOp .Or (a::b::qg) pos) (orB ta tb):=by
 with_unfolding_all
  refine PW.imp (alV ha hb) fun σ H Q ⟨ρ,t,e,h,k⟩=>?_
  cases h1:ta ρ with
  | none=>simp [orB,h1] at h
  | some x=>
   refine ⟨ρ,x,e,h1,fun H' s=>?_⟩
   cases x with
   | false=>rw [if_neg Bool.false_ne_true]; exact ⟨ρ,t,e.mono s,by simpa [orB,h1] using h,fun H2 s2=>k H2 (s.trans s2)⟩
   | true=>
    rw [if_pos rfl]
    have:t=true:=by simpa [orB,h1] using h.symm
    subst this
    exact k H' s
theorem qA {op:BoolOp}{l:List Expr} (h:PWD X (.BoolOp op l pos) ta):PTD X (.BoolOp op l pos) ta:=by
 with_unfolding_all exact (h.pt)
theorem j7 (ha:PTD X a ta):PTD X (.UnaryOp .Not a pos) (zz ta):=by
 with_unfolding_all
  refine PT.imp (akw ha) fun σ H Q ⟨ρ,t,e,h,k⟩=>?_
  cases h1:ta ρ with
  | none=>simp [zz,h1] at h
  | some x=>
   have:(!x)=t:=by simpa [zz,h1] using h
   subst this
   exact ⟨ρ,x,e,h1,fun H' s=>k H' s⟩
noncomputable def ifD (tc:Rho->Option Bool) (fa fb:RP):RP:=fun ρ=>(tc ρ).bind fun x=>if x=true then fa ρ else fb ρ
noncomputable def jD (_:Rho):Option (LP):=some []
noncomputable def jj (fa:RP) (fr:Rho->Option (LP)):Rho->Option (LP):=fun ρ=>(fa ρ).bind fun x=>(fr ρ).map fun r=>x::r
theorem je:PAD X [] jD:=by
 with_unfolding_all exact (PA.imp JN fun σ H Q ⟨ρ,d,e,h,k⟩=>by cases h; exact k [] H (jm.refl H) rfl)
theorem ja {fr:Rho->Option (LP)} (ha:PD X e fa) (hr:PAD X es fr) (hs:starEach (e::es) X.env=(false,eval e X.env)::starEach es X.env:=by rfl):PAD X (e::es) (jj fa fr):=by
 with_unfolding_all
  refine PA.imp (q0 ha hr hs) fun σ H Q ⟨ρ,ds,en,h,k⟩=>?_
  cases h1:fa ρ with
  | none=>simp [jj,h1] at h
  | some x=>
   cases h2:fr ρ with
   | none=>simp [jj,h1,h2] at h
   | some r=>
    have:x::r=ds:=by simpa [jj,h1,h2] using h
    subst this
    exact ⟨ρ,x,en,h1,fun v H1 s1 r1=>⟨ρ,r,en.mono s1,h2,fun vs H2 s2 r2=>k _ H2 (s1.trans s2) ⟨v,vs,rfl,Rep.mono s2 x v r1,r2⟩⟩⟩
noncomputable def few (ds:LP):Bool:=decide (ds.length<1000000)
theorem aap {n:Nat} (h:n<1000000):n<=sizeLine:=Nat.le_of_lt (Nat.lt_of_lt_of_le h (by rw [sizeLine_eq]; decide))
theorem jB {H:Hp}{p:Addr}{o:HO} (hp:H p=none):jm H (upd H p o):=fun b u h=>by rw [ji (qj h hp)]; exact h
noncomputable def JQ (fr:Rho->Option (LP)):RP:=fun ρ=>(fr ρ).bind fun ds=>if few ds=true then some (.tuple ds) else none
noncomputable def J4 (fr:Rho->Option (LP)):RP:=fun ρ=>(fr ρ).bind fun ds=>if few ds=true then some (.list ds) else none
theorem Jp {x1}{fr:Rho->Option (LP)} (h:PAD X es fr):PD X (.Tuple es x1 pos) (JQ fr):=by
 with_unfolding_all
  refine PE.imp (agU h) fun σ H Q ⟨ρ,d,e,h,k⟩=>?_
  cases h1:fr ρ with
  | none=>simp [JQ,h1] at h
  | some ds=>
   by_cases hf:few ds=true
   ·have:PyData.tuple ds=d:=by simpa [JQ,h1,hf] using h
    subst this
    refine ⟨ρ,ds,e,h1,fun vs H1 s1 r1=>⟨aap (by rw [r1.length]; simpa [few] using hf),fun p hp=>k _ _ (s1.trans (jB hp)) ⟨p,vs,rfl,SqT.of jt,Reps.mono (jB hp) _ _ r1⟩⟩⟩
   ·simp [JQ,h1,hf] at h
theorem ach {fr:Rho->Option (LP)} (h:PAD X es fr):PD X (.List es pos) (J4 fr):=by
 with_unfolding_all
  refine PE.imp (ad4 h) fun σ H Q ⟨ρ,d,e,h,k⟩=>?_
  cases h1:fr ρ with
  | none=>simp [J4,h1] at h
  | some ds=>
   by_cases hf:few ds=true
   ·have:PyData.list ds=d:=by simpa [J4,h1,hf] using h
    subst this
    refine ⟨ρ,ds,e,h1,fun vs H1 s1 r1=>⟨aap (by rw [r1.length]; simpa [few] using hf),fun p hp=>k _ _ (s1.trans (jB hp)) ⟨p,vs,rfl,jt,Reps.mono (jB hp) _ _ r1⟩⟩⟩
   ·simp [J4,h1,hf] at h
end
end BX
end
section
namespace BX
open PySem PySem.Spec L2
open PyProof.Rows hiding St
section
variable {X:Cx}{e a b c tg src:Expr}{es:List Expr}{st:Stmt}{sts qg:List Stmt}{fa fb fc:RP}{F G:RO}{pos:Pos}
noncomputable def qP (fa:RP):RO:=fun ρ=>(fa ρ).map Out.rt
theorem jz (h:PD X e fa):PSD X (.Return (some e) pos) (qP fa):=by
 with_unfolding_all
  refine PS.imp (adX h) fun D σ H ⟨ρ,o,en,q,k⟩=>?_
  cases h1:fa ρ with
  | none=>simp [qP,h1] at q
  | some d=>
   have:Out.rt d=o:=by simpa [qP,h1] using q
   subst this
   exact ⟨ρ,d,en,h1,k⟩
noncomputable def ifS (tc:Rho->Option Bool) (F G:RO):RO:=fun ρ=>(tc ρ).bind fun x=>if x=true then F ρ else G ρ
theorem jY {l r:List Stmt}{tc:Rho->Option Bool} (hc:PTD X c tc) (hl:aao X l F) (hr:aao X r G):PSD X (.If c l r pos) (ifS tc F G):=by
 with_unfolding_all
  refine PS.imp (alZ hc hl hr) fun D σ H ⟨ρ,o,en,q,k⟩=>?_
  cases h1:tc ρ with
  | none=>simp [ifS,h1] at q
  | some x=>
   refine ⟨ρ,x,en,h1,fun H1 s1=>?_⟩
   cases x with
   | true=>rw [if_pos rfl]; exact ⟨ρ,o,en.mono s1,by simpa [ifS,h1] using q,k.mono s1⟩
   | false=>rw [if_neg Bool.false_ne_true]; exact ⟨ρ,o,en.mono s1,by simpa [ifS,h1] using q,k.mono s1⟩
noncomputable def qX:RO:=fun ρ=>some (.nx ρ)
noncomputable def j2 (F G:RO):RO:=fun ρ=>(F ρ).bind fun o=>match o with
 | .nx ρ'=>G ρ'
 | o=>some o
theorem jg:aao X [] qX:=by
 with_unfolding_all
  refine PSs.imp aeO fun D σ H ⟨ρ,o,en,q,k⟩=>?_
  cases q
  exact k σ H (jm.refl H) en
theorem jc (h1 : PSD X st F) (h2 : aao X qg G) : aao X (st :: qg) (j2 F G) := by
  with_unfolding_all
   refine PSs.imp (J2 h1 h2) fun D σ H ⟨ρ, o, en, q, k⟩ => ?_
   cases hf : F ρ with
   | none => simp [j2, hf] at q
   | some p =>
     refine ⟨ρ, p, en, hf, ?_⟩
     cases p with
     | nx ρ' => exact fun σ' H' s' r' => ⟨ρ', o, r', by simpa [j2, hf] using q, k.mono s'⟩
     | rt d => have : Out.rt d = o := by simpa [j2, hf] using q
               subst this; exact k
     | bk d => have : Out.bk d = o := by simpa [j2, hf] using q
               subst this; exact k
     | ct d => have : Out.ct d = o := by simpa [j2, hf] using q
               subst this; exact k
noncomputable def ag4:RO:=fun _=>none
theorem Zs:PSD X st ag4:=by
 with_unfolding_all exact (PS.imp agL fun D σ H ⟨ρ,o,en,q,k⟩=>by cases q)
theorem aaq:aao X sts ag4:=by
 with_unfolding_all exact (PSs.imp afA fun D σ H ⟨ρ,o,en,q,k⟩=>by cases q)
noncomputable def Z0 (fa:RP):RO:=fun ρ=>(fa ρ).map fun _=> .nx ρ
theorem zN (h:PD X e fa) (hs:swapsWith e none pos.line X.env=pure false:=by rfl):PSD X (.Expr e pos) (Z0 fa):=by
 with_unfolding_all
  refine PS.imp (ab8 h hs) fun D σ H ⟨ρ,o,en,q,k⟩=>?_
  cases h1:fa ρ with
  | none=>simp [Z0,h1] at q
  | some d=>
   have:Out.nx ρ=o:=by simpa [Z0,h1] using q
   subst this
   exact ⟨ρ,d,en,h1,fun v H' s r=>k σ H' s (en.mono s)⟩
noncomputable def jP (i:Nat) (d:PyData) (ρ:Rho):Option Rho:=some (ρ.set i (some d))
theorem jL (i:Nat) {x:Str} (hN:X.N.Nodup) (hi:X.N[i]?=some x:=by rfl) (hx:Loc X.env.scope x:=by first | exact Or.inl rfl | exact Or.inr rfl)
  (hf:X.fn x=true ∨ X.env.scope.names.lookup x=some .local:=by first | exact .inl rfl | exact .inr rfl | assumption):PGD X (.Name x pos) (jP i):=by
 with_unfolding_all
  refine PG.imp (Z3 hN hi hx hf) fun v σ H Q ⟨ρ,d,ρ',en,r,q,k⟩=>?_
  cases q
  exact k _ H (jm.refl H) (en.set r)
@[irreducible] noncomputable def ag5 (X:Cx) (ts:List Expr) (ga:LP->Rho->Option Rho):Prop:=PGs X ts fun vs σ H Q=>∃ ρ ds ρ',EnvR X.K H ρ σ/\Reps X.K H ds vs/\ga ds ρ=some ρ'/\∀ σ' H',jm H H'->EnvR X.K H' ρ' σ'->Q σ' H'
noncomputable def JR (ds:LP) (ρ:Rho):Option Rho:=match ds with
 | []=>some ρ
 | _=>none
noncomputable def j8 (ga:PyData->Rho->Option Rho) (gr:LP->Rho->Option Rho) (ds:LP) (ρ:Rho):Option Rho:=match ds with
 | d::r=>(ga d ρ).bind fun ρ1=>gr r ρ1
 | []=>none
theorem PGs.imp {ts:List Expr}{t t':TGs} (h:PGs X ts t) (hi:∀ v σ H Q,t' v σ H Q->t v σ H Q):PGs X ts t':=fun Kp s σ H v u Q I r q=>h Kp s σ H v u Q I r (hi v σ H Q q)
theorem QS:ag5 X [] JR:=by
 with_unfolding_all
  refine PGs.imp aiJ fun vs σ H Q ⟨ρ,ds,ρ',en,r,q,k⟩=>?_
  cases ds with
  | nil=>cases r; cases q; exact ⟨rfl,k σ H (jm.refl H) en⟩
  | cons d ds=>cases q
theorem qE {ga:PyData->Rho->Option Rho}{gr:LP->Rho->Option Rho} (h1:PGD X e ga) (h2:ag5 X es gr)
  (hs:(assignEach (e::es) X.env).map (·.2)=assign e X.env::(assignEach es X.env).map (·.2):=by rfl):ag5 X (e::es) (j8 ga gr):=by
 with_unfolding_all
  refine PGs.imp (agN h1 h2 hs) fun vs σ H Q ⟨ρ,ds,ρ',en,r,q,k⟩=>?_
  cases ds with
  | nil=>cases q
  | cons d ds=>
   obtain ⟨x,rr,e1,r1,r2⟩:=r
   subst e1
   cases h3:ga d ρ with
   | none=>simp [j8,h3] at q
   | some ρ1=>
    refine ⟨x,rr,rfl,ρ,d,ρ1,en,r1,h3,fun σ1 H1 s1 e1=>⟨ρ1,ds,ρ',e1,Reps.mono s1 ds rr r2,by simpa [j8,h3] using q,fun σ2 H2 s2 e2=>k σ2 H2 (s1.trans s2) e2⟩⟩
noncomputable def Z1 (n:Nat) (gr:LP->Rho->Option Rho) (d:PyData) (ρ:Rho):Option Rho:=match d with
 | .tuple ds=>if ds.length=n then gr ds ρ else none
 | _=>none
theorem aci {k n:Nat}{gr:LP->Rho->Option Rho} (hc:X.calm=true) (h:ag5 X es gr) (hn:(assignEach es X.env).length=n:=by rfl) (hst:(assignEach es X.env).findIdx? (·.1)=none:=by rfl):
  PGD X (.Tuple es k pos) (Z1 n gr):=by
 with_unfolding_all
  refine PG.imp (akA hc h hn hst) fun v σ H Q ⟨ρ,d,ρ',en,r,q,k⟩=>?_
  cases d with
  | tuple ds=>
   obtain ⟨a,xs,e1,e2,e3⟩:=r
   by_cases hl:ds.length=n
   ·exact ⟨a,xs,e1,e2,by rw [e3.length]; exact hl,ρ,ds,ρ',en,e3,by simpa [Z1,hl] using q,k⟩
   ·simp [Z1,hl] at q
  | _=>simp [Z1] at q
noncomputable def zl (fa:RP) (ga:PyData->Rho->Option Rho):RO:=fun ρ=>(fa ρ).bind fun d=>(ga d ρ).map Out.nx
theorem ai6 {ga:PyData->Rho->Option Rho} (he:PD X e fa) (hg:PGD X tg ga) (hs:swapsWithSole [tg] e pos.line X.env=pure false:=by rfl) (hw:swappedStores [tg] e X.env=pure none:=by rfl)
  (h1:(assignEach [tg] X.env).map (·.2)=[assign tg X.env]:=by rfl):PSD X (.Assign [tg] e pos) (zl fa ga):=by
 with_unfolding_all
  refine PS.imp (agO he hg hs hw h1) fun D σ H ⟨ρ,o,en,q,k⟩=>?_
  cases h1:fa ρ with
  | none=>simp [zl,h1] at q
  | some d=>
   cases h2:ga d ρ with
   | none=>simp [zl,h1,h2] at q
   | some ρ'=>
    have:Out.nx ρ'=o:=by simpa [zl,h1,h2] using q
    subst this
    exact ⟨ρ,d,en,h1,fun v H1 s1 r1=>⟨ρ,d,ρ',en.mono s1,r1,h2,fun σ' H' s' e'=>k σ' H' (s1.trans s') e'⟩⟩
theorem jM (i:Nat) {x:Str}{pos':Pos} (hN:X.N.Nodup) (he:PD X e fa) (hi:X.N[i]?=some x:=by rfl) (hx:Loc X.env.scope x:=by first | exact Or.inl rfl | exact Or.inr rfl) (hs:swapsWith e (some (.Name x pos')) pos.line X.env=pure false:=by rfl)
  (hf:X.fn x=true ∨ X.env.scope.names.lookup x=some .local:=by first | exact .inl rfl | exact .inr rfl | assumption):PSD X (.Assign [.Name x pos'] e pos) (zl fa (jP i)):=by
 with_unfolding_all
  refine PS.imp (adY hN hi hx he hs hf) fun D σ H ⟨ρ,o,en,q,k⟩=>?_
  cases h1:fa ρ with
  | none=>simp [zl,h1] at q
  | some d=>
   have:Out.nx (ρ.set i (some d))=o:=by simpa [zl,h1,jP] using q
   subst this
   exact ⟨ρ,d,en,h1,fun v H1 s1 r1=>k _ H1 s1 ((en.mono s1).set r1)⟩
noncomputable def ag6 (K:Fg) (J:It) (ds:LP) (H0:Hp):Prop:=∀ i H,jC H0 H->(i<ds.length->J.go i H)/\(ds.length<=i->J.stop i H)/\∀ x H',J.yld i H x H'->jm H H'/\∀ d,ds[i]?=some d->Rep K H' d x
noncomputable def tDI (K:Fg) (fi:Rho->Option (LP)):TI:=fun σ H R=>∃ ρ ds,EnvR K H ρ σ/\fi ρ=some ds/\∀ J H',jm H H'->ag6 K J ds H'->R J H'
@[irreducible] noncomputable def PID (X:Cx) (tg src:Expr) (fi:Rho->Option (LP)):Prop:=PI X tg src (tDI X.K fi)
theorem PI.imp {t t':TI} (h:PI X tg src t) (hi:∀ σ H R,t' σ H R->t σ H R):PI X tg src t':=fun Kp s σ H R I q=>h Kp s σ H R I (hi σ H R q)
noncomputable def aar:PyData->Option (LP)
 | .list ds=>some ds
 | _=>none
noncomputable def QG:PyData->Option (LP)
 | .tuple ds=>some ds
 | _=>none
noncomputable def itL (fa:RP):Rho->Option (LP):=fun ρ=>(fa ρ).bind aar
noncomputable def itT (fa:RP):Rho->Option (LP):=fun ρ=>(fa ρ).bind QG
theorem ac6 (h:PD X e fa):PID X tg e (itL fa):=by
 with_unfolding_all
  refine PI.imp (aiK h) fun σ H R ⟨ρ,ds,en,q,k⟩=>?_
  cases h1:fa ρ with
  | none=>simp [itL,h1] at q
  | some d=>
   cases d with
   | list es=>
    have:es=ds:=by simpa [itL,h1,aar] using q
    subst this
    refine ⟨ρ,_,en,h1,fun v H1 s1 r1=>?_⟩
    obtain ⟨a,xs,e1,e2,e3⟩:=r1
    refine ⟨a,e1,⟨xs,SqL.of e2⟩,k _ H1 s1 fun i H2 s2=>⟨fun hi=>?_,fun hi=>?_,fun x H' y=>?_⟩⟩
    ·exact ⟨xs,xs[i]'(by rw [e3.length]; exact hi),SqL.of (s2 _ _ e2 rfl),by simp [e3.length,hi]⟩
    ·exact ⟨xs,SqL.of (s2 _ _ e2 rfl),by rw [e3.length]; exact hi⟩
    ·obtain ⟨z1,z2⟩:=y
     subst z1
     refine ⟨jm.refl _,fun d hd=>?_⟩
     obtain ⟨y,e4,e5⟩:=(Reps.monoA s2 _ _ e3).get hd
     have:=z2 xs (SqL.of (s2 _ _ e2 rfl))
     rw [e4] at this; cases this
     exact e5
   | _=>simp [itL,h1,aar] at q
theorem acj (h:PD X e fa):PID X tg e (itT fa):=by
 with_unfolding_all
  refine PI.imp (akD h) fun σ H R ⟨ρ,ds,en,q,k⟩=>?_
  cases h1:fa ρ with
  | none=>simp [itT,h1] at q
  | some d=>
   cases d with
   | tuple es=>
    have:es=ds:=by simpa [itT,h1,QG] using q
    subst this
    refine ⟨ρ,_,en,h1,fun v H1 s1 r1=>?_⟩
    obtain ⟨a,xs,e1,e2,e3⟩:=r1
    refine ⟨a,e1,⟨xs,e2⟩,k _ H1 s1 fun i H2 s2=>⟨fun hi=>?_,fun hi=>?_,fun x H' y=>?_⟩⟩
    ·exact ⟨xs,xs[i]'(by rw [e3.length]; exact hi),jC.tup s2 e2,by simp [e3.length,hi]⟩
    ·exact ⟨xs,jC.tup s2 e2,by rw [e3.length]; exact hi⟩
    ·obtain ⟨z1,z2⟩:=y
     subst z1
     refine ⟨jm.refl _,fun d hd=>?_⟩
     obtain ⟨y,e4,e5⟩:=(Reps.monoA s2 _ _ e3).get hd
     have:=z2 xs (jC.tup s2 e2)
     rw [e4] at this; cases this
     exact e5
   | _=>simp [itT,h1,QG] at q
noncomputable def qM (lo:Int) (n:Nat):LP:=(List.range n).map fun (k:Nat)=>PyData.int (lo+(k:Int))
noncomputable def zY (ds:LP):Option (LP):=match ds with
 | [.int j]=>if -(2 ^ 62)<=j/\j<2 ^ 62 then some (qM 0 j.toNat) else none
 | _=>none
theorem ack {K:Fg}{H:Hp} (lo:Int) (n:Nat):ag6 K (Itr lo n) (qM lo n) H:=fun i H2 s2=>by
 have hl:(qM lo n).length=n:=by simp [qM]
 refine ⟨fun hi=>by rw [hl] at hi; exact hi,fun hi=>by rw [hl] at hi; exact hi,fun x H' y=>?_⟩
 obtain ⟨z1,z2⟩:=y
 subst z1
 refine ⟨jm.refl _,fun d hd=>?_⟩
 have hi:i<n:=by
  have:=(List.getElem?_eq_some_iff.mp hd).1
  rw [hl] at this; exact this
 have:d= .int (lo+i):=by
  simp [qM,hi] at hd
  exact hd.symm
 subst this
 exact z2
theorem zO {p pos:Pos}{fr:Rho->Option (LP)} (hg:Gl X "range") (hm:X.mg "range"=none) (ha:PAD X [a] fr) (hs:starEach [a] X.env=[(false,eval a X.env)]:=by rfl):PID X tg (.Call (.Name "range" p) [a] [] pos) (fun ρ=>(fr ρ).bind zY):=by
 with_unfolding_all
  refine PI.imp (Zp hg hm ha hs) fun σ H R ⟨ρ,ds,en,q,k⟩=>?_
  cases h1:fr ρ with
  | none=>simp [h1] at q
  | some as=>
   have q':zY as=some ds:=by simpa [h1] using q
   refine ⟨ρ,as,en,h1,fun vs H1 s1 r1=>?_⟩
   unfold zY at q'
   split at q'
   ·rename_i j
    split at q'
    ·rename_i hj
     cases q'
     obtain ⟨x,r,e1,e2,e3⟩:=r1
     cases (show x=V.int j from e2)
     cases (show r=[] from e3)
     exact ⟨j,e1,hj.1,hj.2,k _ H1 s1 (ack 0 j.toNat)⟩
    ·cases q'
   ·cases q'
noncomputable def jR (ga:PyData->Rho->Option Rho) (F:RO):LP->RO
 | [],ρ=>some (.nx ρ)
 | d::r,ρ=>(ga d ρ).bind fun ρ1=>(F ρ1).bind fun o=>match o with
  | .nx ρ2=>jR ga F r ρ2
  | .ct ρ2=>jR ga F r ρ2
  | .bk ρ2=>some (.nx ρ2)
  | .rt d=>some (.rt d)
noncomputable def aa8 (fi:Rho->Option (LP)) (ga:PyData->Rho->Option Rho) (F:RO):RO:=fun ρ=>(fi ρ).bind fun ds=>jR ga F ds ρ
theorem Z6 {body:List Stmt}{fi:Rho->Option (LP)}{ga:PyData->Rho->Option Rho} (hp:PassesOwn (model X.prog X.w) X.A X.env X.xe) (hc:X.calm=true) (hi:PID X tg src fi) (hg:PGD X tg ga) (hb:aao X body F)
  (hs:∀ x,foldedSetIterable src X.env x=pure x:=by intro _; rfl):PSD X (.For tg src body [] pos) (aa8 fi ga F):=by
 with_unfolding_all
  refine PS.imp (ab9 hp hc hi hg hb hs) fun D σ H ⟨ρ,o,en,q,k⟩=>?_
  cases h1:fi ρ with
  | none=>simp [aa8,h1] at q
  | some ds=>
   have q':jR ga F ds ρ=some o:=by simpa [aa8,h1] using q
   refine ⟨ρ,ds,en,h1,fun J H1 s1 Y=>?_⟩
   refine ⟨fun i m σ H2=>m=ds.length - i/\i<=ds.length/\jm H1 H2/\∃ ρ2,EnvR X.K H2 ρ2 σ/\jR ga F (ds.drop i) ρ2=some o,⟨ds.length,by simp,Nat.zero_le _,jm.refl _,ρ,en.mono s1,by simpa using q'⟩,?_⟩
   rintro i m σ2 H2 ⟨rfl,hi,s2,ρ2,en2,q2⟩
   obtain ⟨g1,g2,g3⟩:=Y i H2 (jm.a s2)
   by_cases hlt:i<ds.length
   ·right
    have hd:ds.drop i=ds[i]::ds.drop (i+1):=List.drop_eq_getElem_cons hlt
    rw [hd] at q2
    refine ⟨g1 hlt,fun σ3 H3=>jm H1 H3/\∃ ρ3,EnvR X.K H3 ρ3 σ3/\jR ga F (ds.drop (i+1)) ρ3=some o,fun σ3 H3 ⟨a1,ρ3,a2,a3⟩=>⟨ds.length - (i+1),by omega,rfl,hlt,a1,ρ3,a2,a3⟩,fun x H3 y=>?_⟩
    obtain ⟨s3,r3⟩:=g3 x H3 y
    have r3':=r3 ds[i] (by simp [hlt])
    cases h4:ga ds[i] ρ2 with
    | none=>simp [jR,h4] at q2
    | some ρ4=>
     refine ⟨ρ2,ds[i],ρ4,en2.mono s3,r3',h4,fun σ5 H5 s5 en5=>?_⟩
     cases h5:F ρ4 with
     | none=>simp [jR,h4,h5] at q2
     | some p=>
      refine ⟨ρ4,p,en5,h5,?_⟩
      have s15:=s2.trans (s3.trans s5)
      cases p with
      | nx ρ6=>exact fun σ6 H6 s6 en6=>⟨s15.trans s6,ρ6,en6,by simpa [jR,h4,h5] using q2⟩
      | ct ρ6=>exact fun σ6 H6 s6 en6=>⟨s15.trans s6,ρ6,en6,by simpa [jR,h4,h5] using q2⟩
      | bk ρ6=>
       have:Out.nx ρ6=o:=by simpa [jR,h4,h5] using q2
       subst this
       exact fun σ6 H6 s6 en6=>k σ6 H6 (s1.trans (s15.trans s6)) en6
      | rt d=>
       have:Out.rt d=o:=by simpa [jR,h4,h5] using q2
       subst this
       exact fun v H6 s6 r6=>k v H6 (s1.trans (s15.trans s6)) r6
   ·left
    have he:i=ds.length:=by omega
    have hn:ds.drop i=[]:=by rw [he]; simp
    rw [hn] at q2
    have:Out.nx ρ2=o:=by simpa [jR] using q2
    subst this
    exact ⟨g2 (by omega),k σ2 H2 (s1.trans s2) en2⟩
noncomputable def QH (cap:List (Option Nat)) (ρ:Rho):Rho:=cap.map fun o=>o.bind fun i=>(ρ[i]?).join
theorem EnvR.cap {K:Fg}{H:Hp}{ρ:Rho}{σ:St} (e:EnvR K H ρ σ) (cap:List (Option Nat)):EnvR K H (QH cap ρ) (ZZ cap σ):=by
 refine ⟨by simp [QH,ZZ],fun j d q=>?_⟩
 unfold QH at q
 unfold ZZ
 rw [List.getElem?_map] at q ⊢
 cases h1:cap[j]? with
 | none=>rw [h1] at q; cases q
 | some o=>
  rw [h1] at q
  cases o with
  | none=>cases q
  | some i=>
   have q':lkp i ρ=some d:=by simpa [lkp] using q
   obtain ⟨v,e1,e2⟩:=e.at' i d (zt q')
   exact ⟨v,by simp [e1],e2⟩
noncomputable def jF (ga:PyData->Rho->Option Rho) (ft:Rho->Option Bool) (fe:RP):LP->Rho->Option (LP)
 | [],_=>some []
 | d::r,τ=>(ga d τ).bind fun τ2=>(ft τ2).bind fun b=>if b=true then (fe τ2).bind fun y=>(jF ga ft fe r τ2).map fun ys=>y::ys else jF ga ft fe r τ2
noncomputable def qQ (fi:Rho->Option (LP)) (cap:List (Option Nat)) (ga:PyData->Rho->Option Rho) (ft:Rho->Option Bool) (fe:RP):RP:=fun ρ=>(fi ρ).bind fun ds=>
 if few ds=true then (jF ga ft fe ds (QH cap ρ)).map PyData.list else none
@[irreducible] noncomputable def ag7 (X:Cx) (ts:List Expr) (f:Rho->Option Bool):Prop:=PTs X ts (tDT X.K f)
noncomputable def Jw (_:Rho):Option Bool:=some true
theorem qR:ag7 X [] Jw:=by
 with_unfolding_all exact (fun Kp s σ H Q I ⟨ρ,b,en,q,k⟩=>by cases q; exact ai2 Kp s σ H Q I (k H (jm.refl H)))
theorem aas {ft:Rho->Option Bool} (h:PTD X c ft):ag7 X [c] ft:=by
 with_unfolding_all exact (ai3 h)
theorem zr {el:Expr}{ts:List Expr}{sc:Scope}{ps:Pos}{fi:Rho->Option (LP)}{ga:PyData->Rho->Option Rho}{ft:Rho->Option Bool}{fe:RP} (N':List Str) (cap:List (Option Nat)) (hc:X.calm=true) (hi:PID X tg src fi) (ok:CompOk X sc N' cap)
  (body:∀ cl C s0 H0 fp pn,PGD (blk X N' sc cl C s0 H0 fp pn) tg ga/\ag7 (blk X N' sc cl C s0 H0 fp pn) ts ft/\PD (blk X N' sc cl C s0 H0 fp pn) el fe)
  (hs:∀ x,foldedSetIterable src X.env x=pure x:=by intro _; rfl):PD X (.ListComp el [⟨tg,src,ts,0⟩] sc ps) (qQ fi cap ga ft fe):=by
 with_unfolding_all
  refine PE.imp (ai4 (g:=tDG X.K ga) (tt:=tDT X.K ft) (te:=tD X.K fe) hc hi ok (fun cl C s0 H0 fp pn=>body cl C s0 H0 fp pn) hs) fun σ H Q ⟨ρ,d,en,q,k⟩=>?_
  cases h1:fi ρ with
  | none=>simp [qQ,h1] at q
  | some ds=>
   by_cases hf:few ds=true
   ·cases h2:jF ga ft fe ds (QH cap ρ) with
    | none=>simp [qQ,h1,hf,h2] at q
    | some ys=>
     have:PyData.list ys=d:=by simpa [qQ,h1,hf,h2] using q
     subst this
     refine ⟨ρ,ds,en,h1,fun J H1 s1 Y=>?_⟩
     refine ⟨fun i m τ us H2=>m=ds.length - i/\i<=ds.length/\jm H1 H2/\us.length<=i/\∃ ρ2 zs ws,EnvR X.K H2 ρ2 τ/\Reps X.K H2 zs us/\jF ga ft fe (ds.drop i) ρ2=some ws/\ys=zs++ws,
      ⟨ds.length,by simp,Nat.zero_le _,jm.refl _,Nat.le_refl _,QH cap ρ,[],ys,(en.mono s1).cap cap,rfl,by simpa using h2,rfl⟩,?_⟩
     rintro i m τ us H2 ⟨rfl,hi',s2,hu,ρ2,zs,ws,en2,r2,q2,ey⟩
     have hsm:us.length<sizeLine:=Nat.lt_of_le_of_lt (Nat.le_trans hu hi') (Nat.lt_of_lt_of_le (by simpa [few] using hf) (by rw [sizeLine_eq]; decide:1000000<=sizeLine))
     obtain ⟨g1,g2,g3⟩:=Y i H2 (jm.a s2)
     refine ⟨hsm,?_⟩
     by_cases hlt:i<ds.length
     ·right
      have hd:ds.drop i=ds[i]::ds.drop (i+1):=List.drop_eq_getElem_cons hlt
      rw [hd] at q2
      refine ⟨g1 hlt,fun x H3 y=>?_⟩
      obtain ⟨s3,r3⟩:=g3 x H3 y
      have r3':=r3 ds[i] (by simp [hlt])
      cases h4:ga ds[i] ρ2 with
      | none=>simp [jF,h4] at q2
      | some ρ4=>
       refine ⟨ρ2,ds[i],ρ4,en2.mono s3,r3',h4,fun σ5 H5 s5 en5=>?_⟩
       cases h5:ft ρ4 with
       | none=>simp [jF,h4,h5] at q2
       | some b=>
        refine ⟨ρ4,b,en5,h5,fun H6 s6=>?_⟩
        have s26:=s3.trans (s5.trans s6)
        cases b with
        | false=>
         refine ami ?_
         exact ⟨ds.length - (i+1),by omega,rfl,hlt,s2.trans s26,by omega,ρ4,zs,ws,en5.mono s6,Reps.mono s26 _ _ r2,by simpa [jF,h4,h5] using q2,ey⟩
        | true=>
         refine amj ?_
         cases h6:fe ρ4 with
         | none=>simp [jF,h4,h5,h6] at q2
         | some y=>
          cases h7:jF ga ft fe (ds.drop (i+1)) ρ4 with
          | none=>simp [jF,h4,h5,h6,h7] at q2
          | some ws'=>
           have hw:y::ws'=ws:=by simpa [jF,h4,h5,h6,h7] using q2
           refine ⟨ρ4,y,en5.mono s6,h6,fun v H7 s7 r7=>?_⟩
           refine ⟨ds.length - (i+1),by omega,rfl,hlt,s2.trans (s26.trans s7),by rw [List.length_append]; simp; omega,ρ4,zs++[y],ws',(en5.mono s6).mono s7,(Reps.mono (s26.trans s7) _ _ r2).append ⟨v,[],rfl,r7,rfl⟩,h7,?_⟩
           rw [ey,←hw]; simp
     ·left
      have he:i=ds.length:=by omega
      have hn:ds.drop i=[]:=by rw [he]; simp
      rw [hn] at q2
      have hw:[]=ws:=by simpa [jF] using q2
      subst hw
      have ey':ys=zs:=by simpa using ey
      subst ey'
      exact ⟨g2 (by omega),fun l hl=>k _ _ (s1.trans (s2.trans (jB hl))) ⟨l,us,rfl,jt,Reps.mono (jB hl) _ _ r2⟩⟩
   ·simp [qQ,h1,hf] at q
noncomputable def Pur (K:Fg) (n:Nat) (g:LP->OP):Sp:=fun vs H Q _=>∃ ds d,ds.length=n/\Reps K H ds vs/\g ds=some d/\∀ v H',jm H H'->Rep K H' d v->Q v H'
noncomputable def jO (g:LP->OP) (fr:Rho->Option (LP)):RP:=fun ρ=>(fr ρ).bind g
theorem ai7 {k n:Nat}{f:Addr}{fd:FuncData}{ps:List Str}{g:LP->OP}{x:Str}{p:Pos}{fr:Rho->Option (LP)} (FO:FnOk X.prog X.w X.K X.mg X.base CX0 k f fd ps (Pur X.K n g)) (hr:Room k X.A) (hm:X.mg x=some (.ref f)) (hk:PySem.W.keepIn X.K (.ref f)=true)
  (hb:QB X.K fd ps []) (hn:(e::es).length=n) (ha:PAD X (e::es) fr) (hl:∀ ρ ds,fr ρ=some ds->ds.length=(e::es).length) (hg:Gl X x:=by rfl) (hdb:(x == ("__debug__":Str))=false:=by decide) (he:starEach (e::es) X.env=(false,eval e X.env)::starEach es X.env:=by rfl)
  (hpl:(backTo pos (starEach es X.env)).any (·.1)=false:=by rfl):PD X (.Call (.Name x p) (e::es) [] pos) (jO g fr):=by
 with_unfolding_all
  refine PE.imp (aiQ FO hr hg hm hk hb .nil amh ha hdb he hpl) fun σ H Q ⟨ρ,d,en,q,k⟩=>?_
  cases h1:fr ρ with
  | none=>simp [jO,h1] at q
  | some ds=>
   refine ⟨ρ,ds,en,h1,fun vs H1 s1 r1=>?_⟩
   refine ⟨ds,d,by rw [hl ρ ds h1,hn],by rw [List.append_nil]; exact r1,by simpa [jO,h1] using q,fun v H' s r=>k v H' (s1.trans s) r⟩
noncomputable def QT (X:Cx) (f:Value) (g:LP->OP):Prop:=∃ r,zK X f r/\∀ ds d xs H Q,g ds=some d->Reps X.K H ds xs->(∀ v H',jm H H'->Rep X.K H' d v->Q v H')->r xs H Q
theorem jE {id:String}{g:LP->OP}{x:Str}{p:Pos}{fr:Rho->Option (LP)} (hc:QT X (.builtin id) g) (hm:X.mg x=none) (hv:bootBuiltins x=some (.builtin id)) (ha:PAD X (e::es) fr) (hg:Gl X x:=by rfl) (hn:x ≠ "__name__":=by decide) (hdb:(x == ("__debug__":Str))=false:=by decide)
  (he:starEach (e::es) X.env=(false,eval e X.env)::starEach es X.env:=by rfl) (hpl:(backTo pos (starEach es X.env)).any (·.1)=false:=by rfl):PD X (.Call (.Name x p) (e::es) [] pos) (jO g fr):=by
 with_unfolding_all
  obtain ⟨r,h1,h2⟩:=hc
  refine PE.imp (aai h1 hg hm hv ha hn hdb he hpl) fun σ H Q ⟨ρ,d,en,q,k⟩=>?_
  cases h3:fr ρ with
  | none=>simp [jO,h3] at q
  | some ds=>exact ⟨ρ,ds,en,h3,fun vs H1 s1 r1=>h2 ds d vs H1 Q (by simpa [jO,h3] using q) r1 fun v H' s r=>k v H' (s1.trans s) r⟩
theorem abx {T:String}{g:LP->OP}{x:Str}{p:Pos}{fr:Rho->Option (LP)} (hc:QT X (.type T) g) (hm:X.mg x=none) (hv:bootBuiltins x=some (.type T)) (ha:PAD X (e::es) fr) (hg:Gl X x:=by rfl) (hn:x ≠ "__name__":=by decide) (hdb:(x == ("__debug__":Str))=false:=by decide)
  (he:starEach (e::es) X.env=(false,eval e X.env)::starEach es X.env:=by rfl) (hpl:(backTo pos (starEach es X.env)).any (·.1)=false:=by rfl):PD X (.Call (.Name x p) (e::es) [] pos) (jO g fr):=by
 with_unfolding_all
  obtain ⟨r,h1,h2⟩:=hc
  refine PE.imp (afH h1 hg hm hv ha hn hdb he hpl) fun σ H Q ⟨ρ,d,en,q,k⟩=>?_
  cases h3:fr ρ with
  | none=>simp [jO,h3] at q
  | some ds=>exact ⟨ρ,ds,en,h3,fun vs H1 s1 r1=>h2 ds d vs H1 Q (by simpa [jO,h3] using q) r1 fun v H' s r=>k v H' (s1.trans s) r⟩
end
noncomputable def jU (N:List Str) (ds:LP):Rho:=ds.map some++List.replicate (N.length - ds.length) none
theorem afP {K:Fg}{H:Hp}{N:List Str}{ds:LP}{vs:List V} (r:Reps K H ds vs):EnvR K H (jU N ds) (L2.J3 N vs):=by
 have hl:=r.length
 refine ⟨by simp [jU,L2.J3,hl],fun i d q=>?_⟩
 unfold jU at q
 by_cases hi:i<ds.length
 ·rw [List.getElem?_append_left (by simpa using hi),List.getElem?_map] at q
  cases e:ds[i]? with
  | none=>rw [e] at q; cases q
  | some c=>
   rw [e] at q; cases q
   obtain ⟨x,e1,e2⟩:=r.get e
   refine ⟨x,?_,e2⟩
   unfold L2.J3
   rw [List.getElem?_append_left (by simp; omega),List.getElem?_map,e1]; rfl
 ·rw [List.getElem?_append_right (by simpa using hi),List.getElem?_replicate] at q
  split at q <;> cases q
noncomputable def jJ (N:List Str) (n:Nat) (B:RO) (ds:LP):OP:=if ds.length=n then match B (jU N ds) with
 | some (.rt d)=>some d
 | some (.nx _)=>some .none
 | _=>none else none
section
variable {P:Program}{w:World}{K:Fg}{mg:SV}{base:Heap}
theorem jN {x qual:Str}{st:Stmt}{f:Addr}{fd:FuncData}{N ps:List Str}{k:Nat}{B:RO} (F:Fun K x qual st f fd) (S:FnScope N ps (jh st))
  (body:∀ (Kc:Value) (A:Around) (Ko:List Env) (s:Shared) (H:Hp) (E:XK),Room k (A.deeper (envOfC qual (jh st) s.heap.objs.size f Kc))->
   aao (aah CX0 P w K mg base N qual (jh st) f Kc A Ko s H E).nox (jX st) B):FnOk P w K mg base CX0 (k+1) f fd ps (Pur K ps.length (jJ N ps.length B)):=by
 with_unfolding_all
  refine F.ok S (fun vs H Q E h=>?_) (fun Kc A Ko s H vs Q E hr h=>?_)
  ·obtain ⟨ds,d,h1,h2,_⟩:=h
   rw [h2.length]; exact h1
  ·obtain ⟨ds,d,h1,h2,h3,h4⟩:=h
   refine ⟨_,body Kc A Ko s H E hr,?_⟩
   unfold jJ at h3
   rw [if_pos h1] at h3
   cases hB:B (jU N ds) with
   | none=>rw [hB] at h3; cases h3
   | some o=>
    refine ⟨jU N ds,o,afP h2,hB,?_⟩
    rw [hB] at h3
    cases o with
    | rt c=>cases h3; exact fun v H' s r=>h4 v H' s r
    | nx ρ=>cases h3; exact fun σ H' s r=>h4 .non H' s rfl
    | bk ρ=>cases h3
    | ct ρ=>cases h3
theorem amo {k n:Nat}{f:Addr}{fd:FuncData}{ps:List Str}{g g':LP->OP} (F:FnOk P w K mg base CX0 k f fd ps (Pur K n g)) (h:∀ ds d,ds.length=n->g' ds=some d->g ds=some d):FnOk P w K mg base CX0 k f fd ps (Pur K n g'):=
 F.imp fun vs H Q E ⟨ds,d,h1,h2,h3,h4⟩=>⟨ds,d,h1,h2,h ds d h1 h3,h4⟩
end
section
variable {X:Cx}
noncomputable def amp (K:Fg):R2:=fun x y H Q=>∃ a b ys,x= .ref a/\y= .ref b/\SqT K H a []/\SqT K H b ys/\Q (.ref b) H
theorem ai8:OpR X (binaryOp .Add) (amp X.K):=by
 intro Kp s σ H x y v u Q I rx ry h
 obtain ⟨a,b,ys,rfl,rfl,ha,hb,q⟩:=h
 cases rx
 cases ry
 obtain ⟨its,r1,p1,_⟩:=I.tuple ha
 obtain ⟨its2,r2,p2,_⟩:=I.tuple hb
 cases r1
 obtain ⟨⟨c1,d1,t1,l1⟩,ho,hc,n,hd⟩:=id p1
 obtain ⟨⟨c2,d2,t2,l2⟩,ho2,hc2,n2,hd2⟩:=id p2
 simp only at hc hd hc2 hd2
 subst hc hd hc2 hd2
 exact concat_meets ⟨_,ho,rfl⟩ ⟨_,ho2,rfl⟩ noFill_tuple_add seq_tuple_add PySem.F.slot_tuple_add PySem.F.entry_tuple_add (PySem.F.args_tuple_add_2 _ _)
  (tuple_addW0 a b _ _ n n2 d1 d2 l1 l2 (by simp)) ⟨ho,ho2,⟨.ref b,H,I,rfl,q⟩⟩
noncomputable def JS:PyData->PyData->OP
 | .int i,.int j=>some (.int (i+j))
 | .list xs,.list ys=>if few (xs++ys)=true then some (.list (xs++ys)) else none
 | .tuple [],.tuple ys=>some (.tuple ys)
 | .tuple (x::xs),.tuple ys=>if few ((x::xs)++ys)=true then some (.tuple ((x::xs)++ys)) else none
 | _,_=>none
theorem jy:OpD X (binaryOp .Add) JS:=by
 refine ⟨_,akG.or (akS.or (ai8.or aiS)),fun p q d x y H Q h rx ry k=>?_⟩
 unfold JS at h
 split at h
 ·cases h
  cases (show x=_ from rx)
  cases (show y=_ from ry)
  exact .inl ⟨_,_,rfl,rfl,k _ H (jm.refl H) rfl⟩
 ·rename_i xs ys
  split at h
  ·rename_i hf
   cases h
   obtain ⟨a,us,e1,e2,e3⟩:=rx
   obtain ⟨b,ws,e4,e5,e6⟩:=ry
   have hl:us.length+ws.length<1000000:=by
    rw [e3.length,e6.length]
    simp [few] at hf
    try simp only [List.length_cons]
    omega
   exact .inr (.inl ⟨a,b,us,ws,e1,e4,e2,e5,aap hl,fun p hp=>k _ _ (jB hp) ⟨p,_,rfl,jt,Reps.mono (jB hp) _ _ (e3.append e6)⟩⟩)
  ·cases h
 ·rename_i ys
  cases h
  obtain ⟨a,us,e1,e2,e3⟩:=rx
  cases (show us=[] from e3)
  obtain ⟨b,ws,e4,e5,e6⟩:=ry
  exact .inr (.inr (.inl ⟨a,b,ws,e1,e4,e2,e5,k _ H (jm.refl H) ⟨b,ws,rfl,e5,e6⟩⟩))
 ·rename_i z xs ys
  split at h
  ·rename_i hf
   cases h
   obtain ⟨a,us,e1,e2,e3⟩:=rx
   obtain ⟨b,ws,e4,e5,e6⟩:=ry
   have hl:us.length+ws.length<1000000:=by
    rw [e3.length,e6.length]
    simp [few] at hf
    try simp only [List.length_cons]
    omega
   refine .inr (.inr (.inr ⟨a,b,us,ws,e1,e4,e2,e5,fun z=>?_,aap hl,fun z=>?_,fun _ p hp=>?_⟩))
   ·have:=e3.length; rw [z] at this; simp at this
   ·subst z
    have:=e6.length
    have hy:ys=[]:=List.length_eq_zero_iff.mp (by simpa using this.symm)
    subst hy
    exact k _ H (jm.refl H) ⟨a,us,rfl,e2,by simpa using e3⟩
   ·exact k _ _ (jB hp) ⟨p,_,rfl,SqT.of jt,Reps.mono (jB hp) _ _ (e3.append e6)⟩
  ·cases h
 ·cases h
noncomputable def ai9:PyData->PyData->OP
 | .int i,.int j=>some (.int (i - j))
 | _,_=>none
theorem Z7:OpD X (binaryOp .Sub) ai9:=by
 refine ⟨_,akH,fun p q d x y H Q h rx ry k=>?_⟩
 unfold ai9 at h
 split at h
 ·cases h; cases (show x=_ from rx); cases (show y=_ from ry); exact ⟨_,_,rfl,rfl,k _ H (jm.refl H) rfl⟩
 ·cases h
theorem Reps.rep {K:Fg}{H:Hp}{ds:LP}{xs:List V} (h:Reps K H ds xs):∀ (n:Nat),Reps K H (List.replicate n ds).flatten (List.replicate n xs).flatten
 | 0=>rfl
 | n+1=>by rw [List.replicate_succ,List.replicate_succ,List.flatten_cons,List.flatten_cons]; exact h.append (Reps.rep h n)
noncomputable def QA:PyData->PyData->OP
 | .int i,.int j=>if (-(2 ^ 64)<i/\i<2 ^ 64) ∨ (-(2 ^ 64)<j/\j<2 ^ 64) then some (.int (i*j)) else none
 | .list xs,.int k=>if k<1000/\xs.length<1000/\-1000<k then some (.list (List.replicate k.toNat xs).flatten) else none
 | _,_=>none
theorem qT:OpD X (binaryOp .Mult) QA:=by
 refine ⟨_,akI.or akT,fun p q d x y H Q h rx ry k=>?_⟩
 unfold QA at h
 split at h
 ·split at h
  ·rename_i hc
   cases h; cases (show x=_ from rx); cases (show y=_ from ry); exact .inl ⟨_,_,rfl,rfl,hc,k _ H (jm.refl H) rfl⟩
  ·cases h
 ·rename_i xs n
  split at h
  ·rename_i hc
   cases h
   obtain ⟨a,us,e1,e2,e3⟩:=rx
   cases (show y=_ from ry)
   have hl:=e3.length
   have hs:us.length*n.toNat<=sizeLine:=by
    rw [sizeLine_eq]
    have h1:us.length<=1000:=by omega
    have h2:n.toNat<=1000:=by omega
    exact Nat.le_trans (Nat.mul_le_mul h1 h2) (by decide)
   exact .inr ⟨a,n,us,e1,rfl,e2,by omega,by omega,hs,fun p hp=>k _ _ (jB hp) ⟨p,_,rfl,jt,Reps.mono (jB hp) _ _ (Reps.rep e3 n.toNat)⟩⟩
  ·cases h
 ·cases h
noncomputable def aeX:PyData->PyData->OP
 | .int i,.int j=>if 0<j/\j<1073741824 then some (.int (i / j)) else none
 | _,_=>none
theorem QU:OpD X (binaryOp .FloorDiv) aeX:=by
 refine ⟨_,aiM,fun p q d x y H Q h rx ry k=>?_⟩
 unfold aeX at h
 split at h
 ·split at h
  ·rename_i hc
   cases h; cases (show x=_ from rx); cases (show y=_ from ry); exact ⟨_,_,rfl,rfl,hc,k _ H (jm.refl H) rfl⟩
  ·cases h
 ·cases h
noncomputable def aja:PyData->PyData->OP
 | .int i,.int j=>if 0<j then some (.int (i % j)) else none
 | _,_=>none
theorem Qq:OpD X (binaryOp .Mod) aja:=by
 refine ⟨_,akJ,fun p q d x y H Q h rx ry k=>?_⟩
 unfold aja at h
 split at h
 ·split at h
  ·rename_i hc
   cases h; cases (show x=_ from rx); cases (show y=_ from ry); exact ⟨_,_,rfl,rfl,hc,k _ H (jm.refl H) rfl⟩
  ·cases h
 ·cases h
noncomputable def okD (d:PyData):Bool:=d.canLay0 && decide (d.depth<30)
noncomputable def amq (K:Fg) (neg:Bool):R2:=fun x y H Q=>∃ p q,Rep K H p x/\Rep K H q y/\okD p=true/\okD q=true/\Q (.bl (if neg then !PyData.eqv p q else PyData.eqv p q)) H
theorem j1 {d:PyData} (h:okD d=true):d.canLay0=true:=by simp [okD] at h; exact h.1
theorem Z8 {d:PyData} (h:okD d=true):d.depth<30:=by simp [okD] at h; exact h.2
theorem ak0 (hu:X.A.units+64<cLine):OpR X (compareOp .Eq) (amq X.K false):=by
 intro Kp s σ H x y v u Q I rx ry ⟨p,q,h1,h2,h3,h4,k⟩
 obtain ⟨as,ra⟩:=qr I p x v h1 rx (j1 h3)
 obtain ⟨bs,rb⟩:=qr I q y u h2 ry (j1 h4)
 have d1:=Z8 h3
 exact SeqAt.compareEq_reads ra rb (j1 h3) (j1 h4) (by omega) ⟨.bl _,H,I,rfl,k⟩
theorem ak1 (hu:X.A.units+64<cLine):OpR X (compareOp .NotEq) (amq X.K true):=by
 intro Kp s σ H x y v u Q I rx ry ⟨p,q,h1,h2,h3,h4,k⟩
 obtain ⟨as,ra⟩:=qr I p x v h1 rx (j1 h3)
 obtain ⟨bs,rb⟩:=qr I q y u h2 ry (j1 h4)
 have d1:=Z8 h3
 exact SeqAt.compareNe_reads ra rb (j1 h3) (j1 h4) (by omega) ⟨.bl _,H,I,rfl,k⟩
noncomputable def amr (K:Fg):R2:=fun x y H Q=>∃ a b ns,x= .ref a/\y= .ref b/\SqL K H a (List.map V.int ns)/\H b=some (.lst [])/\Q (.bl ns.isEmpty) H
theorem QC (h:Heap):∀ (ns:List Int) (us:List Value),jG (List.map V.int ns) us->∃ as,ReadsAll h us (ns.map PyData.int) as
 | [],us,r=>by cases r; exact ⟨_,.nil⟩
 | n::ns,us,r=>by
  cases r with
  | cons r1 r2=>
   obtain ⟨t,rfl⟩:=r1
   obtain ⟨as,ra⟩:=QC h ns _ r2
   exact ⟨_,.cons (.int n t) ra⟩
theorem ac7:∀ ns:List Int,PyData.canLayAll0 (ns.map PyData.int)=true
 | []=>rfl
 | n::ns=>by simp [PyData.canLayAll0,PyData.canLay0,ac7 ns]
theorem ajb (hu:X.A.units+64<cLine):OpR X (compareOp .Eq) (amr X.K):=by
 intro Kp s σ H x y v u Q I rx ry ⟨a,b,ns,e1,e2,h1,h2,k⟩
 subst e1; subst e2
 cases rx; cases ry
 obtain ⟨its,rv,⟨o,n,g1,g2,g3,g4⟩,_⟩:=I.list h1
 obtain ⟨as,ra⟩:=QC s.heap ns its rv
 obtain ⟨bs,rb⟩:=qr I (.list []) (.ref b) (.ref b) ⟨b,[],rfl,h2,rfl⟩ rfl rfl
 have ra':Reads s.heap (.ref a) (.list (ns.map PyData.int)) (a::as):= .list g1 g2 g4 (by simpa using ra)
 refine SeqAt.compareEq_reads ra' rb (by simpa [PyData.canLay0] using ac7 ns) rfl ?_ ⟨.bl _,H,I,rfl,?_⟩
 ·have:(PyData.list []).depth=1:=rfl
  rw [this]; omega
 ·have:PyData.eqv (.list (ns.map PyData.int)) (.list [])=ns.isEmpty:=by cases ns <;> simp [PyData.eqv,PyData.eqvAll]
  rw [this]; exact k
noncomputable def dEq:PyData->PyData->OP
 | .dict kvs,.list []=>if zh kvs=true then some (.bool kvs.isEmpty) else none
 | p,q=>if okD p=true/\okD q=true then some (.bool (PyData.eqv p q)) else none
theorem aat (hu:X.A.units+64<cLine):OpD X (compareOp .Eq) dEq:=by
 refine ⟨_,(ajb hu).or (ak0 hu),fun p q d x y H Q h rx ry k=>?_⟩
 unfold dEq at h
 split at h
 ·split at h
  ·rename_i hs
   cases h
   obtain ⟨a,ns,e1,e2,e3⟩:=rx.scrOut hs
   obtain ⟨b,ws,e4,e5,e6⟩:=ry
   cases (show ws=[] from e6)
   refine .inl ⟨a,b,ns,e1,e4,e2,e5,?_⟩
   have:ns.isEmpty=(ns.map fun n=>(PyData.int n,PyData.none)).isEmpty:=by simp
   subst e3
   rw [this]
   exact k _ H (jm.refl H) rfl
  ·cases h
 ·split at h
  ·rename_i hc
   cases h
   exact .inr ⟨p,q,rx,ry,hc.1,hc.2,k _ H (jm.refl H) rfl⟩
  ·cases h
noncomputable def dNe:PyData->PyData->OP:=fun p q=>if okD p=true/\okD q=true then some (.bool (!PyData.eqv p q)) else none
theorem zb (hu:X.A.units+64<cLine):OpD X (compareOp .NotEq) dNe:=by
 refine ⟨_,ak1 hu,fun p q d x y H Q h rx ry k=>?_⟩
 unfold dNe at h
 split at h
 ·rename_i hc
  cases h
  exact ⟨p,q,rx,ry,hc.1,hc.2,k _ H (jm.refl H) rfl⟩
 ·cases h
noncomputable def ak2 (K:Fg) (neg:Bool):R2:=fun x y H Q=>∃ p ds,Rep K H p x/\(Rep K H (.list ds) y ∨ Rep K H (.tuple ds) y)/\okD p=true/\okD (.list ds)=true/\Q (.bl (if neg then !(ds.any fun z=>PyData.eqv z p) else ds.any fun z=>PyData.eqv z p)) H
theorem ak3 (hu:X.A.units+64<cLine):OpR X (compareOp .In) (ak2 X.K false):=by
 intro Kp s σ H x y v u Q I rx ry ⟨p,ds,h1,h2,h3,h4,k⟩
 obtain ⟨as,ra⟩:=qr I p x v h1 rx (j1 h3)
 have d1:=Z8 h3
 have hc:PyData.canLayAll0 ds=true:=by simpa [PyData.canLay0] using j1 h4
 rcases h2 with h2 | h2
 ·obtain ⟨bs,rb⟩:=qr I (.list ds) y u h2 ry (j1 h4)
  exact SeqAt.in_list_reads rb ra hc (j1 h3) (by omega) ⟨.bl _,H,I,rfl,k⟩
 ·obtain ⟨bs,rb⟩:=qr I (.tuple ds) y u h2 ry (by simpa [PyData.canLay0] using hc)
  exact SeqAt.in_tuple_reads rb ra hc (j1 h3) (by omega) ⟨.bl _,H,I,rfl,k⟩
theorem afQ (hu:X.A.units+64<cLine):OpR X (compareOp .NotIn) (ak2 X.K true):=by
 intro Kp s σ H x y v u Q I rx ry ⟨p,ds,h1,h2,h3,h4,k⟩
 obtain ⟨as,ra⟩:=qr I p x v h1 rx (j1 h3)
 have d1:=Z8 h3
 have hc:PyData.canLayAll0 ds=true:=by simpa [PyData.canLay0] using j1 h4
 rcases h2 with h2 | h2
 ·obtain ⟨bs,rb⟩:=qr I (.list ds) y u h2 ry (j1 h4)
  exact SeqAt.notIn_list_reads rb ra hc (j1 h3) (by omega) ⟨.bl _,H,I,rfl,k⟩
 ·obtain ⟨bs,rb⟩:=qr I (.tuple ds) y u h2 ry (by simpa [PyData.canLay0] using hc)
  exact SeqAt.notIn_tuple_reads rb ra hc (j1 h3) (by omega) ⟨.bl _,H,I,rfl,k⟩
noncomputable def dIn (neg:Bool):PyData->PyData->OP:=fun p q=>match q with
 | .list ds=>if okD p=true/\okD (.list ds)=true then some (.bool (if neg then !(ds.any fun z=>PyData.eqv z p) else ds.any fun z=>PyData.eqv z p)) else none
 | .tuple ds=>if okD p=true/\okD (.list ds)=true then some (.bool (if neg then !(ds.any fun z=>PyData.eqv z p) else ds.any fun z=>PyData.eqv z p)) else none
 | _=>none
theorem akf {neg:Bool}{p q d:PyData}{x y:V}{H:Hp}{Q:VK}{K:Fg} (h:dIn neg p q=some d) (rx:Rep K H p x) (ry:Rep K H q y) (k:∀ v H',jm H H'->Rep K H' d v->Q v H'):ak2 K neg x y H Q:=by
 unfold dIn at h
 split at h
 ·split at h
  ·rename_i ds hc
   cases h
   exact ⟨p,ds,rx,.inl ry,hc.1,hc.2,k _ H (jm.refl H) rfl⟩
  ·cases h
 ·split at h
  ·rename_i ds hc
   cases h
   exact ⟨p,ds,rx,.inr ry,hc.1,hc.2,k _ H (jm.refl H) rfl⟩
  ·cases h
 ·cases h
theorem ak4 (hu:X.A.units+64<cLine):OpD X (compareOp .In) (dIn false):=⟨_,ak3 hu,fun p q d x y H Q h rx ry k=>akf h rx ry k⟩
theorem afR (hu:X.A.units+64<cLine):OpD X (compareOp .NotIn) (dIn true):=⟨_,afQ hu,fun p q d x y H Q h rx ry k=>akf h rx ry k⟩
noncomputable def J5 (f:Int->Int->Bool):PyData->PyData->OP
 | .int i,.int j=>some (.bool (f i j))
 | _,_=>none
theorem aea {f:Int->Int->Bool}{p q d:PyData}{x y:V}{H:Hp}{Q:VK}{K:Fg} (h:J5 f p q=some d) (rx:Rep K H p x) (ry:Rep K H q y) (k:∀ v H',jm H H'->Rep K H' d v->Q v H'):rI0 (fun i j=> .bl (f i j)) x y H Q:=by
 unfold J5 at h
 split at h
 ·cases h; cases (show x=_ from rx); cases (show y=_ from ry); exact ⟨_,_,rfl,rfl,k _ H (jm.refl H) rfl⟩
 ·cases h
theorem ak5:OpD X (compareOp .Lt) (J5 fun i j=>decide (i<j)):=⟨_,al7,fun p q d x y H Q h rx ry k=>aea h rx ry k⟩
theorem acl:OpD X (compareOp .LtE) (J5 fun i j=>decide (i<=j)):=⟨_,al8,fun p q d x y H Q h rx ry k=>aea h rx ry k⟩
theorem ak6:OpD X (compareOp .Gt) (J5 fun i j=>decide (j<i)):=⟨_,al9,fun p q d x y H Q h rx ry k=>aea h rx ry k⟩
noncomputable def chn (g g':PyData->PyData->OP) (fa fb fc:RP):RP:=fun ρ=>(fa ρ).bind fun x=>(fb ρ).bind fun y=>(g x y).bind fun z=>(asB z).bind fun t=>if t=true then (fc ρ).bind fun w=>g' y w else some (.bool false)
variable {a b c e:Expr}{fa fb fc:RP}{pos:Pos}
theorem akg {g g':PyData->PyData->OP}{K:Fg}{r r':R2} (hr:∀ p q d x y H Q,g p q=some d->Rep K H p x->Rep K H q y->(∀ v H',jm H H'->Rep K H' d v->Q v H')->r x y H Q)
  (hr':∀ p q d x y H Q,g' p q=some d->Rep K H p x->Rep K H q y->(∀ v H',jm H H'->Rep K H' d v->Q v H')->r' x y H Q) {σ:St} {H:Hp} {Q:VK} (h:tD K (chn g g' fa fb fc) σ H Q):ad2 r r' (tD K fa) (tD K fb) (tD K fc) σ H Q:=by
 obtain ⟨ρ,d,en,h,k⟩:=h
 unfold chn at h
 cases ha:fa ρ with
 | none=>rw [ha] at h; cases h
 | some p=>
  cases hb:fb ρ with
  | none=>rw [ha,hb] at h; cases h
  | some q=>
   rw [ha,hb] at h
   cases hg:g p q with
   | none=>simp [hg] at h
   | some z=>
    cases ht:asB z with
    | none=>simp [hg,ht] at h
    | some t=>
     have hz:=Jv ht
     subst hz
     refine ⟨ρ,p,en,ha,fun x H1 s1 r1=>⟨ρ,q,en.mono s1,hb,fun y H2 s2 r2=>?_⟩⟩
     refine hr p q _ x y H2 _ hg (Rep.mono s2 p x r1) r2 fun v H3 s3 r3=>⟨t,r3,?_⟩
     have s13:=s1.trans (s2.trans s3)
     cases t with
     | false=>
      rw [if_neg Bool.false_ne_true]
      have hd:PyData.bool false=d:=by simpa [hg,asB] using h
      subst hd
      exact k _ H3 s13 rfl
     | true=>
      rw [if_pos rfl]
      cases hc:fc ρ with
      | none=>simp [hg,asB,hc] at h
      | some w=>
       refine ⟨ρ,w,en.mono s13,hc,fun z H4 s4 r4=>?_⟩
       exact hr' q w d y z H4 Q (by simpa [hg,asB,hc] using h) (Rep.mono (s3.trans s4) q y r2) r4 fun v H5 s5 r5=>k v H5 (s13.trans (s4.trans s5)) r5
theorem ag8 {op op':CmpOp}{g g':PyData->PyData->OP} (ho:OpD X (compareOp op) g) (ho':OpD X (compareOp op') g') (ha:PD X a fa) (hb:PD X b fb) (hc:PD X c fc)
  (hm:lastMarks [op,op'] [b,c]=false:=by with_unfolding_all rfl):PD X (.Compare a [op,op'] [b,c] pos) (chn g g' fa fb fc):=by
 with_unfolding_all
  obtain ⟨r,h1,h2⟩:=ho
  obtain ⟨r',h3,h4⟩:=ho'
  exact PE.imp (agR h1 h3 ha hb hc hm) fun σ H Q h=>akg h2 h4 h
theorem afS {op op':CmpOp}{g g':PyData->PyData->OP} (ho:OpD X (compareOp op) g) (ho':OpD X (compareOp op') g') (ha:PD X a fa) (hb:PD X b fb) (hc:PD X c fc)
  (hm:lastMarks [op,op'] [b,c]=false:=by with_unfolding_all rfl):PTD X (.Compare a [op,op'] [b,c] pos) (tst (chn g g' fa fb fc)):=by
 with_unfolding_all
  obtain ⟨r,h1,h2⟩:=ho
  obtain ⟨r',h3,h4⟩:=ho'
  refine PT.imp (agS h1 h3 ha hb hc hm) fun σ H Q ⟨ρ,t,en,h,k⟩=>?_
  cases hd:chn g g' fa fb fc ρ with
  | none=>simp [tst,hd] at h
  | some d=>
   have ht:d= .bool t:=Jv (by simpa [tst,hd] using h)
   subst ht
   exact akg h2 h4 ⟨ρ,_,en,hd,fun v H' s r=>⟨t,r,k H' s⟩⟩
noncomputable def dIx:PyData->PyData->OP
 | .list ds,.int i=>if ds.length<1000000 then atI ds i else none
 | .tuple ds,.int i=>if ds.length<1000000 then atI ds i else none
 | .dict kvs,.int i=>if kvs.length<1000000/\zh kvs=true then (atI kvs i).map (·.1) else none
 | _,_=>none
theorem aeY {K:Fg}{H:Hp}{ds:LP}{xs:List V}{i:Int}{d:PyData} (r:Reps K H ds xs) (h:atI ds i=some d):∃ x,atI xs i=some x/\Rep K H d x:=by
 have hl:=r.length
 unfold atI at h ⊢
 rw [hl]
 cases e:ixN ds.length i with
 | none=>rw [e] at h; cases h
 | some j=>
  rw [e] at h
  obtain ⟨x,e1,e2⟩:=r.get (show ds[j]?=some d from h)
  exact ⟨x,e1,e2⟩
noncomputable def IxD (X:Cx) (g:PyData->PyData->OP):Prop:=∃ r,IxR X r/\∀ p q d x y H Q,g p q=some d->Rep X.K H p x->Rep X.K H q y->(∀ v H',jm H H'->Rep X.K H' d v->Q v H')->r x y H Q
theorem ixd:IxD X dIx:=by
 refine ⟨_,aiU.or akQ,fun p q d x y H Q h rx ry k=>?_⟩
 unfold dIx at h
 split at h
 ·split at h
  ·obtain ⟨a,us,e1,e2,e3⟩:=rx
   cases (show y=_ from ry)
   obtain ⟨z,g1,g2⟩:=aeY e3 h
   exact .inl ⟨a,us,_,z,e1,rfl,SqL.of e2,g1,k z H (jm.refl H) g2⟩
  ·cases h
 ·split at h
  ·obtain ⟨a,us,e1,e2,e3⟩:=rx
   cases (show y=_ from ry)
   obtain ⟨z,g1,g2⟩:=aeY e3 h
   exact .inr ⟨a,us,_,z,e1,rfl,e2,g1,k z H (jm.refl H) g2⟩
  ·cases h
 ·split at h
  ·rename_i hs
   obtain ⟨a,ns,e1,e2,e3⟩:=rx.scrOut hs.2
   cases (show y=_ from ry)
   subst e3
   rename_i i
   unfold atI at h
   rw [List.length_map] at h
   cases e:ixN ns.length i with
   | none=>rw [e] at h; cases h
   | some j=>
    rw [e] at h
    have h':((ns.map fun n=>(PyData.int n,PyData.none))[j]?).map (·.1)=some d:=h
    rw [List.getElem?_map] at h'
    cases e4:ns[j]? with
    | none=>rw [e4] at h'; cases h'
    | some n=>
     rw [e4] at h'
     cases h'
     refine .inl ⟨a,List.map V.int ns,i,.int n,e1,rfl,e2,?_,k _ H (jm.refl H) rfl⟩
     unfold atI
     rw [List.length_map,e]
     show (List.map V.int ns)[j]?=_
     rw [List.getElem?_map,e4]; rfl
  ·cases h
 ·cases h
theorem jA (ha:PD X a fa) (hb:PD X b fb) (hs:aeQ b:=by intro _ _; rfl):PD X (.Subscript a b pos) (op2 dIx fa fb):=by
 with_unfolding_all
  obtain ⟨r,h1,h2⟩:=ixd (X:=X)
  exact PE.imp (amg h1 ha hb hs) fun σ H Q h=>ag3 h2 h
noncomputable def qN (ds:LP):OP:=match ds with
 | [.list xs]=>some (.int xs.length)
 | [.tuple xs]=>some (.int xs.length)
 | [.dict xs]=>if zh xs=true then some (.int xs.length) else none
 | _=>none
theorem qw:QT X (.builtin "len") qN:=by
 refine ⟨_,acd,fun ds d xs H Q h r k=>?_⟩
 unfold qN at h
 split at h
 ·cases h
  obtain ⟨x,q,e1,e2,e3⟩:=r
  cases (show q=[] from e3)
  obtain ⟨a,us,g1,g2,g3⟩:=e2
  subst g1
  exact ⟨a,us,e1,.inl (SqL.of g2),k _ H (jm.refl H) (by show _=_; rw [g3.length])⟩
 ·cases h
  obtain ⟨x,q,e1,e2,e3⟩:=r
  cases (show q=[] from e3)
  obtain ⟨a,us,g1,g2,g3⟩:=e2
  subst g1
  exact ⟨a,us,e1,.inr g2,k _ H (jm.refl H) (by show _=_; rw [g3.length])⟩
 ·split at h
  ·rename_i hs
   cases h
   obtain ⟨x,q,e1,e2,e3⟩:=r
   cases (show q=[] from e3)
   obtain ⟨a,ns,g1,g2,g3⟩:=e2.scrOut hs
   subst g1; subst g3
   exact ⟨a,_,e1,.inl g2,k _ H (jm.refl H) (by show _=_; simp)⟩
  ·cases h
 ·cases h
noncomputable def ag9 (ds:LP):OP:=match ds with
 | [.int i,.int j]=>some (.int (if j > i then j else i))
 | _=>none
noncomputable def aha (ds:LP):OP:=match ds with
 | [.int i,.int j]=>some (.int (if j<i then j else i))
 | _=>none
theorem ajc (hc:X.calm=true):QT X (.builtin "max") ag9:=by
 refine ⟨_,afD hc,fun ds d xs H Q h r k=>?_⟩
 unfold ag9 at h
 split at h
 ·cases h
  obtain ⟨x,q,e1,e2,y,q',e3,e4,e5⟩:=r
  cases (show x=_ from e2); cases (show y=_ from e4); cases (show q'=[] from e5); subst e3
  exact ⟨_,_,e1,k _ H (jm.refl H) rfl⟩
 ·cases h
theorem ajd (hc:X.calm=true):QT X (.builtin "min") aha:=by
 refine ⟨_,afE hc,fun ds d xs H Q h r k=>?_⟩
 unfold aha at h
 split at h
 ·cases h
  obtain ⟨x,q,e1,e2,y,q',e3,e4,e5⟩:=r
  cases (show x=_ from e2); cases (show y=_ from e4); cases (show q'=[] from e5); subst e3
  exact ⟨_,_,e1,k _ H (jm.refl H) rfl⟩
 ·cases h
end
section
variable {X:Cx}{Kp:List (Addr × Obj)}{σ:St}{H:Hp}{s:Shared}
theorem aby {prog:Program}{w:World}{A:Around}{E:Value->SP0}{l:Addr}{its:Array Value}{Q:Value->SP0} (hl:s.heap.IsList l its)
  (h:∀ (h2:Heap) (it:Addr),(h2.IsListIter it l 0/\h2.IsList l its)->(∀ b ∈ [it,l],b<h2.objs.size)->l ≠ it->(∀ b o,s.heap.get? b=some o->h2.get? b=some o)->s.heap.get? it=none->Q (.ref it) { s with heap:=h2 }):
  wpAny (model prog w) A (pyIter (.ref l)) Q E s:=by
 have hlt:l<s.heap.objs.size:=by
  obtain ⟨_,e,_⟩:=hl
  exact Heap.lt_size e
 refine wpAny_pyIter_list hl (h _ _ ⟨⟨_,Heap.get?_push_size _ rfl,rfl,rfl⟩,hl.push _⟩ (fun b hb=>?_) (Nat.ne_of_lt hlt) (fun b o e=>Heap.get?_push_of_some _ e) (Heap.get?_none_of_le (Nat.le_refl _)))
 rw [Heap.size_push]
 rcases List.mem_cons.mp hb with e | hb
 ·rw [e]; exact Nat.lt_succ_self _
 ·have e:b=l:=by simpa using hb
  rw [e]; exact Nat.lt_succ_of_lt hlt
theorem afT {prog:Program}{w:World}{A:Around}{E:Value->SP0}{l:Addr}{its:Array Value}{Q:Value->SP0} (hl:s.heap.IsTuple l its)
  (h:∀ (h2:Heap) (it:Addr),(h2.IsTupleIter it l 0/\h2.IsTuple l its)->(∀ b ∈ [it,l],b<h2.objs.size)->l ≠ it->(∀ b o,s.heap.get? b=some o->h2.get? b=some o)->s.heap.get? it=none->Q (.ref it) { s with heap:=h2 }):
  wpAny (model prog w) A (pyIter (.ref l)) Q E s:=by
 have hlt:l<s.heap.objs.size:=by
  obtain ⟨_,e,_⟩:=hl
  exact Heap.lt_size e
 have hl2:∀ o,(s.heap.push o).IsTuple l its:=fun o=>by
  obtain ⟨ob,e,r⟩:=hl
  exact ⟨ob,Heap.get?_push_of_some _ e,r⟩
 refine wpAny_pyIter_tuple hl (h _ _ ⟨⟨_,Heap.get?_push_size _ rfl,rfl,rfl⟩,hl2 _⟩ (fun b hb=>?_) (Nat.ne_of_lt hlt) (fun b o e=>Heap.get?_push_of_some _ e) (Heap.get?_none_of_le (Nat.le_refl _)))
 rw [Heap.size_push]
 rcases List.mem_cons.mp hb with e | hb
 ·rw [e]; exact Nat.lt_succ_self _
 ·have e:b=l:=by simpa using hb
  rw [e]; exact Nat.lt_succ_of_lt hlt
theorem acm {h h2 h3 : Heap} {it : Addr} (k1 : ∀ b o, h.get? b = some o -> h2.get? b = some o) (hn : h.get? it = none) (k2 : ∀ b o, b ∉ [it] -> h2.get? b = some o -> h3.get? b = some o) : ∀ b o, h.get? b = some o -> h3.get? b = some o := fun b o e =>
  k2 b o (fun z => by have e1 : b = it := by simpa using z
                      rw [e1, hn] at e; cases e) (k1 b o e)
theorem aeZ:∀ {bs:List Bool}{us:List Value},jG (bs.map V.bl) us->us=bs.map Value.bool
 | [],us,r=>by cases r; rfl
 | b::bs,us,r=>by
  cases r with
  | cons r1 r2=>cases (show _=_ from r1); rw [aeZ r2]; rfl
theorem afU (bs:List Bool):(List.range bs.length).all (fun i=>bs.getD i false)=bs.all id:=by
 have:bs=(List.range bs.length).map (fun i=>bs.getD i false):=by
  apply List.ext_getElem?
  intro i
  rw [List.getElem?_map]
  by_cases h:i<bs.length
  ·rw [List.getElem?_range h]; simp [List.getD,h]
  ·simp [h]
 conv=>rhs; rw [this]
 rw [List.all_map]; rfl
noncomputable def anj (K:Fg):List V->Hp->VK->Prop:=fun xs H Q=>∃ a bs,xs=[.ref a]/\SqL K H a (List.map V.bl bs)/\Q (.bl (bs.all id)) H
theorem afV (hc:X.calm=true):zK X (.builtin "all") (anj X.K):=by
 intro Kp s σ H xs us Q I r ⟨a,bs,e,hq,q⟩
 subst e
 obtain ⟨u,rfl,rx⟩:=acZ r
 cases rx
 obtain ⟨its,rv,pl,hz⟩:=I.list hq
 have ei:=aeZ rv
 have hh:=I.ok.hd hc
 refine call_all_walk (aby pl.isList fun h2 it st hlt hne k1 hn=>?_)
 refine ⟨it,[it,a],[it],its.toArray.size,(fun i v=>its.toArray[i]?=some v),_,fun i=>bs.getD i false,rfl,Walks.list (A:=X.A.in1) hh it a hne its.toArray,st,?_,fun h3 tk k2=>?_⟩
 ·intro i v s' Q' E' hP hq'
  have:v= .bool (bs.getD i false):=by
   have hP':its[i]?=some v:=by simpa using hP
   rw [ei,List.getElem?_map] at hP'
   cases hb:bs[i]? with
   | none=>rw [hb] at hP'; cases hP'
   | some b=>rw [hb] at hP'; cases hP'; simp [List.getD,hb]
  subst this
  exact wpAny_truthy_bool hq'
 ·have I3:=I.kept (t':=tk) (acm k1 hn k2)
  have hl:its.toArray.size=bs.length:=by rw [ei]; simp
  refine ⟨.bl (bs.all id),H,I3,?_,q⟩
  show _=_
  rw [hl,afU]
noncomputable def bls:LP->Option (List Bool)
 | []=>some []
 | d::r=>(asB d).bind fun b=>(bls r).map fun q=>b::q
theorem Reps.bls {K:Fg}{H:Hp}:∀ {ds:LP}{bs:List Bool}{xs:List V},BX.bls ds=some bs->Reps K H ds xs->xs=bs.map V.bl
 | [],bs,xs,h,r=>by simp [BX.bls] at h; subst h; exact r
 | d::ds,bs,xs,h,⟨x,q,e1,e2,e3⟩=>by
  subst e1
  cases h1:asB d with
  | none=>simp [BX.bls,h1] at h
  | some b=>
   cases h2:BX.bls ds with
   | none=>simp [BX.bls,h1,h2] at h
   | some r=>
    have:b::r=bs:=by simpa [BX.bls,h1,h2] using h
    subst this
    have hd:=Jv h1
    subst hd
    cases (show x=_ from e2)
    rw [Reps.bls h2 e3]; rfl
noncomputable def ac8 (ds:LP):OP:=match ds with
 | [.list xs]=>(bls xs).map fun bs=> .bool (bs.all id)
 | _=>none
theorem aeb (hc:X.calm=true):QT X (.builtin "all") ac8:=by
 refine ⟨_,afV hc,fun ds d xs H Q h r k=>?_⟩
 unfold ac8 at h
 split at h
 ·rename_i ys
  cases hb:bls ys with
  | none=>simp [hb] at h
  | some bs=>
   have:PyData.bool (bs.all id)=d:=by simpa [hb] using h
   subst this
   obtain ⟨x,q,e1,e2,e3⟩:=r
   cases (show q=[] from e3)
   obtain ⟨a,us,g1,g2,g3⟩:=e2
   subst g1
   have:=Reps.bls hb g3
   subst this
   exact ⟨a,bs,e1,SqL.of g2,k _ H (jm.refl H) rfl⟩
 ·cases h
noncomputable def aa9:PyData->Option Int
 | .int i=>some i
 | _=>none
noncomputable def zi:LP->Option (List Int)
 | []=>some []
 | d::r=>(aa9 d).bind fun b=>(zi r).map fun q=>b::q
theorem Qr:∀ {ds:LP}{ns:List Int},zi ds=some ns->ds=ns.map PyData.int
 | [],ns,h=>by simp [zi] at h; subst h; rfl
 | d::ds,ns,h=>by
  cases d with
  | int i=>
   cases h2:zi ds with
   | none=>simp [zi,aa9,h2] at h
   | some r=>
    have:i::r=ns:=by simpa [zi,aa9,h2] using h
    subst this
    rw [Qr h2]; rfl
  | _=>simp [zi,aa9] at h
theorem ZK {ns:List Int}{us:List Value}{i:Nat}{v:Value} (r:jG (ns.map V.int) us) (h:us.toArray[i]?=some v):∃ t,v= .int (ns.getD i 0) t:=by
 have h':us[i]?=some v:=by simpa using h
 have hi:i<us.length:=(List.getElem?_eq_some_iff.mp h').1
 have hl:=r.length
 rw [List.length_map] at hl
 obtain ⟨u,e1,e2⟩:=r.get (show (ns.map V.int)[i]?=some (V.int (ns.getD i 0)) by
  rw [List.getElem?_map]
  have:i<ns.length:=by omega
  simp [List.getD,this])
 rw [h'] at e1; cases e1
 exact e2
theorem ZL (ns:List Int):preSum (fun i=>ns.getD i 0) ns.length=ns.sum:=by
 have go:∀ k,k<=ns.length->preSum (fun i=>ns.getD i 0) k=(ns.take k).sum:=by
  intro k
  induction k with
  | zero=>intro _; simp [preSum]
  | succ k ih=>
   intro hk
   have hlt:k<ns.length:=by omega
   have h1:ns.take (k+1)=ns.take k++[ns[k]]:=by rw [List.take_succ]; simp [hlt]
   rw [h1]
   simp only [preSum,ih (by omega),List.sum_append,List.sum_cons,List.sum_nil,Int.add_zero]
   simp [List.getD,hlt]
 have:=go ns.length (Nat.le_refl _)
 simpa using this
noncomputable def ank (K:Fg):List V->Hp->VK->Prop:=fun xs H Q=>∃ a ns,xs=[.ref a]/\(SqL K H a (List.map V.int ns) ∨ SqT K H a (List.map V.int ns))/\Q (.int ns.sum) H
theorem afW (hc:X.calm=true):zK X (.builtin "sum") (ank X.K):=by
 intro Kp s σ H xs us Q I r ⟨a,ns,e,hq,q⟩
 subst e
 obtain ⟨u,rfl,rx⟩:=acZ r
 cases rx
 have hh:=I.ok.hd hc
 rcases hq with hq | hq
 ·obtain ⟨its,rv,pl,hz⟩:=I.list hq
  have hl:its.toArray.size=ns.length:=by have:=rv.length; simp at this ⊢; omega
  refine call_sum_walkG (aby pl.isList fun h2 it st hlt hne k1 hn=>?_)
  refine ⟨it,[it,a],[it],its.toArray.size,(fun i v=>its.toArray[i]?=some v),_,fun i=>ns.getD i 0,rfl,Walks.list (A:=X.A.in1) hh it a hne its.toArray,st,hlt,fun i v hP=>ZK rv hP,fun h3 tk t' k2=>?_⟩
  exact ⟨.int ns.sum,H,I.kept (t':=tk) (acm k1 hn k2),⟨t',by rw [hl,ZL]⟩,q⟩
 ·obtain ⟨its,rv,pl,hz⟩:=I.tuple hq
  have hl:its.toArray.size=ns.length:=by have:=rv.length; simp at this ⊢; omega
  refine call_sum_walkG (afT (show s.heap.IsTuple a its.toArray from pl) fun h2 it st hlt hne k1 hn=>?_)
  refine ⟨it,[it,a],[it],its.toArray.size,(fun i v=>its.toArray[i]?=some v),_,fun i=>ns.getD i 0,rfl,Walks.tuple (A:=X.A.in1) hh it a hne its.toArray,st,hlt,fun i v hP=>ZK rv hP,fun h3 tk t' k2=>?_⟩
  exact ⟨.int ns.sum,H,I.kept (t':=tk) (acm k1 hn k2),⟨t',by rw [hl,ZL]⟩,q⟩
noncomputable def ak7 (ds:LP):OP:=match ds with
 | [.list xs]=>(zi xs).map fun ns=> .int ns.sum
 | [.tuple xs]=>(zi xs).map fun ns=> .int ns.sum
 | _=>none
theorem ak8 (hc:X.calm=true):QT X (.builtin "sum") ak7:=by
 refine ⟨_,afW hc,fun ds d xs H Q h r k=>?_⟩
 unfold ak7 at h
 split at h
 ·rename_i ys
  cases hb:zi ys with
  | none=>simp [hb] at h
  | some ns=>
   have:PyData.int ns.sum=d:=by simpa [hb] using h
   subst this
   obtain ⟨x,q,e1,e2,e3⟩:=r
   cases (show q=[] from e3)
   obtain ⟨a,us,g1,g2,g3⟩:=e2
   subst g1
   rw [Qr hb] at g3
   have:=Reps.ints g3
   subst this
   exact ⟨a,ns,e1,.inl (SqL.of g2),k _ H (jm.refl H) rfl⟩
 ·rename_i ys
  cases hb:zi ys with
  | none=>simp [hb] at h
  | some ns=>
   have:PyData.int ns.sum=d:=by simpa [hb] using h
   subst this
   obtain ⟨x,q,e1,e2,e3⟩:=r
   cases (show q=[] from e3)
   obtain ⟨a,us,g1,g2,g3⟩:=e2
   subst g1
   rw [Qr hb] at g3
   have:=Reps.ints g3
   subst this
   exact ⟨a,ns,e1,.inr g2,k _ H (jm.refl H) rfl⟩
 ·cases h
end
section
variable {prog:Program}{w:World}{A:Around}{E:Value->SP0}{s:Shared}
theorem JT {it t:Addr}{i:Nat}{ys:Array Value}{x:Value}{Q:Value->SP0} (hit:s.heap.IsTupleIter it t i) (ht:s.heap.IsTuple t ys) (hx:ys[i]?=some x)
  (hQ:∀ h',h'.IsTupleIter it t (i+1)->Heap.SameBut it s.heap h'->Q x { s with heap:=h' }):wpAny (model prog w) A (Builtin.SmallTypes.nextOf (.ref it)) Q E s:=by
 obtain ⟨o,ho,hc,hd⟩:=id hit
 obtain ⟨ot,hot,_,nt,hdt⟩:=ht
 unfold Builtin.SmallTypes.nextOf
 refine wpAny_bind (wpAny_callSpecial?_slot (name:=Str.ofString "__next__") hit.typeIs F.slot_tuple_iterator_next
  (wpAny_call_entry F.slot_tuple_iterator_next hit.typeIs F.entry_tuple_iterator_next ?_
   (F.args_tuple_iterator_next_1 _)))
 refine wpAny_bind (m:=field (.ref it) 0) (wpAny_field ho hd (x:= .ref t) rfl ?_)
 have no:¬ ((Value.ref t == Value.none)=true):=Bool.false_ne_true
 show wpAny _ _ (if (Value.ref t == Value.none)=true then _ else
  _) _ _ s
 rw [if_neg no]
 refine wpAny_bind (m:=field (.ref it) 1) (wpAny_field ho hd (x:= .int i 0) rfl ?_)
 refine wpAny_bind (m:=seqItems? (.ref t)) (wpAny_seqItems hot hdt ?_)
 simp only [Int.toNat_natCast,hx]
 refine wpAny_bind (wpAny_setField ho hd (by simp) (wpAny_pure ⟨x,rfl,wpAny_pure (hQ _ ?_ (Heap.SameBut.update ..))⟩))
 refine ⟨_,Heap.get?_update_self _ ho (Obj.isFreed_of_fields (Obj.data_mapFields hd _)),(Obj.cls_mapFields ..).trans hc,?_⟩
 rw [Obj.data_mapFields hd]
 simp [rawInt]
theorem abz {it t:Addr}{i:Nat}{ys:Array Value}{Q:Value->SP0} (hh:A.handled=none) (hit:s.heap.IsTupleIter it t i) (ht:s.heap.IsTuple t ys) (hx:ys[i]?=none)
  (hE:∀ h' e,Heap.ExtBut it s.heap h'->(∃ o,h'.get? e=some o/\o.cls= .type "StopIteration")->E (.ref e) { s with heap:=h' }):wpAny (model prog w) A (Builtin.SmallTypes.nextOf (.ref it)) Q E s:=by
 obtain ⟨o,ho,hc,hd⟩:=id hit
 obtain ⟨ot,hot,_,nt,hdt⟩:=ht
 unfold Builtin.SmallTypes.nextOf
 refine wpAny_bind (wpAny_callSpecial?_slot (name:=Str.ofString "__next__") hit.typeIs F.slot_tuple_iterator_next
  (wpAny_call_entry F.slot_tuple_iterator_next hit.typeIs F.entry_tuple_iterator_next ?_
   (F.args_tuple_iterator_next_1 _)))
 refine wpAny_bind (m:=field (.ref it) 0) (wpAny_field ho hd (x:= .ref t) rfl ?_)
 have no:¬ ((Value.ref t == Value.none)=true):=Bool.false_ne_true
 show wpAny _ _ (if (Value.ref t == Value.none)=true then _ else
  _) _ _ s
 rw [if_neg no]
 refine wpAny_bind (m:=field (.ref it) 1) (wpAny_field ho hd (x:= .int i 0) rfl ?_)
 refine wpAny_bind (m:=seqItems? (.ref t)) (wpAny_seqItems hot hdt ?_)
 simp only [Int.toNat_natCast,hx]
 refine wpAny_bind (wpAny_rule (wpAny_bind (wpAny_setField ho hd (by simp) ?_)))
 refine wpAny_bind (m:=newExc (.type "StopIteration") []) ?_
 simp only [newExc,newTuple]
 refine wpAny_bind (wpAny_newObj_type ?_ (by size_fits))
 refine wpAny_bind (m:=firstArgMember _ _) (wpAny_of_eq (a:=Value.none)
  (by first | rfl | (simp only [firstArgMember]; rfl)) ?_)
 refine wpAny_newObj_type ?_ (by size_fits)
 simp only [raiseNew]
 refine wpAny_bind (wpAny_handled ?_)
 rw [show A.in1.handled=none from hh]
 refine wpAny_bind (wpAny_pure (wpAny_throw ?_))
 exact hE _ _ (((Heap.SameBut.update ..).extBut.push _).push _) ⟨_,Heap.get?_push_size _ rfl,rfl⟩
noncomputable abbrev QV (h:Heap) (T:Addr) (a b c:Value):Prop:=h.get? T=some { cls:= .type "tuple",data:= .seq #[a,b,c] }
theorem aau {T:Addr}{a b c x:Value}{k:Nat}{Q:Unit->SP0} (hT:QV s.heap T a b c)
  (h:∀ h',h'.get? T=some { cls:= .type "tuple",data:= .seq ((#[a,b,c]:Array Value).setIfInBounds k x) }->Heap.SameBut T s.heap h'->Q () { s with heap:=h' }):
  wpAny (model prog w) A (updateSeq T (·.setIfInBounds k x)) Q E s:=by
 refine wpAny_updateSeq hT rfl (h _ ?_ (Heap.SameBut.update ..))
 rw [Heap.get?_update_self _ hT rfl]
 simp [Obj.mapSeq]
structure Apart3 (z TI TO i1 i2 i3 t1 t2 t3:Addr):Prop where
 nd:[z,TO,i1,i2,i3].Nodup
 ti:TI ∉ [z,TO,i1,i2,i3]
 s1:t1 ∉ [z,TO,i1,i2,i3]
 s2:t2 ∉ [z,TO,i1,i2,i3]
 s3:t3 ∉ [z,TO,i1,i2,i3]
structure Zip3 (h:Heap) (z TI TO i1 i2 i3 t1 t2 t3:Addr) (xs ys zs:Array Value) (f0:Value) (k:Nat):Prop where
 hz:IsZip h z TI TO f0
 hTI:QV h TI (.ref i1) (.ref i2) (.ref i3)
 hTO:∃ a b c,QV h TO a b c
 g1:h.IsTupleIter i1 t1 k
 g2:h.IsTupleIter i2 t2 k
 g3:h.IsTupleIter i3 t3 k
 a1:h.IsTuple t1 xs
 a2:h.IsTuple t2 ys
 a3:h.IsTuple t3 zs
theorem Zip3.keep {h h':Heap}{z TI TO i1 i2 i3 t1 t2 t3:Addr}{xs ys zs:Array Value}{f0:Value}{k:Nat} (S:Zip3 h z TI TO i1 i2 i3 t1 t2 t3 xs ys zs f0 k)
  (kp:∀ b ∈ [z,TI,TO,i1,i2,i3,t1,t2,t3],∀ o,h.get? b=some o->h'.get? b=some o):Zip3 h' z TI TO i1 i2 i3 t1 t2 t3 xs ys zs f0 k:=by
 obtain ⟨hz,hTI,⟨a,b,c,hTO⟩,⟨o1,e1,r1⟩,⟨o2,e2,r2⟩,⟨o3,e3,r3⟩,⟨p1,f1,q1⟩,⟨p2,f2,q2⟩,⟨p3,f3,q3⟩⟩:=S
 exact ⟨kp z (by simp) _ hz,kp TI (by simp) _ hTI,⟨a,b,c,kp TO (by simp) _ hTO⟩,⟨o1,kp i1 (by simp) _ e1,r1⟩,⟨o2,kp i2 (by simp) _ e2,r2⟩,⟨o3,kp i3 (by simp) _ e3,r3⟩,⟨p1,kp t1 (by simp) _ f1,q1⟩,⟨p2,kp t2 (by simp) _ f2,q2⟩,⟨p3,kp t3 (by simp) _ f3,q3⟩⟩
noncomputable def But (l:List Addr) (h h':Heap):Prop:=∀ b o,b ∉ l->h.get? b=some o->h'.get? b=some o
theorem But.of {b:Addr}{l:List Addr}{h h':Heap} (x:Heap.ExtBut b h h') (hb:b ∈ l):But l h h':=fun c o hc e=>x c o (fun z=>hc (by rw [z]; exact hb)) e
theorem But.trans {l:List Addr}{h h1 h2:Heap} (a:But l h h1) (b:But l h1 h2):But l h h2:=fun c o hc e=>b c o hc (a c o hc e)
theorem afX {z TI TO i1 i2 i3 t1 t2 t3:Addr}{xs ys zs:Array Value}{k:Nat}{x y v:Value}{Q:Value->SP0} (D:Apart3 z TI TO i1 i2 i3 t1 t2 t3) (S:Zip3 s.heap z TI TO i1 i2 i3 t1 t2 t3 xs ys zs .none k)
  (hx:xs[k]?=some x) (hy:ys[k]?=some y) (hv:zs[k]?=some v)
  (hQ:∀ h',Zip3 h' z TI TO i1 i2 i3 t1 t2 t3 xs ys zs (rawInt s.heap.objs.size) (k+1)->QV h' s.heap.objs.size x y v->But [z,TO,i1,i2,i3] s.heap h'->Q (.ref s.heap.objs.size) { s with heap:=h' }):
  wpAny (model prog w) A (Builtin.«zip.__next__» ⟨[.ref z],[]⟩) (fun fin s'=>∃ v,fin= .done (.ret v)/\Q v s') E s:=by
 obtain ⟨hz,hTI,⟨a,b,c,hTO⟩,g1,g2,g3,a1,a2,a3⟩:=S
 obtain ⟨nd,ti,s1,s2,s3⟩:=D
 simp only [List.nodup_cons,List.mem_cons,List.not_mem_nil,or_false,not_or] at nd ti s1 s2 s3
 obtain ⟨⟨n1,n2,n3,n4⟩,⟨n5,n6,n7⟩,⟨n8,n9⟩,n10,_⟩:=nd
 obtain ⟨t1z,t1o,t11,t12,t13⟩:=s1
 obtain ⟨t2z,t2o,t21,t22,t23⟩:=s2
 obtain ⟨t3z,t3o,t31,t32,t33⟩:=s3
 obtain ⟨tiz,tio,ti1,ti2,ti3⟩:=ti
 refine wpAny_bind (m:=field (.ref z) 2) (wpAny_field hz rfl (x:= .bool false) rfl ?_)
 refine wpAny_bind (m:=field (.ref z) 3) (wpAny_field hz rfl (x:= .ref TI) rfl ?_)
 refine wpAny_bind (wpAny_seqItems hTI rfl ?_)
 refine wpAny_bind (m:=Builtin.SmallTypes.ownedTupleIsFree (.ref z)) ?_
 unfold Builtin.SmallTypes.ownedTupleIsFree
 refine wpAny_bind (wpAny_field hz rfl (x:= .none) rfl (wpAny_pure ?_))
 simp only [zzM]
 refine wpAny_bind (wpAny_rule ?_)
 refine wpAny_bind (wpAny_field hz rfl (x:= .ref TO) rfl ?_)
 refine wpAny_bind (wpAny_setField_rec hz (by simp) fun h1 hz1 b1=>?_)
 replace hz1:IsZip h1 z TI TO .ellipsis:=hz1
 refine wpAny_bind ?_
 simp only [List.zipIdx_cons,List.zipIdx_nil,List.forIn_cons,List.forIn_nil]
 refine wpAny_bind (wpAny_bind (wpAny_onRaise ?_))
 refine wpAny_bind (m:=Builtin.SmallTypes.nextOf (.ref i1)) ?_
 refine JT (g1.extBut b1.extBut (Ne.symm n2)) (a1.extBut b1.extBut t1z) hx fun h2 g1' b2=>wpAny_pure ?_
 have o2:QV h2 TO a b c:=b2.extBut _ _ n5 (b1.extBut _ _ (Ne.symm n1) hTO)
 refine wpAny_bind (wpAny_seqItems o2 rfl ?_)
 refine wpAny_bind (aau o2 fun h3 o3 b3=>?_)
 replace o3:QV h3 TO x b c:=o3
 refine wpAny_bind (wpAny_letGo (wpAny_pure ?_))
 refine wpAny_bind (wpAny_bind (wpAny_onRaise ?_))
 refine wpAny_bind (m:=Builtin.SmallTypes.nextOf (.ref i2)) ?_
 refine JT (((g2.extBut b1.extBut (Ne.symm n3)).extBut b2.extBut (Ne.symm n8)).extBut b3.extBut (Ne.symm n6)) (((a2.extBut b1.extBut t2z).extBut b2.extBut t21).extBut b3.extBut t2o) hy fun h4 g2' b4=>wpAny_pure ?_
 have o4:QV h4 TO x b c:=b4.extBut _ _ n6 o3
 refine wpAny_bind (wpAny_seqItems o4 rfl ?_)
 refine wpAny_bind (aau o4 fun h5 o5 b5=>?_)
 replace o5:QV h5 TO x y c:=o5
 refine wpAny_bind (wpAny_letGo (wpAny_pure ?_))
 refine wpAny_bind (wpAny_bind (wpAny_onRaise ?_))
 refine wpAny_bind (m:=Builtin.SmallTypes.nextOf (.ref i3)) ?_
 refine JT (((((g3.extBut b1.extBut (Ne.symm n4)).extBut b2.extBut (Ne.symm n9)).extBut b3.extBut (Ne.symm n7)).extBut b4.extBut (Ne.symm n10)).extBut b5.extBut (Ne.symm n7))
  (((((a3.extBut b1.extBut t3z).extBut b2.extBut t31).extBut b3.extBut t3o).extBut b4.extBut t32).extBut b5.extBut t3o) hv fun h6 g3' b6=>wpAny_pure ?_
 have o6:QV h6 TO x y c:=b6.extBut _ _ n7 o5
 refine wpAny_bind (wpAny_seqItems o6 rfl ?_)
 refine wpAny_bind (aau o6 fun h7 o7 b7=>?_)
 replace o7:QV h7 TO x y v:=o7
 refine wpAny_bind (wpAny_letGo (wpAny_pure (wpAny_pure ?_)))
 refine wpAny_bind (wpAny_seqItems o7 rfl ?_)
 refine wpAny_bind (wpAny_newTuple ?_)
 have sz:h7.objs.size=s.heap.objs.size:=by rw [b7.1,b6.1,b5.1,b4.1,b3.1,b2.1,b1.1]
 have B:But [z,TO,i1,i2,i3] s.heap h7:=
  ((((((But.of b1.extBut (by simp)).trans (But.of b2.extBut (by simp))).trans (But.of b3.extBut (by simp))).trans (But.of b4.extBut (by simp))).trans (But.of b5.extBut (by simp))).trans (But.of b6.extBut (by simp))).trans (But.of b7.extBut (by simp))
 have z7:IsZip h7 z TI TO .ellipsis:=b7.extBut _ _ n1 (b6.extBut _ _ n4 (b5.extBut _ _ n1 (b4.extBut _ _ n3 (b3.extBut _ _ n1 (b2.extBut _ _ n2 hz1)))))
 have i17:h7.IsTupleIter i1 t1 (k+1):=((((g1'.extBut b3.extBut (Ne.symm n5)).extBut b4.extBut n8).extBut b5.extBut (Ne.symm n5)).extBut b6.extBut n9).extBut b7.extBut (Ne.symm n5)
 have i27:h7.IsTupleIter i2 t2 (k+1):=((g2'.extBut b5.extBut (Ne.symm n6)).extBut b6.extBut n10).extBut b7.extBut (Ne.symm n6)
 have i37:h7.IsTupleIter i3 t3 (k+1):=g3'.extBut b7.extBut (Ne.symm n7)
 refine wpAny_bind (m:=Builtin.SmallTypes.ownedTupleHandOut (.ref z) (.ref h7.objs.size)) ?_
 unfold Builtin.SmallTypes.ownedTupleHandOut
 have z8:IsZip (h7.push { cls:= .type "tuple",data:= .seq #[x,y,v] }) z TI TO .ellipsis:=Heap.get?_push_of_some _ z7
 refine wpAny_bind (wpAny_setField_rec z8 (by simp) fun h9 z9 b9=>?_)
 replace z9:IsZip h9 z TI TO (rawInt h7.objs.size):=z9
 refine wpAny_setField_rec z9 (by simp) fun h10 z10 b10=>?_
 replace z10:IsZip h10 z TI TO (rawInt h7.objs.size):=z10
 have up:∀ c o,c ≠ z->h7.get? c=some o->h10.get? c=some o:=fun c o c1 e=>b10.extBut _ _ c1 (b9.extBut _ _ c1 (Heap.get?_push_of_some _ e))
 have zlt:z<h7.objs.size:=Heap.lt_size z7
 have T10:QV h10 h7.objs.size x y v:=b10.extBut _ _ (Nat.ne_of_gt zlt) (b9.extBut _ _ (Nat.ne_of_gt zlt) (Heap.get?_push_size _ rfl))
 rw [sz] at z10 T10
 refine wpAny_pure ⟨_,rfl,?_⟩
 show Q (.ref h7.objs.size) _
 rw [sz]
 have itk:∀ {i t:Addr} {m:Nat},i ≠ z->h7.IsTupleIter i t m->h10.IsTupleIter i t m:=fun ne ⟨o,e,r⟩=>⟨o,up _ o ne e,r⟩
 have tuk:∀ {t:Addr} {us:Array Value},t ∉ [z,TO,i1,i2,i3]->s.heap.IsTuple t us->h10.IsTuple t us:=fun ne ⟨o,e,r⟩=>⟨o,up _ o (fun q=>ne (by simp [q])) (B _ o ne e),r⟩
 refine hQ h10 ⟨z10,up _ _ tiz (B _ _ (by simp [tiz,tio,ti1,ti2,ti3]) hTI),⟨x,y,v,up _ _ (Ne.symm n1) o7⟩,itk (Ne.symm n2) i17,itk (Ne.symm n3) i27,itk (Ne.symm n4) i37,
  tuk (by simp [t1z,t1o,t11,t12,t13]) a1,tuk (by simp [t2z,t2o,t21,t22,t23]) a2,tuk (by simp [t3z,t3o,t31,t32,t33]) a3⟩ T10 fun c o hc e=>up c o (fun q=>hc (by simp [q])) (B c o hc e)
theorem ahb {z TI TO i1 i2 i3 t1 t2 t3:Addr}{xs ys zs:Array Value}{k:Nat}{Q:Fin->SP0} (hh:A.handled=none) (D:Apart3 z TI TO i1 i2 i3 t1 t2 t3) (S:Zip3 s.heap z TI TO i1 i2 i3 t1 t2 t3 xs ys zs .none k) (hx:xs[k]?=none)
  (hE:∀ h' e,But [z,TO,i1,i2,i3] s.heap h'->(∃ o,h'.get? e=some o/\o.cls= .type "StopIteration")->E (.ref e) { s with heap:=h' }):
  wpAny (model prog w) A (Builtin.«zip.__next__» ⟨[.ref z],[]⟩) Q E s:=by
 obtain ⟨hz,hTI,⟨a,b,c,hTO⟩,g1,g2,g3,a1,a2,a3⟩:=S
 obtain ⟨nd,ti,s1,s2,s3⟩:=D
 simp only [List.nodup_cons,List.mem_cons,List.not_mem_nil,or_false,not_or] at nd ti s1 s2 s3
 obtain ⟨⟨n1,n2,n3,n4⟩,⟨n5,n6,n7⟩,⟨n8,n9⟩,n10,_⟩:=nd
 refine wpAny_bind (m:=field (.ref z) 2) (wpAny_field hz rfl (x:= .bool false) rfl ?_)
 refine wpAny_bind (m:=field (.ref z) 3) (wpAny_field hz rfl (x:= .ref TI) rfl ?_)
 refine wpAny_bind (wpAny_seqItems hTI rfl ?_)
 refine wpAny_bind (m:=Builtin.SmallTypes.ownedTupleIsFree (.ref z)) ?_
 unfold Builtin.SmallTypes.ownedTupleIsFree
 refine wpAny_bind (wpAny_field hz rfl (x:= .none) rfl (wpAny_pure ?_))
 simp only [zzM]
 refine wpAny_bind (wpAny_rule ?_)
 refine wpAny_bind (wpAny_field hz rfl (x:= .ref TO) rfl ?_)
 refine wpAny_bind (wpAny_setField_rec hz (by simp) fun h1 hz1 b1=>?_)
 replace hz1:IsZip h1 z TI TO .ellipsis:=hz1
 refine wpAny_bind ?_
 simp only [List.zipIdx_cons,List.zipIdx_nil,List.forIn_cons,List.forIn_nil]
 refine wpAny_bind (wpAny_bind (wpAny_onRaise ?_))
 refine wpAny_bind (m:=Builtin.SmallTypes.nextOf (.ref i1)) ?_
 refine abz hh (g1.extBut b1.extBut (Ne.symm n2)) (a1.extBut b1.extBut s1.1) hx fun h2 e b2 he=>?_
 obtain ⟨oe,ho,hc⟩:=he
 have z2:IsZip h2 z TI TO .ellipsis:=b2 _ _ n2 hz1
 have ez:e ≠ z:=fun q=>by subst q; rw [z2] at ho; cases ho; simp at hc
 refine wpAny_setField_rec z2 (by simp) fun h3 _ b3=>?_
 exact hE h3 e (((But.of b1.extBut (by simp)).trans (But.of b2 (by simp))).trans (But.of b3.extBut (by simp))) ⟨oe,b3.extBut _ _ ez ho,hc⟩
end
structure ZipC (h:Heap) (z TI TO i1 i2 i3 t1 t2 t3:Addr) (f0:Value) (k:Nat):Prop where
 hz:IsZip h z TI TO f0
 hTI:QV h TI (.ref i1) (.ref i2) (.ref i3)
 hTO:∃ a b c,QV h TO a b c
 g1:h.IsTupleIter i1 t1 k
 g2:h.IsTupleIter i2 t2 k
 g3:h.IsTupleIter i3 t3 k
theorem ZipC.all {h:Heap}{z TI TO i1 i2 i3 t1 t2 t3:Addr}{f0:Value}{k:Nat} (S:ZipC h z TI TO i1 i2 i3 t1 t2 t3 f0 k) {xs ys zs:Array Value} (a1:h.IsTuple t1 xs) (a2:h.IsTuple t2 ys) (a3:h.IsTuple t3 zs):
  Zip3 h z TI TO i1 i2 i3 t1 t2 t3 xs ys zs f0 k:=⟨S.hz,S.hTI,S.hTO,S.g1,S.g2,S.g3,a1,a2,a3⟩
theorem Zip3.c {h:Heap}{z TI TO i1 i2 i3 t1 t2 t3:Addr}{xs ys zs:Array Value}{f0:Value}{k:Nat} (S:Zip3 h z TI TO i1 i2 i3 t1 t2 t3 xs ys zs f0 k):ZipC h z TI TO i1 i2 i3 t1 t2 t3 f0 k:=⟨S.hz,S.hTI,S.hTO,S.g1,S.g2,S.g3⟩
theorem ZipC.keep {h h':Heap}{z TI TO i1 i2 i3 t1 t2 t3:Addr}{f0:Value}{k:Nat} (S:ZipC h z TI TO i1 i2 i3 t1 t2 t3 f0 k) (kp:∀ b ∈ [z,TI,TO,i1,i2,i3],∀ o,h.get? b=some o->h'.get? b=some o):
  ZipC h' z TI TO i1 i2 i3 t1 t2 t3 f0 k:=by
 obtain ⟨hz,hTI,⟨a,b,c,hTO⟩,⟨o1,e1,r1⟩,⟨o2,e2,r2⟩,⟨o3,e3,r3⟩⟩:=S
 exact ⟨kp z (by simp) _ hz,kp TI (by simp) _ hTI,⟨a,b,c,kp TO (by simp) _ hTO⟩,⟨o1,kp i1 (by simp) _ e1,r1⟩,⟨o2,kp i2 (by simp) _ e2,r2⟩,⟨o3,kp i3 (by simp) _ e3,r3⟩⟩
noncomputable def Itz (K:Fg) (t1 t2 t3:Addr):It:=
 ⟨fun i H=>∃ xs ys zs x y v,SqT K H t1 xs/\SqT K H t2 ys/\SqT K H t3 zs/\xs[i]?=some x/\ys[i]?=some y/\zs[i]?=some v,
  fun i H u H'=>∃ p x y v,u= .ref p/\H p=none/\H'=upd H p (.tup [x,y,v])/\∀ xs ys zs,SqT K H t1 xs->SqT K H t2 ys->SqT K H t3 zs->xs[i]?=some x/\ys[i]?=some y/\zs[i]?=some v,
  fun i H=>∃ xs ys zs,SqT K H t1 xs/\SqT K H t2 ys/\SqT K H t3 zs/\xs.length<=i⟩
theorem ahc {P:Program}{w:World}{K:Fg}{elts:List Expr}{x1:Nat}{pos:Pos}{z TI TO i1 i2 i3 t1 t2 t3:Addr} (nd:[z,TO,i1,i2,i3].Nodup) (ti:TI ∉ [z,TO,i1,i2,i3]):
  Turn P w K (.Tuple elts x1 pos) (Itz K t1 t2 t3) [z,TI,TO,i1,i2,i3] z (fun i h=>ZipC h z TI TO i1 i2 i3 t1 t2 t3 .none i) where
 mem:=by simp
 obj:=fun i h st b hb=>by
  obtain ⟨hz,hTI,⟨a,b',c,hTO⟩,⟨o1,e1,_,d1⟩,⟨o2,e2,_,d2⟩,⟨o3,e3,_,d3⟩⟩:=st
  simp only [List.mem_cons,List.not_mem_nil,or_false] at hb
  rcases hb with rfl | rfl | rfl | rfl | rfl | rfl
  ·exact ⟨_,hz,fun v q=>by cases q⟩
  ·exact ⟨_,hTI,fun v q=>by cases q⟩
  ·exact ⟨_,hTO,fun v q=>by cases q⟩
  ·exact ⟨o1,e1,fun v q=>by rw [d1] at q; cases q⟩
  ·exact ⟨o2,e2,fun v q=>by rw [d2] at q; cases q⟩
  ·exact ⟨o3,e3,fun v q=>by rw [d3] at q; cases q⟩
 keep:=fun i h h' st k=>st.keep k
 item:=by
  intro X hP hw hK hc i Kp s σ H E I hf st hg
  subst hP hw hK
  obtain ⟨xs,ys,zs,x,y,v,q1,q2,q3,ex,ey,ev⟩:=hg
  obtain ⟨us1,r1,p1,z1⟩:=I.tuple q1
  obtain ⟨us2,r2,p2,z2⟩:=I.tuple q2
  obtain ⟨us3,r3,p3,z3⟩:=I.tuple q3
  obtain ⟨u1,m1,l1⟩:=r1.get ex
  obtain ⟨u2,m2,l2⟩:=r2.get ey
  obtain ⟨u3,m3,l3⟩:=r3.get ev
  have trk:∀ {t:Addr} {ws:List V},SqT X.K H t ws->t ∉ [z,TO,i1,i2,i3]:=fun {t ws} hq hb=>by
   have hb':t ∈ [z,TI,TO,i1,i2,i3]:=by
    simp only [List.mem_cons,List.not_mem_nil,or_false] at hb ⊢
    rcases hb with e | e | e | e | e <;> simp [e]
   rcases hq with (e | ⟨o,e⟩) | ⟨o,its,n,hk,hcl,hs,_,_⟩
   ·have:=(hf t hb').1; rw [e] at this; cases this
   ·have:=(hf t hb').1; rw [e] at this; cases this
   ·-- an object of the module is no iterator of ours
    obtain ⟨f0,f1,f2,f3,f4,f5⟩:=hf t hb'
    have hbase:=I.mod.kin t o hk
    rcases f3 with q | q
    ·exact I.ok.noex t o hbase q
    ·exact absurd (Nat.lt_of_lt_of_le (Heap.lt_size hbase) (Nat.le_trans I.ok.bsz q)) (Nat.lt_irrefl _)
  have D:Apart3 z TI TO i1 i2 i3 t1 t2 t3:=⟨nd,ti,trk q1,trk q2,trk q3⟩
  have S:=st.all (xs:=us1.toArray) (ys:=us2.toArray) (zs:=us3.toArray) p1 p2 p3
  have hT:s.TypeIs (.ref z) "zip":=⟨_,st.hz,rfl⟩
  unfold pyNext
  refine wpAny_bind (wpAny_attempt (wpAny_callSpecial?_slot (name:=Str.ofString "__next__") hT F.slot_zip_next
   (wpAny_call_entry F.slot_zip_next hT F.entry_zip_next (afX D S (by simpa using m1) (by simpa using m2) (by simpa using m3) fun h1 S1 T1 B1=>wpAny_pure ?_)
    (F.args_zip_next_1 _))))
  refine ⟨_,rfl,?_⟩
  refine wpAny_letOwnedTupleGo_zip (s:={ s with heap:=h1 }) S1.hz fun h2 z2' b2=>?_
  have nT:H s.heap.objs.size=none:=I.hok.fresh (Nat.le_refl _)
  have zlt:z<s.heap.objs.size:=Heap.lt_size st.hz
  have T2:QV h2 s.heap.objs.size u1 u2 u3:=b2.extBut _ _ (Nat.ne_of_gt zlt) T1
  have B2:But [z,TO,i1,i2,i3] s.heap h2:=B1.trans (But.of b2.extBut (by simp))
  have inF:∀ b ∈ [z,TO,i1,i2,i3],b ∈ [z,TI,TO,i1,i2,i3]:=fun b hb=>by
   simp only [List.mem_cons,List.not_mem_nil,or_false] at hb ⊢
   rcases hb with e | e | e | e | e <;> simp [e]
  have ntr:∀ b u,H b=some u->b ∉ [z,TO,i1,i2,i3]:=fun b u e hb=>by
   have:=(hf b (inF b hb)).1
   rw [e] at this; cases this
  have neT:∀ b u,H b=some u->b ≠ s.heap.objs.size:=fun b u e q=>by rw [q,nT] at e; cases e
  have hok2:HOk X.prog X.w (upd H s.heap.objs.size (.tup [x,y,v])) h2:=fun b u e=>by
   by_cases hb:b=s.heap.objs.size
   ·subst hb
    rw [jt] at e
    cases e
    exact ⟨by show 3<=sizeLine; rw [sizeLine_eq]; decide,[u1,u2,u3],.cons l1 (.cons l2 (.cons l3 .nil)),⟨_,T2,rfl,_,rfl⟩⟩
   ·rw [ji hb] at e
    refine (I.hok b u e).stay (fun c o hc' q=>B2 c o ?_ q) (fun c q=>by rw [ji (neT c _ q)]; exact q) fun c ws q=>by rw [ji (neT c _ q)]; exact q
    rcases hc' with q' | q'
    ·rw [q']; exact ntr b u e
    ·exact ntr c _ q'
  have I2:Inv X Kp σ (upd H s.heap.objs.size (.tup [x,y,v])) { s with heap:=h2,toks:=s.toks }:=by
   refine I.step (g':=s.gens) (d':=s.drawn) (ch:=[z,TO,i1,i2,i3]) (fun b hb=>?_) (fun b o _ _ hb e _=>B2 b o hb e) (fun b o _ _ hb e _=>⟨o.slots,B2 b o hb e⟩) (fun b o hb e n=>?_) (fun b o hb e=>⟨o,B2 b o hb e⟩)
    (fun b ws e=>by rw [ji (neT b _ e)]; exact e) (fun b ob ws e=>by rw [ji (neT b _ e)]; exact e) (fun b ps e=>⟨#[],by rw [ji (neT b _ e),e]; simp⟩) (fun m hm=>?_) hok2 I.bare
   ·obtain ⟨f0,f1,f2,f3,f4,f5⟩:=hf b (inF b hb)
    exact ⟨f3,f1,f4,f5⟩
   ·rw [ji (Nat.ne_of_lt (Heap.lt_size e))]; exact n
   ·obtain ⟨o,es,ep,ho,r⟩:=hm
    refine ⟨o,es,ep,B2 _ o (fun hb=>?_) ho,r⟩
    exact (hf _ (inF _ hb)).2.1 rfl
  refine ⟨.ref s.heap.objs.size,_,I2,rfl,⟨_,x,y,v,rfl,nT,rfl,fun as bs cs g1 g2 g3=>?_⟩,?_,fun b hb=>?_⟩
  ·rw [I.tuple_inj g1 q1,I.tuple_inj g2 q2,I.tuple_inj g3 q3]
   exact ⟨ex,ey,ev⟩
  ·have c1:=S1.c
   obtain ⟨_,hTI,⟨a,b,c,hTO⟩,⟨o1,e1,w1⟩,⟨o2,e2,w2⟩,⟨o3,e3,w3⟩⟩:=c1
   simp only [List.nodup_cons,List.mem_cons,List.not_mem_nil,or_false,not_or] at nd ti
   obtain ⟨⟨n1,n2,n3,n4⟩,_⟩:=nd
   exact ⟨z2',b2.extBut _ _ ti.1 hTI,⟨a,b,c,b2.extBut _ _ (Ne.symm n1) hTO⟩,⟨o1,b2.extBut _ _ (Ne.symm n2) e1,w1⟩,⟨o2,b2.extBut _ _ (Ne.symm n3) e2,w2⟩,⟨o3,b2.extBut _ _ (Ne.symm n4) e3,w3⟩⟩
  ·obtain ⟨o,ho,_⟩:∃ o,s.heap.get? b=some o/\True:=by
    obtain ⟨hz,hTI,⟨a,b',c,hTO⟩,⟨o1,e1,_⟩,⟨o2,e2,_⟩,⟨o3,e3,_⟩⟩:=st
    simp only [List.mem_cons,List.not_mem_nil,or_false] at hb
    rcases hb with rfl | rfl | rfl | rfl | rfl | rfl
    ·exact ⟨_,hz,trivial⟩
    ·exact ⟨_,hTI,trivial⟩
    ·exact ⟨_,hTO,trivial⟩
    ·exact ⟨_,e1,trivial⟩
    ·exact ⟨_,e2,trivial⟩
    ·exact ⟨_,e3,trivial⟩
   rw [ji (Nat.ne_of_lt (Heap.lt_size ho))]
   exact (hf b hb).1
 done:=by
  intro X hP hw hK hc i Kp s σ H E I hf st hg
  subst hP hw hK
  obtain ⟨xs,ys,zs,q1,q2,q3,hl⟩:=hg
  obtain ⟨us1,r1,p1,z1⟩:=I.tuple q1
  obtain ⟨us2,r2,p2,z2⟩:=I.tuple q2
  obtain ⟨us3,r3,p3,z3⟩:=I.tuple q3
  have trk:∀ {t:Addr} {ws:List V},SqT X.K H t ws->t ∉ [z,TO,i1,i2,i3]:=fun {t ws} hq hb=>by
   have hb':t ∈ [z,TI,TO,i1,i2,i3]:=by
    simp only [List.mem_cons,List.not_mem_nil,or_false] at hb ⊢
    rcases hb with e | e | e | e | e <;> simp [e]
   rcases hq with (e | ⟨o,e⟩) | ⟨o,its,n,hk,hcl,hs,_,_⟩
   ·have:=(hf t hb').1; rw [e] at this; cases this
   ·have:=(hf t hb').1; rw [e] at this; cases this
   ·obtain ⟨f0,f1,f2,f3,f4,f5⟩:=hf t hb'
    have hbase:=I.mod.kin t o hk
    rcases f3 with q | q
    ·exact I.ok.noex t o hbase q
    ·exact absurd (Nat.lt_of_lt_of_le (Heap.lt_size hbase) (Nat.le_trans I.ok.bsz q)) (Nat.lt_irrefl _)
  have D:Apart3 z TI TO i1 i2 i3 t1 t2 t3:=⟨nd,ti,trk q1,trk q2,trk q3⟩
  have S:=st.all (xs:=us1.toArray) (ys:=us2.toArray) (zs:=us3.toArray) p1 p2 p3
  have hT:s.TypeIs (.ref z) "zip":=⟨_,st.hz,rfl⟩
  have hlen:=r1.length
  unfold pyNext
  refine wpAny_bind (wpAny_attempt (wpAny_callSpecial?_slot (name:=Str.ofString "__next__") hT F.slot_zip_next
   (wpAny_call_entry F.slot_zip_next hT F.entry_zip_next (ahb (I.ok.hd hc) D S (by simp; omega) fun h1 e B1 he=>?_)
    (F.args_zip_next_1 _))))
  obtain ⟨o,ho,hcl⟩:=he
  refine wpAny_bind (wpAny_isInstance (T:="StopIteration") (b:=true) ⟨o,ho,hcl⟩ isSubtype_stop ?_)
  refine wpAny_pure ⟨rfl,?_⟩
  have inF:∀ b ∈ [z,TO,i1,i2,i3],b ∈ [z,TI,TO,i1,i2,i3]:=fun b hb=>by
   simp only [List.mem_cons,List.not_mem_nil,or_false] at hb ⊢
   rcases hb with e | e | e | e | e <;> simp [e]
  have ntr:∀ b u,H b=some u->b ∉ [z,TO,i1,i2,i3]:=fun b u e hb=>by
   have:=(hf b (inF b hb)).1
   rw [e] at this; cases this
  refine I.step (t':=s.toks) (g':=s.gens) (d':=s.drawn) (ch:=[z,TO,i1,i2,i3]) (fun b hb=>?_) (fun b o _ _ hb e _=>B1 b o hb e) (fun b o _ _ hb e _=>⟨o.slots,B1 b o hb e⟩) (fun b o hb e n=>n) (fun b o hb e=>⟨o,B1 b o hb e⟩)
   (fun b ws e=>e) (fun b ob ws e=>e) (fun b ps e=>⟨#[],by rw [e]; simp⟩) (fun m hm=>?_) (fun b u e=>?_) I.bare
  ·obtain ⟨f0,f1,f2,f3,f4,f5⟩:=hf b (inF b hb)
   exact ⟨f3,f1,f4,f5⟩
  ·obtain ⟨o,es,ep,ho,r⟩:=hm
   refine ⟨o,es,ep,B1 _ o (fun hb=>?_) ho,r⟩
   exact (hf _ (inF _ hb)).2.1 rfl
  ·refine (I.hok b u e).stay (fun c o hc' q=>B1 c o ?_ q) (fun c q=>q) fun c ws q=>q
   rcases hc' with q' | q'
   ·rw [q']; exact ntr b u e
   ·exact ntr c _ q'
 self:=fun _ _ _ _ _ st h=>wpAny_pyIter_zip st.hz h
theorem aba (a b c:Value):checkTypeCall "zip" ⟨[a,b,c],[]⟩=pure ():=by kernel_rfl
theorem acn (a b c:Value):checkBuiltinCall "zip.__new__" ⟨[.type "zip",a,b,c],[]⟩=pure ():=by kernel_rfl
theorem aec (a b c d:Value):argsOk "object.__init__" ⟨[a,b,c,d],[]⟩:=by
 unfold argsOk
 rw [signature?_of (id:="object.__init__") (n:=['_','_','t','i','n','i','_','_'])
  (o:=['t','c','e','j','b','o']) (by kernel_rfl) F.owner_object]
 kernel_rfl
noncomputable abbrev ak9 (t:Addr):Obj:={ cls:= .type "tuple_iterator",data:= .fields #[.ref t,.int 0 0] }
noncomputable abbrev zh1 (h:Heap) (a:Addr):Heap:=h.push (ak9 a)
noncomputable abbrev zh2 (h:Heap) (a b:Addr):Heap:=(zh1 h a).push (ak9 b)
noncomputable abbrev zh3 (h:Heap) (a b c:Addr):Heap:=(zh2 h a b).push (ak9 c)
noncomputable abbrev zh4 (h:Heap) (a b c:Addr):Heap:=(zh3 h a b c).push { cls:= .type "tuple",data:= .seq #[.ref h.objs.size,.ref (zh1 h a).objs.size,.ref (zh2 h a b).objs.size] }
noncomputable abbrev zh5 (h:Heap) (a b c:Addr):Heap:=(zh4 h a b c).push { cls:= .type "tuple",data:= .seq #[.none,.none,.none] }
noncomputable abbrev zh6 (h:Heap) (a b c:Addr):Heap:=(zh5 h a b c).push { cls:= .type "zip",data:= .fields #[.none,.bool false,.bool false,.ref (zh3 h a b c).objs.size,.ref (zh4 h a b c).objs.size] }
theorem ahd (a b c:Addr) (xs ys zs:Array Value):
  Meets (Builtin.«zip.__new__» ⟨[.type "zip",.ref a,.ref b,.ref c],[]⟩) (fun _ R s=>s.heap.IsTuple a xs/\s.heap.IsTuple b ys/\s.heap.IsTuple c zs/\
   R (.ok (.ret (.ref (zh5 s.heap a b c).objs.size))) { s with heap:=zh6 s.heap a b c }):=
 .of_wp fun prog w A R s h=>by
  obtain ⟨hp,g,d,tk,os⟩:=s
  obtain ⟨h1,h2,h3,h⟩:=h
  have hsub:=sub_zip
  have k1:Heap.IsTuple (Shared.heap ⟨hp,g,d,tk,os⟩) a xs:=h1
  have k2:Heap.IsTuple (Shared.heap ⟨zh1 hp a,g,d,tk,os⟩) b ys:=Heap.IsTuple.push h2 _
  have k3:Heap.IsTuple (Shared.heap ⟨zh2 hp a b,g,d,tk,os⟩) c zs:=Heap.IsTuple.push (Heap.IsTuple.push h3 _) _
  wp_walk using wpAny_pyIter_tuple k1,wpAny_pyIter_tuple k2,wpAny_pyIter_tuple k3
  exact ⟨_,rfl,h⟩
section
variable {X:Cx}
noncomputable def ams (K:Fg) (ta:TA):TI:=fun σ H R=>ta σ H fun vs H1=>∃ a b c xs ys zs,vs=[.ref a,.ref b,.ref c]/\SqT K H1 a xs/\SqT K H1 b ys/\SqT K H1 c zs/\R (Itz K a b c) H1
theorem aje {ea eb ec:Expr}{elts:List Expr}{x1:Nat}{tp:Pos}{ta:TA}{p pos:Pos} (hg:Gl X "zip") (hm:X.mg "zip"=none) (ha:PA X [ea,eb,ec] ta)
  (hs:starEach [ea,eb,ec] X.env=[(false,eval ea X.env),(false,eval eb X.env),(false,eval ec X.env)]:=by rfl) (hs2:starEach [eb,ec] X.env=[(false,eval eb X.env),(false,eval ec X.env)]:=by rfl):
  PI X (.Tuple elts x1 tp) (.Call (.Name "zip" p) [ea,eb,ec] [] pos) (ams X.K ta):=by
 intro Kp s σ H R I h
 refine Call_ (QF I hg hm boot_zip (PyProof.Rows.callWith_type1 (thn (ha pos Kp s σ H _ I h) fun us s1 ⟨vs,H1,I1,r1,q1⟩=>?_) (by rw [hs,hs2]) (by rw [hs2]; rfl)))
 obtain ⟨a,b,c,xs,ys,zs,e,q1,q2,q3,q⟩:=q1
 subst e
 cases r1 with
 | cons r1 rr=>
  cases rr with
  | cons r2 rr=>
   cases rr with
   | cons r3 rr=>
    cases rr
    cases r1; cases r2; cases r3
    obtain ⟨us1,v1,p1,z1⟩:=I1.tuple q1
    obtain ⟨us2,v2,p2,z2⟩:=I1.tuple q2
    obtain ⟨us3,v3,p3,z3⟩:=I1.tuple q3
    refine callType_new F.called_zip (by decide) (aba _ _ _) (acn _ _ _) (fun obj=>aec obj _ _ _) F.entry_zip_new
     (ahd a b c us1.toArray us2.toArray us3.toArray) ⟨p1,p2,p3,?_⟩
    have n1:(zh1 s1.heap a).objs.size=s1.heap.objs.size+1:=Heap.size_push ..
    have n2:(zh2 s1.heap a b).objs.size=s1.heap.objs.size+2:=by rw [Heap.size_push,n1]
    have n3:(zh3 s1.heap a b c).objs.size=s1.heap.objs.size+3:=by rw [Heap.size_push,n2]
    have n4:(zh4 s1.heap a b c).objs.size=s1.heap.objs.size+4:=by rw [Heap.size_push,n3]
    have n5:(zh5 s1.heap a b c).objs.size=s1.heap.objs.size+5:=by rw [Heap.size_push,n4]
    have g6:(zh6 s1.heap a b c).get? (zh5 s1.heap a b c).objs.size=some _:=Heap.get?_push_size _ rfl
    have g5:(zh6 s1.heap a b c).get? (zh4 s1.heap a b c).objs.size=some _:=Heap.get?_push_of_some _ (Heap.get?_push_size _ rfl)
    have g4:(zh6 s1.heap a b c).get? (zh3 s1.heap a b c).objs.size=some _:=Heap.get?_push_of_some _ (Heap.get?_push_of_some _ (Heap.get?_push_size _ rfl))
    have up3:∀ x o,(zh3 s1.heap a b c).get? x=some o->(zh6 s1.heap a b c).get? x=some o:=fun x o e=>Heap.get?_push_of_some _ (Heap.get?_push_of_some _ (Heap.get?_push_of_some _ e))
    have g3:(zh6 s1.heap a b c).get? (zh2 s1.heap a b).objs.size=some _:=up3 _ _ (Heap.get?_push_size _ rfl)
    have g2:(zh6 s1.heap a b c).get? (zh1 s1.heap a).objs.size=some _:=up3 _ _ (Heap.get?_push_of_some _ (Heap.get?_push_size _ rfl))
    have g1:(zh6 s1.heap a b c).get? s1.heap.objs.size=some _:=up3 _ _ (Heap.get?_push_of_some _ (Heap.get?_push_of_some _ (Heap.get?_push_size _ rfl)))
    have kp:∀ x o,s1.heap.get? x=some o->(zh6 s1.heap a b c).get? x=some o:=fun x o e=>up3 _ _ (Heap.get?_push_of_some _ (Heap.get?_push_of_some _ (Heap.get?_push_of_some _ e)))
    show _/\_
    refine ⟨⟨_,g6,rfl⟩,?_⟩
    refine wpAny_pyIter_zip g6 ?_
    have I2:Inv X Kp σ H1 { s1 with heap:=zh6 s1.heap a b c }:=I1.kept (t':=s1.toks) kp
    refine ⟨_,[(zh5 s1.heap a b c).objs.size,(zh3 s1.heap a b c).objs.size,(zh4 s1.heap a b c).objs.size,s1.heap.objs.size,(zh1 s1.heap a).objs.size,(zh2 s1.heap a b).objs.size],
     _,_,H1,rfl,I2,ahc (z:=(zh5 s1.heap a b c).objs.size) (TI:=(zh3 s1.heap a b c).objs.size) (TO:=(zh4 s1.heap a b c).objs.size) (i1:=s1.heap.objs.size) (i2:=(zh1 s1.heap a).objs.size) (i3:=(zh2 s1.heap a b).objs.size) (t1:=a) (t2:=b) (t3:=c) ?_ ?_,
     ⟨g6,g4,⟨_,_,_,g5⟩,⟨_,g1,rfl,rfl⟩,⟨_,g2,rfl,rfl⟩,⟨_,g3,rfl,rfl⟩⟩,fun x hx=>?_,q⟩
    ·rw [n5,n4,n1,n2]
     simp [List.nodup_cons]
    ·rw [n3,n5,n4,n1,n2]
     simp
    ·have hle:s1.heap.objs.size<=x:=by
      rw [n5,n3,n4,n1,n2] at hx
      simp only [List.mem_cons,List.not_mem_nil,or_false] at hx
      rcases hx with e | e | e | e | e | e <;> rw [e] <;> first | exact Nat.le_refl _ | exact Nat.le_add_right _ _
     exact I1.fpOk hle (I1.hok.fresh hle)
noncomputable def J9:LP->LP->LP->LP
 | x::xs,y::ys,z::zs=> .tuple [x,y,z]::J9 xs ys zs
 | _,_,_=>[]
noncomputable def ae0 (ds:LP):Option (LP):=match ds with
 | [.tuple xs,.tuple ys,.tuple zs]=>if xs.length=ys.length/\ys.length=zs.length then some (J9 xs ys zs) else none
 | _=>none
theorem abA:∀ (xs ys zs:LP),xs.length=ys.length->ys.length=zs.length->(J9 xs ys zs).length=xs.length
 | [],_,_,_,_=>by simp [J9]
 | x::xs,[],_,h,_=>by simp at h
 | x::xs,y::ys,[],_,h=>by simp at h
 | x::xs,y::ys,z::zs,h,g=>by simp [J9,abA xs ys zs (by simpa using h) (by simpa using g)]
theorem abB:∀ (xs ys zs:LP) (i:Nat) (d:PyData),(J9 xs ys zs)[i]?=some d->∃ x y z,xs[i]?=some x/\ys[i]?=some y/\zs[i]?=some z/\d= .tuple [x,y,z]
 | [],_,_,i,d,h=>by simp [J9] at h
 | x::xs,[],_,i,d,h=>by simp [J9] at h
 | x::xs,y::ys,[],i,d,h=>by simp [J9] at h
 | x::xs,y::ys,z::zs,0,d,h=>by simp [J9] at h; exact ⟨x,y,z,rfl,rfl,rfl,h.symm⟩
 | x::xs,y::ys,z::zs,i+1,d,h=>by
  obtain ⟨a,b,c,e1,e2,e3,e4⟩:=abB xs ys zs i d (by simpa [J9] using h)
  exact ⟨a,b,c,by simpa using e1,by simpa using e2,by simpa using e3,e4⟩
theorem ahe {ea eb ec:Expr}{elts:List Expr}{x1:Nat}{tp:Pos}{p pos:Pos}{fr:Rho->Option (LP)} (hm:X.mg "zip"=none) (ha:PAD X [ea,eb,ec] fr) (hg:Gl X "zip":=by rfl)
  (hs:starEach [ea,eb,ec] X.env=[(false,eval ea X.env),(false,eval eb X.env),(false,eval ec X.env)]:=by rfl) (hs2:starEach [eb,ec] X.env=[(false,eval eb X.env),(false,eval ec X.env)]:=by rfl):
  PID X (.Tuple elts x1 tp) (.Call (.Name "zip" p) [ea,eb,ec] [] pos) (fun ρ=>(fr ρ).bind ae0):=by
 with_unfolding_all
  refine PI.imp (aje hg hm ha hs hs2) fun σ H R ⟨ρ,ds,en,q,k⟩=>?_
  cases h1:fr ρ with
  | none=>simp [h1] at q
  | some as=>
   have q':ae0 as=some ds:=by simpa [h1] using q
   refine ⟨ρ,as,en,h1,fun vs H1 s1 r1=>?_⟩
   unfold ae0 at q'
   split at q'
   ·rename_i xs ys zs
    split at q'
    ·rename_i hl
     cases q'
     obtain ⟨v1,w1,e1,⟨a,us1,ea',qa,ra⟩,v2,w2,e2,⟨b,us2,eb',qb,rb⟩,v3,w3,e3,⟨c,us3,ec',qc,rc⟩,e4⟩:=r1
     cases (show w3=[] from e4)
     subst ea'; subst eb'; subst ec'; subst e3; subst e2
     have l1:=ra.length
     have l2:=rb.length
     have l3:=rc.length
     have lz:=abA xs ys zs hl.1 hl.2
     refine ⟨a,b,c,us1,us2,us3,e1,qa,qb,qc,k _ H1 s1 fun i H2 s2=>⟨fun hi=>?_,fun hi=>?_,fun u H3 y=>?_⟩⟩
     ·rw [lz] at hi
      exact ⟨us1,us2,us3,us1[i]'(by omega),us2[i]'(by omega),us3[i]'(by omega),jC.tup s2 qa,jC.tup s2 qb,jC.tup s2 qc,by simp <;> omega,by simp <;> omega,by simp <;> omega⟩
     ·rw [lz] at hi
      exact ⟨us1,us2,us3,jC.tup s2 qa,jC.tup s2 qb,jC.tup s2 qc,by omega⟩
     ·obtain ⟨pp,x,y,v,e5,e6,e7,e8⟩:=y
      subst e5; subst e7
      refine ⟨jB e6,fun d hd=>?_⟩
      obtain ⟨dx,dy,dz,g1,g2,g3,g4⟩:=abB xs ys zs i d hd
      subst g4
      obtain ⟨f1,f2,f3⟩:=e8 us1 us2 us3 (jC.tup s2 qa) (jC.tup s2 qb) (jC.tup s2 qc)
      have m:=s2.trans (jm.a (jB (o:= .tup [x,y,v]) e6))
      obtain ⟨x',a1,a2⟩:=(Reps.monoA m _ _ ra).get g1
      obtain ⟨y',b1,b2⟩:=(Reps.monoA m _ _ rb).get g2
      obtain ⟨z',c1,c2⟩:=(Reps.monoA m _ _ rc).get g3
      rw [f1] at a1; cases a1
      rw [f2] at b1; cases b1
      rw [f3] at c1; cases c1
      exact ⟨pp,[x,y,v],rfl,SqT.of jt,x,_,rfl,a2,y,_,rfl,b2,v,_,rfl,c2,rfl⟩
    ·cases q'
   ·cases q'
noncomputable def tyn:PyData->String
 | .none=>"NoneType"
 | .bool _=>"bool"
 | .int _=>"int"
 | .str _=>"str"
 | .tuple _=>"tuple"
 | .list _=>"list"
 | .dict kvs=>if zh kvs then "list" else "dict"
noncomputable def isFn:PyData->Bool
 | .dict [(.str _,_)]=>true
 | .dict [(.bool _,_)]=>true
 | _=>false
noncomputable def QI (T:String) (d:PyData):OP:=if isFn d=true then none else some (.bool (tyn d == T || (T == "int" && tyn d == "bool")))
theorem ahf {Kp:List (Addr × Obj)}{σ:St}{H:Hp}{s:Shared}{E:Value->SP0}{Q:Value->SP0}{d:PyData}{v:V}{u c:Value}{b:Bool} (I:Inv X Kp σ H s) (r:Rep X.K H d v) (hF:isFn d=false) (rv:jQ v u)
  (e:PySem.W.kitOne X.K (.type (tyn d)) c=some b) (h:∀ tk,Q (.bool b) { s with toks:=tk }):wpAny (model X.prog X.w) X.A (call (.builtin "isinstance") [u,c]) Q E s:=by
 cases d with
 | none=>cases r; cases rv; exact PySem.W.kia_one PySem.W.kitx_none I.kIn True.intro e (fun z=>nomatch z) h
 | bool y=>cases r; cases rv; exact PySem.W.kia_one PySem.W.kitx_bool I.kIn True.intro e (fun z=>nomatch z) h
 | int i=>cases r; obtain ⟨t,rfl⟩:=rv; exact PySem.W.kia_one PySem.W.kitx_int I.kIn True.intro e (fun z=>nomatch z) h
 | str y=>cases r; obtain ⟨t,rfl⟩:=rv; exact PySem.W.kia_one PySem.W.kitx_str I.kIn True.intro e (fun z=>nomatch z) h
 | tuple ds=>
  obtain ⟨a,xs,e1,e2,e3⟩:=r
  subst e1; cases rv
  obtain ⟨its,_,⟨o,h1,h2,_⟩,_⟩:=I.tuple e2
  exact PySem.W.kia_one PySem.W.kitx_tuple I.kIn ⟨o,h1,h2⟩ e (fun z=>nomatch z) h
 | list ds=>
  obtain ⟨a,xs,e1,e2,e3⟩:=r
  subst e1; cases rv
  obtain ⟨its,_,⟨o,n,h1,h2,_⟩,_⟩:=I.list (SqL.of e2)
  exact PySem.W.kia_one PySem.W.kitx_list I.kIn ⟨o,h1,h2⟩ e (fun z=>nomatch z) h
 | dict ds=>
  obtain ⟨a,e1,⟨ns,e2,e3⟩ | ⟨ks,ob,e2,e3⟩ | ⟨x,e2,_⟩ | ⟨x,_,_,e2,_⟩ | e2⟩:=r
  ·subst e1; cases rv
   subst e3
   have e:PySem.W.kitOne X.K (.type "list") c=some b:=by simpa [tyn,abw] using e
   obtain ⟨its,_,⟨o,n,h1,h2,_⟩,_⟩:=I.list e2
   exact PySem.W.kia_one PySem.W.kitx_list I.kIn ⟨o,h1,h2⟩ e (fun z=>nomatch z) h
  ·subst e1; cases rv
   obtain ⟨cc,rr,rfl,e4⟩:=e3.out
   have e:PySem.W.kitOne X.K (.type "dict") c=some b:=by simpa [tyn,zh] using e
   obtain ⟨_,_,vs,_,dd⟩:=ac4 I.hok (.inr ⟨ob,e2⟩)
   obtain ⟨o,es,ep,h1,h2,_⟩:=dd
   exact PySem.W.kia_one PySem.W.kitx_dict I.kIn ⟨o,h1,h2.1⟩ e (fun z=>nomatch z) h
  ·subst e2; simp [isFn] at hF
  ·subst e2; simp [isFn] at hF
  ·subst e2; simp [isFn] at hF
noncomputable def anl (K:Fg) (T:String):List V->Hp->VK->Prop:=fun xs H Q=>∃ x d b,xs=[x,.ty T]/\Rep K H d x/\isFn d=false/\PySem.W.kitOne K (.type (tyn d)) (.type T)=some b/\Q (.bl b) H
theorem ac9 {T:String}:zK X (.builtin "isinstance") (anl X.K T):=by
 intro Kp s σ H xs us Q I r ⟨x,d,b,e,h1,hF,h2,q⟩
 subst e
 obtain ⟨u,w',rfl,r1,r2⟩:=agT r
 cases (show w'=_ from r2)
 exact ahf I h1 hF r1 h2 fun tk=>⟨.bl b,H,I.tok tk,rfl,q⟩
noncomputable def zP (T:String) (d:PyData):Bool:=tyn d == T || (T == "int" && tyn d == "bool")
@[simp] theorem alO (T:String):QI T .none=some (.bool (zP T .none)):=rfl
@[simp] theorem alP (T:String) (b:Bool):QI T (.bool b)=some (.bool (zP T (.bool b))):=rfl
@[simp] theorem amt (T:String) (i:Int):QI T (.int i)=some (.bool (zP T (.int i))):=rfl
@[simp] theorem amu (T:String) (x:Str):QI T (.str x)=some (.bool (zP T (.str x))):=rfl
@[simp] theorem ala (T:String) (ds:LP):QI T (.tuple ds)=some (.bool (zP T (.tuple ds))):=rfl
@[simp] theorem alQ (T:String) (ds:LP):QI T (.list ds)=some (.bool (zP T (.list ds))):=rfl
theorem ada {T:String}{d e:PyData} (h:QI T d=some e):isFn d=false/\e= .bool (zP T d):=by
 unfold QI at h
 split at h
 ·cases h
 ·rename_i hf; cases h; exact ⟨by simpa using hf,rfl⟩
theorem ajf {K:Fg}{T:String} (hT:T="bool" ∨ T="int" ∨ T="tuple") (d:PyData):PySem.W.kitOne K (.type (tyn d)) (.type T)=some (zP T d):=by
 rcases hT with rfl | rfl | rfl <;> cases d <;> first | rfl | (rename_i kvs; by_cases h:zh kvs=true <;> simp only [tyn,zP,h] <;> rfl)
theorem Zt {a:Expr}{fa:RP}{T:Str}{Tn:String}{p p2 pos:Pos} (hT:Tn="bool" ∨ Tn="int" ∨ Tn="tuple") (hm1:X.mg "isinstance"=none) (hm2:X.mg T=none) (hv:bootBuiltins T=some (.type Tn)) (ha:PD X a fa)
  (hg1:Gl X "isinstance":=by rfl) (hg2:Gl X T:=by rfl) (hn:T ≠ "__name__":=by decide) (hd:(T == ("__debug__":Str))=false:=by decide)
  (he:starEach [a,.Name T p2] X.env=[(false,eval a X.env),(false,eval (.Name T p2) X.env)]:=by rfl) (he2:starEach [.Name T p2] X.env=[(false,eval (.Name T p2) X.env)]:=by rfl) (hpl:(backTo pos (starEach [.Name T p2] X.env)).any (·.1)=false:=by rfl):
  PD X (.Call (.Name "isinstance" p) [a,.Name T p2] [] pos) (fun ρ=>(fa ρ).bind fun d=>QI Tn d):=by
 with_unfolding_all
  have hT2:PE X (.Name T p2) (tC (.ty Tn)):=aeN hg2 hm2 hv rfl hn hd
  refine PE.imp (aai (ac9 (T:=Tn)) hg1 hm1 (by decide +kernel) (q0 ha (q0 hT2 JN (by rw [he2]; rfl)) (by rw [he,he2])) (by decide) (by decide) (by rw [he,he2]) hpl) fun σ H Q ⟨ρ,d,en,q,k⟩=>?_
  cases h1:fa ρ with
  | none=>simp [h1] at q
  | some c=>
   obtain ⟨hF,rfl⟩:=ada (show QI Tn c=some d by simpa [h1] using q)
   exact ⟨ρ,c,en,h1,fun v H1 s1 r1=>⟨v,c,_,rfl,r1,hF,ajf hT c,k _ H1 s1 rfl⟩⟩
end
noncomputable def zu (H H':Hp):Prop:=∀ b o,H b=some o->(∀ xs,o ≠ .lst xs)->H' b=some o
theorem jm.n {H H':Hp} (e:jm H H'):zu H H':=fun b o h _=>e b o h
theorem zu.refl (H:Hp):zu H H:=fun _ _ h _=>h
theorem zu.trans {H H1 H2:Hp} (a:zu H H1) (b:zu H1 H2):zu H H2:=fun c o h n=>b c o (a c o h n) n
theorem zu.upd {H:Hp}{p:Addr}{xs ys:List V} (hp:H p=some (.lst xs)):zu H (upd H p (.lst ys)):=fun b o h n=>by
 have:b ≠ p:=fun e=>by subst e; rw [hp] at h; cases h; exact n _ rfl
 rw [ji this]; exact h
mutual
noncomputable def noL:PyData->Bool
 | .none=>true
 | .bool _=>true
 | .int _=>true
 | .str _=>true
 | .tuple ds=>noLs ds
 | .list _=>false
 | .dict _=>false
noncomputable def noLs:LP->Bool
 | []=>true
 | d::ds=>noL d && noLs ds
end
section
variable {K:Fg}{H H':Hp}
theorem zu.tup {a:Addr}{xs:List V} (e:zu H H') (h:SqT K H a xs):SqT K H' a xs:=by
 rcases h with (h | ⟨o,h⟩) | h
 ·exact .inl (.inl (e _ _ h fun _ z=>nomatch z))
 ·exact .inl (.inr ⟨o,e _ _ h fun _ z=>nomatch z⟩)
 ·exact .inr h
mutual
theorem Rep.monoN (e:zu H H'):∀ (d:PyData) (v:V),noL d=true->Rep K H d v->Rep K H' d v
 | .none,v,_,h=>h
 | .bool _,v,_,h=>h
 | .int _,v,_,h=>h
 | .str _,v,_,h=>h
 | .tuple ds,v,n,⟨a,xs,h1,h2,h3⟩=>⟨a,xs,h1,zu.tup e h2,Reps.monoN e ds xs (by simpa [noL] using n) h3⟩
 | .list ds,v,n,h=>by simp [noL] at n
 | .dict ds,v,n,h=>by simp [noL] at n
theorem Reps.monoN (e:zu H H'):∀ (ds:LP) (xs:List V),noLs ds=true->Reps K H ds xs->Reps K H' ds xs
 | [],xs,_,h=>h
 | d::ds,xs,n,⟨x,r,h1,h2,h3⟩=>by
  have n':noL d=true/\noLs ds=true:=by simpa [noLs] using n
  exact ⟨x,r,h1,Rep.monoN e d x n'.1 h2,Reps.monoN e ds r n'.2 h3⟩
end
theorem Qa:∀ (ds es:LP),noLs (ds++es)=(noLs ds && noLs es)
 | [],es=>by simp [noLs]
 | d::ds,es=>by simp [noLs,Qa ds es,Bool.and_assoc]
theorem QW:∀ {ds:LP},(∀ d ∈ ds,noL d=true)->noLs ds=true
 | [],_=>rfl
 | d::ds,h=>by simp [noLs,h d List.mem_cons_self,QW fun x hx=>h x (List.mem_cons_of_mem _ hx)]
end
end BX
end
section
namespace BX
open PySem PySem.Spec L2
open PyProof.Rows hiding St
noncomputable def jq (P:Program) (w:World) (K:Fg) (mg:SV) (base:Heap) (x:Str) (ps:List Str) (k n:Nat) (g:LP->OP):Prop:=
 ∃ (f:Addr) (fd:FuncData),FnOk P w K mg base CX0 k f fd ps (Pur K n g)/\mg x=some (.ref f)/\PySem.W.keepIn K (.ref f)=true/\QB K fd ps []
theorem js:∀ (ρ:Rho) (ds:LP),jD ρ=some ds->ds.length=0:=fun ρ ds h=>by cases h; rfl
theorem jd {fa:RP}{fr:Rho->Option (LP)}{n:Nat} (h:∀ (ρ:Rho) (ds:LP),fr ρ=some ds->ds.length=n):∀ (ρ:Rho) (ds:LP),jj fa fr ρ=some ds->ds.length=n+1:=fun ρ ds q=>by
 cases h1:fa ρ with
 | none=>simp [jj,h1] at q
 | some x=>
  cases h2:fr ρ with
  | none=>simp [jj,h1,h2] at q
  | some r=>
   have:x::r=ds:=by simpa [jj,h1,h2] using q
   subst this
   simp [h ρ r h2]
section
variable {X:Cx}{e:Expr}{es:List Expr}{pos:Pos}
theorem jk {k j n:Nat}{ps:List Str}{g:LP->OP}{x:Str}{p:Pos}{fr:Rho->Option (LP)} (c:jq X.prog X.w X.K X.mg X.base x ps k n g) (hr:Room j X.A) (hkj:k<=j) (ha:PAD X (e::es) fr)
  (hl:∀ (ρ:Rho) (ds:LP),fr ρ=some ds->ds.length=n) (hn:(e::es).length=n:=by rfl) (hg:Gl X x:=by rfl) (hdb:(x == ("__debug__":Str))=false:=by decide) (he:starEach (e::es) X.env=(false,eval e X.env)::starEach es X.env:=by rfl)
  (hpl:(backTo pos (starEach es X.env)).any (·.1)=false:=by rfl):PD X (.Call (.Name x p) (e::es) [] pos) (jO g fr):=by
 with_unfolding_all
  obtain ⟨f,fd,h1,h2,h3,h4⟩:=c
  exact ai7 h1 (hr.mono hkj) h2 h3 h4 hn ha (fun ρ ds q=>by rw [hl ρ ds q,hn]) hg hdb he hpl
end
theorem QX {ft:Rho->Option Bool}{fe:RP}{i:Nat} (p:PyData->Bool) (h:PyData->PyData):∀ (ds:LP) (τ:Rho),(∀ d ∈ ds,ft (τ.set i (some d))=some (p d))->(∀ d ∈ ds,p d=true->fe (τ.set i (some d))=some (h d))->
  jF (jP i) ft fe ds τ=some ((ds.filter p).map h)
 | [],τ,_,_=>rfl
 | d::ds,τ,h1,h2=>by
  have ih:=QX p h ds (τ.set i (some d)) (fun c hc=>by rw [List.set_set]; exact h1 c (List.mem_cons_of_mem _ hc)) (fun c hc hp=>by rw [List.set_set]; exact h2 c (List.mem_cons_of_mem _ hc) hp)
  simp only [jF,jP,zzD,h1 d List.mem_cons_self]
  by_cases hp:p d=true
  ·simp [hp,h2 d List.mem_cons_self hp,ih,List.filter_cons]
  ·simp [hp,ih,List.filter_cons]
theorem Jx {fe:RP}{i:Nat} (h:PyData->PyData) (ds:LP) (τ:Rho) (h2:∀ d ∈ ds,fe (τ.set i (some d))=some (h d)):jF (jP i) Jw fe ds τ=some (ds.map h):=by
 rw [QX (fun _=>true) h ds τ (fun _ _=>rfl) (fun d hd _=>h2 d hd),List.filter_eq_self.mpr (fun _ _=>rfl)]
noncomputable def ae1 (st:Scope) (N:List Str) (sc:Scope) (N':List Str) (cap:List (Option Nat)):Bool:=
 sc.names.all (fun x=>!decide (x.2= .free) || decide (st.names.lookup x.1=some .cell) || decide (st.names.lookup x.1=some .free)) && sc.names.all (fun x=>!decide (x.2= .cell)) && decide (sc.kind= .function) &&
 sc.names.all (fun x=>!decide (x.2= .local) || decide (sc.names.lookup x.1=some .local)) && decide (cap.length=N'.length) &&
 (List.range N'.length).all (fun j=>match N'[j]?,cap[j]? with
  | some x,some (some i)=>decide (N[i]?=some x) && decide (sc.names.lookup x=some .free)
  | _,_=>true)
theorem qF {X:Cx}{sc:Scope}{N':List Str}{cap:List (Option Nat)} (st:Scope) (N:List Str) (h:ae1 st N sc N' cap=true) (hst:X.env.scope=st:=by rfl) (hN:X.N=N:=by rfl):CompOk X sc N' cap:=by
 simp only [ae1,Bool.and_eq_true,List.all_eq_true,Bool.or_eq_true,Bool.not_eq_true',decide_eq_true_eq,decide_eq_false_iff_not] at h
 obtain ⟨⟨⟨⟨⟨h1,h2⟩,h3⟩,h4⟩,h5⟩,h6⟩:=h
 subst hst; subst hN
 refine ⟨fun x hx e=>?_,h2,h3,fun x hx e=>?_,h5,fun j i x e1 e2=>?_⟩
 ·rcases h1 x hx with (z | z) | z
  ·exact absurd e z
  ·exact .inl z
  ·exact .inr z
 ·rcases h4 x hx with z | z
  ·exact absurd e z
  ·exact z
 ·have hj:j<N'.length:=(List.getElem?_eq_some_iff.mp e1).1
  have:=h6 j (List.mem_range.mpr hj)
  rw [e1,e2] at this
  simpa using this
section
variable {X:Cx}{Kp:List (Addr × Obj)}{σ:St}{H:Hp}{s:Shared}
end
structure Own1 (X:Cx) (Kp:List (Addr × Obj)) (b:Addr):Prop where
 h1:b ≠ X.env.locals
 h2:b ∉ X.fs
 h3:X.s₀.heap.objs.size<=b
 h4:∀ x c,X.env.cells.lookup x=some c->c ≠ b
 h5:∀ p ∈ X.pn++Kp,p.1 ≠ b
theorem ahg:bootBuiltins "min"=some (.builtin "min"):=by decide +kernel
theorem ahh:bootBuiltins "max"=some (.builtin "max"):=by decide +kernel
section
variable {X:Cx}{a:Expr}{fa:RP}{pos p p2 p3 kp kp2:Pos}{j3:Nat}
end
noncomputable def ae2:Int->List Int->Int
 | b,[]=>b
 | b,d::r=>if d > b then ae2 d r else ae2 b r
noncomputable def alb:Option Int->List Int->PyData
 | none,[]=> .none
 | none,d::r=> .int (ae2 d r)
 | some b,r=> .int (ae2 b r)
section
variable {X:Cx}{a:Expr}{fa:RP}{pos p p3 kp2:Pos}{j3:Nat}
end
end BX
end
section
namespace BX.Srt
open PySem PySem.W
open PyProof.Rows (mirror bubble mirror_size mirror_perm bubble_size bubble_perm getElem?_mirror_all getElem?_bubble)
section
variable (rk:Nat->Int) (n:Nat)
noncomputable def val (p:Array Nat) (k:Nat):Int:=rk (p.getD k 0)
noncomputable def OKp (p:Array Nat):Prop:=p.Perm (List.range n).toArray
end
section
variable {rk:Nat->Int}{n:Nat}{p p':Array Nat}
theorem OKp.size (h:OKp n p):p.size=n:=by
 have:=h.size_eq
 simpa using this
theorem OKp.lt (h:OKp n p) {k:Nat} (hk:k<n):p.getD k 0<n:=by
 have hs:=h.size
 have e:p.getD k 0=p[k]'(by omega):=by simp [Array.getD,hs,hk]
 have:p[k]'(by omega) ∈ (List.range n).toArray:=h.mem_iff.mp (Array.getElem_mem _)
 rw [e]
 simpa using this
end
variable {rk:Nat->Int}{n:Nat}{cmp:Nat->Nat->(Bool->SP0)->SP0}
section
variable {s:Shared} (hc:∀ i j (C:Bool->SP0),i<n->j<n->C (decide (rk i<rk j)) s->cmp i j C s)
include hc
end
end BX.Srt
end
section
namespace BX
open PySem PySem.Spec L2
open PyProof.Rows hiding St
section
variable {prog:Program}{w:World}{A:Around}{E:Value->SP0}{s:Shared}
end
theorem qq.there {P:Program}{w:World}{H:Hp}{h:Heap}{a:Addr}{o:HO} (x:qq P w H h a o):∃ u,h.get? a=some u:=by
 cases o with
 | lst xs=>obtain ⟨_,_,_,_,e⟩:=x; exact ⟨_,e⟩
 | tup xs=>obtain ⟨_,_,_,u,e,_⟩:=x; exact ⟨_,e⟩
 | dK kvs=>obtain ⟨_,_,_,_,o,_,_,e,_⟩:=x; exact ⟨_,e⟩
 | dT kvs=>obtain ⟨_,_,_,_,o,_,_,e,_⟩:=x; exact ⟨_,e⟩
 | set S n=>obtain ⟨o,_,_,_,e,_⟩:=x; exact ⟨_,e⟩
 | ins C dx fs=>obtain ⟨_,_,_,e,_⟩:=x; exact ⟨_,e⟩
 | own y=>obtain ⟨_,e⟩:=x; exact ⟨_,e⟩
 | xd fs=>obtain ⟨_,⟨_,_,_,e,_⟩,_⟩:=x; exact ⟨_,e⟩
 | rng lo hi=>obtain ⟨_,_,_,e⟩:=x; exact ⟨_,e⟩
 | frz ob u=>obtain ⟨e,_⟩:=x; exact ⟨_,e⟩
 | tbl ps=>exact ⟨_,(show h.get? a=some _ from x)⟩
 | met f y=>exact ⟨_,(show h.get? a=some _ from x)⟩
 | ext φ=>obtain ⟨_,⟨_,e⟩,_⟩:=x; exact ⟨_,e⟩
noncomputable def ahi (p:Int × Int):PyData:= .tuple [.int p.1,.int p.2]
structure PairAt (h:Heap) (u:Value) (p:Int × Int):Prop where
 ex:∃ a o k t t',u= .ref a/\h.get? a=some o/\o.cls= .type "tuple"/\o.data= .seq #[.int p.1 t,.int p.2 t'] k
section
variable {X:Cx}
variable {a b:Expr}{fa fb:RP}{pos p2:Pos}
noncomputable def afY:PyData->OP
 | .int i=>some (.int (-i))
 | _=>none
theorem aed (h:PD X a fa):PD X (.UnaryOp .USub a pos) (fun ρ=>(fa ρ).bind afY):=by
 with_unfolding_all
  refine PE.imp (al5 akK h) fun σ H Q ⟨ρ,d,en,q,k⟩=>?_
  cases h1:fa ρ with
  | none=>simp [h1] at q
  | some y=>
   refine ⟨ρ,y,en,h1,fun v H1 s1 r1=>?_⟩
   have q':afY y=some d:=by simpa [h1] using q
   cases y with
   | int i=>cases q'; cases (show v=_ from r1); exact ⟨i,rfl,k _ H1 s1 rfl⟩
   | _=>cases q'
end
variable {X:Cx}
end BX
end
section
namespace BX
open PySem PySem.Spec L2
open PyProof.Rows hiding St
variable {X:Cx}
noncomputable def abb (f:Expr->OP):List Expr->Option (LP)
 | []=>some []
 | e::es=>(f e).bind fun d=>(abb f es).map fun ds=>d::ds
noncomputable def lit:Nat->Expr->OP
 | 0,_=>none
 | n+1,e=>match e with
  | .Constant (.int i) _ _=>some (.int i)
  | .Constant (.bool b) _ _=>some (.bool b)
  | .Constant .none _ _=>some .none
  | .Constant (.str x) _ _=>some (.str x)
  | .Tuple es _ _=>(abb (lit n) es).bind fun ds=>if few ds=true then some (.tuple ds) else none
  | .List es _=>(abb (lit n) es).bind fun ds=>if few ds=true then some (.list ds) else none
  | _=>none
theorem PD.as {e:Expr}{F G:RP} (h:PD X e F) (hi:∀ ρ d,G ρ=some d->F ρ=some d):PD X e G:=by
 with_unfolding_all exact (PE.imp h fun σ H Q ⟨ρ,d,en,q,k⟩=>⟨ρ,d,en,hi ρ d q,k⟩)
theorem PAD.as {es:List Expr}{F G:Rho->Option (LP)} (h:PAD X es F) (hi:∀ ρ d,G ρ=some d->F ρ=some d):PAD X es G:=by
 with_unfolding_all exact (PA.imp h fun σ H Q ⟨ρ,d,en,q,k⟩=>⟨ρ,d,en,hi ρ d q,k⟩)
noncomputable def ahj (e:Expr):Prop:=∀ (es:List Expr) (env:Env),starEach (e::es) env=(false,eval e env)::starEach es env
theorem aco {f:Expr->OP} (hf:∀ e d,f e=some d->PD X e (cst d)/\ahj e):∀ (es:List Expr) (ds:LP),abb f es=some ds->PAD X es (fun _=>some ds)
 | [],ds,h=>by cases h; exact je
 | e::es,ds,h=>by
  cases h1:f e with
  | none=>simp [abb,h1] at h
  | some d=>
   cases h2:abb f es with
   | none=>simp [abb,h1,h2] at h
   | some r=>
    have:d::r=ds:=by with_unfolding_all simpa [abb,h1,h2] using h
    subst this
    obtain ⟨p,st⟩:=hf e d h1
    exact (ja p (aco hf es r h2) (st es X.env)).as fun ρ d' q=>by cases q; simp [jj,cst]
theorem aee:∀ (n:Nat) (e:Expr) (d:PyData),lit n e=some d->PD X e (cst d)/\ahj e
 | 0,e,d,h=>by cases h
 | n+1,e,d,h=>by
  unfold lit at h
  split at h
  ·cases h; exact ⟨jf,fun _ _=>rfl⟩
  ·cases h; exact ⟨zL,fun _ _=>rfl⟩
  ·cases h; exact ⟨ad9,fun _ _=>rfl⟩
  ·cases h; exact ⟨qz,fun _ _=>rfl⟩
  ·rename_i es x1 pos
   cases h1:abb (lit n) es with
   | none=>simp [h1] at h
   | some ds=>
    by_cases hf:few ds=true
    ·have:PyData.tuple ds=d:=by with_unfolding_all simpa [h1,hf] using h
     subst this
     exact ⟨(Jp (aco (aee n) es ds h1)).as fun ρ d' q=>by cases q; simp [JQ,hf],fun _ _=>rfl⟩
    ·simp [h1,hf] at h
  ·rename_i es pos
   cases h1:abb (lit n) es with
   | none=>simp [h1] at h
   | some ds=>
    by_cases hf:few ds=true
    ·have:PyData.list ds=d:=by simpa [h1,hf] using h
     subst this
     exact ⟨(ach (aco (aee n) es ds h1)).as fun ρ d' q=>by cases q; simp [J4,hf],fun _ _=>rfl⟩
    ·simp [h1,hf] at h
  ·cases h
theorem ahk (n:Nat) {e:Expr} (d:PyData) (h:lit n e=some d):PD X e (cst d):=by
 with_unfolding_all exact ((aee n e d h).1)
end BX
end
section
namespace BX
open PySem L2
open PyProof.Rows hiding St
noncomputable def j4 (K:Fg) (x:Str) (st:Stmt):Prop:=
 ∃ (f:Addr) (oc:Value) (od an:Option Addr) (kV doc pm Kc ct:Value) (osl:Array (Option Value)),PySem.W.nsIn K mainGlobals x=some (some (.ref f))/\
  K.lookup f=some ⟨oc,od,.func (PySem.W.fnOf x x (zB st) (jX st) (jh st) .none kV doc pm an Kc ct),osl⟩/\PySem.W.codeIn K Kc x=true/\PySem.W.keepIn K (.ref f)=true
theorem ahl {K:Fg}{x:Str}{st:Stmt}{f:Addr}{oc:Value}{od an:Option Addr}{kV doc pm Kc ct:Value}{osl:Array (Option Value)} (a:PySem.W.nsIn K mainGlobals x=some (some (.ref f)))
  (l:K.lookup f=some ⟨oc,od,.func (PySem.W.fnOf x x (zB st) (jX st) (jh st) .none kV doc pm an Kc ct),osl⟩) (c:PySem.W.codeIn K Kc x=true) (k:PySem.W.keepIn K (.ref f)=true):j4 K x st:=
 ⟨f,oc,od,an,kV,doc,pm,Kc,ct,osl,a,l,c,k⟩
noncomputable abbrev jx (x:Str) (st:Stmt) (ps:List Str):Prop:=∀ (kV doc pm:Value) (an:Option Addr) (Kc ct:Value) (us:List Value),us.length=ps.length->bindArgs (PySem.W.fnOf x x (zB st) (jX st) (jh st) .none kV doc pm an Kc ct) ⟨us,[]⟩=pure (ps.zip us)
theorem j4.callee {P:Program}{w:World}{K:Fg}{mg:SV}{base h:Heap}{x:Str}{st:Stmt}{ps:List Str}{k n:Nat}{g:LP->OP} (T:j4 K x st) (X:K.In h) (G:h.Ns mainGlobals mg)
  (hb:jx x st ps) (F:∀ (f:Addr) (fd:FuncData),Fun K x x st f fd->FnOk P w K mg base CX0 k f fd ps (Pur K n g)):jq P w K mg base x ps k n g:=by
 obtain ⟨f,oc,od,an,kV,doc,pm,Kc,ct,osl,a,l,c,kp⟩:=T
 have F1:=ad8 (st:=st) l c kp
 exact ⟨f,_,F f _ F1,PySem.W.mg_of X G a,kp,F1.binds hb⟩
theorem jq.as {P:Program}{w:World}{K:Fg}{mg:SV}{base:Heap}{x:Str}{ps:List Str}{k n:Nat}{g g':LP->OP} (C:jq P w K mg base x ps k n g) (h:∀ ds d,g' ds=some d->g ds=some d):jq P w K mg base x ps k n g':=by
 obtain ⟨f,fd,F,a,b,c⟩:=C
 exact ⟨f,fd,amo F fun ds d _ q=>h ds d q,a,b,c⟩
theorem aav {K:Fg}{mg:SV}{h:Heap}{x:Str}{a:Addr}{ob:Obj}{ds:LP} (X:K.In h) (G:h.Ns mainGlobals mg) (e:PySem.W.nsIn K mainGlobals x=some (some (.ref a))) (l:K.lookup a=some ob)
  (hc:ob.cls= .type "tuple") (hi:∃ (its:Array Value) (n:Nat) (xs:List V),ob.data= .seq its n/\its.size<=sizeLine/\jG xs its.toList/\∀ H,Reps K H ds xs):∃ v u,mg x=some u/\jQ v u/\∀ H,Rep K H (.tuple ds) v:=by
 obtain ⟨its,n,xs,h1,h2,h3,h4⟩:=hi
 exact ⟨.ref a,.ref a,PySem.W.mg_of X G e,rfl,fun H=>⟨a,xs,rfl,.inr ⟨ob,its,n,l,hc,h1,h2,h3⟩,h4 H⟩⟩
end BX
end
section
namespace BX
open PySem PySem.Spec L2
open PyProof.Rows hiding St
noncomputable def QD (a:Addr) (xs:List V):HO:= .ext fun h=>xs.length<=sizeLine/\∃ (its:List Value) (n:Nat),jG xs its/\h.get? a=some { cls:= .type "list",data:= .seq its.toArray n }
noncomputable def ZM (P:Program) (w:World) (a:Addr) (ob:Obj) (ks:List (Key × V)):HO:= .ext fun h=>h.get? a=some ob/\ks.length<=sizeLine/\(a == sysModules)=false/\∃ vs,KV ks vs/\h.DictOf (qy P w) a vs
inductive Seal (P:Program) (w:World) (a:Addr):HO->HO->Prop where
 | l (xs:List V):Seal P w a (QD a xs) (.lst xs)
 | d (ob:Obj) (ks:List (Key × V)):Seal P w a (ZM P w a ob ks) (.frz ob (.dK ks))
theorem Seal.ext {P:Program}{w:World}{a:Addr}{c o:HO} (S:Seal P w a c o):∃ φ,c= .ext φ:=by cases S <;> exact ⟨_,rfl⟩
section
variable {X:Cx}{Kp:List (Addr × Obj)}{σ:St}{H:Hp}{s:Shared}{a:Addr}{c o:HO}
theorem Inv.opened (I:Inv X Kp σ H s) (S:Seal X.prog X.w a c o) (e:H a=some c):Inv X Kp σ (upd H a o) s:=by
 have q:=I.hok a c e
 have mu:Mut (H a):=by rw [e]; obtain ⟨φ,rfl⟩:=S.ext; trivial
 cases S with
 | l xs=>
  obtain ⟨h1,h2,_⟩:=q
  exact I.write (x:=a) (e:=a) (h':=s.heap) (t':=s.toks) mu (.inl rfl) (fun _ _ _ z=>z) h2 h1
 | d ob ks=>
  obtain ⟨h1,h2,_⟩:=q
  exact I.write (x:=a) (e:=a) (h':=s.heap) (t':=s.toks) mu (.inl rfl) (fun _ _ _ z=>z) h2 ⟨h1.1,h1.2⟩
theorem Inv.redesc {o1 o2:HO} (I:Inv X Kp σ H s) (h1:H a=some o1) (n1:∀ y,o1 ≠ .own y) (n2:∀ xs,o1 ≠ .tup xs) (n3:∀ ps,o1 ≠ .tbl ps) (nf:∀ ob u,X.H₀ a ≠ some (.frz ob u)) (new:qq X.prog X.w (upd H a o2) s.heap a o2):Inv X Kp σ (upd H a o2) s:=by
 have na:∀ b,H b=none->upd H a o2 b=none:=fun b z=>by
  have:b ≠ a:=fun q=>by subst q; rw [h1] at z; cases z
  rw [ji this]; exact z
 refine ⟨I.ok,I.os,I.bare,⟨I.base.keep,I.base.slot,fun b u q n hx=>na b (I.base.free b u q n hx),I.base.there,fun b xs q=>?_,fun b ob u q=>?_,fun b ps q=>?_⟩,I.loc,I.cell,na _ I.free,fun x c' q=>na _ (I.freeC x c' q),fun p hp=>?_,fun b u q=>?_,I.len⟩
 ·have q':=I.base.tups b xs q
  have:b ≠ a:=fun z=>by subst z; rw [h1] at q'; cases q'; exact n2 _ rfl
  rw [ji this]; exact q'
 ·have:b ≠ a:=fun z=>by subst z; exact nf _ _ q
  rw [ji this]; exact I.base.frzs b ob u q
 ·obtain ⟨more,q'⟩:=I.base.tbls b ps q
  have:b ≠ a:=fun z=>by subst z; rw [h1] at q'; cases q'; exact n3 _ rfl
  exact ⟨more,by rw [ji this]; exact q'⟩
 ·obtain ⟨g1,g2,g3⟩:=I.pin p hp
  exact ⟨g1,na _ g2,g3⟩
 ·by_cases hb:b=a
  ·subst hb
   rw [jt] at q; cases q
   exact new
  ·rw [ji hb] at q
   refine (I.hok b u q).stay (fun c' v _ z=>z) (fun c' z=>?_) fun c' xs z=>?_
   ·have:c' ≠ a:=fun m=>by subst m; rw [h1] at z; cases z; exact n1 _ rfl
    rw [ji this]; exact z
   ·have:c' ≠ a:=fun m=>by subst m; rw [h1] at z; cases z; exact n2 _ rfl
    rw [ji this]; exact z
theorem Inv.nofrz {φ:Heap->Prop} (I:Inv X Kp σ H s) (e:H a=some (.ext φ)):∀ ob u,X.H₀ a ≠ some (.frz ob u):=fun ob u z=>by
 have:=I.base.frzs _ _ _ z
 rw [e] at this; cases this
theorem Inv.closed (I:Inv X Kp σ H s) (S:Seal X.prog X.w a c o) (e:H a=some o) (nf:∀ ob u,X.H₀ a ≠ some (.frz ob u)):Inv X Kp σ (upd H a c) s:=by
 have q:=I.hok a o e
 cases S with
 | l xs=>
  obtain ⟨h1,its,n,h2,h3⟩:=q
  refine I.write (x:=a) (e:=a) (h':=s.heap) (t':=s.toks) (by rw [e]; trivial) (.inl rfl) (fun _ _ _ z=>z) ⟨_,h3⟩ ⟨⟨h1,its,n,h2,h3⟩,⟨_,h3⟩,?_⟩
  rintro g1 g2 ⟨z1,its,n,z2,z3⟩ k
  exact ⟨z1,its,n,z2,k _ z3⟩
 | d ob ks=>
  obtain ⟨h0,h1,h2,vs,h3,ob',es,ep,h4,h5⟩:=q
  refine Inv.redesc I e (fun _ z=>nomatch z) (fun _ z=>nomatch z) (fun _ z=>nomatch z) nf ⟨⟨h0,h1,h2,vs,h3,ob',es,ep,h4,h5⟩,⟨_,h4⟩,?_⟩
  rintro g1 g2 ⟨z0,z1,z2,vs,z3,ob',es,ep,z4,z5⟩ k
  exact ⟨k _ z0,z1,z2,vs,z3,ob',es,ep,k _ z4,z5⟩
theorem Inv.sealedD {ks:List (Key × V)} (I:Inv X Kp σ H s) (e:H a=some (.dK ks)):∃ ob,Inv X Kp σ (upd H a (ZM X.prog X.w a ob ks)) s:=by
 obtain ⟨h1,h2,vs,h3,ob,es,ep,h4,h5⟩:=I.hok a _ e
 refine ⟨ob,I.write (x:=a) (e:=a) (h':=s.heap) (t':=s.toks) (by rw [e]; trivial) (.inl rfl) (fun _ _ _ z=>z) ⟨_,h4⟩ ⟨⟨h4,h1,h2,vs,h3,ob,es,ep,h4,h5⟩,⟨_,h4⟩,?_⟩⟩
 rintro g1 g2 ⟨z0,z1,z2,vs,z3,ob',es,ep,z4,z5⟩ k
 exact ⟨k _ z0,z1,z2,vs,z3,ob',es,ep,k _ z4,z5⟩
theorem Inv.openD {ob:Obj}{ks:List (Key × V)} (I:Inv X Kp σ H s) (e:H a=some (ZM X.prog X.w a ob ks)):Inv X Kp σ (upd H a (.dK ks)) s:=by
 obtain ⟨h1,h2,_⟩:=I.hok a _ e
 exact I.write (x:=a) (e:=a) (h':=s.heap) (t':=s.toks) (by rw [e]; trivial) (.inl rfl) (fun _ _ _ z=>z) h2 h1.2
end
mutual
noncomputable def noD:PyData->Bool
 | .tuple ds=>noDs ds
 | .list ds=>noDs ds
 | .dict _=>false
 | _=>true
noncomputable def noDs:LP->Bool
 | []=>true
 | d::ds=>noD d && noDs ds
end
noncomputable def adb (H H':Hp):Prop:=∀ b o,H b=some o->(∀ ob ks,o ≠ .frz ob (.dK ks))->H' b=some o
section
variable {K:Fg}{H H':Hp}
theorem adb.tup {a:Addr}{xs:List V} (e:adb H H') (h:SqT K H a xs):SqT K H' a xs:=by
 rcases h with (h | ⟨o,h⟩) | h
 ·exact .inl (.inl (e _ _ h fun _ _ z=>nomatch z))
 ·exact .inl (.inr ⟨o,e _ _ h fun _ _ z=>nomatch z⟩)
 ·exact .inr h
mutual
theorem Rep.monoM (e:adb H H'):∀ (d:PyData) (v:V),noD d=true->Rep K H d v->Rep K H' d v
 | .none,v,_,h=>h
 | .bool _,v,_,h=>h
 | .int _,v,_,h=>h
 | .str _,v,_,h=>h
 | .tuple ds,v,n,⟨a,xs,h1,h2,h3⟩=>⟨a,xs,h1,adb.tup e h2,Reps.monoM e ds xs (by simpa [noD] using n) h3⟩
 | .list ds,v,n,⟨a,xs,h1,h2,h3⟩=>⟨a,xs,h1,e _ _ h2 (fun _ _ z=>nomatch z),Reps.monoM e ds xs (by simpa [noD] using n) h3⟩
 | .dict ds,v,n,h=>by simp [noD] at n
theorem Reps.monoM (e:adb H H'):∀ (ds:LP) (xs:List V),noDs ds=true->Reps K H ds xs->Reps K H' ds xs
 | [],xs,_,h=>h
 | d::ds,xs,n,⟨x,r,h1,h2,h3⟩=>by
  have n':noD d=true/\noDs ds=true:=by simpa [noDs] using n
  exact ⟨x,r,h1,Rep.monoM e d x n'.1 h2,Reps.monoM e ds r n'.2 h3⟩
end
end
noncomputable def okB (c d:PyData):Bool:=match c with
 | .list _=>noL d
 | .dict _=>noD d
 | _=>false
noncomputable def QY (P:Program) (w:World) (K:Fg) (H:Hp) (a:Addr):PyData->Prop
 | .list ds=>∃ xs,H a=some (QD a xs)/\Reps K H ds xs
 | .dict kvs=>∃ ks r ob,kvs=(.none,.none)::r/\H a=some (ZM P w a ob ks)/\RepM K H r ks
 | _=>False
theorem QY.out {P:Program}{w:World}{K:Fg}{H:Hp}{a:Addr}{d:PyData} (h:QY P w K H a d):∃ c o,Seal P w a c o/\H a=some c/\
  (∀ H',jS H H'->H' a=some o->Rep K H' d (.ref a))/\(∀ H',jS H H'->H' a=some c->QY P w K H' a d)/\
  ∀ x H3 v,okB d x=true->H3 a=some o->Rep K H3 x v->Rep K (upd H3 a c) x v:=by
 cases d with
 | list ds=>
  obtain ⟨xs,h1,h2⟩:=h
  exact ⟨_,_,.l xs,h1,fun H' e q=>⟨a,xs,rfl,q,Reps.monoE e _ _ h2⟩,fun H' e q=>⟨xs,q,Reps.monoE e _ _ h2⟩,fun x H3 v n q r=>Rep.monoN (fun b u hb m=>by
   have:b ≠ a:=fun z=>by subst z; rw [q] at hb; cases hb; exact m _ rfl
   rw [ji this]; exact hb) x v n r⟩
 | dict kvs=>
  obtain ⟨ks,r,ob,rfl,h1,h2⟩:=h
  exact ⟨_,_,.d ob ks,h1,fun H' e q=>⟨a,rfl,.inr (.inl ⟨ks,ob,q,show RepM K H' r ks from RepM.monoE e _ _ h2⟩)⟩,fun H' e q=>⟨ks,r,ob,rfl,q,RepM.monoE e _ _ h2⟩,fun x H3 v n q r=>Rep.monoM (fun b u hb m=>by
   have:b ≠ a:=fun z=>by subst z; rw [q] at hb; cases hb; exact m _ _ rfl
   rw [ji this]; exact hb) x v n r⟩
 | none=>exact h.elim
 | bool _=>exact h.elim
 | int _=>exact h.elim
 | str _=>exact h.elim
 | tuple _=>exact h.elim
theorem jS.upd {H:Hp}{a:Addr}{φ:Heap->Prop}{o:HO} (e:H a=some (.ext φ)):jS H (upd H a o):=fun b u h n=>by
 have:b ≠ a:=fun z=>by subst z; rw [e] at h; cases h; exact n _ rfl
 rw [ji this]; exact h
structure EnvO (P:Program) (w:World) (K:Fg) (Hs H:Hp) (own:Option Nat) (ρ:Rho) (σ:St):Prop where
 len:ρ.length=σ.length
 sm:jm Hs H
 pl:∀ i d,ρ[i]?=some (some d)->own ≠ some i->∃ v,σ[i]?=some (some v)/\Rep K H d v
 ow:∀ i,own=some i->∃ d a,ρ[i]?=some (some d)/\σ[i]?=some (some (.ref a))/\Hs a=none/\QY P w K H a d
noncomputable def hid (own:Option Nat) (ρ:Rho):Rho:=match own with
 | none=>ρ
 | some i=>ρ.set i none
section
variable {P:Program}{w:World}{K:Fg}{Hs H H':Hp}{own:Option Nat}{ρ:Rho}{σ:St}
theorem EnvO.of (e:EnvR K H ρ σ) (s:jm Hs H):EnvO P w K Hs H none ρ σ:=⟨e.len,s,fun i d h _=>e.at' i d h,fun i z=>nomatch z⟩
theorem EnvO.to (e:EnvO P w K Hs H none ρ σ):EnvR K H ρ σ:=⟨e.len,fun i d h=>e.pl i d h (fun z=>nomatch z)⟩
theorem EnvO.hid (e:EnvO P w K Hs H own ρ σ):EnvR K H (hid own ρ) σ:=by
 cases own with
 | none=>exact e.to
 | some i=>
  refine ⟨by simp [BX.hid,e.len],fun j d h=>?_⟩
  by_cases hj:i=j
  ·subst hj
   simp only [BX.hid] at h
   rw [List.getElem?_set] at h
   simp at h
  ·simp only [BX.hid] at h
   rw [List.getElem?_set_ne hj] at h
   exact e.pl j d h (fun z=>hj (Option.some.inj z))
theorem QY.mono {a:Addr}{d:PyData} (h:QY P w K H a d) (s:jm H H'):QY P w K H' a d:=by
 obtain ⟨c,o,_,h1,_,h2,_⟩:=h.out
 exact h2 H' (jm.e s) (s _ _ h1)
theorem EnvO.mono (e:EnvO P w K Hs H own ρ σ) (s:jm H H'):EnvO P w K Hs H' own ρ σ:=
 ⟨e.len,e.sm.trans s,fun i d h n=>let ⟨v,h1,h2⟩:=e.pl i d h n; ⟨v,h1,Rep.mono s d v h2⟩,fun i n=>let ⟨d,a,h1,h2,h3,h4⟩:=e.ow i n; ⟨d,a,h1,h2,h3,h4.mono s⟩⟩
theorem EnvO.opn {i:Nat} (e:EnvO P w K Hs H (some i) ρ σ):∃ d a c o,ρ[i]?=some (some d)/\σ[i]?=some (some (.ref a))/\Hs a=none/\Seal P w a c o/\H a=some c/\EnvR K (upd H a o) ρ σ/\jm Hs (upd H a o)/\
  (∀ H3,jm (upd H a o) H3->jS H (upd H3 a c)/\EnvO P w K Hs (upd H3 a c) (some i) ρ σ)/\∀ x H3 v,okB d x=true->H3 a=some o->Rep K H3 x v->Rep K (upd H3 a c) x v:=by
 obtain ⟨d,a,h1,h2,h3,h4⟩:=e.ow i rfl
 obtain ⟨c,o,S,h5,h6,h7,h8⟩:=h4.out
 obtain ⟨φ,rfl⟩:=S.ext
 have s1:jS H (upd H a o):=jS.upd h5
 have sH:∀ {H2:Hp},(∀ b u,b ≠ a->H b=some u->H2 b=some u)->jm Hs H2:=fun {H2} k b u q=>k b u (fun z=>by subst z; rw [h3] at q; cases q) (e.sm b u q)
 refine ⟨d,a,_,o,h1,h2,h3,S,h5,⟨e.len,fun j x q=>?_⟩,sH fun b u n q=>by rw [ji n]; exact q,fun H3 s3=>⟨fun b u q m=>?_,e.len,sH fun b u n q=>by rw [ji n]; exact s3 b u (by rw [ji n]; exact q),fun j x q n=>?_,fun j n=>?_⟩,h8⟩
 ·by_cases hj:i=j
  ·subst hj
   rw [h1] at q; cases q
   exact ⟨.ref a,h2,h6 _ s1 jt⟩
  ·obtain ⟨v,g1,g2⟩:=e.pl j x q (fun z=>hj (Option.some.inj z))
   exact ⟨v,g1,Rep.monoE s1 _ _ g2⟩
 ·have:b ≠ a:=fun z=>by subst z; rw [h5] at q; cases q; exact m _ rfl
  rw [ji this]
  exact s3 b u (by rw [ji this]; exact q)
 ·have s4:jS H (upd H3 a (.ext φ)):=fun b u q m=>by
   have:b ≠ a:=fun z=>by subst z; rw [h5] at q; cases q; exact m _ rfl
   rw [ji this]
   exact s3 b u (by rw [ji this]; exact q)
  obtain ⟨v,g1,g2⟩:=e.pl j x q n
  exact ⟨v,g1,Rep.monoE s4 _ _ g2⟩
 ·cases n
  have s4:jS H (upd H3 a (.ext φ)):=fun b u q m=>by
   have:b ≠ a:=fun z=>by subst z; rw [h5] at q; cases q; exact m _ rfl
   rw [ji this]
   exact s3 b u (by rw [ji this]; exact q)
  exact ⟨d,a,h1,h2,h3,h7 _ s4 jt⟩
end
end BX
end
section
namespace BX
open PySem PySem.Spec L2
open PyProof.Rows hiding St
noncomputable def brw (own:Option Nat) (f:RP):RP:=fun ρ=>match f (hid own ρ) with
 | some d=>some d
 | none=>match own with
  | none=>none
  | some i=>match f ρ,lkp i ρ with
   | some d,some c=>if okB c d=true then some d else none
   | _,_=>none
theorem ajg {own:Option Nat}{f:RP}{ρ:Rho}{d:PyData} (h:brw own f ρ=some d):f (hid own ρ)=some d ∨ ∃ i c,own=some i/\f ρ=some d/\ρ[i]?=some (some c)/\okB c d=true:=by
 unfold brw at h
 cases h1:f (hid own ρ) with
 | some x=>rw [h1] at h; exact .inl h
 | none=>
  rw [h1] at h
  cases own with
  | none=>cases h
  | some i=>
   simp only at h
   cases h2:f ρ with
   | none=>rw [h2] at h; cases h
   | some x=>
    rw [h2] at h
    cases h3:lkp i ρ with
    | none=>rw [h3] at h; cases h
    | some c=>
     rw [h3] at h
     simp only at h
     split at h
     ·rename_i ok
      cases h
      exact .inr ⟨i,c,rfl,rfl,zt h3,ok⟩
     ·cases h
section
variable {X:Cx}{e a b c tg src:Expr}{es:List Expr}{st:Stmt}{sts qg:List Stmt}{fa fb fc:RP}{F G:RO}{pos:Pos}{own:Option Nat}
noncomputable def tE (P:Program) (w:World) (K:Fg) (own:Option Nat) (f:RP):TE:=fun σ H Q=>∃ Hs ρ d,EnvO P w K Hs H own ρ σ/\brw own f ρ=some d/\∀ v H',jS H H'->EnvO P w K Hs H' own ρ σ->Rep K H' d v->Q v H'
theorem ahm (h:PD X e fa):PE X e (tE X.prog X.w X.K own fa):=by
 with_unfolding_all
  intro Kp s σ H Q I ⟨Hs,ρ,d,E,hb,k⟩
  rcases ajg hb with h1 | ⟨i,c,ho,h1,h2,ok⟩
  ·exact h Kp s σ H Q I ⟨hid own ρ,d,E.hid,h1,fun v H' s r=>k v H' (jm.e s) (E.mono s) r⟩
  ·subst ho
   obtain ⟨d0,a,cl,o,g1,g2,g3,S,g4,env,sm,back,keep⟩:=E.opn
   rw [h2] at g1; cases g1
   refine thn (h Kp s σ (upd H a o) (fun v H3=>jm (upd H a o) H3/\Rep X.K H3 d v) (Inv.opened I S g4) ⟨ρ,d,env,h1,fun v H3 s3 r3=>⟨s3,r3⟩⟩) fun u s1 ⟨v,H3,I3,r,s3,r3⟩=>?_
   have e3:H3 a=some o:=s3 _ _ jt
   exact ⟨v,upd H3 a cl,Inv.closed I3 S e3 (by obtain ⟨φ,rfl⟩:=S.ext; exact Inv.nofrz I g4),r,k v _ (back H3 s3).1 (back H3 s3).2 (keep d H3 v ok e3 r3)⟩
noncomputable def tF (P:Program) (w:World) (K:Fg) (own:Option Nat) (f:RP):TE:=fun σ H Q=>∃ Hs ρ d,EnvO P w K Hs H own ρ σ/\f ρ=some d/\∀ v H',jm Hs H'->Rep K H' d v->Q v H'
theorem alc (h:PD X e fa):PE X e (tF X.prog X.w X.K own fa):=by
 with_unfolding_all
  intro Kp s σ H Q I ⟨Hs,ρ,d,E,h1,k⟩
  cases own with
  | none=>exact h Kp s σ H Q I ⟨ρ,d,E.to,h1,fun v H' s r=>k v H' (E.sm.trans s) r⟩
  | some i=>
   obtain ⟨d0,a,cl,o,g1,g2,g3,S,g4,env,sm,back,keep⟩:=E.opn
   exact h Kp s σ (upd H a o) Q (Inv.opened I S g4) ⟨ρ,d,env,h1,fun v H3 s3 r3=>k v H3 (sm.trans s3) r3⟩
noncomputable def amv (P:Program) (w:World) (K:Fg) (Hs:Hp) (own:Option Nat) (D:Ends):Out->Prop
 | .nx ρ=>∀ σ H,EnvO P w K Hs H own ρ σ->D.nx σ H
 | .rt d=>∀ v H,jm Hs H->Rep K H d v->D.rt v H
 | .bk ρ=>∀ σ H,EnvO P w K Hs H own ρ σ->D.bk σ H
 | .ct ρ=>∀ σ H,EnvO P w K Hs H own ρ σ->D.ct σ H
noncomputable def tOS (P:Program) (w:World) (K:Fg) (own:Option Nat) (F:RO):TS:=fun D σ H=>∃ Hs ρ o,EnvO P w K Hs H own ρ σ/\F ρ=some o/\amv P w K Hs own D o
@[irreducible] noncomputable def PSO (X:Cx) (own:Option Nat) (st:Stmt) (F:RO):Prop:=PS X st (tOS X.prog X.w X.K own F)
@[irreducible] noncomputable def adc (X:Cx) (own:Option Nat) (sts:List Stmt) (F:RO):Prop:=PSs X sts (tOS X.prog X.w X.K own F)
theorem add (h:adc X none sts F):aao X sts F:=by
 with_unfolding_all
  refine PSs.imp h fun D σ H ⟨ρ,o,en,q,k⟩=>⟨H,ρ,o,EnvO.of en (jm.refl H),q,?_⟩
  cases o with
  | nx ρ'=>exact fun σ' H' E=>k σ' H' E.sm E.to
  | rt d=>exact fun v H' s r=>k v H' s r
  | bk ρ'=>exact fun σ' H' E=>k σ' H' E.sm E.to
  | ct ρ'=>exact fun σ' H' E=>k σ' H' E.sm E.to
theorem Qb:adc X own [] qX:=by
 with_unfolding_all
  refine PSs.imp aeO fun D σ H ⟨Hs,ρ,o,E,q,k⟩=>?_
  cases q
  exact k σ H E
theorem qY (h1 : PSO X own st F) (h2 : adc X own qg G) : adc X own (st :: qg) (j2 F G) := by
  with_unfolding_all
   refine PSs.imp (J2 h1 h2) fun D σ H ⟨Hs, ρ, o, E, q, k⟩ => ?_
   cases hf : F ρ with
   | none => simp [j2, hf] at q
   | some p =>
     refine ⟨Hs, ρ, p, E, hf, ?_⟩
     cases p with
     | nx ρ' => exact fun σ' H' E' => ⟨Hs, ρ', o, E', by simpa [j2, hf] using q, k⟩
     | rt d => have : Out.rt d = o := by simpa [j2, hf] using q
               subst this; exact k
     | bk d => have : Out.bk d = o := by simpa [j2, hf] using q
               subst this; exact k
     | ct d => have : Out.ct d = o := by simpa [j2, hf] using q
               subst this; exact k
theorem ae3 (h:PD X e fa):PSO X own (.Return (some e) pos) (qP fa):=by
 with_unfolding_all
  refine PS.imp (adX (alc (own:=own) h)) fun D σ H ⟨Hs,ρ,o,E,q,k⟩=>?_
  cases h1:fa ρ with
  | none=>simp [qP,h1] at q
  | some d=>
   have:Out.rt d=o:=by simpa [qP,h1] using q
   subst this
   exact ⟨Hs,ρ,d,E,h1,k⟩
theorem EnvO.set {P:Program}{w:World}{K:Fg}{Hs H:Hp}{ρ:Rho}{σ:St}{i:Nat}{d:PyData}{v:V} (E:EnvO P w K Hs H own ρ σ) (hi:own ≠ some i) (r:Rep K H d v):EnvO P w K Hs H own (ρ.set i (some d)) (σ.set i (some v)):=by
 refine ⟨by simp [E.len],E.sm,fun j x q n=>?_,fun j n=>?_⟩
 ·by_cases hj:i=j
  ·subst hj
   rw [List.getElem?_set] at q ⊢
   simp only [zzM] at q ⊢
   by_cases hl:i < ρ.length
   ·rw [if_pos hl] at q
    rw [if_pos (by rw [←E.len]; exact hl)]
    cases q
    exact ⟨v,rfl,r⟩
   ·rw [if_neg hl] at q; cases q
  ·rw [List.getElem?_set_ne hj] at q ⊢
   exact E.pl j x q n
 ·have hj:i ≠ j:=fun z=>by subst z; exact hi n
  rw [List.getElem?_set_ne hj,List.getElem?_set_ne hj]
  exact E.ow j n
end
section
variable {X:Cx}{e a b c tg src:Expr}{es:List Expr}{st:Stmt}{sts qg body:List Stmt}{fa fb fc:RP}{F G:RO}{pos:Pos}{own:Option Nat}
@[irreducible] noncomputable def PGO (X:Cx) (own:Option Nat) (tg:Expr) (ga:PyData->Rho->Option Rho):Prop:=
 PG X tg fun v σ H Q=>∃ Hs ρ d ρ',EnvO X.prog X.w X.K Hs H own ρ σ/\Rep X.K H d v/\ga d ρ=some ρ'/\∀ σ' H',EnvO X.prog X.w X.K Hs H' own ρ' σ'->Q σ' H'
theorem aaw (i:Nat) {x:Str} (hN:X.N.Nodup) (ho:own ≠ some i:=by decide) (hi:X.N[i]?=some x:=by rfl) (hx:Loc X.env.scope x:=by first | exact Or.inl rfl | exact Or.inr rfl)
  (hf:X.fn x=true ∨ X.env.scope.names.lookup x=some .local:=by first | exact .inl rfl | exact .inr rfl | assumption):PGO X own (.Name x pos) (jP i):=by
 with_unfolding_all
  refine PG.imp (Z3 hN hi hx hf) fun v σ H Q ⟨Hs,ρ,d,ρ',E,r,q,k⟩=>?_
  cases q
  exact k _ H (E.set ho r)
theorem EnvO.rebase {P:Program}{w:World}{K:Fg}{Hs H:Hp}{ρ:Rho}{σ:St} (E:EnvO P w K Hs H own ρ σ):∃ Hb,EnvO P w K Hb H own ρ σ/\(∀ H3,jm Hb H3->jS H H3)/\
  (∀ H3 ρ3 σ3,EnvO P w K Hb H3 own ρ3 σ3->EnvO P w K Hs H3 own ρ3 σ3)/\∀ H3,jm Hb H3->jm Hs H3:=by
 cases own with
 | none=>exact ⟨H,⟨E.len,jm.refl H,E.pl,fun i z=>nomatch z⟩,fun _ s=>jm.e s,fun H3 ρ3 σ3 E3=>⟨E3.len,E.sm.trans E3.sm,E3.pl,fun i z=>nomatch z⟩,fun _ s=>E.sm.trans s⟩
 | some i=>
  obtain ⟨d,a,h1,h2,h3,h4⟩:=E.ow i rfl
  obtain ⟨c,o,S,h5,_⟩:=h4.out
  obtain ⟨φ,rfl⟩:=S.ext
  let Hb:Hp:=fun b=>if b=a then none else H b
  have ha:Hb a=none:=if_pos rfl
  have hb:∀ b,b ≠ a->Hb b=H b:=fun b n=>if_neg n
  have sH:∀ H3,jm Hb H3->jm Hs H3:=fun H3 s b u q=>by
   have n:b ≠ a:=fun z=>by subst z; rw [h3] at q; cases q
   exact s b u (by rw [hb b n]; exact E.sm b u q)
  refine ⟨Hb,⟨E.len,fun b u q=>?_,E.pl,fun j n=>?_⟩,fun H3 s b u q m=>?_,fun H3 ρ3 σ3 E3=>⟨E3.len,sH H3 E3.sm,E3.pl,fun j n=>?_⟩,sH⟩
  ·by_cases n:b=a
   ·subst n; rw [ha] at q; cases q
   ·rw [hb b n] at q; exact q
  ·cases n
   exact ⟨d,a,h1,h2,ha,h4⟩
  ·have n:b ≠ a:=fun z=>by subst z; rw [h5] at q; cases q; exact m _ rfl
   exact s b u (by rw [hb b n]; exact q)
  ·obtain ⟨d3,a3,g1,g2,g3,g4⟩:=E3.ow j n
   refine ⟨d3,a3,g1,g2,?_,g4⟩
   by_cases z:a3=a
   ·rw [z]; exact h3
   ·rw [hb a3 z] at g3
    cases q:Hs a3 with
    | none=>rfl
    | some u=>have:=E.sm _ _ q; rw [g3] at this; cases this
theorem acp {fi:Rho->Option (LP)}{ga:PyData->Rho->Option Rho} (hp:PassesOwn (model X.prog X.w) X.A X.env X.xe) (hc:X.calm=true) (hi:PID X tg src fi) (hg:PGO X own tg ga) (hb:adc X own body F)
  (hs:∀ x,foldedSetIterable src X.env x=pure x:=by intro _; rfl):PSO X own (.For tg src body [] pos) (aa8 (fun ρ=>fi (hid own ρ)) ga F):=by
 with_unfolding_all
  refine PS.imp (ab9 hp hc hi hg hb hs) fun D σ H ⟨Hs,ρ,o,E,q,k⟩=>?_
  cases h1:fi (hid own ρ) with
  | none=>simp [aa8,h1] at q
  | some ds=>
   have q':jR ga F ds ρ=some o:=by simpa [aa8,h1] using q
   refine ⟨hid own ρ,ds,E.hid,h1,fun J H1 s1 Y=>?_⟩
   obtain ⟨Hb,Eb,sE,back,sb⟩:=(E.mono s1).rebase
   refine ⟨fun i m σ H2=>m=ds.length - i/\i<=ds.length/\∃ ρ2,EnvO X.prog X.w X.K Hb H2 own ρ2 σ/\jR ga F (ds.drop i) ρ2=some o,⟨ds.length,by simp,Nat.zero_le _,ρ,Eb,by simpa using q'⟩,?_⟩
   rintro i m σ2 H2 ⟨rfl,hi,ρ2,en2,q2⟩
   obtain ⟨g1,g2,g3⟩:=Y i H2 (jS.a (sE H2 en2.sm))
   by_cases hlt:i<ds.length
   ·right
    have hd:ds.drop i=ds[i]::ds.drop (i+1):=List.drop_eq_getElem_cons hlt
    rw [hd] at q2
    refine ⟨g1 hlt,fun σ3 H3=>∃ ρ3,EnvO X.prog X.w X.K Hb H3 own ρ3 σ3/\jR ga F (ds.drop (i+1)) ρ3=some o,fun σ3 H3 ⟨ρ3,a2,a3⟩=>⟨ds.length - (i+1),by omega,rfl,hlt,ρ3,a2,a3⟩,fun x H3 y=>?_⟩
    obtain ⟨s3,r3⟩:=g3 x H3 y
    have r3':=r3 ds[i] (by simp [hlt])
    cases h4:ga ds[i] ρ2 with
    | none=>simp [jR,h4] at q2
    | some ρ4=>
     refine ⟨Hb,ρ2,ds[i],ρ4,en2.mono s3,r3',h4,fun σ5 H5 en5=>?_⟩
     cases h5:F ρ4 with
     | none=>simp [jR,h4,h5] at q2
     | some p=>
      refine ⟨Hb,ρ4,p,en5,h5,?_⟩
      cases p with
      | nx ρ6=>exact fun σ6 H6 en6=>⟨ρ6,en6,by simpa [jR,h4,h5] using q2⟩
      | ct ρ6=>exact fun σ6 H6 en6=>⟨ρ6,en6,by simpa [jR,h4,h5] using q2⟩
      | bk ρ6=>
       have:Out.nx ρ6=o:=by simpa [jR,h4,h5] using q2
       subst this
       exact fun σ6 H6 en6=>k σ6 H6 (back _ _ _ en6)
      | rt d=>
       have:Out.rt d=o:=by simpa [jR,h4,h5] using q2
       subst this
       exact fun v H6 s6 r6=>k v H6 (sb _ s6) r6
   ·left
    have he:i=ds.length:=by omega
    have hn:ds.drop i=[]:=by rw [he]; simp
    rw [hn] at q2
    have:Out.nx ρ2=o:=by simpa [jR] using q2
    subst this
    exact ⟨g2 (by omega),k σ2 H2 (back _ _ _ en2)⟩
end
theorem QO {H:Hp}{a:Addr}{o o':HO}:upd (upd H a o) a o'=upd H a o':=by
 funext b
 by_cases h:b=a
 ·subst h; rw [jt,jt]
 ·rw [ji h,ji h,ji h]
section
variable {P:Program}{w:World}{K:Fg}{Hs H:Hp}{ρ:Rho}{σ:St}{i:Nat}
theorem EnvO.put {a:Addr}{d d':PyData}{φ:Heap->Prop}{H3:Hp}{c:HO} (E:EnvO P w K Hs H (some i) ρ σ) (h0:ρ[i]?=some (some d)) (h2:σ[i]?=some (some (.ref a))) (h3:Hs a=none) (h5:H a=some (.ext φ))
  (s3:∀ b u,b ≠ a->H b=some u->H3 b=some u) (ow:QY P w K (upd H3 a c) a d'):EnvO P w K Hs (upd H3 a c) (some i) (ρ.set i (some d')) σ:=by
 have hi:i < ρ.length:=(List.getElem?_eq_some_iff.mp h0).1
 have s4:jS H (upd H3 a c):=fun b u q m=>by
  have:b ≠ a:=fun z=>by subst z; rw [h5] at q; cases q; exact m _ rfl
  rw [ji this]; exact s3 b u this q
 refine ⟨by simp [E.len],fun b u q=>?_,fun j x q n=>?_,fun j n=>?_⟩
 ·have:b ≠ a:=fun z=>by subst z; rw [h3] at q; cases q
  rw [ji this]; exact s3 b u this (E.sm b u q)
 ·have hj:i ≠ j:=fun z=>n (by rw [z])
  rw [List.getElem?_set_ne hj] at q
  obtain ⟨v,g1,g2⟩:=E.pl j x q n
  exact ⟨v,g1,Rep.monoE s4 _ _ g2⟩
 ·cases n
  exact ⟨d',a,by rw [List.getElem?_set_self hi],h2,h3,ow⟩
theorem EnvO.opnL {ds:LP} (E:EnvO P w K Hs H (some i) ρ σ) (h:ρ[i]?=some (some (.list ds))):∃ a xs,σ[i]?=some (some (.ref a))/\Hs a=none/\H a=some (QD a xs)/\Reps K H ds xs/\EnvR K (upd H a (.lst xs)) ρ σ:=by
 obtain ⟨d,a,h1,h2,h3,h4⟩:=E.ow i rfl
 rw [h] at h1; cases h1
 obtain ⟨xs,h5,h6⟩:=h4
 have s1:jS H (upd H a (.lst xs)):=jS.upd h5
 refine ⟨a,xs,h2,h3,h5,h6,E.len,fun j x q=>?_⟩
 by_cases hj:i=j
 ·subst hj
  rw [h] at q; cases q
  exact ⟨.ref a,h2,a,xs,rfl,jt,Reps.monoE s1 _ _ h6⟩
 ·obtain ⟨v,g1,g2⟩:=E.pl j x q (fun z=>hj (Option.some.inj z))
  exact ⟨v,g1,Rep.monoE s1 _ _ g2⟩
end
section
variable {X:Cx}{e a b c tg src:Expr}{es:List Expr}{st:Stmt}{sts qg body:List Stmt}{fa fb fc:RP}{F G:RO}{pos:Pos}
noncomputable def amw (P:Program) (w:World) (K:Fg) (i:Nat) (g:RP):TE:=fun σ H Q=>∃ Hs ρ d',EnvO P w K Hs H (some i) ρ σ/\g ρ=some d'/\∀ H',EnvO P w K Hs H' (some i) (ρ.set i (some d')) σ->Q .non H'
noncomputable def aef (i:Nat) (g:RP):RO:=fun ρ=>(g ρ).map fun d=> .nx (ρ.set i (some d))
theorem ajh {i:Nat}{g:RP} (h:PE X e (amw X.prog X.w X.K i g)) (hs:swapsWith e none pos.line X.env=pure false:=by rfl):PSO X (some i) (.Expr e pos) (aef i g):=by
 with_unfolding_all
  refine PS.imp (ab8 h hs) fun D σ H ⟨Hs,ρ,o,E,q,k⟩=>?_
  cases h1:g ρ with
  | none=>simp [aef,h1] at q
  | some d=>
   have:Out.nx (ρ.set i (some d))=o:=by simpa [aef,h1] using q
   subst this
   exact ⟨Hs,ρ,d,E,h1,fun H' E'=>k σ H' E'⟩
noncomputable def anm (c d:OP):OP:=match c,d with
 | some (.list ds),some d=>if noL d=true/\ds.length<1000000 then some (.list (ds++[d])) else none
 | _,_=>none
noncomputable def aji (i:Nat) (fa:RP):RP:=fun ρ=>anm (lkp i ρ) (fa ρ)
theorem aax {n:Nat} (h:n<1000000):n<sizeLine:=Nat.lt_of_lt_of_le h (by rw [sizeLine_eq]; decide)
end
section
variable {X:Cx}{e a b c tg src:Expr}{es:List Expr}{st:Stmt}{sts qg body:List Stmt}{fa fb fc:RP}{F G:RO}{pos:Pos}
@[irreducible] noncomputable def PN (X:Cx) (e:Expr) (f:RP):Prop:=
 PE X e fun σ H Q=>∃ ρ d,EnvR X.K H ρ σ/\f ρ=some d/\∀ a H',jm H H'->H a=none->QY X.prog X.w X.K H' a d->Q (.ref a) H'
theorem ald {fr:Rho->Option (LP)} (h:PAD X es fr):PN X (.List es pos) (J4 fr):=by
 with_unfolding_all
  intro Kp s σ H Q I ⟨ρ,d,en,hf,k⟩
  cases h1:fr ρ with
  | none=>simp [J4,h1] at hf
  | some ds=>
   by_cases hfew:few ds=true
   ·have:PyData.list ds=d:=by simpa [J4,h1,hfew] using hf
    subst this
    refine thn (ad4 h Kp s σ H (fun v H2=>∃ a xs H1,v= .ref a/\H1 a=none/\jm H H1/\H2=upd H1 a (.lst xs)/\Reps X.K H1 ds xs) I ⟨ρ,ds,en,h1,fun vs H1 s1 r1=>⟨by rw [r1.length]; exact aap (by simpa [few] using hfew),fun l hl=>⟨l,vs,H1,rfl,hl,s1,rfl,r1⟩⟩⟩) fun u s1 ⟨v,H2,I2,r,a,xs,H1,e1,e2,s1',e3,r1⟩=>?_
    subst e1
    have e4:H2 a=some (.lst xs):=by rw [e3]; exact jt
    have e5:upd H2 a (QD a xs)=upd H1 a (QD a xs):=by rw [e3,QO]
    have s2:jm H1 (upd H2 a (QD a xs)):=by rw [e5]; exact jB e2
    exact ⟨.ref a,_,Inv.closed I2 (.l xs) e4 (fun ob u z=>by have:=I.base.frzs _ _ _ z; rw [s1'.free e2] at this; cases this),r,k a _ (s1'.trans s2) (s1'.free e2) ⟨xs,jt,Reps.mono s2 _ _ r1⟩⟩
   ·simp [J4,h1,hfew] at hf
theorem ahn:PN X (.Dict [] [] pos) (cst (.dict [(.none,.none)])):=by
 with_unfolding_all
  intro Kp s σ H Q I ⟨ρ,d,en,hf,k⟩
  cases hf
  refine thn (ag0 Kp s σ H (fun v H2=>∃ a,v= .ref a/\H a=none/\H2=upd H a (.dK [])) I (fun l hl=>⟨l,rfl,hl,rfl⟩)) fun u s1 ⟨v,H2,I2,r,a,e1,e2,e3⟩=>?_
  subst e1
  have e4:H2 a=some (.dK []):=by rw [e3]; exact jt
  obtain ⟨ob,I3⟩:=Inv.sealedD I2 e4
  have s2:jm H (upd H2 a (ZM X.prog X.w a ob [])):=by rw [e3,QO]; exact jB e2
  exact ⟨.ref a,_,I3,r,k a _ s2 e2 ⟨[],[],ob,rfl,jt,rfl⟩⟩
noncomputable def aay (i:Nat) (f:RP) (G:RO):RO:=fun ρ=>(f ρ).bind fun d=>if i < ρ.length then (G (ρ.set i (some d))).bind fun o=>match o with
  | .rt c=>some (.rt c)
  | _=>none
 else none
theorem ade (i:Nat) {x:Str}{pos':Pos} (hN:X.N.Nodup) (he:PN X e fa) (h:adc X (some i) qg G) (hi:X.N[i]?=some x:=by rfl) (hx:Loc X.env.scope x:=by first | exact Or.inl rfl | exact Or.inr rfl) (hs:swapsWith e (some (.Name x pos')) pos.line X.env=pure false:=by rfl)
  (hf:X.fn x=true ∨ X.env.scope.names.lookup x=some .local:=by first | exact .inl rfl | exact .inr rfl | assumption):adc X none (.Assign [.Name x pos'] e pos::qg) (aay i fa G):=by
 with_unfolding_all
  refine PSs.imp (J2 (adY hN hi hx he hs hf) h) fun D σ H ⟨Hs,ρ,o,E,q,k⟩=>?_
  cases h1:fa ρ with
  | none=>simp [aay,h1] at q
  | some d=>
   by_cases hl:i < ρ.length
   ·cases h2:G (ρ.set i (some d)) with
    | none=>simp [aay,h1,h2] at q
    | some p=>
     cases p with
     | rt c=>
      have:Out.rt c=o:=by simpa [aay,h1,h2,hl] using q
      subst this
      refine ⟨ρ,d,E.to,h1,fun a H' s hn ow=>⟨Hs,ρ.set i (some d),.rt c,⟨by simp [E.len],E.sm.trans s,fun j y q n=>?_,fun j n=>?_⟩,h2,k⟩⟩
      ·have hj:i ≠ j:=fun z=>n (by rw [z])
       rw [List.getElem?_set_ne hj] at q ⊢
       obtain ⟨v,g1,g2⟩:=E.pl j y q (fun z=>nomatch z)
       exact ⟨v,g1,Rep.mono s _ _ g2⟩
      ·cases n
       refine ⟨d,a,by rw [List.getElem?_set_self hl],by rw [List.getElem?_set_self (by rw [←E.len]; exact hl)],E.sm.free hn,ow⟩
     | nx _=>simp [aay,h1,h2,hl] at q
     | bk _=>simp [aay,h1,h2,hl] at q
     | ct _=>simp [aay,h1,h2,hl] at q
   ·simp [aay,h1,hl] at q
noncomputable def isI (n:Int):PyData->Bool
 | .int m=>decide (m=n)
 | _=>false
noncomputable def isS (t:Str):PyData->Bool
 | .str m=>decide (m=t)
 | _=>false
noncomputable def zQ (κ:Key) (d:PyData):Bool:=match κ with
 | .inl n=>isI n d
 | .inr t=>isS t d
theorem zv (κ κ':Key):zQ κ (aan κ')=decide (κ'=κ):=by
 cases κ <;> cases κ' <;> simp [zQ,isI,isS,aan]
noncomputable def qK (r:List (PyData × PyData)) (κ:Key):OP:=(r.find? fun p=>zQ κ p.1).map (·.2)
noncomputable def Jy (r:List (PyData × PyData)) (κ:Key) (d:PyData):List (PyData × PyData):=if r.any (fun p=>zQ κ p.1)=true then r.map (fun p=>if zQ κ p.1=true then (p.1,d) else p) else r++[(aan κ,d)]
noncomputable def ann (r:List (PyData × PyData)) (n:Int) (d:PyData):List (PyData × PyData):=if r.any (fun p=>isI n p.1)=true then r.map (fun p=>if isI n p.1=true then (p.1,d) else p) else r++[(.int n,d)]
theorem Zu {K:Fg}{H:Hp} (n:Key):∀ {r:List (PyData × PyData)}{ks:List (Key × V)},RepM K H r ks->(qK r n=none/\JO ks n=none) ∨ ∃ d x,qK r n=some d/\JO ks n=some x/\Rep K H d x
 | [],ks,h=>by cases (show ks=[] from h); exact .inl ⟨rfl,rfl⟩
 | (k,d)::r,ks,⟨i,x,s,h1,h2,h3,h4⟩=>by
  subst h1; subst h2
  by_cases hn:i=n
  ·subst hn
   exact .inr ⟨d,x,by simp [qK,zv],by simp [JO],h3⟩
  ·have e1:qK ((aan i,d)::r) n=qK r n:=by simp [qK,zv,hn,List.find?_cons]
   have e2:JO ((i,x)::s) n=JO s n:=by simp [JO,List.find?_cons,hn]
   rw [e1,e2]
   exact Zu n h4
theorem RepM.anyK {K:Fg}{H:Hp} (n:Key):∀ {r:List (PyData × PyData)}{ks:List (Key × V)},RepM K H r ks->r.any (fun p=>zQ n p.1)=ks.any fun kv=>decide (kv.1=n)
 | [],ks,h=>by cases (show ks=[] from h); rfl
 | (k,d)::r,ks,⟨i,x,s,h1,h2,h3,h4⟩=>by
  subst h1; subst h2
  rw [List.any_cons,List.any_cons,RepM.anyK n h4,zv]
theorem RepM.any {K:Fg}{H:Hp} (n:Int) {r:List (PyData × PyData)}{ks:List (Key × V)} (h:RepM K H r ks):r.any (fun p=>isI n p.1)=ks.any fun kv=>decide (kv.1=(Sum.inl n:Key)):=RepM.anyK (.inl n) h
theorem RepM.replK {K:Fg}{H:Hp} (n:Key) {d':PyData}{x':V} (hr:Rep K H d' x'):∀ {r:List (PyData × PyData)}{ks:List (Key × V)},RepM K H r ks->
  RepM K H (r.map fun p=>if zQ n p.1=true then (p.1,d') else p) (ks.map fun kv=>if kv.1=n then (kv.1,x') else kv)
 | [],ks,h=>by cases (show ks=[] from h); exact rfl
 | (k,d)::r,ks,⟨i,x,s,h1,h2,h3,h4⟩=>by
  subst h1; subst h2
  by_cases hn:i=n
  ·subst hn
   have c1:zQ i ((aan i,d):PyData × PyData).1=true:=by simp [zv]
   rw [List.map_cons,List.map_cons,if_pos c1,if_pos rfl]
   exact ⟨i,x',_,rfl,rfl,hr,RepM.replK i hr h4⟩
  ·have c1:¬ zQ n ((aan i,d):PyData × PyData).1=true:=by simp [zv,hn]
   rw [List.map_cons,List.map_cons,if_neg c1,if_neg hn]
   exact ⟨i,x,_,rfl,rfl,h3,RepM.replK n hr h4⟩
theorem RepM.snocK {K:Fg}{H:Hp} (n:Key) {d':PyData}{x':V} (hr:Rep K H d' x'):∀ {r:List (PyData × PyData)}{ks:List (Key × V)},RepM K H r ks->RepM K H (r++[(aan n,d')]) (ks++[(n,x')])
 | [],ks,h=>by cases (show ks=[] from h); exact ⟨n,x',[],rfl,rfl,hr,rfl⟩
 | (k,d)::r,ks,⟨i,x,s,h1,h2,h3,h4⟩=>by
  subst h2
  exact ⟨i,x,_,h1,rfl,h3,RepM.snocK n hr h4⟩
theorem RepM.putK {K:Fg}{H:Hp} (n:Key) {d':PyData}{x':V} (hr:Rep K H d' x') {r:List (PyData × PyData)}{ks:List (Key × V)} (h:RepM K H r ks):RepM K H (Jy r n d') (_root_.L2.putK ks n x'):=by
 unfold Jy _root_.L2.putK
 rw [h.anyK n]
 by_cases c:(ks.any fun kv=>decide (kv.1=n))=true
 ·rw [if_pos c,if_pos c]; exact h.replK n hr
 ·rw [if_neg c,if_neg c]; exact h.snocK n hr
theorem RepM.put {K:Fg}{H:Hp} (n:Int) {d':PyData}{x':V} (hr:Rep K H d' x') {r:List (PyData × PyData)}{ks:List (Key × V)} (h:RepM K H r ks):RepM K H (ann r n d') (_root_.L2.putK ks (Sum.inl n) x'):=RepM.putK (.inl n) hr h
theorem RepM.length {K:Fg}{H:Hp}:∀ {r:List (PyData × PyData)}{ks:List (Key × V)},RepM K H r ks->ks.length=r.length
 | [],ks,h=>by cases (show ks=[] from h); rfl
 | (k,d)::r,ks,⟨i,x,s,h1,h2,h3,h4⟩=>by subst h2; simp [RepM.length h4]
end
noncomputable def Z9:PyData->Option (List (PyData × PyData))
 | .dict ((.none,_)::r)=>some r
 | _=>none
theorem ZN {K:Fg}{H:Hp}{d:PyData}{r:List (PyData × PyData)}{v:V} (h:Z9 d=some r) (q:Rep K H d v):∃ a ks ob,v= .ref a/\H a=some (.frz ob (.dK ks))/\RepM K H r ks:=by
 unfold Z9 at h
 split at h
 ·cases h
  obtain ⟨a,h1,⟨ns,h2,h3⟩ | ⟨ks,ob,h2,h3⟩ | ⟨x,h2,_⟩ | ⟨x,_,_,h2,_⟩ | h2⟩:=q
  ·cases ns with
   | nil=>cases h3
   | cons n ns=>cases h3
  ·exact ⟨a,ks,ob,h1,h2,h3⟩
  ·cases h2
  ·cases h2
  ·cases h2
 ·cases h
section
variable {X:Cx}{e a b c tg src:Expr}{es:List Expr}{fa fb fc:RP}{pos:Pos}
end
section
variable {X:Cx}{e a b c tg src:Expr}{es:List Expr}{fa fb fc:RP}{pos:Pos}
end
end BX
end
section
namespace BX
open PySem PySem.Spec L2
section
open PyProof.Rows hiding St
variable {X:Cx}{e a b c tg src:Expr}{es:List Expr}{fa fb fc:RP}{pos:Pos}{qg:List Expr}
end
end BX
end
section
namespace BX
open PySem PySem.Spec L2
open PyProof.Rows hiding St
section
variable {X:Cx}{e a b c tg src:Expr}{es:List Expr}{fa fb fc:RP}{pos:Pos}{qg:List Expr}
noncomputable def acq (fa fb:RP):RP:=fun ρ=>(fa ρ).bind fun x=>(asB x).bind fun t=>if t=true then fb ρ else some (.bool false)
theorem aho {op:BoolOp} (ha:PD X a fa):PD X (.BoolOp op [a] pos) fa:=by
 with_unfolding_all exact (akx ha)
theorem ahp (ha:PD X a fa) (hb:PD X (.BoolOp .And (b::qg) pos) fb):PD X (.BoolOp .And (a::b::qg) pos) (acq fa fb):=by
 with_unfolding_all
  refine PE.imp (aky ha hb) fun σ H Q ⟨ρ,d,en,h,k⟩=>?_
  cases h1:fa ρ with
  | none=>simp [acq,h1] at h
  | some x=>
   cases h2:asB x with
   | none=>simp [acq,h1,h2] at h
   | some t=>
    have hx:=Jv h2
    subst hx
    refine ⟨ρ,_,en,h1,fun v H1 s1 r1=>⟨t,r1,?_⟩⟩
    cases t with
    | true=>rw [if_pos rfl]; exact ⟨ρ,d,en.mono s1,by simpa [acq,h1,h2] using h,fun v H2 s2 r2=>k v H2 (s1.trans s2) r2⟩
    | false=>
     rw [if_neg Bool.false_ne_true]
     have:PyData.bool false=d:=by simpa [acq,h1,h2] using h
     subst this
     exact k _ H1 s1 rfl
noncomputable def ajj:PyData->Bool
 | .none=>true
 | _=>false
theorem ahq {K:Fg}{H:Hp}{p:PyData}{x:V} (r:Rep K H p x):decide (x= .non)=ajj p:=by
 cases p with
 | none=>cases (show x= .non from r); rfl
 | bool b=>cases (show x=_ from r); rfl
 | int b=>cases (show x=_ from r); rfl
 | str b=>cases (show x=_ from r); rfl
 | tuple ds=>obtain ⟨a,xs,h,_⟩:=r; subst h; rfl
 | list ds=>obtain ⟨a,xs,h,_⟩:=r; subst h; rfl
 | dict ds=>obtain ⟨a,h,_⟩:=r; subst h; rfl
noncomputable def ahr (p q:PyData):OP:=match q with
 | .none=>some (.bool (!ajj p))
 | _=>none
theorem ahs:OpD X (compareOp .IsNot) ahr:=by
 refine ⟨_,aiN,fun p q d x y H Q h rx ry k=>?_⟩
 unfold ahr at h
 split at h
 ·cases h
  exact ⟨ry,by rw [ahq rx]; exact k _ H (jm.refl H) rfl⟩
 ·cases h
end
section
variable {X:Cx}{e a b c tg src:Expr}{es:List Expr}{fa fb fc:RP}{pos:Pos}
noncomputable def ajk (c d:OP):OP:=match c,d with
 | some (.list ds),some (.list es)=>if noLs es=true/\ds.length+es.length<1000000 then some (.list (ds++es)) else none
 | _,_=>none
noncomputable def aht (i:Nat) (fa:RP):RP:=fun ρ=>ajk (lkp i ρ) (fa ρ)
theorem ahu {c d:OP}{r:PyData} (h:ajk c d=some r):∃ ds es,c=some (.list ds)/\d=some (.list es)/\noLs es=true/\ds.length+es.length<1000000/\r= .list (ds++es):=by
 unfold ajk at h
 split at h
 ·split at h
  ·rename_i hc
   cases h
   exact ⟨_,_,rfl,rfl,hc.1,hc.2,rfl⟩
  ·cases h
 ·cases h
theorem afZ (i:Nat) {x:Str}{p1 apos cpos:Pos} (h:PD X e fa) (hN:X.N[i]?=some x:=by rfl) (hv:Vis X.env.scope x:=by first | exact Or.inl rfl | exact Or.inr (Or.inl rfl) | exact Or.inr (Or.inr rfl)) (hd:(x == ("__debug__":Str))=false:=by decide)
  (hcd:(x == ("__classdict__":Str))=false:=by decide) (hbase:attributeBase (.Name x p1) "extend" X.env (eval (.Name x p1) X.env)=eval (.Name x p1) X.env:=by rfl)
  (hfew:((backTo cpos (starEach [e] X.env)).all (fun x=>!x.1) && (backToKw cpos (keywordEach [] X.env)).all (fun x=>x.1.isSome) && decide ([e].length+([]:List Keyword).length+(if ([]:List Keyword).isEmpty then 0 else 1)<30))=true:=by rfl)
  (hline:(apos.endLine == cpos.line)=true:=by rfl) (hs:starEach [e] X.env=(false,eval e X.env)::starEach [] X.env:=by rfl) (hplain:(backTo cpos (starEach [] X.env)).any (·.1)=false:=by rfl):
  PE X (.Call (.Attribute (.Name x p1) "extend" apos) [e] [] cpos) (amw X.prog X.w X.K i (aht i fa)):=by
 with_unfolding_all
  intro Kp s σ H Q I ⟨Hs,ρ,d',E,hg,k⟩
  obtain ⟨ds,es,q1,q2,hn,hl,rfl⟩:=ahu hg
  obtain ⟨a,xs,g2,g3,g4,g5,env⟩:=E.opnL (zt q1)
  have hlen:=g5.length
  have W:=agX (X:=X) (cpos:=cpos) (apos:=apos) PySem.F.plainAttrs_list PySem.F.slot_list_extend PySem.F.type_list_extend afJ (ab5 hN hv hd hcd) (q0 h JN hs) hbase hfew hline hs hplain
  refine thn (W Kp s σ (upd H a (.lst xs)) (fun v H4=>∃ H3 zs,v= .non/\H4=upd H3 a (.lst (xs++zs))/\jm (upd H a (.lst xs)) H3/\Reps X.K H3 es zs) (Inv.opened I (.l xs) g4)
   ⟨.ref a,g2,.inl ⟨rfl,_,SqL.of jt⟩,ρ,.list es,env,q2,fun y H3 s3 r3=>?_⟩) fun u s1 ⟨v,H4,I4,r,H3,zs,e1,e2,s3,r3⟩=>?_
  ·obtain ⟨b,zs,z1,z2,z3⟩:=r3
   have hz:=z3.length
   exact ⟨a,b,xs,zs,rfl,by rw [z1],s3 _ _ jt,z2,by rw [hlen,hz]; exact Nat.le_of_lt (aax hl),H3,zs,rfl,rfl,s3,z3⟩
  subst e1
  have e4:H4 a=some (.lst (xs++zs)):=by rw [e2]; exact jt
  have sb:∀ b u,b ≠ a->H b=some u->H4 b=some u:=fun b u n q=>by rw [e2,ji n]; exact s3 b u (by rw [ji n]; exact q)
  refine ⟨.non,upd H4 a (QD a (xs++zs)),Inv.closed I4 (.l _) e4 (Inv.nofrz I g4),r,k _ (E.put (zt q1) g2 g3 g4 sb ⟨xs++zs,jt,?_⟩)⟩
  have s5:jS H (upd H4 a (QD a (xs++zs))):=fun b u q m=>by
   have:b ≠ a:=fun z=>by subst z; rw [g4] at q; cases q; exact m _ rfl
   rw [ji this]; exact sb b u this q
  have s6:zu H3 (upd H4 a (QD a (xs++zs))):=fun b u q m=>by
   have e3:H3 a=some (.lst xs):=s3 _ _ jt
   have:b ≠ a:=fun z=>by subst z; rw [e3] at q; cases q; exact m _ rfl
   rw [ji this,e2,ji this]; exact q
  exact (Reps.monoE s5 _ _ g5).append (Reps.monoN s6 _ _ hn r3)
end
section
variable {X:Cx}{e a b c tg src:Expr}{es:List Expr}{fa fb fc:RP}{pos:Pos}
theorem Reps.set {K:Fg}{H:Hp}{d:PyData}{v:V} (r:Rep K H d v):∀ {ds:LP}{xs:List V} (j:Nat),Reps K H ds xs->Reps K H (ds.set j d) (xs.set j v)
 | [],xs,j,h=>by cases (show xs=[] from h); exact rfl
 | _::ds,xs,0,⟨x,q,h1,h2,h3⟩=>by subst h1; exact ⟨v,q,rfl,r,h3⟩
 | _::ds,xs,j+1,⟨x,q,h1,h2,h3⟩=>by subst h1; exact ⟨x,_,rfl,h2,Reps.set r j h3⟩
noncomputable def aaz (ds:LP):OP:=match ds with
 | [.list xs]=>some (.tuple xs)
 | [.tuple xs]=>some (.tuple xs)
 | _=>none
theorem adf:QT X (.type "tuple") aaz:=by
 refine ⟨_,aa6,fun ds d xs H Q h r k=>?_⟩
 unfold aaz at h
 split at h
 ·cases h
  obtain ⟨x,q,e1,e2,e3⟩:=r
  cases (show q=[] from e3)
  obtain ⟨a,us,g1,g2,g3⟩:=e2
  subst g1
  refine ⟨a,us,e1,.inl ⟨SqL.of g2,fun l hl=>?_⟩⟩
  have s1:=jB (o:= .tup us) hl
  exact k _ _ s1 ⟨l,us,rfl,SqT.of jt,Reps.mono s1 _ _ g3⟩
 ·cases h
  obtain ⟨x,q,e1,e2,e3⟩:=r
  cases (show q=[] from e3)
  obtain ⟨a,us,g1,g2,g3⟩:=e2
  subst g1
  exact ⟨a,us,e1,.inr ⟨g2,k _ H (jm.refl H) ⟨a,us,rfl,g2,g3⟩⟩⟩
 ·cases h
end
section
variable {X:Cx}{e a b c:Expr}{fa fb fc:RP}{pos p2:Pos}
noncomputable def QJ (ds:LP) (lo hi:Option Int):LP:=(ds.drop (HT.sIx ds.length 0 lo)).take (HT.sIx ds.length ds.length hi - HT.sIx ds.length 0 lo)
noncomputable def inI:PyData->Option Int
 | .int i=>some i
 | _=>none
theorem QZ {d:PyData}{i:Int} (h:inI d=some i):d= .int i:=by cases d <;> simp [inI] at h; rw [h]
end
section
variable {prog:Program}{w:World}{A:Around}{E:Value->SP0}{s:Shared}
noncomputable def ItA (g:Bool) (h:Heap) (i t:Addr) (k:Nat):Prop:=match g with
 | true=>h.IsListIter i t k
 | false=>h.IsTupleIter i t k
noncomputable def SrA (g:Bool) (h:Heap) (t:Addr) (xs:Array Value):Prop:=match g with
 | true=>h.IsList t xs
 | false=>h.IsTuple t xs
theorem ItA.to {g:Bool}{h h':Heap}{i t:Addr}{k:Nat} (x:ItA g h i t k) (kp:∀ o,h.get? i=some o->h'.get? i=some o):ItA g h' i t k:=by
 cases g <;> exact (let ⟨o,e,r⟩:=x; ⟨o,kp o e,r⟩)
theorem SrA.to {g:Bool}{h h':Heap}{t:Addr}{xs:Array Value} (x:SrA g h t xs) (kp:∀ o,h.get? t=some o->h'.get? t=some o):SrA g h' t xs:=by
 cases g <;> exact (let ⟨o,e,r⟩:=x; ⟨o,kp o e,r⟩)
theorem ItA.extBut {g:Bool}{h h':Heap}{i t b:Addr}{k:Nat} (x:ItA g h i t k) (e:Heap.ExtBut b h h') (n:i ≠ b):ItA g h' i t k:=x.to fun o q=>e i o n q
theorem SrA.extBut {g:Bool}{h h':Heap}{t b:Addr}{xs:Array Value} (x:SrA g h t xs) (e:Heap.ExtBut b h h') (n:t ≠ b):SrA g h' t xs:=x.to fun o q=>e t o n q
theorem ItA.obj {g:Bool}{h:Heap}{i t:Addr}{k:Nat} (x:ItA g h i t k):∃ o vs,h.get? i=some o/\o.data= .fields vs:=by
 cases g <;> exact (let ⟨o,e,_,d⟩:=x; ⟨o,_,e,d⟩)
theorem QK {g:Bool}{it t:Addr}{i:Nat}{ys:Array Value}{x:Value}{Q:Value->SP0} (hit:ItA g s.heap it t i) (ht:SrA g s.heap t ys) (hx:ys[i]?=some x)
  (hQ:∀ h',ItA g h' it t (i+1)->Heap.SameBut it s.heap h'->Q x { s with heap:=h' }):wpAny (model prog w) A (Builtin.SmallTypes.nextOf (.ref it)) Q E s:=by
 cases g with
 | true=>exact wpAny_nextOf_list_item hit ht hx hQ
 | false=>exact JT hit ht hx hQ
theorem abC {g:Bool}{it t:Addr}{i:Nat}{ys:Array Value}{Q:Value->SP0} (hh:A.handled=none) (hit:ItA g s.heap it t i) (ht:SrA g s.heap t ys) (hx:ys[i]?=none)
  (hE:∀ h' e,Heap.ExtBut it s.heap h'->(∃ o,h'.get? e=some o/\o.cls= .type "StopIteration")->E (.ref e) { s with heap:=h' }):wpAny (model prog w) A (Builtin.SmallTypes.nextOf (.ref it)) Q E s:=by
 cases g with
 | true=>exact wpAny_nextOf_list_end hh hit ht hx hE
 | false=>exact abz hh hit ht hx hE
theorem aaA {T:Addr}{a b x:Value}{k:Nat}{Q:Unit->SP0} (hT:IsPair s.heap T a b)
  (h:∀ h',h'.get? T=some { cls:= .type "tuple",data:= .seq ((#[a,b]:Array Value).setIfInBounds k x) }->Heap.SameBut T s.heap h'->Q () { s with heap:=h' }):
  wpAny (model prog w) A (updateSeq T (·.setIfInBounds k x)) Q E s:=by
 refine wpAny_updateSeq hT rfl (h _ ?_ (Heap.SameBut.update ..))
 rw [Heap.get?_update_self _ hT rfl]
 simp [Obj.mapSeq]
structure Apart2 (z TI TO i1 i2 t1 t2:Addr):Prop where
 nd:[z,TO,i1,i2].Nodup
 ti:TI ∉ [z,TO,i1,i2]
 s1:t1 ∉ [z,TO,i1,i2]
 s2:t2 ∉ [z,TO,i1,i2]
structure Zip2 (ga gb:Bool) (h:Heap) (z TI TO i1 i2 t1 t2:Addr) (f0:Value) (k:Nat):Prop where
 hz:IsZip h z TI TO f0
 hTI:IsPair h TI (.ref i1) (.ref i2)
 hTO:∃ a b,IsPair h TO a b
 g1:ItA ga h i1 t1 k
 g2:ItA gb h i2 t2 k
theorem Zip2.keep {ga gb:Bool}{h h':Heap}{z TI TO i1 i2 t1 t2:Addr}{f0:Value}{k:Nat} (S:Zip2 ga gb h z TI TO i1 i2 t1 t2 f0 k) (kp:∀ b ∈ [z,TI,TO,i1,i2],∀ o,h.get? b=some o->h'.get? b=some o):
  Zip2 ga gb h' z TI TO i1 i2 t1 t2 f0 k:=by
 obtain ⟨hz,hTI,⟨a,b,hTO⟩,g1,g2⟩:=S
 exact ⟨kp z (by simp) _ hz,kp TI (by simp) _ hTI,⟨a,b,kp TO (by simp) _ hTO⟩,g1.to (kp i1 (by simp)),g2.to (kp i2 (by simp))⟩
theorem af0 {ga gb:Bool}{z TI TO i1 i2 t1 t2:Addr}{xs ys:Array Value}{k:Nat}{x y:Value}{Q:Value->SP0} (D:Apart2 z TI TO i1 i2 t1 t2) (S:Zip2 ga gb s.heap z TI TO i1 i2 t1 t2 .none k)
  (a1:SrA ga s.heap t1 xs) (a2:SrA gb s.heap t2 ys) (hx:xs[k]?=some x) (hy:ys[k]?=some y)
  (hQ:∀ h',Zip2 ga gb h' z TI TO i1 i2 t1 t2 (rawInt s.heap.objs.size) (k+1)->IsPair h' s.heap.objs.size x y->But [z,TO,i1,i2] s.heap h'->Q (.ref s.heap.objs.size) { s with heap:=h' }):
  wpAny (model prog w) A (Builtin.«zip.__next__» ⟨[.ref z],[]⟩) (fun fin s'=>∃ v,fin= .done (.ret v)/\Q v s') E s:=by
 obtain ⟨hz,hTI,⟨a,b,hTO⟩,g1,g2⟩:=S
 obtain ⟨nd,ti,s1,s2⟩:=D
 simp only [List.nodup_cons,List.mem_cons,List.not_mem_nil,or_false,not_or] at nd ti s1 s2
 obtain ⟨⟨n1,n2,n3⟩,⟨n5,n6⟩,n8,_⟩:=nd
 obtain ⟨t1z,t1o,t11,t12⟩:=s1
 obtain ⟨t2z,t2o,t21,t22⟩:=s2
 obtain ⟨tiz,tio,ti1,ti2⟩:=ti
 refine wpAny_bind (m:=field (.ref z) 2) (wpAny_field hz rfl (x:= .bool false) rfl ?_)
 refine wpAny_bind (m:=field (.ref z) 3) (wpAny_field hz rfl (x:= .ref TI) rfl ?_)
 refine wpAny_bind (wpAny_seqItems hTI rfl ?_)
 refine wpAny_bind (m:=Builtin.SmallTypes.ownedTupleIsFree (.ref z)) ?_
 unfold Builtin.SmallTypes.ownedTupleIsFree
 refine wpAny_bind (wpAny_field hz rfl (x:= .none) rfl (wpAny_pure ?_))
 simp only [zzM]
 refine wpAny_bind (wpAny_rule ?_)
 refine wpAny_bind (wpAny_field hz rfl (x:= .ref TO) rfl ?_)
 refine wpAny_bind (wpAny_setField_rec hz (by simp) fun h1 hz1 b1=>?_)
 replace hz1:IsZip h1 z TI TO .ellipsis:=hz1
 refine wpAny_bind ?_
 simp only [List.zipIdx_cons,List.zipIdx_nil,List.forIn_cons,List.forIn_nil]
 refine wpAny_bind (wpAny_bind (wpAny_onRaise ?_))
 refine wpAny_bind (m:=Builtin.SmallTypes.nextOf (.ref i1)) ?_
 refine QK (g1.extBut b1.extBut (Ne.symm n2)) (a1.extBut b1.extBut t1z) hx fun h2 g1' b2=>wpAny_pure ?_
 have o2:IsPair h2 TO a b:=b2.extBut _ _ n5 (b1.extBut _ _ (Ne.symm n1) hTO)
 refine wpAny_bind (wpAny_seqItems o2 rfl ?_)
 refine wpAny_bind (aaA o2 fun h3 o3 b3=>?_)
 replace o3:IsPair h3 TO x b:=o3
 refine wpAny_bind (wpAny_letGo (wpAny_pure ?_))
 refine wpAny_bind (wpAny_bind (wpAny_onRaise ?_))
 refine wpAny_bind (m:=Builtin.SmallTypes.nextOf (.ref i2)) ?_
 refine QK (((g2.extBut b1.extBut (Ne.symm n3)).extBut b2.extBut (Ne.symm n8)).extBut b3.extBut (Ne.symm n6)) (((a2.extBut b1.extBut t2z).extBut b2.extBut t21).extBut b3.extBut t2o) hy fun h4 g2' b4=>wpAny_pure ?_
 have o4:IsPair h4 TO x b:=b4.extBut _ _ n6 o3
 refine wpAny_bind (wpAny_seqItems o4 rfl ?_)
 refine wpAny_bind (aaA o4 fun h7 o7 b7=>?_)
 replace o7:IsPair h7 TO x y:=o7
 refine wpAny_bind (wpAny_letGo (wpAny_pure (wpAny_pure ?_)))
 refine wpAny_bind (wpAny_seqItems o7 rfl ?_)
 refine wpAny_bind (wpAny_newTuple ?_)
 have sz:h7.objs.size=s.heap.objs.size:=by rw [b7.1,b4.1,b3.1,b2.1,b1.1]
 have B:But [z,TO,i1,i2] s.heap h7:=
  ((((But.of b1.extBut (by simp)).trans (But.of b2.extBut (by simp))).trans (But.of b3.extBut (by simp))).trans (But.of b4.extBut (by simp))).trans (But.of b7.extBut (by simp))
 have z7:IsZip h7 z TI TO .ellipsis:=b7.extBut _ _ n1 (b4.extBut _ _ n3 (b3.extBut _ _ n1 (b2.extBut _ _ n2 hz1)))
 have i17:ItA ga h7 i1 t1 (k+1):=((g1'.extBut b3.extBut (Ne.symm n5)).extBut b4.extBut n8).extBut b7.extBut (Ne.symm n5)
 have i27:ItA gb h7 i2 t2 (k+1):=g2'.extBut b7.extBut (Ne.symm n6)
 refine wpAny_bind (m:=Builtin.SmallTypes.ownedTupleHandOut (.ref z) (.ref h7.objs.size)) ?_
 unfold Builtin.SmallTypes.ownedTupleHandOut
 have z8:IsZip (h7.push { cls:= .type "tuple",data:= .seq #[x,y] }) z TI TO .ellipsis:=Heap.get?_push_of_some _ z7
 refine wpAny_bind (wpAny_setField_rec z8 (by simp) fun h9 z9 b9=>?_)
 replace z9:IsZip h9 z TI TO (rawInt h7.objs.size):=z9
 refine wpAny_setField_rec z9 (by simp) fun h10 z10 b10=>?_
 replace z10:IsZip h10 z TI TO (rawInt h7.objs.size):=z10
 have up:∀ c o,c ≠ z->h7.get? c=some o->h10.get? c=some o:=fun c o c1 e=>b10.extBut _ _ c1 (b9.extBut _ _ c1 (Heap.get?_push_of_some _ e))
 have zlt:z<h7.objs.size:=Heap.lt_size z7
 have T10:IsPair h10 h7.objs.size x y:=b10.extBut _ _ (Nat.ne_of_gt zlt) (b9.extBut _ _ (Nat.ne_of_gt zlt) (Heap.get?_push_size _ rfl))
 rw [sz] at z10 T10
 refine wpAny_pure ⟨_,rfl,?_⟩
 show Q (.ref h7.objs.size) _
 rw [sz]
 refine hQ h10 ⟨z10,up _ _ tiz (B _ _ (by simp [tiz,tio,ti1,ti2]) hTI),⟨x,y,up _ _ (Ne.symm n1) o7⟩,i17.to fun o=>up _ o (Ne.symm n2),i27.to fun o=>up _ o (Ne.symm n3)⟩ T10 fun c o hc e=>up c o (fun q=>hc (by simp [q])) (B c o hc e)
theorem ahv {ga gb:Bool}{z TI TO i1 i2 t1 t2:Addr}{xs ys:Array Value}{k:Nat}{Q:Fin->SP0} (hh:A.handled=none) (D:Apart2 z TI TO i1 i2 t1 t2) (S:Zip2 ga gb s.heap z TI TO i1 i2 t1 t2 .none k)
  (a1:SrA ga s.heap t1 xs) (a2:SrA gb s.heap t2 ys) (hx:xs[k]?=none ∨ ys[k]?=none)
  (hE:∀ h' e,But [z,TO,i1,i2] s.heap h'->(∃ o,h'.get? e=some o/\o.cls= .type "StopIteration")->E (.ref e) { s with heap:=h' }):
  wpAny (model prog w) A (Builtin.«zip.__next__» ⟨[.ref z],[]⟩) Q E s:=by
 obtain ⟨hz,hTI,⟨a,b,hTO⟩,g1,g2⟩:=S
 obtain ⟨nd,ti,s1,s2⟩:=D
 simp only [List.nodup_cons,List.mem_cons,List.not_mem_nil,or_false,not_or] at nd ti s1 s2
 obtain ⟨⟨n1,n2,n3⟩,⟨n5,n6⟩,n8,_⟩:=nd
 obtain ⟨t2z,t2o,t21,t22⟩:=s2
 refine wpAny_bind (m:=field (.ref z) 2) (wpAny_field hz rfl (x:= .bool false) rfl ?_)
 refine wpAny_bind (m:=field (.ref z) 3) (wpAny_field hz rfl (x:= .ref TI) rfl ?_)
 refine wpAny_bind (wpAny_seqItems hTI rfl ?_)
 refine wpAny_bind (m:=Builtin.SmallTypes.ownedTupleIsFree (.ref z)) ?_
 unfold Builtin.SmallTypes.ownedTupleIsFree
 refine wpAny_bind (wpAny_field hz rfl (x:= .none) rfl (wpAny_pure ?_))
 simp only [zzM]
 refine wpAny_bind (wpAny_rule ?_)
 refine wpAny_bind (wpAny_field hz rfl (x:= .ref TO) rfl ?_)
 refine wpAny_bind (wpAny_setField_rec hz (by simp) fun h1 hz1 b1=>?_)
 replace hz1:IsZip h1 z TI TO .ellipsis:=hz1
 refine wpAny_bind ?_
 simp only [List.zipIdx_cons,List.zipIdx_nil,List.forIn_cons,List.forIn_nil]
 refine wpAny_bind (wpAny_bind (wpAny_onRaise ?_))
 refine wpAny_bind (m:=Builtin.SmallTypes.nextOf (.ref i1)) ?_
 cases hx1:xs[k]? with
 | none=>
  refine abC hh (g1.extBut b1.extBut (Ne.symm n2)) (a1.extBut b1.extBut s1.1) hx1 fun h2 e b2 he=>?_
  obtain ⟨oe,ho,hc⟩:=he
  have z2:IsZip h2 z TI TO .ellipsis:=b2 _ _ n2 hz1
  have ez:e ≠ z:=fun q=>by subst q; rw [z2] at ho; cases ho; simp at hc
  refine wpAny_setField_rec z2 (by simp) fun h3 _ b3=>?_
  exact hE h3 e (((But.of b1.extBut (by simp)).trans (But.of b2 (by simp))).trans (But.of b3.extBut (by simp))) ⟨oe,b3.extBut _ _ ez ho,hc⟩
 | some x=>
  have hy:ys[k]?=none:=hx.resolve_left (by rw [hx1]; simp)
  refine QK (g1.extBut b1.extBut (Ne.symm n2)) (a1.extBut b1.extBut s1.1) hx1 fun h2 g1' b2=>wpAny_pure ?_
  have o2:IsPair h2 TO a b:=b2.extBut _ _ n5 (b1.extBut _ _ (Ne.symm n1) hTO)
  refine wpAny_bind (wpAny_seqItems o2 rfl ?_)
  refine wpAny_bind (aaA o2 fun h3 o3 b3=>?_)
  refine wpAny_bind (wpAny_letGo (wpAny_pure ?_))
  refine wpAny_bind (wpAny_bind (wpAny_onRaise ?_))
  refine wpAny_bind (m:=Builtin.SmallTypes.nextOf (.ref i2)) ?_
  refine abC hh (((g2.extBut b1.extBut (Ne.symm n3)).extBut b2.extBut (Ne.symm n8)).extBut b3.extBut (Ne.symm n6)) (((a2.extBut b1.extBut t2z).extBut b2.extBut t21).extBut b3.extBut t2o) hy fun h4 e b4 he=>?_
  obtain ⟨oe,ho,hc⟩:=he
  have z4:IsZip h4 z TI TO .ellipsis:=b4 _ _ n3 (b3.extBut _ _ n1 (b2.extBut _ _ n2 hz1))
  have ez:e ≠ z:=fun q=>by subst q; rw [z4] at ho; cases ho; simp at hc
  refine wpAny_setField_rec z4 (by simp) fun h5 _ b5=>?_
  exact hE h5 e (((((But.of b1.extBut (by simp)).trans (But.of b2.extBut (by simp))).trans (But.of b3.extBut (by simp))).trans (But.of b4 (by simp))).trans (But.of b5.extBut (by simp))) ⟨oe,b5.extBut _ _ ez ho,hc⟩
end
noncomputable def Sq (g:Bool) (K:Fg) (H:Hp) (t:Addr) (xs:List V):Prop:=match g with
 | true=>SqL K H t xs
 | false=>SqT K H t xs
theorem Sq.inv {g:Bool}{X:Cx}{Kp:List (Addr × Obj)}{σ:St}{H:Hp}{s:Shared}{a:Addr}{xs:List V} (q:Sq g X.K H a xs) (I:Inv X Kp σ H s):∃ its:List Value,jG xs its/\SrA g s.heap a its.toArray:=by
 cases g with
 | true=>obtain ⟨its,r,p,_⟩:=I.list q; exact ⟨its,r,p.isList⟩
 | false=>obtain ⟨its,r,p,_⟩:=I.tuple q; exact ⟨its,r,p⟩
theorem Sq.inj {g:Bool}{X:Cx}{Kp:List (Addr × Obj)}{σ:St}{H:Hp}{s:Shared}{a:Addr}{xs ys:List V} (I:Inv X Kp σ H s) (q:Sq g X.K H a xs) (q':Sq g X.K H a ys):xs=ys:=by
 cases g with
 | true=>exact I.list_inj q q'
 | false=>exact I.tuple_inj q q'
theorem Sq.monoE {g:Bool}{K:Fg}{H H':Hp}{a:Addr}{xs:List V} (e:jS H H') (h:Sq g K H a xs):Sq g K H' a xs:=by
 cases g with
 | true=>exact jS.sql e h
 | false=>exact jS.tup e h
theorem Sq.monoA {g:Bool}{K:Fg}{H H':Hp}{a:Addr}{xs:List V} (e:jC H H') (h:Sq g K H a xs):Sq g K H' a xs:=by
 cases g with
 | true=>exact jC.sql e h
 | false=>exact jC.tup e h
theorem Sq.at {g:Bool}{K:Fg}{H:Hp}{a:Addr}{xs:List V} (h:Sq g K H a xs):(∃ u,H a=some u) ∨ ∃ o,K.lookup a=some o:=by
 cases g with
 | true=>rcases h with (e | ⟨o,e⟩) | ⟨o,its,n,hk,_⟩ <;> first | exact .inl ⟨_,e⟩ | exact .inr ⟨_,hk⟩
 | false=>rcases h with (e | ⟨o,e⟩) | ⟨o,its,n,hk,_⟩ <;> first | exact .inl ⟨_,e⟩ | exact .inr ⟨_,hk⟩
noncomputable def Itq (K:Fg) (ga gb:Bool) (t1 t2:Addr):It:=
 ⟨fun i H=>∃ xs ys x y,Sq ga K H t1 xs/\Sq gb K H t2 ys/\xs[i]?=some x/\ys[i]?=some y,
  fun i H u H'=>∃ p x y,u= .ref p/\H p=none/\H'=upd H p (.tup [x,y])/\∀ xs ys,Sq ga K H t1 xs->Sq gb K H t2 ys->xs[i]?=some x/\ys[i]?=some y,
  fun i H=>∃ xs ys,Sq ga K H t1 xs/\Sq gb K H t2 ys/\(xs.length<=i ∨ ys.length<=i)⟩
theorem af1 {P:Program}{w:World}{K:Fg}{elts:List Expr}{x1:Nat}{pos:Pos}{ga gb:Bool}{z TI TO i1 i2 t1 t2:Addr} (nd:[z,TO,i1,i2].Nodup) (ti:TI ∉ [z,TO,i1,i2]):
  Turn P w K (.Tuple elts x1 pos) (Itq K ga gb t1 t2) [z,TI,TO,i1,i2] z (fun i h=>Zip2 ga gb h z TI TO i1 i2 t1 t2 .none i) where
 mem:=by simp
 obj:=fun i h st b hb=>by
  obtain ⟨hz,hTI,⟨a,b',hTO⟩,g1,g2⟩:=st
  obtain ⟨o1,v1,e1,d1⟩:=g1.obj
  obtain ⟨o2,v2,e2,d2⟩:=g2.obj
  simp only [List.mem_cons,List.not_mem_nil,or_false] at hb
  rcases hb with rfl | rfl | rfl | rfl | rfl
  ·exact ⟨_,hz,fun v q=>by cases q⟩
  ·exact ⟨_,hTI,fun v q=>by cases q⟩
  ·exact ⟨_,hTO,fun v q=>by cases q⟩
  ·exact ⟨o1,e1,fun v q=>by rw [d1] at q; cases q⟩
  ·exact ⟨o2,e2,fun v q=>by rw [d2] at q; cases q⟩
 keep:=fun i h h' st k=>st.keep k
 item:=by
  intro X hP hw hK hc i Kp s σ H E I hf st hg
  subst hP hw hK
  obtain ⟨xs,ys,x,y,q1,q2,ex,ey⟩:=hg
  obtain ⟨us1,r1,p1⟩:=q1.inv I
  obtain ⟨us2,r2,p2⟩:=q2.inv I
  obtain ⟨u1,m1,l1⟩:=r1.get ex
  obtain ⟨u2,m2,l2⟩:=r2.get ey
  have trk:∀ {g:Bool} {t:Addr} {ws:List V},Sq g X.K H t ws->t ∉ [z,TO,i1,i2]:=fun {g t ws} hq hb=>by
   have hb':t ∈ [z,TI,TO,i1,i2]:=by
    simp only [List.mem_cons,List.not_mem_nil,or_false] at hb ⊢
    rcases hb with e | e | e | e <;> simp [e]
   rcases hq.at with ⟨u,e⟩ | ⟨o,hk⟩
   ·have:=(hf t hb').1; rw [e] at this; cases this
   ·obtain ⟨f0,f1,f2,f3,f4,f5⟩:=hf t hb'
    have hbase:=I.mod.kin t o hk
    rcases f3 with q | q
    ·exact I.ok.noex t o hbase q
    ·exact absurd (Nat.lt_of_lt_of_le (Heap.lt_size hbase) (Nat.le_trans I.ok.bsz q)) (Nat.lt_irrefl _)
  have D:Apart2 z TI TO i1 i2 t1 t2:=⟨nd,ti,trk q1,trk q2⟩
  have hT:s.TypeIs (.ref z) "zip":=⟨_,st.hz,rfl⟩
  unfold pyNext
  refine wpAny_bind (wpAny_attempt (wpAny_callSpecial?_slot (name:=Str.ofString "__next__") hT F.slot_zip_next
   (wpAny_call_entry F.slot_zip_next hT F.entry_zip_next (af0 D st p1 p2 (by simpa using m1) (by simpa using m2) fun h1 S1 T1 B1=>wpAny_pure ?_)
    (F.args_zip_next_1 _))))
  refine ⟨_,rfl,?_⟩
  refine wpAny_letOwnedTupleGo_zip (s:={ s with heap:=h1 }) S1.hz fun h2 z2' b2=>?_
  have nT:H s.heap.objs.size=none:=I.hok.fresh (Nat.le_refl _)
  have zlt:z<s.heap.objs.size:=Heap.lt_size st.hz
  have T2:IsPair h2 s.heap.objs.size u1 u2:=b2.extBut _ _ (Nat.ne_of_gt zlt) T1
  have B2:But [z,TO,i1,i2] s.heap h2:=B1.trans (But.of b2.extBut (by simp))
  have inF:∀ b ∈ [z,TO,i1,i2],b ∈ [z,TI,TO,i1,i2]:=fun b hb=>by
   simp only [List.mem_cons,List.not_mem_nil,or_false] at hb ⊢
   rcases hb with e | e | e | e <;> simp [e]
  have ntr:∀ b u,H b=some u->b ∉ [z,TO,i1,i2]:=fun b u e hb=>by
   have:=(hf b (inF b hb)).1
   rw [e] at this; cases this
  have neT:∀ b u,H b=some u->b ≠ s.heap.objs.size:=fun b u e q=>by rw [q,nT] at e; cases e
  have hok2:HOk X.prog X.w (upd H s.heap.objs.size (.tup [x,y])) h2:=fun b u e=>by
   by_cases hb:b=s.heap.objs.size
   ·subst hb
    rw [jt] at e
    cases e
    exact ⟨by show 2<=sizeLine; rw [sizeLine_eq]; decide,[u1,u2],.cons l1 (.cons l2 .nil),⟨_,T2,rfl,_,rfl⟩⟩
   ·rw [ji hb] at e
    refine (I.hok b u e).stay (fun c o hc' q=>B2 c o ?_ q) (fun c q=>by rw [ji (neT c _ q)]; exact q) fun c ws q=>by rw [ji (neT c _ q)]; exact q
    rcases hc' with q' | q'
    ·rw [q']; exact ntr b u e
    ·exact ntr c _ q'
  have I2:Inv X Kp σ (upd H s.heap.objs.size (.tup [x,y])) { s with heap:=h2,toks:=s.toks }:=by
   refine I.step (g':=s.gens) (d':=s.drawn) (ch:=[z,TO,i1,i2]) (fun b hb=>?_) (fun b o _ _ hb e _=>B2 b o hb e) (fun b o _ _ hb e _=>⟨o.slots,B2 b o hb e⟩) (fun b o hb e n=>?_) (fun b o hb e=>⟨o,B2 b o hb e⟩)
    (fun b ws e=>by rw [ji (neT b _ e)]; exact e) (fun b ob ws e=>by rw [ji (neT b _ e)]; exact e) (fun b ps e=>⟨#[],by rw [ji (neT b _ e),e]; simp⟩) (fun m hm=>?_) hok2 I.bare
   ·obtain ⟨f0,f1,f2,f3,f4,f5⟩:=hf b (inF b hb)
    exact ⟨f3,f1,f4,f5⟩
   ·rw [ji (Nat.ne_of_lt (Heap.lt_size e))]; exact n
   ·obtain ⟨o,es,ep,ho,r⟩:=hm
    refine ⟨o,es,ep,B2 _ o (fun hb=>?_) ho,r⟩
    exact (hf _ (inF _ hb)).2.1 rfl
  refine ⟨.ref s.heap.objs.size,_,I2,rfl,⟨_,x,y,rfl,nT,rfl,fun as bs g1 g2=>?_⟩,?_,fun b hb=>?_⟩
  ·rw [Sq.inj I g1 q1,Sq.inj I g2 q2]
   exact ⟨ex,ey⟩
  ·obtain ⟨_,hTI,⟨a,b,hTO⟩,g1,g2⟩:=S1
   simp only [List.nodup_cons,List.mem_cons,List.not_mem_nil,or_false,not_or] at nd ti
   obtain ⟨⟨n1,n2,n3⟩,_⟩:=nd
   exact ⟨z2',b2.extBut _ _ ti.1 hTI,⟨a,b,b2.extBut _ _ (Ne.symm n1) hTO⟩,g1.extBut b2.extBut (Ne.symm n2),g2.extBut b2.extBut (Ne.symm n3)⟩
  ·obtain ⟨o,ho,_⟩:∃ o,s.heap.get? b=some o/\True:=by
    obtain ⟨hz,hTI,⟨a,b',hTO⟩,g1,g2⟩:=st
    obtain ⟨o1,v1,e1,d1⟩:=g1.obj
    obtain ⟨o2,v2,e2,d2⟩:=g2.obj
    simp only [List.mem_cons,List.not_mem_nil,or_false] at hb
    rcases hb with rfl | rfl | rfl | rfl | rfl
    ·exact ⟨_,hz,trivial⟩
    ·exact ⟨_,hTI,trivial⟩
    ·exact ⟨_,hTO,trivial⟩
    ·exact ⟨_,e1,trivial⟩
    ·exact ⟨_,e2,trivial⟩
   rw [ji (Nat.ne_of_lt (Heap.lt_size ho))]
   exact (hf b hb).1
 done:=by
  intro X hP hw hK hc i Kp s σ H E I hf st hg
  subst hP hw hK
  obtain ⟨xs,ys,q1,q2,hl⟩:=hg
  obtain ⟨us1,r1,p1⟩:=q1.inv I
  obtain ⟨us2,r2,p2⟩:=q2.inv I
  have trk:∀ {g:Bool} {t:Addr} {ws:List V},Sq g X.K H t ws->t ∉ [z,TO,i1,i2]:=fun {g t ws} hq hb=>by
   have hb':t ∈ [z,TI,TO,i1,i2]:=by
    simp only [List.mem_cons,List.not_mem_nil,or_false] at hb ⊢
    rcases hb with e | e | e | e <;> simp [e]
   rcases hq.at with ⟨u,e⟩ | ⟨o,hk⟩
   ·have:=(hf t hb').1; rw [e] at this; cases this
   ·obtain ⟨f0,f1,f2,f3,f4,f5⟩:=hf t hb'
    have hbase:=I.mod.kin t o hk
    rcases f3 with q | q
    ·exact I.ok.noex t o hbase q
    ·exact absurd (Nat.lt_of_lt_of_le (Heap.lt_size hbase) (Nat.le_trans I.ok.bsz q)) (Nat.lt_irrefl _)
  have D:Apart2 z TI TO i1 i2 t1 t2:=⟨nd,ti,trk q1,trk q2⟩
  have hT:s.TypeIs (.ref z) "zip":=⟨_,st.hz,rfl⟩
  have hlen:=r1.length
  have hlen2:=r2.length
  unfold pyNext
  refine wpAny_bind (wpAny_attempt (wpAny_callSpecial?_slot (name:=Str.ofString "__next__") hT F.slot_zip_next
   (wpAny_call_entry F.slot_zip_next hT F.entry_zip_next (ahv (I.ok.hd hc) D st p1 p2 (hl.imp (fun h=>by simp; omega) fun h=>by simp; omega) fun h1 e B1 he=>?_)
    (F.args_zip_next_1 _))))
  obtain ⟨o,ho,hcl⟩:=he
  refine wpAny_bind (wpAny_isInstance (T:="StopIteration") (b:=true) ⟨o,ho,hcl⟩ isSubtype_stop ?_)
  refine wpAny_pure ⟨rfl,?_⟩
  have inF:∀ b ∈ [z,TO,i1,i2],b ∈ [z,TI,TO,i1,i2]:=fun b hb=>by
   simp only [List.mem_cons,List.not_mem_nil,or_false] at hb ⊢
   rcases hb with e | e | e | e <;> simp [e]
  have ntr:∀ b u,H b=some u->b ∉ [z,TO,i1,i2]:=fun b u e hb=>by
   have:=(hf b (inF b hb)).1
   rw [e] at this; cases this
  refine I.step (t':=s.toks) (g':=s.gens) (d':=s.drawn) (ch:=[z,TO,i1,i2]) (fun b hb=>?_) (fun b o _ _ hb e _=>B1 b o hb e) (fun b o _ _ hb e _=>⟨o.slots,B1 b o hb e⟩) (fun b o hb e n=>n) (fun b o hb e=>⟨o,B1 b o hb e⟩)
   (fun b ws e=>e) (fun b ob ws e=>e) (fun b ps e=>⟨#[],by rw [e]; simp⟩) (fun m hm=>?_) (fun b u e=>?_) I.bare
  ·obtain ⟨f0,f1,f2,f3,f4,f5⟩:=hf b (inF b hb)
   exact ⟨f3,f1,f4,f5⟩
  ·obtain ⟨o,es,ep,ho,r⟩:=hm
   refine ⟨o,es,ep,B1 _ o (fun hb=>?_) ho,r⟩
   exact (hf _ (inF _ hb)).2.1 rfl
  ·refine (I.hok b u e).stay (fun c o hc' q=>B1 c o ?_ q) (fun c q=>q) fun c ws q=>q
   rcases hc' with q' | q'
   ·rw [q']; exact ntr b u e
   ·exact ntr c _ q'
 self:=fun _ _ _ _ _ st h=>wpAny_pyIter_zip st.hz h
theorem abc (a b:Value):checkTypeCall "zip" ⟨[a,b],[]⟩=pure ():=by kernel_rfl
theorem acr (a b:Value):checkBuiltinCall "zip.__new__" ⟨[.type "zip",a,b],[]⟩=pure ():=by kernel_rfl
theorem aeg (a b c:Value):argsOk "object.__init__" ⟨[a,b,c],[]⟩:=by
 unfold argsOk
 rw [signature?_of (id:="object.__init__") (n:=['_','_','t','i','n','i','_','_'])
  (o:=['t','c','e','j','b','o']) (by kernel_rfl) F.owner_object]
 kernel_rfl
noncomputable def itO (g:Bool) (t:Addr):Obj:=match g with
 | true=>{ cls:= .type "list_iterator",data:= .fields #[.ref t,.int 0 0] }
 | false=>{ cls:= .type "tuple_iterator",data:= .fields #[.ref t,.int 0 0] }
theorem ae4 {g:Bool}{prog:Program}{w:World}{A:Around}{E:Value->SP0}{s:Shared}{l:Addr}{items:Array Value}{Q:Value->SP0} (h:SrA g s.heap l items)
  (q:Q (.ref s.heap.objs.size) { s with heap:=s.heap.push (itO g l) }):wpAny (model prog w) A (pyIter (.ref l)) Q E s:=by
 cases g with
 | true=>exact wpAny_pyIter_list h q
 | false=>exact wpAny_pyIter_tuple h q
theorem adg (g:Bool) (t:Addr):(itO g t).isFreed=false:=by cases g <;> rfl
theorem ahw {g:Bool}{h:Heap}{i t:Addr} (e:h.get? i=some (itO g t)):ItA g h i t 0:=by
 cases g <;> exact ⟨_,e,rfl,rfl⟩
noncomputable abbrev qh1 (ga:Bool) (h:Heap) (a:Addr):Heap:=h.push (itO ga a)
noncomputable abbrev qh2 (ga gb:Bool) (h:Heap) (a b:Addr):Heap:=(qh1 ga h a).push (itO gb b)
noncomputable abbrev qh4 (ga gb:Bool) (h:Heap) (a b:Addr):Heap:=(qh2 ga gb h a b).push { cls:= .type "tuple",data:= .seq #[.ref h.objs.size,.ref (qh1 ga h a).objs.size] }
noncomputable abbrev qh5 (ga gb:Bool) (h:Heap) (a b:Addr):Heap:=(qh4 ga gb h a b).push { cls:= .type "tuple",data:= .seq #[.none,.none] }
noncomputable abbrev qh6 (ga gb:Bool) (h:Heap) (a b:Addr):Heap:=(qh5 ga gb h a b).push { cls:= .type "zip",data:= .fields #[.none,.bool false,.bool false,.ref (qh2 ga gb h a b).objs.size,.ref (qh4 ga gb h a b).objs.size] }
theorem ahx (ga gb:Bool) (a b:Addr) (xs ys:Array Value):
  Meets (Builtin.«zip.__new__» ⟨[.type "zip",.ref a,.ref b],[]⟩) (fun _ R s=>SrA ga s.heap a xs/\SrA gb s.heap b ys/\
   R (.ok (.ret (.ref (qh5 ga gb s.heap a b).objs.size))) { s with heap:=qh6 ga gb s.heap a b }):=
 .of_wp fun prog w A R s h=>by
  obtain ⟨hp,g,d,tk,os⟩:=s
  obtain ⟨h1,h2,h⟩:=h
  have hsub:=sub_zip
  have k1:SrA ga (Shared.heap ⟨hp,g,d,tk,os⟩) a xs:=h1
  have k2:SrA gb (Shared.heap ⟨qh1 ga hp a,g,d,tk,os⟩) b ys:=h2.to fun o e=>Heap.get?_push_of_some _ e
  wp_walk using ae4 k1,ae4 k2
  exact ⟨_,rfl,h⟩
section
variable {X:Cx}
noncomputable def amx (K:Fg) (ta:TA):TI:=fun σ H R=>ta σ H fun vs H1=>∃ ga gb a b xs ys,vs=[.ref a,.ref b]/\Sq ga K H1 a xs/\Sq gb K H1 b ys/\R (Itq K ga gb a b) H1
theorem ajl {ea eb:Expr}{elts:List Expr}{x1:Nat}{tp:Pos}{ta:TA}{p pos:Pos} (hg:Gl X "zip") (hm:X.mg "zip"=none) (ha:PA X [ea,eb] ta)
  (hs:starEach [ea,eb] X.env=[(false,eval ea X.env),(false,eval eb X.env)]:=by rfl) (hs2:starEach [eb] X.env=[(false,eval eb X.env)]:=by rfl):
  PI X (.Tuple elts x1 tp) (.Call (.Name "zip" p) [ea,eb] [] pos) (amx X.K ta):=by
 intro Kp s σ H R I h
 refine Call_ (QF I hg hm boot_zip (PyProof.Rows.callWith_type1 (thn (ha pos Kp s σ H _ I h) fun us s1 ⟨vs,H1,I1,r1,q1⟩=>?_) (by rw [hs,hs2]) (by rw [hs2]; rfl)))
 obtain ⟨ga,gb,a,b,xs,ys,e,q1,q2,q⟩:=q1
 subst e
 cases r1 with
 | cons r1 rr=>
  cases rr with
  | cons r2 rr=>
   cases rr
   cases r1; cases r2
   obtain ⟨us1,v1,p1⟩:=q1.inv I1
   obtain ⟨us2,v2,p2⟩:=q2.inv I1
   refine callType_new F.called_zip (by decide) (abc _ _) (acr _ _) (fun obj=>aeg obj _ _) F.entry_zip_new
    (ahx ga gb a b us1.toArray us2.toArray) ⟨p1,p2,?_⟩
   have n1:(qh1 ga s1.heap a).objs.size=s1.heap.objs.size+1:=Heap.size_push ..
   have n2:(qh2 ga gb s1.heap a b).objs.size=s1.heap.objs.size+2:=by rw [Heap.size_push,n1]
   have n4:(qh4 ga gb s1.heap a b).objs.size=s1.heap.objs.size+3:=by rw [Heap.size_push,n2]
   have n5:(qh5 ga gb s1.heap a b).objs.size=s1.heap.objs.size+4:=by rw [Heap.size_push,n4]
   have g6:(qh6 ga gb s1.heap a b).get? (qh5 ga gb s1.heap a b).objs.size=some _:=Heap.get?_push_size _ rfl
   have g5:(qh6 ga gb s1.heap a b).get? (qh4 ga gb s1.heap a b).objs.size=some _:=Heap.get?_push_of_some _ (Heap.get?_push_size _ rfl)
   have g4:(qh6 ga gb s1.heap a b).get? (qh2 ga gb s1.heap a b).objs.size=some _:=Heap.get?_push_of_some _ (Heap.get?_push_of_some _ (Heap.get?_push_size _ rfl))
   have up3:∀ x o,(qh2 ga gb s1.heap a b).get? x=some o->(qh6 ga gb s1.heap a b).get? x=some o:=fun x o e=>Heap.get?_push_of_some _ (Heap.get?_push_of_some _ (Heap.get?_push_of_some _ e))
   have g2:(qh6 ga gb s1.heap a b).get? (qh1 ga s1.heap a).objs.size=some _:=up3 _ _ (Heap.get?_push_size _ (adg gb b))
   have g1:(qh6 ga gb s1.heap a b).get? s1.heap.objs.size=some _:=up3 _ _ (Heap.get?_push_of_some _ (Heap.get?_push_size _ (adg ga a)))
   have kp:∀ x o,s1.heap.get? x=some o->(qh6 ga gb s1.heap a b).get? x=some o:=fun x o e=>up3 _ _ (Heap.get?_push_of_some _ (Heap.get?_push_of_some _ e))
   show _/\_
   refine ⟨⟨_,g6,rfl⟩,?_⟩
   refine wpAny_pyIter_zip g6 ?_
   have I2:Inv X Kp σ H1 { s1 with heap:=qh6 ga gb s1.heap a b }:=I1.kept (t':=s1.toks) kp
   refine ⟨_,[(qh5 ga gb s1.heap a b).objs.size,(qh2 ga gb s1.heap a b).objs.size,(qh4 ga gb s1.heap a b).objs.size,s1.heap.objs.size,(qh1 ga s1.heap a).objs.size],
    _,_,H1,rfl,I2,af1 (z:=(qh5 ga gb s1.heap a b).objs.size) (TI:=(qh2 ga gb s1.heap a b).objs.size) (TO:=(qh4 ga gb s1.heap a b).objs.size) (i1:=s1.heap.objs.size) (i2:=(qh1 ga s1.heap a).objs.size) (t1:=a) (t2:=b) ?_ ?_,
    ⟨g6,g4,⟨_,_,g5⟩,ahw g1,ahw g2⟩,fun x hx=>?_,q⟩
   ·rw [n5,n4,n1]
    simp [List.nodup_cons]
   ·rw [n2,n5,n4,n1]
    simp
   ·have hle:s1.heap.objs.size<=x:=by
     rw [n5,n2,n4,n1] at hx
     simp only [List.mem_cons,List.not_mem_nil,or_false] at hx
     rcases hx with e | e | e | e | e <;> rw [e] <;> first | exact Nat.le_refl _ | exact Nat.le_add_right _ _
    exact I1.fpOk hle (I1.hok.fresh hle)
noncomputable def adh:PyData->Option (LP)
 | .tuple xs=>some xs
 | .list xs=>some xs
 | _=>none
noncomputable def Qc:LP->LP->LP
 | x::xs,y::ys=> .tuple [x,y]::Qc xs ys
 | _,_=>[]
noncomputable def aaB (ds:LP):Option (LP):=match ds with
 | [p,q]=>(adh p).bind fun xs=>(adh q).bind fun ys=>some (Qc xs ys)
 | _=>none
theorem abD:∀ (xs ys:LP),(Qc xs ys).length=min xs.length ys.length
 | [],_=>by simp [Qc]
 | x::xs,[]=>by simp [Qc]
 | x::xs,y::ys=>by simp [Qc,abD xs ys,Nat.succ_min_succ]
theorem abE:∀ (xs ys:LP) (i:Nat) (d:PyData),(Qc xs ys)[i]?=some d->∃ x y,xs[i]?=some x/\ys[i]?=some y/\d= .tuple [x,y]
 | [],_,i,d,h=>by simp [Qc] at h
 | x::xs,[],i,d,h=>by simp [Qc] at h
 | x::xs,y::ys,0,d,h=>by simp [Qc] at h; exact ⟨x,y,rfl,rfl,h.symm⟩
 | x::xs,y::ys,i+1,d,h=>by
  obtain ⟨a,b,e1,e2,e4⟩:=abE xs ys i d (by simpa [Qc] using h)
  exact ⟨a,b,by simpa using e1,by simpa using e2,e4⟩
theorem adi {K:Fg}{H:Hp}{d:PyData}{v:V}{xs:LP} (h:adh d=some xs) (r:Rep K H d v):∃ g a us,v= .ref a/\Sq g K H a us/\Reps K H xs us:=by
 cases d with
 | tuple ds=>cases h; obtain ⟨a,us,e,q,r⟩:=r; exact ⟨false,a,us,e,q,r⟩
 | list ds=>cases h; obtain ⟨a,us,e,q,r⟩:=r; exact ⟨true,a,us,e,SqL.of q,r⟩
 | _=>cases h
theorem ahy {ea eb:Expr}{elts:List Expr}{x1:Nat}{tp:Pos}{p pos:Pos}{fr:Rho->Option (LP)} (hm:X.mg "zip"=none) (ha:PAD X [ea,eb] fr) (hg:Gl X "zip":=by rfl)
  (hs:starEach [ea,eb] X.env=[(false,eval ea X.env),(false,eval eb X.env)]:=by rfl) (hs2:starEach [eb] X.env=[(false,eval eb X.env)]:=by rfl):
  PID X (.Tuple elts x1 tp) (.Call (.Name "zip" p) [ea,eb] [] pos) (fun ρ=>(fr ρ).bind aaB):=by
 with_unfolding_all
  refine PI.imp (ajl hg hm ha hs hs2) fun σ H R ⟨ρ,ds,en,q,k⟩=>?_
  cases h1:fr ρ with
  | none=>simp [h1] at q
  | some as=>
   have q':aaB as=some ds:=by simpa [h1] using q
   refine ⟨ρ,as,en,h1,fun vs H1 s1 r1=>?_⟩
   unfold aaB at q'
   split at q'
   ·rename_i dp dq
    cases hp:adh dp with
    | none=>simp [hp] at q'
    | some xs=>
     cases hq:adh dq with
     | none=>simp [hp,hq] at q'
     | some ys=>
      simp only [hp,hq,zzD,Option.some.injEq] at q'
      subst q'
      obtain ⟨v1,w1,e1,rp,v2,w2,e2,rq,e4⟩:=r1
      cases (show w2=[] from e4)
      obtain ⟨ga,a,us1,ea',qa,ra⟩:=adi hp rp
      obtain ⟨gb,b,us2,eb',qb,rb⟩:=adi hq rq
      subst ea'; subst eb'; subst e2
      have l1:=ra.length
      have l2:=rb.length
      have lz:=abD xs ys
      refine ⟨ga,gb,a,b,us1,us2,e1,qa,qb,k _ H1 s1 fun i H2 s2=>⟨fun hi=>?_,fun hi=>?_,fun u H3 y=>?_⟩⟩
      ·rw [lz] at hi
       exact ⟨us1,us2,us1[i]'(by omega),us2[i]'(by omega),qa.monoA s2,qb.monoA s2,by simp <;> omega,by simp <;> omega⟩
      ·rw [lz] at hi
       exact ⟨us1,us2,qa.monoA s2,qb.monoA s2,by omega⟩
      ·obtain ⟨pp,x,y,e5,e6,e7,e8⟩:=y
       subst e5; subst e7
       refine ⟨jB e6,fun d hd=>?_⟩
       obtain ⟨dx,dy,g1,g2,g4⟩:=abE xs ys i d hd
       subst g4
       obtain ⟨f1,f2⟩:=e8 us1 us2 (qa.monoA s2) (qb.monoA s2)
       have m:=s2.trans (jm.a (jB (o:= .tup [x,y]) e6))
       obtain ⟨x',a1,a2⟩:=(Reps.monoA m _ _ ra).get g1
       obtain ⟨y',b1,b2⟩:=(Reps.monoA m _ _ rb).get g2
       rw [f1] at a1; cases a1
       rw [f2] at b1; cases b1
       exact ⟨pp,[x,y],rfl,SqT.of jt,x,_,rfl,a2,y,_,rfl,b2,rfl⟩
   ·cases q'
end
section
variable {X:Cx}{e a b c:Expr}{fa fb fc:RP}{pos p2:Pos}
noncomputable def ahz (p:PyData) (lo hi:Option Int):OP:=match p with
 | .list ds=>some (.list (QJ ds lo hi))
 | _=>none
theorem Qp:∀ {is:List Int}{us:List Value},jG (is.map V.int) us->∀ (j:Nat) (i:Int),is[j]?=some i->∃ t,us[j]?=some (.int i t)
 | [],us,r,j,i,h=>by simp at h
 | i0::is,u::us,.cons r rr,j,i,h=>by
  cases j with
  | zero=>cases h; obtain ⟨t,rfl⟩:=r; exact ⟨t,rfl⟩
  | succ j=>exact Qp rr j i (by simpa using h)
end
structure OneCell (sc:Scope) (y0:Str) (pre post:List (Str × NameKind)):Prop where
 split:sc.names=pre++(y0,.cell)::post
 pre:∀ x ∈ pre,x.2 ≠ .cell
 post:∀ x ∈ post,x.2 ≠ .cell
structure CompOk1 (X:Cx) (sc:Scope) (N':List Str) (cap:List (Option Nat)) (y0:Str):Prop where
 fr:∀ x ∈ sc.names,x.2= .free->X.env.kindOf x.1=some .cell ∨ X.env.kindOf x.1=some .free
 one:∃ pre post,OneCell sc y0 pre post
 lk:sc.names.lookup y0=some .cell
 kind:sc.kind= .function
 nm:∀ x ∈ sc.names,x.2= .local->sc.names.lookup x.1=some .local
 len:cap.length=N'.length
 cp:∀ (j i:Nat) (x:Str),N'[j]?=some x->cap[j]?=some (some i)->X.N[i]?=some x/\sc.names.lookup x=some .free
section
variable {X:Cx}{e:Expr}{fa:RP}
end
theorem ae5 {X : Cx} {i0 : Nat} {x0 : Str} {pos0 pos1 : Pos} {el tg src : Expr} {ts : List Expr} {sc : Scope} {ps : Pos} {wi : TI} {g : TG} {tt : TT} {te : TE} {N' : List Str} {cap : List (Option Nat)} (hc : X.calm = true) (hi : PI X tg src wi) (ok : CompOk X sc N' cap)
    (body : ∀ cl C s0 H0 fp pn, PG (blk X N' sc cl C s0 H0 fp pn) tg g /\ PTs (blk X N' sc cl C s0 H0 fp pn) ts tt /\ PE (blk X N' sc cl C s0 H0 fp pn) el te)
    (hN : X.N.Nodup) (hi0 : X.N[i0]? = some x0) (hx0 : Loc X.env.scope x0) (hsw : swapsWith (.ListComp el [⟨tg, src, ts, 0⟩] sc ps) (some (.Name x0 pos0)) pos1.line X.env = pure true)
    (hf0 : X.fn x0 = true ∨ X.env.scope.names.lookup x0 = some .local)
    (hs : ∀ x, foldedSetIterable src X.env x = pure x := by intro _; rfl) : PS X (.Assign [.Name x0 pos0] (.ListComp el [⟨tg, src, ts, 0⟩] sc ps) pos1) (akC (ag1 wi cap g tt te) (agM i0)) := by
  intro Kp s σ H Dn I h
  have hfr : ∀ x ∈ sc.names, x.2 = .free -> ∃ c, X.env.cells.lookup x.1 = some c := fun x hx e => I.ok.has x.1 (ok.fr x hx e)
  have hcl := aeV sc X.env hfr
  have clm : ∀ x c, (J0 X.env sc.names []).lookup x = some c -> X.env.cells.lookup x = some c := fun x c e =>
    Zr X.env sc.names [] hfr (fun _ z => nomatch z) (x, c) (PySem.mem_of_lookup e)
  generalize hgl : J0 X.env sc.names [] = cl at hcl clm
  rw [exec_Assign_Name_used _ _ _ _ hsw]
  refine wpAny_bind (wpAny_standAt (wpAny_bind ?_))
  show wpAny _ X.A (do let _ ← comprehension (.ListComp el [⟨tg, src, ts, 0⟩] sc ps) sc X.env _ (newList []) false (eval src X.env) (some (assign (.Name x0 pos0) X.env))) _ _ s
  refine wpAny_bind (wpAny_mono (wpAny_comprehension_free (use := some (assign (.Name x0 pos0) X.env)) (Q := fun _ s' => SP X Kp Dn .next s') rfl hs hcl ok.kind ok.nm ?_) (fun _ s' hq => wpAny_pure (wpAny_pure hq)) fun _ _ e => e)
  refine thn (hi Kp s σ H _ I h) fun v s1 h1 => thn h1 fun itv s2 h2 => ?_
  obtain ⟨it, fp, tn, J, H2, e, I2, T, st2, f2, W, ⟨m0, w0⟩, turn⟩ := h2
  subst e
  refine wpAny_newObj_type (wpAny_newFunctionEnv ok.nc (by intro y hy; simp at hy) (fun h4 hns hsb => ?_) ok.kind)
  dsimp only at hns hsb ⊢
  generalize hH3 : s2.heap.push { cls := .type "list", dict := none, data := .seq ([] : List Value).toArray } = h3 at hns hsb ⊢
  have hC : h3.objs.size = s2.heap.objs.size + 1 := by rw [← hH3, Heap.size_push]
  generalize hCC : h3.objs.size = C at hns hsb hC ⊢
  generalize hDD : s2.heap.objs.size = D at hC ⊢
  have hDC : D ≠ C := by rw [hC]; exact Nat.ne_of_lt (Nat.lt_succ_self _)
  have old : ∀ b o, s2.heap.get? b = some o -> h4.get? b = some o := fun b o e => hsb.extBut b o (by have := Heap.lt_size e; rw [hDD] at this; rw [hC]; exact Nat.ne_of_lt (Nat.lt_succ_of_lt this)) (Heap.get?_push_of_some _ (hH3 ▸ Heap.get?_push_of_some _ e))
  have accO : h4.get? D = some { cls := .type "list", data := .seq ([] : List Value).toArray 0 } := hsb.extBut _ _ hDC (Heap.get?_push_of_some _ (by rw [← hH3, ← hDD]; exact Heap.get?_push_size _ rfl))
  have H2D : H2 D = none := I2.hok.fresh (by rw [hDD]; exact Nat.le_refl _)
  have H2C : H2 C = none := I2.hok.fresh (by rw [hDD, hC]; exact Nat.le_succ _)
  have cellsLt : ∀ x c, X.env.cells.lookup x = some c -> c<D := fun x c e => by
    obtain ⟨v, q⟩ := I2.cell x c e
    rw [← hDD]; exact q.lt
  have pinLt : ∀ p ∈ X.pn ++ Kp, p.1<D := fun p hp => by rw [← hDD]; exact Heap.lt_size (I2.pin p hp).1
  have stkLt : ∀ b ∈ frs X.stack, b<D := fun b hb => by
    obtain ⟨_, o, ho, _⟩ := I2.stack.mem hb
    rw [← hDD]; exact Heap.lt_size ho
  have fpLt : ∀ b ∈ fp, b<D := fun b hb => by
    obtain ⟨o, ho, _⟩ := T.obj _ _ st2 b hb
    rw [← hDD]; exact Heap.lt_size ho
  have ltC : ∀ {b : Addr}, b<D -> b ≠ C := fun hb => by rw [hC]; exact Nat.ne_of_lt (Nat.lt_succ_of_lt hb)
  have locLt : X.env.locals<D := by rw [← hDD]; exact I2.lt
  have hDge : s2.heap.objs.size <= D := by rw [hDD]; exact Nat.le_refl _
  have hCge : s2.heap.objs.size <= C := by rw [hDD, hC]; exact Nat.le_succ _
  have bok : (blk X N' sc cl C s2 H2 fp (X.pn ++ Kp)).Ok := by
    refine ⟨I2.ok.mod, ok.kind, I2.ok.glob, I2.ok.blt, hCge, fun x y c e1 e2 => I2.ok.inj x y c (clm x c e1) (clm y c e2), fun x hx => ?_, fun x c z _ => ?_, I2.ok.hd, I2.ok.frames, .inl rfl, fun b hb => ?_, I2.bs, Nat.le_trans I2.ok.bsz I2.sz, fun b o e hb => ?_, fun b hb z => ?_, I2.stack, I2.stkFree⟩
    · have hx' : (relabel sc X.env).names.lookup x = some .cell ∨ (relabel sc X.env).names.lookup x = some .free := hx
      have hm : (x, NameKind.free) ∈ sc.names := by
        rcases hx' with z | z
        · exact Ja (PySem.mem_of_lookup z) ok.nc (.inl rfl)
        · exact Ja (PySem.mem_of_lookup z) ok.nc (.inr rfl)
      obtain ⟨c, hc⟩ := Ju X.env sc.names [] x hm
      rw [hgl] at hc
      exact qO hc
    · exact absurd (show false = true from z) Bool.false_ne_true
    · exact ⟨ltC (fpLt b hb), fun x c e => (f2 b hb).2.2.2.2.1 x c (clm x c e)⟩
    · rcases (f2 b hb).2.2.2.1 with z | z
      · exact I2.ok.noex b o e z
      · have := Heap.lt_size e
        exact absurd (Nat.lt_of_lt_of_le this (Nat.le_trans I2.ok.bsz z)) (Nat.lt_irrefl _)
    · rcases List.mem_cons.mp (I2.stkSub b z) with q | q
      · exact (f2 b hb).2.1 q
      · exact (f2 b hb).2.2.1 q
  have pinB : ∀ p ∈ X.pn ++ Kp, p.1 ≠ C /\ p.1 ∉ frs X.stack := fun p hp => ⟨ltC (pinLt p hp), fun z => by
    rcases List.mem_cons.mp (I2.stkSub p.1 z) with q | q
    · exact (I2.pin p hp).2.2.1 q
    · exact (I2.pin p hp).2.2.2.1 q⟩
  have I4 : Inv (blk X N' sc cl C s2 H2 fp (X.pn ++ Kp)) [] (ZZ cap σ) H2 { s2 with heap := h4, toks := s2.toks + ([] : List (Str × Value)).length } := by
    refine ⟨bok, rfl, I2.bare, Un.kept old, ⟨_, hns, fun j x v e1 e2 e3 => ?_⟩, fun x c e => ?_, H2C, fun x c e => I2.freeC x c (clm x c e), fun p hp => ?_, I2.hok.kept old, ?_⟩
    · unfold ZZ at e2
      rw [List.getElem?_map] at e2
      cases e4 : cap[j]? with
      | none => rw [e4] at e2; cases e2
      | some o =>
        rw [e4] at e2
        cases o with
        | none => cases e2
        | some i =>
          obtain ⟨hNi, hf⟩ := ok.cp j i x e1 e4
          have e5 : (σ[i]?).join = some v := by
            have := Option.some.inj e2
            simpa using this
          have e6 : σ[i]? = some (some v) := by
            cases e7 : σ[i]? with
            | none => rw [e7] at e5; cases e5
            | some z => rw [e7] at e5; cases z with
              | none => cases e5
              | some z => cases e5; rfl
          have hk := ok.fr (x, .free) (PySem.mem_of_lookup hf) rfl
          obtain ⟨m, hn, hl⟩ := I2.loc
          have hv : Vis X.env.scope x := by
            rcases hk with z | z
            · exact .inr (.inl z)
            · exact .inr (.inr z)
          obtain ⟨u, r, lk⟩ := hl i x v hNi e6 hv
          have cellX : ∃ c, X.env.cells.lookup x = some c /\ s2.heap.IsCell c (some u) := by
            rcases lk with ⟨k1, _⟩ | ⟨_, c, e, z⟩
            · rcases hk with z | z
              · have z' : X.env.kindOf x = some .cell := z
                rw [k1] at z'; cases z'
              · have z' : X.env.kindOf x = some .free := z
                rw [k1] at z'; cases z'
            · exact ⟨c, e, z⟩
          obtain ⟨c, hc1, ob, hc2, hc3⟩ := cellX
          obtain ⟨c', hc'⟩ := Ju X.env sc.names [] x (PySem.mem_of_lookup hf)
          rw [hgl] at hc'
          obtain ⟨d, hd⟩ := qO hc'
          have ed : d = c := by
            have := clm x d hd
            rw [hc1] at this; cases this; rfl
          subst ed
          refine ⟨u, r, .inr ⟨?_, d, hd, ob, old _ _ hc2, hc3⟩⟩
          exact JP hf
    · obtain ⟨v, ob, ho, hd⟩ := I2.cell x c (clm x c e)
      exact ⟨v, ob, old _ _ ho, hd⟩
    · have hp' : p ∈ X.pn ++ Kp := by simpa [blk] using hp
      obtain ⟨e1, e2, e3, e4, e5⟩ := I2.pin p hp'
      exact ⟨old _ _ e1, e2, (pinB p hp').1, (pinB p hp').2, e5⟩
    · show (ZZ cap σ).length = N'.length
      unfold ZZ
      rw [List.length_map]; exact ok.len
  have fpB : ∀ {H' : Hp} {pl : List (Addr × Obj)}, (∀ b ∈ fp, H' b = none) -> (∀ p ∈ pl, p.1 ∉ fp) -> ∀ b ∈ fp, acW (blk X N' sc cl C s2 H2 fp (X.pn ++ Kp)) pl H' b := fun {H' pl} hn hpl b hb =>
    ⟨hn b hb, ltC (fpLt b hb), bok.exfs b hb, .inl hb, fun x c e => (f2 b hb).2.2.2.2.1 x c (clm x c e), fun p hp z => by
      rcases List.mem_append.mp (show p ∈ (X.pn ++ Kp) ++ pl from hp) with q | q
      · exact (f2 b hb).2.2.2.2.2 p q z
      · exact hpl p q (by rw [z]; exact hb)⟩
  have Dfp : ∀ (o : Obj), ∀ p ∈ [(D, o)], p.1 ∉ fp := fun o p hp z => by
    have e : p = (D, o) := by simpa using hp
    subst e
    exact Nat.lt_irrefl _ (fpLt D z)
  have Dfs : D ∉ frs X.stack := fun z => Nat.lt_irrefl _ (stkLt D z)
  obtain ⟨bG, bT, bE⟩ := body cl C s2 H2 fp (X.pn ++ Kp)
  have loop : codeAny (model X.prog X.w) X.A (.compLoop (.ListComp el [⟨tg, src, ts, 0⟩] sc ps) 0 (.ref it) (.ref D) (compEnvC sc cl C X.env)) (compPost (model X.prog X.w) X.A X.xe (some (assign (.Name x0 pos0) X.env)) (fun _ s' => SP X Kp Dn .next s') (.ref D) C)
      { s2 with heap := h4, toks := s2.toks + ([] : List (Str × Value)).length } := by
    refine abv (fun n s' => ∃ i τ ys us k H', Inv (blk X N' sc cl C s2 H2 fp (X.pn ++ Kp)) [] τ H' s' /\ tn i s'.heap /\ (∀ b ∈ fp, H' b = none) /\ jG ys us /\ s'.heap.get? D = some { cls := .type "list", data := .seq us.toArray k } /\ H' D = none /\ W i n τ ys H') ?_ m0
      ⟨0, _, [], [], 0, H2, I4, T.keep _ _ _ st2 (fun b _ o e => old b o e), fun b hb => (f2 b hb).1, .nil, accO, H2D, w0⟩
    rintro n s5 ⟨i, τ, ys, us, k, H5, I5, st5, fr5, rv5, ho5, hD5, w5⟩
    obtain ⟨hsz, alt⟩ := turn i n τ ys H5 w5
    have I5p : Inv (blk X N' sc cl C s2 H2 fp (X.pn ++ Kp)) [(D, { cls := .type "list", data := .seq us.toArray k })] τ H5 s5 := I5.pins_of fun p hp => by
      have e : p = (D, { cls := .type "list", data := .seq us.toArray k }) := by simpa using hp
      subst e
      exact ⟨ho5, hD5, hDC, Dfs, fun v z => by cases z⟩
    rcases alt with ⟨stop, fin⟩ | ⟨go, step⟩
    · refine thn (T.done (blk X N' sc cl C s2 H2 fp (X.pn ++ Kp)) rfl rfl rfl hc i _ s5 τ H5 NoX I5p (fpB fr5 (Dfp _)) st5 stop) fun r s6 ⟨hr, I6⟩ => ?_
      subst hr
      have ho6 := (I6.pin (D, _) (List.mem_append_right _ (List.mem_singleton.mpr rfl))).1
      obtain ⟨m6, hn6, _⟩ := I6.loc
      have J6 : Inv X Kp σ H5 s6 := I2.call' (ch := fp) I6.os I6.base I6.hok I6.bare fun b hb => ⟨(f2 b hb).2.2.2.1, (f2 b hb).2.1, (f2 b hb).2.2.2.2.1, (f2 b hb).2.2.2.2.2⟩
      have H5C : H5 C = none := I6.free
      have J7 : Inv X Kp σ (upd H5 D (.lst ys)) s6 := Inv.track J6 hD5 (Nat.le_trans I2.sz hDge) (Ne.symm (Nat.ne_of_lt locLt)) (fun x c e => Nat.ne_of_lt (cellsLt x c e)) (fun p hp => Nat.ne_of_lt (pinLt p hp)) ⟨Nat.le_of_lt hsz, us, k, rv5, ho6⟩
      refine wpAny_assign_Name (abm J7 hN hi0 hx0 (show jQ (.ref D) (.ref D) from rfl) (fun s8 I8 ⟨a, sb, ha⟩ => ?_) hf0)
      have aC : C ≠ a := by
        rcases ha with z | z
        · rw [z]; exact Ne.symm (ltC locLt)
        · exact Ne.symm (ltC (cellsLt _ _ z))
      refine ⟨m6, hn6.sameBut sb aC, fun h7 hs7 => ?_⟩
      have J8 : Inv X Kp (σ.set i0 (some (.ref D))) (upd H5 D (.lst ys)) { s8 with heap := h7, toks := s8.toks } := I8.turned (it := C) (fun b o hb e => hs7.extBut b o hb e) (by rw [ji (Ne.symm hDC)]; exact H5C) (Ne.symm (ltC locLt)) (.inr (Nat.le_trans I2.sz hCge)) (fun x c e => ltC (cellsLt x c e)) (fun p hp => ltC (pinLt p hp))
      exact ⟨_, _, J8, fin D hD5⟩
    · refine thn (T.item (blk X N' sc cl C s2 H2 fp (X.pn ++ Kp)) rfl rfl rfl hc i _ s5 τ H5 NoX I5p (fpB fr5 (Dfp _)) st5 go) fun r s6 ⟨u, hr, h6⟩ => ?_
      subst hr
      refine thn h6 fun _ s7 ⟨x, H7, I7, r7, y7, st7, fr7⟩ => ?_
      have I7p := I7.pinned (fpB fr7 (Dfp _)) (T.obj _ _ st7)
      refine thn (bG _ s7 τ H7 x u _ I7p r7 (step x H7 y7)) fun _ s8 ⟨τ8, H8, I8, q8⟩ => ?_
      have back : ∀ {τ9 : St} {H9 : Hp} {s9 : Shared}, Inv (blk X N' sc cl C s2 H2 fp (X.pn ++ Kp)) ([(D, { cls := .type "list", data := .seq us.toArray k })] ++ Zq fp s7.heap) τ9 H9 s9 ->
          tn (i + 1) s9.heap /\ (∀ b ∈ fp, H9 b = none) /\ s9.heap.get? D = some { cls := .type "list", data := .seq us.toArray k } /\ H9 D = none := fun {τ9 H9 s9} I9 => by
        have pD := I9.pin (D, { cls := .type "list", data := .seq us.toArray k }) (List.mem_append_right _ (List.mem_append_left _ (List.mem_singleton.mpr rfl)))
        refine ⟨T.keep _ _ _ st7 fun b hb o e => (I9.pin (b, o) (List.mem_append_right _ (List.mem_append_right _ (zk hb e)))).1, fun b hb => ?_, pD.1, pD.2.1⟩
        obtain ⟨o, e, _⟩ := T.obj _ _ st7 b hb
        exact (I9.pin (b, o) (List.mem_append_right _ (List.mem_append_right _ (zk hb e)))).2.1
      have drop : ∀ {τ9 : St} {H9 : Hp} {s9 : Shared} {pl : List (Addr × Obj)}, Inv (blk X N' sc cl C s2 H2 fp (X.pn ++ Kp)) pl τ9 H9 s9 -> Inv (blk X N' sc cl C s2 H2 fp (X.pn ++ Kp)) [] τ9 H9 s9 := fun I9 => I9.pins_of fun p hp => nomatch hp
      refine thn (bT _ s8 τ8 H8 _ I8 q8) fun b s9 ⟨H9, I9, q9⟩ => ?_
      cases b with
      | false =>
        rw [if_neg Bool.false_ne_true] at q9 ⊢
        obtain ⟨m', hm, w9⟩ := q9
        obtain ⟨t9, f9, o9, d9⟩ := back I9
        exact ⟨m', hm, i + 1, τ8, ys, us, k, H9, drop I9, t9, f9, rv5, o9, d9, w9⟩
      | true =>
        rw [if_pos rfl] at q9 ⊢
        refine thn (bE _ s9 τ8 H9 _ I9 q9) fun y s10 ⟨z, H10, I10, r10, q10⟩ => ?_
        obtain ⟨m', hm, w10⟩ := q10
        obtain ⟨t10, f10, o10, d10⟩ := back I10
        have hl := rv5.length
        refine append_at (hsz := by show us.toArray.size <= sizeLine; rw [List.size_toArray, ← hl]; exact Nat.le_of_lt hsz) o10 fun h11 hs11 hD11 => ?_
        have I11 : Inv (blk X N' sc cl C s2 H2 fp (X.pn ++ Kp)) [] τ8 H10 { s10 with heap := h11, toks := s10.toks } := (drop I10).turned (it := D) (fun b o hb e => hs11.extBut b o hb e) d10 hDC (.inr hDge) (fun x c e => Nat.ne_of_lt (cellsLt x c (clm x c e)))
          (fun p hp => by have hp' : p ∈ X.pn ++ Kp := by simpa [blk] using hp
                          exact Nat.ne_of_lt (pinLt p hp'))
        refine ⟨m', hm, i + 1, τ8, ys ++ [z], us ++ [y], k + 1, H10, I11, T.keep _ _ _ t10 (fun b hb o e => hs11.extBut b o (Nat.ne_of_lt (fpLt b hb)) e), f10, rv5.append (.cons r10 .nil), ?_, d10, w10⟩
        rw [hD11]
        simp
  refine codeAny_compStart_list loop ?_
  exact T.self _ 0 _ _ _ (T.keep _ _ _ st2 (fun b _ o e => old b o e)) loop
theorem adj {K:Fg}{fi:Rho->Option (LP)}{cap:List (Option Nat)}{ga:PyData->Rho->Option Rho}{ft:Rho->Option Bool}{fe:RP}{σ:St}{H:Hp}{Q:VK} (h:tD K (qQ fi cap ga ft fe) σ H Q):
  ag1 (tDI K fi) cap (tDG K ga) (tDT K ft) (tD K fe) σ H Q:=by
 obtain ⟨ρ,d,en,q,k⟩:=h
 cases h1:fi ρ with
 | none=>simp [qQ,h1] at q
 | some ds=>
  by_cases hf:few ds=true
  ·cases h2:jF ga ft fe ds (QH cap ρ) with
   | none=>simp [qQ,h1,hf,h2] at q
   | some ys=>
    have:PyData.list ys=d:=by simpa [qQ,h1,hf,h2] using q
    subst this
    refine ⟨ρ,ds,en,h1,fun J H1 s1 Y=>?_⟩
    refine ⟨fun i m τ us H2=>m=ds.length - i/\i<=ds.length/\jm H1 H2/\us.length<=i/\∃ ρ2 zs ws,EnvR K H2 ρ2 τ/\Reps K H2 zs us/\jF ga ft fe (ds.drop i) ρ2=some ws/\ys=zs++ws,
     ⟨ds.length,by simp,Nat.zero_le _,jm.refl _,Nat.le_refl _,QH cap ρ,[],ys,(en.mono s1).cap cap,rfl,by simpa using h2,rfl⟩,?_⟩
    rintro i m τ us H2 ⟨rfl,hi',s2,hu,ρ2,zs,ws,en2,r2,q2,ey⟩
    have hsm:us.length<sizeLine:=Nat.lt_of_le_of_lt (Nat.le_trans hu hi') (Nat.lt_of_lt_of_le (by simpa [few] using hf) (by rw [sizeLine_eq]; decide:1000000<=sizeLine))
    obtain ⟨g1,g2,g3⟩:=Y i H2 (jm.a s2)
    refine ⟨hsm,?_⟩
    by_cases hlt:i<ds.length
    ·right
     have hd:ds.drop i=ds[i]::ds.drop (i+1):=List.drop_eq_getElem_cons hlt
     rw [hd] at q2
     refine ⟨g1 hlt,fun x H3 y=>?_⟩
     obtain ⟨s3,r3⟩:=g3 x H3 y
     have r3':=r3 ds[i] (by simp [hlt])
     cases h4:ga ds[i] ρ2 with
     | none=>simp [jF,h4] at q2
     | some ρ4=>
      refine ⟨ρ2,ds[i],ρ4,en2.mono s3,r3',h4,fun σ5 H5 s5 en5=>?_⟩
      cases h5:ft ρ4 with
      | none=>simp [jF,h4,h5] at q2
      | some b=>
       refine ⟨ρ4,b,en5,h5,fun H6 s6=>?_⟩
       have s26:=s3.trans (s5.trans s6)
       cases b with
       | false=>
        refine ami ?_
        exact ⟨ds.length - (i+1),by omega,rfl,hlt,s2.trans s26,by omega,ρ4,zs,ws,en5.mono s6,Reps.mono s26 _ _ r2,by simpa [jF,h4,h5] using q2,ey⟩
       | true=>
        refine amj ?_
        cases h6:fe ρ4 with
        | none=>simp [jF,h4,h5,h6] at q2
        | some y=>
         cases h7:jF ga ft fe (ds.drop (i+1)) ρ4 with
         | none=>simp [jF,h4,h5,h6,h7] at q2
         | some ws'=>
          have hw:y::ws'=ws:=by simpa [jF,h4,h5,h6,h7] using q2
          refine ⟨ρ4,y,en5.mono s6,h6,fun v H7 s7 r7=>?_⟩
          refine ⟨ds.length - (i+1),by omega,rfl,hlt,s2.trans (s26.trans s7),by rw [List.length_append]; simp; omega,ρ4,zs++[y],ws',(en5.mono s6).mono s7,(Reps.mono (s26.trans s7) _ _ r2).append ⟨v,[],rfl,r7,rfl⟩,h7,?_⟩
          rw [ey,←hw]; simp
    ·left
     have he:i=ds.length:=by omega
     have hn:ds.drop i=[]:=by rw [he]; simp
     rw [hn] at q2
     have hw:[]=ws:=by simpa [jF] using q2
     subst hw
     have ey':ys=zs:=by simpa using ey
     subst ey'
     exact ⟨g2 (by omega),fun l hl=>k _ _ (s1.trans (s2.trans (jB hl))) ⟨l,us,rfl,jt,Reps.mono (jB hl) _ _ r2⟩⟩
  ·simp [qQ,h1,hf] at q
section
variable {X:Cx}{tg src:Expr}{pos pos':Pos}
theorem adk (i:Nat) {x:Str}{el:Expr}{ts:List Expr}{sc:Scope}{ps:Pos}{fi:Rho->Option (LP)}{ga:PyData->Rho->Option Rho}{ft:Rho->Option Bool}{fe:RP} (N':List Str) (cap:List (Option Nat)) (hc:X.calm=true) (hN:X.N.Nodup) (hi:PID X tg src fi) (ok:CompOk X sc N' cap)
  (body:∀ cl C s0 H0 fp pn,PGD (blk X N' sc cl C s0 H0 fp pn) tg ga/\ag7 (blk X N' sc cl C s0 H0 fp pn) ts ft/\PD (blk X N' sc cl C s0 H0 fp pn) el fe)
  (hi0:X.N[i]?=some x:=by rfl) (hx:Loc X.env.scope x:=by first | exact Or.inl rfl | exact Or.inr rfl) (hsw:swapsWith (.ListComp el [⟨tg,src,ts,0⟩] sc ps) (some (.Name x pos')) pos.line X.env=pure true:=by rfl)
  (hf:X.fn x=true ∨ X.env.scope.names.lookup x=some .local:=by first | exact .inl rfl | exact .inr rfl | assumption)
  (hs:∀ x,foldedSetIterable src X.env x=pure x:=by intro _; rfl):PSD X (.Assign [.Name x pos'] (.ListComp el [⟨tg,src,ts,0⟩] sc ps) pos) (zl (qQ fi cap ga ft fe) (jP i)):=by
 with_unfolding_all
  refine PS.imp (ae5 (g:=tDG X.K ga) (tt:=tDT X.K ft) (te:=tD X.K fe) hc hi ok (fun cl C s0 H0 fp pn=>body cl C s0 H0 fp pn) hN hi0 hx hsw hf hs) fun D σ H ⟨ρ,o,en,q,k⟩=>adj ?_
  cases h1:qQ fi cap ga ft fe ρ with
  | none=>simp [zl,h1] at q
  | some d=>
   have:Out.nx (ρ.set i (some d))=o:=by simpa [zl,h1,jP] using q
   subst this
   exact ⟨ρ,d,en,h1,fun v H1 s1 r1=>k _ H1 s1 ((en.mono s1).set r1)⟩
end
structure Mine (X:Cx) (H:Hp) (b:Addr):Prop where
 un:H b=none
 new:X.s₀.heap.get? b=none
 loc:b ≠ X.env.locals
 cel:∀ x c,X.env.cells.lookup x=some c->c ≠ b
 pin:∀ p ∈ X.pn,p.1 ≠ b
structure Xc (X:Cx) (H:Hp) (h:Heap) (e C:Addr):Prop where
 mine:Mine X H e
 ob:∃ oe vs,h.get? e=some oe/\(oe.cls= .ref C/\oe.dict=none)/\oe.data= .fields vs/\1<vs.size/\
  (vs[1]?=some .none ∨ ∃ T oT ts,vs[1]?=some (.ref T)/\T ≠ e/\Mine X H T/\h.get? T=some oT/\oT.data= .fields ts/\3<ts.size)
theorem Inv.exIn {X:Cx}{Kp:List (Addr × Obj)}{σ:St}{H:Hp}{s:Shared}{ch:List Addr} (I:Inv X Kp σ H s) (hn:∀ b ∈ ch,X.s₀.heap.get? b=none/\b ≠ X.env.locals/\∀ x c,X.env.cells.lookup x=some c->c ≠ b):Inv { X with ex:=ch++X.ex } Kp σ H s:=by
 have no:∀ b,b ∉ ch++X.ex->b ∉ X.ex:=fun b h z=>h (List.mem_append_right _ z)
 refine ⟨⟨I.ok.mod,I.ok.kind,I.ok.glob,I.ok.blt,I.ok.above,I.ok.inj,I.ok.has,I.ok.cab,I.ok.hd,I.ok.frames,I.ok.stk,fun b hb=>?_,I.ok.bs,I.ok.bsz,fun b o e hb=>?_,fun b hb z=>?_,I.ok.funs,I.ok.frf⟩,I.os,I.bare,
  ⟨fun b o e n hf hx=>I.base.keep b o e n hf (no b hx),fun b o e n hf hx=>I.base.slot b o e n hf (no b hx),fun b o e n hx=>I.base.free b o e n (no b hx),fun b o e hx=>I.base.there b o e (no b hx),I.base.tups,I.base.frzs,I.base.tbls⟩,I.loc,I.cell,I.free,I.freeC,I.pin,I.hok,I.len⟩
 ·rcases List.mem_append.mp hb with q | q
  ·exact (hn b q).2
  ·exact I.ok.exf b q
 ·rcases List.mem_append.mp hb with q | q
  ·have:=(I.ok.bs b o e).1
   rw [(hn b q).1] at this; cases this
  ·exact I.ok.noex b o e q
 ·rcases List.mem_append.mp hb with q | q
  ·obtain ⟨_,o,ho,_⟩:=I.ok.funs.mem z
   rw [(hn b q).1] at ho; cases ho
  ·exact I.ok.exfs b q z
theorem Inv.exOut {X:Cx}{Kp:List (Addr × Obj)}{σ:St}{H:Hp}{s:Shared}{ch:List Addr} (I:Inv { X with ex:=ch++X.ex } Kp σ H s) (ok:X.Ok) (hn:∀ b ∈ ch,X.s₀.heap.get? b=none):Inv X Kp σ H s:=by
 have no:∀ b o,X.s₀.heap.get? b=some o->b ∉ X.ex->b ∉ ch++X.ex:=fun b o e h z=>by
  rcases List.mem_append.mp z with q | q
  ·rw [hn b q] at e; cases e
  ·exact h q
 exact ⟨ok,I.os,I.bare,⟨fun b o e n hf hx=>I.base.keep b o e n hf (no b o e hx),fun b o e n hf hx=>I.base.slot b o e n hf (no b o e hx),fun b o e n hx=>I.base.free b o e n (no b o e hx),fun b o e hx=>I.base.there b o e (no b o e hx),I.base.tups,I.base.frzs,I.base.tbls⟩,I.loc,I.cell,I.free,I.freeC,I.pin,I.hok,I.len⟩
section
variable {X:Cx}{σ:St}{H:Hp}{s:Shared}{h':Heap}{e C:Addr}{E:Value->SP0}{A:Around}
theorem Inv.shake {ch:List Addr} (I:Inv X [] σ H s) (hm:∀ b ∈ ch,Mine X H b) (keep:∀ b o,b ∉ frs X.stack->b ∉ ch->s.heap.get? b=some o->h'.get? b=some o)
  (slot:∀ b o,b ∈ frs X.stack->b ∉ ch->s.heap.get? b=some o->∃ sl,h'.get? b=some { o with slots:=sl }):Inv X [] σ H { s with heap:=h' }:=by
 have u:Un (frs X.stack) ch H H s.heap h':=⟨fun b o q _ nf nc=>keep b o nf nc q,fun b o q _ hf nc=>slot b o hf nc q,fun _ _ _ n _=>n,fun b o q nc=>by
  by_cases hf:b ∈ frs X.stack
  ·obtain ⟨sl,z⟩:=slot b o hf nc q; exact ⟨_,z⟩
  ·exact ⟨o,keep b o hf nc q⟩,fun _ _ q=>q,fun _ _ _ q=>q,fun _ ps q=>⟨#[],by rw [q]; simp⟩⟩
 have hok:HOk X.prog X.w H h':=fun b o q=>(I.hok b o q).stay (fun c v hc r=>by
  have hb:H c ≠ none:=by
   rcases hc with rfl | hc
   ·rw [q]; exact fun z=>nomatch z
   ·rw [hc]; exact fun z=>nomatch z
  exact keep c v (fun z=>hb (I.stkFree c z)) (fun z=>hb (hm c z).un) r) (fun _ r=>r) fun _ _ r=>r
 exact Inv.exOut (Inv.call (X:={ X with ex:=ch++X.ex }) (g':=s.gens) (d':=s.drawn) (t':=s.toks) (Inv.exIn I fun b hb=>⟨(hm b hb).new,(hm b hb).loc,(hm b hb).cel⟩) u hok I.bare fun b hb=>⟨.inl (List.mem_append_left _ hb),(hm b hb).loc,(hm b hb).cel,fun p hp=>(hm b hb).pin p (by simpa using hp)⟩) I.ok fun b hb=>(hm b hb).new
structure XcT (X:Cx) (H:Hp) (h:Heap) (e C:Addr):Prop where
 mine:Mine X H e
 ob:∃ oe vs T oT ts,h.get? e=some oe/\(oe.cls= .ref C/\oe.dict=none)/\oe.data= .fields vs/\vs[1]?=some (.ref T)/\T ≠ e/\Mine X H T/\h.get? T=some oT/\oT.data= .fields ts/\3<ts.size
theorem XcT.c {h:Heap} (x:XcT X H h e C):Xc X H h e C:=by
 obtain ⟨oe,vs,T,oT,ts,h1,h2,h3,h4,h5,h6,h7,h8,h9⟩:=x.ob
 exact ⟨x.mine,oe,vs,h1,h2,h3,(Array.getElem?_eq_some_iff.mp h4).1,.inr ⟨T,oT,ts,h4,h5,h6,h7,h8,h9⟩⟩
structure Top0 (X:Cx):Prop where
 st:X.stack=X.env::X.Ko
 fr:X.env.frame=some X.env.locals
 ex:X.ex=[]
theorem Mine.nofr {b:Addr} (m:Mine X H b) (I:Inv X [] σ H s):b ∉ frs X.stack:=fun z=>by
 rcases List.mem_cons.mp (I.stkSub b z) with q | q
 ·exact m.loc q
 ·obtain ⟨_,o,ho,_⟩:=I.ok.funs.mem q
  rw [m.new] at ho; cases ho
theorem ajm {P:Program}{w:World}{h:Heap}{b:Addr}{u:HO} (hok:HOk P w H h) (hH:H b=some u) (hb:h.get? b=none):False:=by
 have x:=hok b u hH
 have no:∀ {o:Obj},h.get? b=some o->False:=fun {o} q=>by rw [hb] at q; cases q
 cases u with
 | lst xs=>obtain ⟨_,_,_,_,e⟩:=x; exact no e
 | tup xs=>obtain ⟨_,_,_,⟨_,e,_⟩⟩:=x; exact no e
 | dK kvs=>obtain ⟨_,_,_,_,o,_,_,e,_⟩:=x; exact no e
 | dT kvs=>obtain ⟨_,_,_,_,o,_,_,e,_⟩:=x; exact no e
 | set S n=>obtain ⟨o,_,_,_,e,_⟩:=x; exact no e
 | ins C dx fs=>obtain ⟨_,_,_,e,_⟩:=x; exact no e
 | own y=>obtain ⟨_,e⟩:=x; exact no e
 | xd fs=>obtain ⟨_,⟨_,_,_,e,_⟩,_⟩:=x; exact no e
 | rng lo hi=>obtain ⟨_,_,_,e⟩:=x; exact no e
 | frz ob u=>obtain ⟨e,_⟩:=x; exact no e
 | tbl ps=>exact no (show h.get? b=some _ from x)
 | met f y=>exact no (show h.get? b=some _ from x)
 | ext φ=>obtain ⟨_,⟨_,e⟩,_⟩:=x; exact no e
theorem Q0 (hx:X.ex=[]) (I:Inv X [] σ H s) {b:Addr} (hb:s.heap.get? b=none):Mine X H b:=by
 have no:∀ {o:Obj},s.heap.get? b=some o->False:=fun {o} q=>by rw [hb] at q; cases q
 refine ⟨?_,?_,fun z=>?_,fun x c q z=>?_,fun p hp z=>?_⟩
 ·cases hH:H b with
  | none=>rfl
  | some u=>exact (ajm I.hok hH hb).elim
 ·cases h0:X.s₀.heap.get? b with
  | none=>rfl
  | some o=>
   obtain ⟨o',q⟩:=I.base.there b o h0 (by rw [hx]; simp)
   exact (no q).elim
 ·subst z
  obtain ⟨m,⟨o,_,_,ho,_⟩,_⟩:=I.loc
  exact no ho
 ·obtain ⟨v,o,ho,_⟩:=I.cell x c q
  subst z
  exact no ho
 ·have:=(I.pin p (List.mem_append_left _ hp)).1
  rw [z] at this
  exact no this
theorem adl {oe:Obj}{vs:Array Value}{head:Value}{hadNext:Bool} (T0:Top0 X) (hA:A.frames=some X.stack) (I:Inv X [] σ H s) (me:Mine X H e) (he:s.heap.get? e=some oe) (hc:oe.cls= .ref C/\oe.dict=none) (hd:oe.data= .fields vs) (hsz:1<vs.size):
  wpAny (model X.prog X.w) A (do let a ←frameOf X.env; let pl ←entryPlaceOf X.env.locals hadNext; let b ←EntryCells.newEntry head a .none (rawInt X.env.locals) .none pl; setField (.ref e) 1 b) (fun _ s'=>Inv X [] σ H s'/\XcT X H s'.heap e C) E s:=by
 have hst:=T0.st
 have hfn:=I.stack
 rw [hst] at hfn hA
 have hene:e ∉ (X.env::X.Ko).filterMap (·.frame):=by
  have:=me.nofr I
  rw [hst] at this; exact this
 refine wpAny_bind (wpAny_frameOf_fun hA hfn T0.fr fun h₁ hs₁=>?_)
 refine wpAny_bind (wpAny_entryPlaceOf fun pl hpl=>?_)
 unfold EntryCells.newEntry newFields
 refine wpAny_bind (wpAny_newObj_type ?_ (hpl.sizeOk5 _ _ _ _ _))
 have he₁:h₁.get? e=some oe:=(hs₁.2.1 e hene).trans he
 generalize hob:({ cls:= .type "traceback",dict:=none,data:= .fields ([head,Value.ref X.env.locals,.none,rawInt X.env.locals,.none]++(if pl.isEmpty then List.replicate 6 Value.none else pl)).toArray }:Obj)=ob
 have obd:ob.data= .fields ([head,Value.ref X.env.locals,.none,rawInt X.env.locals,.none]++(if pl.isEmpty then List.replicate 6 Value.none else pl)).toArray:=by rw [←hob]
 have obf:ob.isFreed=false:=by rw [←hob]; rfl
 have he₂:(h₁.push ob).get? e=some oe:=Heap.get?_push_of_some ob he₁
 refine wpAny_setField he₂ hd hsz ?_
 have hTe:h₁.objs.size ≠ e:=Nat.ne_of_gt (Heap.lt_size he₁)
 have hd₃:=Obj.data_mapFields hd (·.setIfInBounds 1 (Value.ref h₁.objs.size))
 have he₃:=Heap.get?_update_self (Obj.mapFields (·.setIfInBounds 1 (Value.ref h₁.objs.size))) he₂ (Obj.isFreed_of_fields hd₃)
 have hT₃:((h₁.push ob).update e (Obj.mapFields (·.setIfInBounds 1 (Value.ref h₁.objs.size)))).get? h₁.objs.size=some ob:=(Heap.get?_update_other _ _ (Ne.symm hTe)).trans (Heap.get?_push_size h₁ obf)
 have keep:∀ b o,b ≠ e->h₁.get? b=some o->((h₁.push ob).update e (Obj.mapFields (·.setIfInBounds 1 (Value.ref h₁.objs.size)))).get? b=some o:=fun b o hb q=>by
  rw [Heap.get?_update_other _ _ (Ne.symm hb)]
  exact Heap.get?_push_of_some _ q
 have hfr:frs X.stack=(X.env::X.Ko).filterMap (·.frame):=by rw [hst]; rfl
 have sz:h₁.objs.size=s.heap.objs.size:=hs₁.1
 have J:Inv X [] σ H { s with heap:=(h₁.push ob).update e (Obj.mapFields (·.setIfInBounds 1 (Value.ref h₁.objs.size))) }:=by
  refine Inv.shake (s:=s) (ch:=[e]) I (fun b hb=>by rw [List.mem_singleton.mp hb]; exact me) (fun b o nf nc q=>keep b o (fun z=>nc (by simp [z])) ((hs₁.2.1 b (by rw [←hfr]; exact nf)).trans q)) (fun b o _ nc q=>?_)
  obtain ⟨sl,z⟩:=hs₁.2.2 b o q
  exact ⟨sl,keep b _ (fun w=>nc (by simp [w])) z⟩
 refine ⟨J,me,_,_,h₁.objs.size,ob,_,he₃,?_,hd₃,by simp [hsz],hTe,?_,hT₃,obd,?_⟩
 ·rw [Obj.cls_mapFields]; exact ⟨hc.1,by unfold Obj.mapFields; split <;> exact hc.2⟩
 ·exact Q0 T0.ex I (Heap.get?_none_of_le (by rw [sz]; exact Nat.le_refl _))
 ·simp only [List.size_toArray,List.length_append,List.length_cons,List.length_nil]; omega
theorem ajn (T0:Top0 X) (hA:A.frames=some X.stack) (I:Inv X [] σ H s) (x:Xc X H s.heap e C):wpAny (model X.prog X.w) A (noteFrame (.ref e) X.env) (fun _ s'=>Inv X [] σ H s'/\XcT X H s'.heap e C) E s:=by
 obtain ⟨oe,vs,he,hc,hd,hsz,hT⟩:=x.ob
 unfold noteFrame
 simp only [T0.fr]
 rcases hT with h1 | ⟨T,oT,ts,h1,hTe,mT,hT,hdT,h3⟩
 ·refine wpAny_bind (wpAny_field he hd h1 ?_)
  rw [if_neg (by decide)]
  exact adl T0 hA I x.mine he hc hd hsz
 ·refine wpAny_bind (wpAny_field he hd h1 ?_)
  rw [if_pos (show (Value.ref T != Value.none)=true from by simp)]
  refine wpAny_bind (wpAny_field hT hdT (x:=ts[3]) (by simp [h3]) ?_)
  by_cases hq:(ts[3] == rawInt X.env.locals)=true
  ·rw [if_pos hq]
   exact wpAny_pure ⟨I,x.mine,oe,vs,T,oT,ts,he,hc,hd,h1,hTe,mT,hT,hdT,h3⟩
  ·rw [if_neg hq]
   refine wpAny_bind (wpAny_setField hT hdT h3 ?_)
   have other:∀ b,b ≠ T->(s.heap.update T (Obj.mapFields (·.setIfInBounds 3 Value.none))).get? b=s.heap.get? b:=fun b hb=>Heap.get?_update_other _ _ (Ne.symm hb)
   have J:Inv X [] σ H { s with heap:=s.heap.update T (Obj.mapFields (·.setIfInBounds 3 Value.none)) }:=
    Inv.shake (s:=s) (ch:=[T]) I (fun b hb=>by rw [List.mem_singleton.mp hb]; exact mT) (fun b o _ nc q=>(other b fun z=>nc (by simp [z])).trans q) fun b o _ nc q=>⟨o.slots,(other b fun z=>nc (by simp [z])).trans q⟩
   exact adl (s:={ s with heap:=s.heap.update T (Obj.mapFields (·.setIfInBounds 3 Value.none)) }) T0 hA J x.mine ((other e (Ne.symm hTe)).trans he) hc hd hsz
theorem abF (fl:Option Addr) (I:Inv X [] σ H s) (x:XcT X H s.heap e C):wpAny (model X.prog X.w) A (setFlight (.ref e) fl) (fun _ s'=>Inv X [] σ H s'/\XcT X H s'.heap e C) E s:=by
 obtain ⟨oe,vs,T,oT,ts,he,hc,hd,h1,hTe,mT,hT,hdT,h3⟩:=x.ob
 unfold setFlight
 refine wpAny_bind (wpAny_field he hd h1 ?_)
 rw [if_pos (show (Value.ref T != Value.none)=true from by simp)]
 refine wpAny_setField hT hdT h3 ?_
 have other:∀ b,b ≠ T->(s.heap.update T (Obj.mapFields (·.setIfInBounds 3 (fl.elim Value.none fun f=>rawInt f)))).get? b=s.heap.get? b:=fun b hb=>Heap.get?_update_other _ _ (Ne.symm hb)
 have J:Inv X [] σ H { s with heap:=s.heap.update T (Obj.mapFields (·.setIfInBounds 3 (fl.elim Value.none fun f=>rawInt f))) }:=
  Inv.shake (s:=s) (ch:=[T]) I (fun b hb=>by rw [List.mem_singleton.mp hb]; exact mT) (fun b o _ nc q=>(other b fun z=>nc (by simp [z])).trans q) fun b o _ nc q=>⟨o.slots,(other b fun z=>nc (by simp [z])).trans q⟩
 exact ⟨J,x.mine,oe,vs,T,_,_,(other e (Ne.symm hTe)).trans he,hc,hd,h1,hTe,mT,Heap.get?_update_self _ hT (Obj.isFreed_of_fields (Obj.data_mapFields hdT _)),Obj.data_mapFields hdT _,by simpa using h3⟩
theorem ano {P:Value->SP0} (T0:Top0 X) (hA:A.frames=some X.stack) (hP:∀ e s,P e s->∃ a C σ H,e= .ref a/\Inv X [] σ H s/\Xc X H s.heap a C/\∀ s',Inv X [] σ H s'->XcT X H s'.heap a C->P e s'):PassesOwn (model X.prog X.w) A X.env P:=fun ev s' h=>by
 obtain ⟨a,C,σ,H,rfl,I,x,back⟩:=hP ev s' h
 refine wpAny_mono (ajn (E:=fun _ _=>False) T0 hA I x) (fun _ s2 ⟨I2,x2⟩=>?_) fun _ _ z=>z.elim
 obtain ⟨oe,vs,T,oT,ts,he,hc,hd,h1,r⟩:=id x2.ob
 unfold cameBackBy
 refine wpAny_bind (wpAny_field he hd h1 ?_)
 rw [if_neg (by simp)]
 first
  | exact wpAny_mono (abF (E:=fun _ _=>False) _ I2 x2) (fun _ s3 ⟨I3,x3⟩=>back s3 I3 x3) fun _ _ z=>z.elim
  | exact wpAny_bind (wpAny_pure (wpAny_mono (abF (E:=fun _ _=>False) _ I2 x2) (fun _ s3 ⟨I3,x3⟩=>back s3 I3 x3) fun _ _ z=>z.elim))
end
structure XcO (h0:Heap) (H:Hp) (h:Heap) (e C:Addr):Prop where
 un:H e=none
 new:h0.get? e=none
 ob:∃ oe vs T oT ts,h.get? e=some oe/\(oe.cls= .ref C/\oe.dict=none)/\oe.data= .fields vs/\vs[1]?=some (.ref T)/\T ≠ e/\H T=none/\h0.get? T=none/\h.get? T=some oT/\oT.data= .fields ts/\3<ts.size
noncomputable def CXt (P:Program) (w:World):CXT:=fun Ko H s E ev s'=>∃ e C H',ev= .ref e/\s'.os=s.os/\AllBare s'.gens/\Un (frs Ko) [] H H' s.heap s'.heap/\HOk P w H' s'.heap/\XcO s.heap H' s'.heap e C/\E (.ref C) none H'
section
variable {X:Cx}
theorem Xc.of (hx:X.ex=[]) {Kp:List (Addr × Obj)}{σ:St}{H H':Hp}{s s':Shared}{e0 C:Addr} (I:Inv X Kp σ H s) (x:XcO s.heap H' s'.heap e0 C):Xc X H' s'.heap e0 C:=by
 have J:Inv X [] σ H s:=I.pins_of fun p hp=>nomatch hp
 obtain ⟨oe,ws,T,oT,ts,h1,h2,h3,h4,h5,h6,h7,h8,h9,h10⟩:=x.ob
 have m1:=Q0 hx J x.new
 have m2:=Q0 hx J h7
 exact ⟨⟨x.un,m1.new,m1.loc,m1.cel,m1.pin⟩,oe,ws,h1,h2,h3,(Array.getElem?_eq_some_iff.mp h4).1,.inr ⟨T,oT,ts,h4,h5,⟨h6,m2.new,m2.loc,m2.cel,m2.pin⟩,h8,h9,h10⟩⟩
end
noncomputable def Thr (X:Cx) (H:Hp) (c:Str) (ev:Value) (s':Shared):Prop:=∃ e C σ' H',ev= .ref e/\X.mg c=some (.ref C)/\Inv X [] σ' H' s'/\jm H H'/\Xc X H' s'.heap e C
theorem Thr.mono {X:Cx}{H H1:Hp}{c:Str}{ev:Value}{s':Shared} (s:jm H H1) (h:Thr X H1 c ev s'):Thr X H c ev s':=by
 obtain ⟨e,C,σ',H',h1,h2,h3,h4,h5⟩:=h
 exact ⟨e,C,σ',H',h1,h2,h3,s.trans h4,h5⟩
@[irreducible] noncomputable def PDX (X:Cx) (e:Expr) (fx:Rho->Option Str):Prop:=∀ (s:Shared) (σ:St) (H:Hp) (ρ:Rho) (c:Str),Inv X [] σ H s->EnvR X.K H ρ σ->fx ρ=some c->(∀ ev s',Thr X H c ev s'->X.xe ev s')->wpAny (model X.prog X.w) X.A (eval e X.env) (fun _ _=>False) X.xe s
@[irreducible] noncomputable def PSX (X:Cx) (st:Stmt) (fx:Rho->Option Str):Prop:=∀ (s:Shared) (σ:St) (H:Hp) (ρ:Rho) (c:Str),Inv X [] σ H s->EnvR X.K H ρ σ->fx ρ=some c->(∀ ev s',Thr X H c ev s'->X.xe ev s')->wpAny (model X.prog X.w) X.A (exec st X.env) (fun _ _=>False) X.xe s
@[irreducible] noncomputable def ahA (X:Cx) (sts:List Stmt) (fx:Rho->Option Str):Prop:=∀ (s:Shared) (σ:St) (H:Hp) (ρ:Rho) (c:Str),Inv X [] σ H s->EnvR X.K H ρ σ->fx ρ=some c->(∀ ev s',Thr X H c ev s'->X.xe ev s')->wpAny (model X.prog X.w) X.A (execs sts X.env) (fun _ _=>False) X.xe s
noncomputable def vB:List Value:=[.type "ValueError",.type "Exception",.type "BaseException",.type "object"]
noncomputable def ale (K:Fg) (mg:SV) (x:Str):Prop:=∃ C,mg x=some (.ref C)/\PySem.W.excIn K C vB "ValueError.__new__"=true
theorem ajo {K:Fg}{h:Heap}{C:Addr} (X:K.In h) (q:PySem.W.excIn K C vB "ValueError.__new__"=true):
  ∃ bm N nm qn bs hdct sn sub ab col dd k0 k1 k2 k3 k5 mN,h.get? C=some (excClassObj nm qn C N bs bm hdct sn sub ab col dd k0 k1 k2 k3 k5 "ValueError.__new__")/\h.Ns N mN/\mN "__init__"=none/\OwnTail h vB bm:=by
 unfold PySem.W.excIn at q
 split at q
 ·rename_i dd cd sl ho
  split at q
  ·rename_i C' bm k0 k1 k2 k3 n k5 hm hs
   simp only [Bool.and_eq_true,beq_iff_eq,Bool.not_eq_true'] at q
   obtain ⟨⟨⟨⟨⟨rfl,rfl⟩,hdel⟩,ht⟩,hok⟩,hni⟩:=q
   obtain ⟨nm,bs,mro,ns,qn,hd,sn,sub,ab,col,del⟩:=cd
   dsimp only at hm hdel hok hni
   subst hm hdel
   have hsl:sl=#[k0,k1,k2,k3,some (.builtin "ValueError.__new__"),k5]:=by
    obtain ⟨l⟩:=sl
    simp only at hs
    rw [hs]
   subst hsl
   exact ⟨bm,ns,nm,qn,bs,hd,sn,sub,ab,col,dd,k0,k1,k2,k3,k5,_,X _ _ ho,.of_isNs (PySem.W.isNs_of_in X hok),PySem.W.nsMap_none_of_in X hok hni,PySem.W.tail_of_in X ht⟩
  ·cases q
 ·cases q
section
variable {X:Cx}{e a b c:Expr}{es:List Expr}{st:Stmt}{sts qg:List Stmt}{fx gx:Rho->Option Str}{F:RO}{pos:Pos}
theorem Jz (h:PSX X st fx):ahA X (st::qg) fx:=by
 with_unfolding_all
  intro s σ H ρ c I en q k
  exact wpAny_execs_cons (wpAny_mono (h s σ H ρ c I en q k) (fun _ _ z=>z.elim) fun _ _ z=>z)
noncomputable def nxX (F:RO) (gx:Rho->Option Str):Rho->Option Str:=fun ρ=>(F ρ).bind fun o=>match o with
 | .nx ρ'=>gx ρ'
 | _=>none
noncomputable def ifX (tc:Rho->Option Bool) (fx gx:Rho->Option Str):Rho->Option Str:=fun ρ=>(tc ρ).bind fun x=>if x=true then fx ρ else gx ρ
noncomputable def af2:Rho->Option Str:=fun _=>none
theorem aaC:ahA X sts af2:=by
 with_unfolding_all
  intro s σ H ρ c I en q k
  cases q
theorem ahB {l r:List Stmt}{tc:Rho->Option Bool} (hc:PTD X a tc) (hl:ahA X l fx) (hr:ahA X r gx):PSX X (.If a l r pos) (ifX tc fx gx):=by
 with_unfolding_all
  intro s σ H ρ c I en q k
  cases ht:tc ρ with
  | none=>simp [ifX,ht] at q
  | some x=>
   refine wpAny_If (wpAny_mono (hc [] s σ H (fun b H'=>b=x/\jm H H') I ⟨ρ,x,en,ht,fun H' s1=>⟨rfl,s1⟩⟩) (fun d s1 z=>?_) fun _ _ z=>z)
   obtain ⟨H1,I1,rfl,s1'⟩:=z
   cases d with
   | true=>exact hl s1 σ H1 ρ c I1 (en.mono s1') (by simpa [ifX,ht] using q) fun ev s' t=>k ev s' (t.mono s1')
   | false=>exact hr s1 σ H1 ρ c I1 (en.mono s1') (by simpa [ifX,ht] using q) fun ev s' t=>k ev s' (t.mono s1')
theorem ahC (h:PDX X e fx) (hs:swapsWith e none pos.line X.env=pure false:=by rfl):PSX X (.Expr e pos) fx:=by
 with_unfolding_all
  intro s σ H ρ c I en q k
  exact wpAny_Expr_any (wpAny_mono (h s σ H ρ c I en q k) (fun _ _ z=>z.elim) fun _ _ z=>z) I.quiet hs
end
noncomputable def alf (K:Fg) (mg:SV) (n:Nat) (gx:LP->Option Str):Sp:=fun vs H _ E=>∃ ds c,ds.length=n/\Reps K H ds vs/\gx ds=some c/\∀ C H',mg c=some (.ref C)->jm H H'->E (.ref C) none H'
noncomputable def alg (P:Program) (w:World) (K:Fg) (mg:SV) (base:Heap) (x:Str) (ps:List Str) (k n:Nat) (gx:LP->Option Str):Prop:=
 ∃ (f:Addr) (fd:FuncData),FnOk P w K mg base (CXt P w) k f fd ps (alf K mg n gx)/\mg x=some (.ref f)/\PySem.W.keepIn K (.ref f)=true/\QB K fd ps []
section
variable {X:Cx}{e a b c:Expr}{es:List Expr}{st:Stmt}{sts qg:List Stmt}{fx gx:Rho->Option Str}{F:RO}{pos:Pos}
theorem adm {k j n:Nat}{ps:List Str}{g:LP->Option Str}{x:Str}{p:Pos}{fr:Rho->Option (LP)} (hxe:X.ex=[]) (C:alg X.prog X.w X.K X.mg X.base x ps k n g) (hr:Room j X.A) (hkj:k<=j) (ha:PAD X (e::es) fr) (hl:∀ ρ ds,fr ρ=some ds->ds.length=n)
  (hg:Gl X x:=by rfl) (hdb:(x == ("__debug__":Str))=false:=by decide) (he:starEach (e::es) X.env=(false,eval e X.env)::starEach es X.env:=by rfl)
  (hpl:(backTo pos (starEach es X.env)).any (·.1)=false:=by rfl):PDX X (.Call (.Name x p) (e::es) [] pos) (fun ρ=>(fr ρ).bind g):=by
 with_unfolding_all
  intro s σ H ρ c I en q k'
  obtain ⟨f,fd,F,hm,hk,hb⟩:=C
  cases hd:fr ρ with
  | none=>simp [hd] at q
  | some ds=>
   have q':g ds=some c:=by simpa [hd] using q
   refine wpAny_Call_Name_kw (ab6 I hg hm ?_ hdb)
   refine PySem.W.callWith_K (h₀:=X.base) I.ok.mod.kin hk (thn (ha pos [] s σ H (fun vs H1=>jm H H1/\Reps X.K H1 ds vs) I ⟨ρ,ds,en,hd,fun vs H1 s1 r1=>⟨s1,r1⟩⟩) fun us s1 ⟨vs,H1,I1,r,sm,rd⟩=>⟨I1.kIn,?_⟩) he hpl
   have hsp:alf X.K X.mg n g vs H1 (fun _ _=>False) (fun cls _ H'=>X.mg c=some cls/\jm H1 H')->vs.length=ps.length:=fun z=>F.len _ _ _ _ z
   by_cases hn:ds.length=n
   ·have sp:alf X.K X.mg n g vs H1 (fun _ _=>False) (fun cls _ H'=>X.mg c=some cls/\jm H1 H'):=⟨ds,c,hn,rd,q',fun C H' hC s2=>⟨hC,s2⟩⟩
    have hlu:(us++[]).length=ps.length:=by rw [List.append_nil,←r.length]; exact hsp sp
    have hbd:=hb s1 us I1.kIn hlu
    rw [List.append_nil] at hbd
    refine wpAny_call (codeAny_mono (F.run X.A X.stack s1 H1 ⟨us,[]⟩ us vs _ _ (hr.mono hkj) I1.env0 hbd r sp) fun rs s' hq=>?_)
    cases rs with
    | error ev=>
     obtain ⟨e0,C,H',rfl,os,bare,un,hok,xc,hC,sm2⟩:=hq
     have J':Inv X [] σ H' s':=I1.call' (ch:=[]) os un hok bare fun b z=>nomatch z
     exact k' _ _ ⟨e0,C,σ,H',rfl,hC,J',sm.trans sm2,Xc.of hxe I1 xc⟩
    | ok fl=>
     cases fl with
     | ret u=>obtain ⟨v,H',_,_,_,_,_,z⟩:=hq; exact z.elim
     | next=>exact False.elim hq
     | brk=>exact False.elim hq
     | cont=>exact False.elim hq
   ·exact absurd (hl ρ ds hd) hn
theorem abG {x m:Str}{k0:_}{np p3 cpos:Pos} (hxe:X.ex=[]) (hE:ale X.K X.mg x) (hc:X.calm=true) (hg:Gl X x:=by rfl) (hdb:(x == ("__debug__":Str))=false:=by decide)
  (he:starEach [.Constant (.str m) k0 p3] X.env=[(false,eval (.Constant (.str m) k0 p3) X.env)]:=by rfl):PSX X (.Raise (some (.Call (.Name x np) [.Constant (.str m) k0 p3] [] cpos)) none pos) (fun _=>some x):=by
 with_unfolding_all
  intro s σ H ρ c I en q k
  cases q
  obtain ⟨C,hm,hex⟩:=hE
  obtain ⟨bm,N,nm,qn,bs,hdct,sn,sub,ab,col,dd,k0',k1,k2,k3,k5,mN,hC,hN,hni,TL⟩:=ajo (h:=X.base) I.ok.mod.kin hex
  have hpl:(backTo cpos (starEach [.Constant (.str m) k0 p3] X.env)).any (·.1)=false:=by rw [he]; rfl
  refine wpAny_Raise_call_subT (C:=C) (nm:=nm) (q:=qn) (N:=N) (bs:=bs) (bm:=bm) (hdct:=hdct) (sn:=sn) (sub:=sub) (ab:=ab) (col:=col) (dd:=dd) (k0:=k0') (k1:=k1) (k2:=k2) (k3:=k3) (k5:=k5) PySem.F.excBase_ValueError (mN:=mN) (TL.hasType rfl) (I.ok.hd hc) hpl hni ?_
  refine wpAny_mono (aeM (pos:=np) hg hm (show jQ (.ref C) (.ref C) from rfl) hdb [] s σ H (fun v H'=>v= .ref C/\H'=H) I ⟨rfl,rfl⟩) (fun v s1 ⟨y,H1,I1,r1,e1,e2⟩=>?_) fun _ _ z=>z
  subst e1; subst e2
  obtain rfl:v=Value.ref C:=r1
  refine ⟨rfl,?_⟩
  have pa:PA X [.Constant (.str m) k0 p3] _:=q0 (X:=X) agI JN he
  have hsp:=pa cpos [] s1 σ H1 (fun vs H'=>vs.length=1/\H'=H1) I1 ⟨rfl,rfl⟩
  rw [he] at hsp ⊢
  refine Calls.evalArgs_plain (wpAny_mono hsp (fun us s2 ⟨vs,H2,I2,r2,l2,e2⟩=>?_) fun _ _ z=>z)
  subst e2
  have kp:∀ b o,X.base.get? b=some o->s2.heap.get? b=some o:=fun b o e=>(I2.bs b o e).1
  refine ⟨rfl,?_,kp _ _ hC,hN.keeps kp,TL.keeps kp,fun h' e0 md=>?_⟩
  ·show us.length<=sizeLine
   rw [←r2.length,l2,sizeLine_eq]; decide
  ·obtain ⟨t,h1,h2,h3⟩:=md.there
   have I3:Inv X [] σ H2 { s2 with heap:=h' }:=I2.kept (t':=s2.toks) md.keeps
   have m0:=Q0 hxe I2 md.new
   exact k _ _ ⟨e0,C,σ,H2,rfl,hm,I3,jm.refl _,m0,_,_,h1,⟨rfl,rfl⟩,rfl,by simp,.inl rfl⟩
end
section
variable {P:Program}{w:World}{K:Fg}{mg:SV}{base:Heap}
noncomputable def adn (N:List Str) (n:Nat) (Fx:Rho->Option Str) (ds:LP):Option Str:=if ds.length=n then Fx (jU N ds) else none
end
theorem Mine.unwish {X:Cx}{E:Value->SP0}{H:Hp}{b:Addr} (m:Mine (X.wish E) H b):Mine X H b:=⟨m.un,m.new,m.loc,m.cel,m.pin⟩
theorem Xc.unwish {X:Cx}{E:Value->SP0}{H:Hp}{h:Heap}{e C:Addr} (x:Xc (X.wish E) H h e C):Xc X H h e C:=by
 obtain ⟨oe,vs,h1,h2,h3,h4,h5⟩:=x.ob
 refine ⟨x.mine.unwish,oe,vs,h1,h2,h3,h4,?_⟩
 rcases h5 with q | ⟨T,oT,ts,q1,q2,q3,q4⟩
 ·exact .inl q
 ·exact .inr ⟨T,oT,ts,q1,q2,q3.unwish,q4⟩
section
variable {X:Cx}{st:Stmt}{sts qg tb hb:List Stmt}{F G:RO}{pos:Pos}
end
section
variable {X:Cx}{st b0:Stmt}{sts qg tb hb:List Stmt}{F G:RO}{fx:Rho->Option Str}{pos:Pos}
end
section
variable {P:Program}{w:World}{K:Fg}{mg:SV}{base:Heap}
end
theorem Q1 {t sl:Addr}{items:Array Value}{vl vu:Value}{lo hi:Option Int}{Q:Value->SP0} (ht:IsTup s.heap t items) (hs:s.heap.IsSliceOf sl vl vu .none) (pl:IsPart vl lo) (pu:IsPart vu hi)
  (hw:HT.sIx items.size 0 lo=0/\HT.sIx items.size items.size hi=items.size) (h:Q (.ref t) s):wpAny (model prog w) A (getItem (.ref t) (.ref sl)) Q E s:=by
 obtain ⟨os,hos,hcs,hds⟩:=id hs
 have hTs:s.TypeIs (.ref sl) "slice":=⟨os,hos,hcs⟩
 unfold getItem
 first | (with_reducible refine wpAny_holding ?_) | skip
 first | refine wpAny_bind (wpAny_pure ?_) | skip
 refine wpAny_bind (wpAny_sequenceKey ht.typeIs (by decide) ?_)
 refine wpAny_bind (wpAny_callSpecial?_slot (name:=Str.ofString "__getitem__") ht.typeIs PyProof.Rows.slot_tuple_getitem (wpAny_call_entry PyProof.Rows.slot_tuple_getitem ht.typeIs entry_tuple_getitem ?_ (args_tuple_getitem _ _)))
 show wpAny _ _ (Builtin.Tuple.tupleItemsOf (.ref t) >>= _) _ _ s
 refine wpAny_bind (tupleItemsOf_ ht (wpAny_bind (wpAny_typeOf hTs ?_)))
 rw [if_pos (show (Value.type "slice" == Value.type "slice")=true by decide)]
 refine wpAny_bind (HT.sliceApplied_gen hs pl pu ?_)
 rw [hw.1,hw.2]
 have hyes:((((0:Nat):Int) == 0 && (1:Int) == 1 && (items.size - 0) == items.size)=true):=by simp
 show wpAny _ _ (if ((((0:Nat):Int) == 0 && (1:Int) == 1 && (items.size - 0) == items.size)=true) then _ else _) _ _ s
 rw [if_pos hyes]
 obtain ⟨o,ho,hc,hd⟩:=id ht
 have hT:s.TypeIs (.ref t) "tuple":=⟨o,ho,hc⟩
 have ex:∀ {R:Bool->SP0} {A':Around} {E':Value->SP0},R true s->wpAny (model prog w) A' (Builtin.Tuple.tupleIsExact (.ref t)) R E' s:=fun {R A' E'} hR=>by
  unfold Builtin.Tuple.tupleIsExact
  first
   | exact wpAny_bind (wpAny_typeOf hT (wpAny_pure hR))
   | (wp_walk; exact hR)
 first
  | exact wpAny_bind (ex (wpAny_bind (wpAny_rule (wpAny_pure ⟨_,rfl,wpAny_pure h⟩))))
  | exact wpAny_bind (ex (by rw [if_pos rfl]; exact wpAny_bind (wpAny_rule (wpAny_pure ⟨_,rfl,wpAny_pure h⟩))))
  | (refine wpAny_bind (ex ?_); wp_walk; exact ⟨_,rfl,wpAny_pure h⟩)
  | (refine wpAny_bind (wpAny_bind (ex ?_)); wp_walk; exact ⟨_,rfl,wpAny_pure h⟩)
section
variable {X:Cx}{e a b c:Expr}{fa fb fc:RP}{pos p2:Pos}
noncomputable def amy (K:Fg):V->Option Int->Option Int->Hp->VK->Prop:=fun x lo hi H Q=>∃ a xs,x= .ref a/\SqT K H a xs/\(HT.sIx xs.length 0 lo=0/\HT.sIx xs.length xs.length hi=xs.length)/\Q (.ref a) H
theorem ado:SlR X (amy X.K):=by
 intro Kp s σ H x v vl vu lo hi sl Q I rx hs pl pu h
 obtain ⟨a,xs,rfl,hx,hw,q⟩:=h
 cases rx
 obtain ⟨its,r,ht,hz⟩:=I.tuple hx
 have hlen:its.toArray.size=xs.length:=by rw [List.size_toArray]; exact r.length.symm
 exact ⟨"tuple",_,PyProof.Rows.slot_tuple_getitem.lookup,ht.typeIs,Q1 ht hs pl pu (by rw [hlen]; exact hw) ⟨.ref a,H,I,rfl,q⟩⟩
noncomputable def adp (p:PyData) (lo hi:Option Int):OP:=match p with
 | .tuple ds=>some (.tuple (QJ ds lo hi))
 | _=>none
theorem ahD {K:Fg}{p d:PyData}{lo hi:Option Int}{x:V}{H:Hp}{Q:VK} (h:adp p lo hi=some d) (r:Rep K H p x) (k:∀ v H',jm H H'->Rep K H' d v->Q v H'):ame K x lo hi H Q ∨ amy K x lo hi H Q:=by
 unfold adp at h
 split at h
 ·rename_i ds
  cases h
  obtain ⟨a,xs,e1,e2,e3⟩:=r
  have hl:=e3.length
  have rr:Reps K H (QJ ds lo hi) (QR xs lo hi):=by
   unfold QR QJ
   rw [hl]
   exact (e3.drop _).take _
  by_cases hw:HT.sIx xs.length 0 lo=0/\HT.sIx xs.length xs.length hi=xs.length
  ·refine .inr ⟨a,xs,e1,e2,hw,k _ H (jm.refl H) ⟨a,xs,rfl,e2,?_⟩⟩
   have ex:QR xs lo hi=xs:=by unfold QR; rw [hw.1,hw.2]; simp
   rw [ex] at rr
   exact rr
  ·refine .inl ⟨a,xs,e1,e2,hw,fun q hq=>?_⟩
   have s1:=jB (o:= .tup (QR xs lo hi)) hq
   exact k _ _ s1 ⟨q,_,rfl,SqT.of jt,Reps.mono s1 _ _ rr⟩
 ·cases h
noncomputable def abH (fa fb:RP):RP:=fun ρ=>(fa ρ).bind fun p=>(fb ρ).bind fun q=>(inI q).bind fun i=>adp p none (some i)
theorem ahE (ha:PD X a fa) (hb:PD X b fb):PD X (.Subscript a (.Slice none (some b) none p2) pos) (abH fa fb):=by
 with_unfolding_all
  refine PE.imp (QQ (agW.or ado) ha Z4 (Z5 hb)) fun σ H Q ⟨ρ,d,en,q,k⟩=>?_
  cases h1:fa ρ with
  | none=>simp [abH,h1] at q
  | some y=>
   cases h2:fb ρ with
   | none=>simp [abH,h1,h2] at q
   | some z=>
    cases h3:inI z with
    | none=>simp [abH,h1,h2,h3] at q
    | some i=>
     have q':adp y none (some i)=some d:=by simpa [abH,h1,h2,h3] using q
     have hz:=QZ h3
     subst hz
     refine ⟨ρ,y,en,h1,fun v H1 s1 r1=>⟨ρ,_,en.mono s1,h2,fun u H2 s2 r2=>?_⟩⟩
     cases (show u=_ from r2)
     exact ⟨i,rfl,ahD q' (Rep.mono s2 _ _ r1) fun v H' s r=>k v H' (s1.trans (s2.trans s)) r⟩
noncomputable def Qs (fa fb:RP):RP:=fun ρ=>(fa ρ).bind fun p=>(fb ρ).bind fun q=>(inI q).bind fun i=>adp p (some i) none
theorem aeh (ha:PD X a fa) (hb:PD X b fb):PD X (.Subscript a (.Slice (some b) none none p2) pos) (Qs fa fb):=by
 with_unfolding_all
  refine PE.imp (QQ (agW.or ado) ha (Z5 hb) Z4) fun σ H Q ⟨ρ,d,en,q,k⟩=>?_
  cases h1:fa ρ with
  | none=>simp [Qs,h1] at q
  | some y=>
   cases h2:fb ρ with
   | none=>simp [Qs,h1,h2] at q
   | some z=>
    cases h3:inI z with
    | none=>simp [Qs,h1,h2,h3] at q
    | some i=>
     have q':adp y (some i) none=some d:=by simpa [Qs,h1,h2,h3] using q
     have hz:=QZ h3
     subst hz
     refine ⟨ρ,y,en,h1,fun v H1 s1 r1=>⟨ρ,_,en.mono s1,h2,fun u H2 s2 r2=>?_⟩⟩
     cases (show u=_ from r2)
     exact ⟨i,rfl,ahD q' (Rep.mono s2 _ _ r1) fun v H' s r=>k v H' (s1.trans (s2.trans s)) r⟩
end
section
variable {X:Cx}
end
section
variable {X:Cx}
end
section
variable {X:Cx}{e a b c:Expr}{fa fb fc:RP}{pos p2:Pos}
noncomputable def abI (fa fb:RP):RP:=fun ρ=>(fa ρ).bind fun p=>(fb ρ).bind fun q=>(inI q).bind fun i=>ahz p none (some i)
theorem ahF (ha:PD X a fa) (hb:PD X b fb):PD X (.Subscript a (.Slice none (some b) none p2) pos) (abI fa fb):=by
 with_unfolding_all
  refine PE.imp (QQ aiV ha Z4 (Z5 hb)) fun σ H Q ⟨ρ,d,en,q,k⟩=>?_
  cases h1:fa ρ with
  | none=>simp [abI,h1] at q
  | some y=>
   cases h2:fb ρ with
   | none=>simp [abI,h1,h2] at q
   | some z=>
    cases h3:inI z with
    | none=>simp [abI,h1,h2,h3] at q
    | some i=>
     have q':ahz y none (some i)=some d:=by simpa [abI,h1,h2,h3] using q
     have hz:=QZ h3
     subst hz
     refine ⟨ρ,y,en,h1,fun v H1 s1 r1=>⟨ρ,_,en.mono s1,h2,fun u H2 s2 r2=>?_⟩⟩
     cases (show u=_ from r2)
     unfold ahz at q'
     split at q'
     ·rename_i ds
      cases q'
      obtain ⟨l,xs,e1,e2,e3⟩:=Rep.mono s2 _ _ r1
      have hl:=e3.length
      refine ⟨i,rfl,l,xs,e1,SqL.of e2,fun p hp=>?_⟩
      have s3:=jB (o:= .lst (QR xs none (some i))) hp
      have rr:Reps X.K H2 (QJ ds none (some i)) (QR xs none (some i)):=by
       unfold QR QJ
       rw [hl]
       exact (e3.drop _).take _
      exact k _ _ (s1.trans (s2.trans s3)) ⟨p,_,rfl,jt,Reps.mono s3 _ _ rr⟩
     ·cases q'
end
section
variable {X:Cx}
noncomputable def JA:Nat->LP->LP
 | _,[]=>[]
 | i,d::ds=> .tuple [.int (i:Int),d]::JA (i+1) ds
theorem Zv:∀ (xs:LP) (k:Nat),(JA k xs).length=xs.length
 | [],_=>rfl
 | _::xs,k=>by simp [JA,Zv xs]
theorem abJ:∀ (xs:LP) (k i:Nat) (d:PyData),(JA k xs)[i]?=some d->∃ x,xs[i]?=some x/\d= .tuple [.int ((k+i:Nat):Int),x]
 | [],_,_,_,h=>by simp [JA] at h
 | x::xs,k,0,d,h=>by simp [JA] at h; exact ⟨x,rfl,h.symm⟩
 | x::xs,k,i+1,d,h=>by
  simp only [JA,zzB] at h
  obtain ⟨y,h1,h2⟩:=abJ xs (k+1) i d h
  exact ⟨y,by simpa using h1,by rw [h2,show k+1+i=k+(i+1) by omega]⟩
end
section
variable {X:Cx}{e:Expr}{es:List Expr}{pos p:Pos}
noncomputable def akh (x:Str):PyData->Bool
 | .dict [(.str y,.none)]=>decide (y=x)
 | _=>false
@[simp] theorem alh (x:Str):akh x (fnD x)=true:=by simp [akh,fnD]
end
section
variable {X:Cx}{e a b c:Expr}{es:List Expr}{fa:RP}{fx gx:Rho->Option Str}{pos:Pos}
end
section
variable {X:Cx}{own:Option Nat}{e a b c tg src:Expr}{es:List Expr}{st:Stmt}{sts qg body:List Stmt}{fx gx:Rho->Option Str}{F:RO}{fa:RP}{pos:Pos}
theorem Thr.unwish {W:Value->SP0}{Hb Hs:Hp}{c:Str}{ev:Value}{s':Shared} (sb:∀ H3,jm Hb H3->jm Hs H3) (h:Thr (X.wish W) Hb c ev s'):Thr X Hs c ev s':=by
 obtain ⟨e,C,σ',H',h1,h2,h3,h4,h5⟩:=h
 exact ⟨e,C,σ',H',h1,h2,h3.unwish,sb _ h4,h5.unwish⟩
end
section
variable {X:Cx}{e a b c:Expr}{es:List Expr}{st:Stmt}{sts qg:List Stmt}{fx gx:Rho->Option Str}{F:RO}{pos p:Pos}
noncomputable def orX (fx gx:Rho->Option Str):Rho->Option Str:=fun ρ=>match fx ρ with
 | some c=>some c
 | none=>gx ρ
end
section
variable {X:Cx}{a b c:Expr}{tc ta tb:Rho->Option Bool}{pos:Pos}
end
section
variable {X:Cx}{a b:Expr}{fa fb:RP}
end
structure RoomH (k:Nat) (A:Around):Prop where
 dp:A.depth+3*k+5<recursionLimit
 un:A.units+16*k+200<cLine
theorem RoomH.deeper {k:Nat}{A:Around} (r:RoomH (k+1) A) (env:Env):RoomH k (A.deeper env):=
 ⟨by have:=r.dp; show A.depth+1+3*k+5<_; omega,by have:=r.un; show A.units+3+16*k+200<_; omega⟩
structure FnH (P:Program) (w:World) (K:Fg) (mg:SV) (base:Heap) (k:Nat) (f:Addr) (fd:FuncData) (ps:List Str) (sp:Sp):Prop where
 len:∀ vs H Q E,sp vs H Q E->vs.length=ps.length
 run:∀ (A:Around) (Ko:List Env) (s:Shared) (H:Hp) (args:Args) (us:List Value) (vs:List V) (Q:VK) (E:XK),RoomH k A->Env0 P w K mg base A Ko s H->BindsTo s fd args (ps.zip us)->jG vs us->sp vs H Q E->
  codeAny (model P w) A (.call (.ref f) args) (CR CX0 Ko P w H s Q E) s
noncomputable def amP (P:Program) (w:World) (K:Fg) (mg:SV) (base:Heap) (x:Str) (ps:List Str) (k n:Nat) (g:LP->OP):Prop:=
 ∃ (f:Addr) (fd:FuncData),FnH P w K mg base k f fd ps (Pur K n g)/\mg x=some (.ref f)/\PySem.W.keepIn K (.ref f)=true/\QB K fd ps []
section
variable {P:Program}{w:World}{K:Fg}{mg:SV}{base:Heap}
end
section
variable {X:Cx}{e:Expr}{es:List Expr}{pos:Pos}
end
structure ExcK (K:Fg) (C:Addr):Prop where
 exc:PySem.W.excIn K C vB "ValueError.__new__"=true
 ga:PySem.W.findIn K (.ref C) "__getattribute__"=some (some (.builtin "BaseException.__getattribute__"))
 gt:PySem.W.findIn K (.ref C) "__getattr__"=some none
 cl:PySem.W.findIn K (.ref C) "__class__"=some (some (.builtin "object.__class__"))
 mo:PySem.W.mroIn K C (.type "object")=some true
 mb:PySem.W.mroIn K C (.type "BaseException")=some true
structure ClsG (K:Fg):Prop where
 gt:PySem.W.specialIn K (.builtin "object.__class__") "__get__"=some (some (.builtin "getset_descriptor.__get__"))
 tk:PySem.W.takesIn K (.builtin "object.__class__")=some true
section
variable {prog:Program}{w:World}{A:Around}{E:Value->SP0}{s:Shared}{K:Fg}{a C:Addr}{oe:Obj}
end
noncomputable def adr (K:Fg) (c:Str):Option Addr:=match PySem.W.nsIn K mainGlobals c with
 | some (some (.ref C))=>some C
 | _=>none
noncomputable def ali (K:Fg) (C:Addr):Bool:=PySem.W.excIn K C vB "ValueError.__new__" && ((PySem.W.findIn K (.ref C) "__getattribute__" == some (some (.builtin "BaseException.__getattribute__"))) && ((PySem.W.findIn K (.ref C) "__getattr__" == some none) && ((PySem.W.findIn K (.ref C) "__class__" == some (some (.builtin "object.__class__"))) && ((PySem.W.mroIn K C (.type "object") == some true) && (PySem.W.mroIn K C (.type "BaseException") == some true)))))
theorem ahG {K:Fg}{C:Addr} (h:ali K C=true):ExcK K C:=by
 unfold ali at h
 simp only [Bool.and_eq_true,beq_iff_eq] at h
 obtain ⟨h1,h2,h3,h4,h5,h6⟩:=h
 exact ⟨h1,h2,h3,h4,h5,h6⟩
noncomputable def aei (K:Fg) (y:Str) (cs:List Str):Bool:=(PySem.W.specialIn K (.builtin "object.__class__") "__get__" == some (some (.builtin "getset_descriptor.__get__"))) && ((PySem.W.takesIn K (.builtin "object.__class__") == some true) && (match adr K y with
 | none=>false
 | some B=>(PySem.W.typeIn K (.ref B) == some (.type "type")) && ((PySem.W.mroIn K B (.type "BaseException") == some true) && cs.all fun c=>match adr K c with
  | none=>false
  | some C=>ali K C && ((PySem.W.mroIn K C (.ref B) == some true) && ((PySem.W.kitOne K (.ref C) (.type "ValueError") == some true) && cs.all fun d=>match adr K d with
   | none=>false
   | some D=>PySem.W.kitOne K (.ref C) (.ref D) == some (c == d))))))
structure ErrT (K:Fg) (mg:SV) (y:Str) (cs:List Str):Prop where
 tab:aei K y cs=true
 mgs:∀ c C,adr K c=some C->mg c=some (.ref C)
section
variable {K:Fg}{mg:SV}{y:Str}{cs:List Str}
theorem ErrT.g (h:ErrT K mg y cs):ClsG K:=by
 have:=h.tab
 unfold aei at this
 simp only [Bool.and_eq_true,beq_iff_eq] at this
 exact ⟨this.1,this.2.1⟩
theorem ErrT.par (h:ErrT K mg y cs):∃ B,adr K y=some B/\mg y=some (.ref B)/\PySem.W.typeIn K (.ref B)=some (.type "type")/\PySem.W.mroIn K B (.type "BaseException")=some true/\
  ∀ c ∈ cs,∃ C,adr K c=some C/\mg c=some (.ref C)/\ExcK K C/\PySem.W.mroIn K C (.ref B)=some true/\PySem.W.kitOne K (.ref C) (.type "ValueError")=some true/\∀ d ∈ cs,∃ D,adr K d=some D/\mg d=some (.ref D)/\PySem.W.kitOne K (.ref C) (.ref D)=some (c == d):=by
 have q:=h.tab
 unfold aei at q
 simp only [Bool.and_eq_true,beq_iff_eq] at q
 obtain ⟨_,_,q⟩:=q
 cases hB:adr K y with
 | none=>rw [hB] at q; cases q
 | some B=>
  rw [hB] at q
  simp only [Bool.and_eq_true,beq_iff_eq,List.all_eq_true] at q
  obtain ⟨q1,q2,q3⟩:=q
  refine ⟨B,rfl,h.mgs y B hB,q1,q2,fun c hc=>?_⟩
  have z:=q3 c hc
  cases hC:adr K c with
  | none=>rw [hC] at z; cases z
  | some C=>
   rw [hC] at z
   simp only [Bool.and_eq_true,beq_iff_eq,List.all_eq_true] at z
   obtain ⟨z1,z2,z3,z4⟩:=z
   refine ⟨C,rfl,h.mgs c C hC,ahG z1,z2,z3,fun d hd=>?_⟩
   have v:=z4 d hd
   cases hD:adr K d with
   | none=>rw [hD] at v; cases v
   | some D=>
    rw [hD] at v
    exact ⟨D,rfl,h.mgs d D hD,beq_iff_eq.mp v⟩
end
noncomputable def amz:PyData->Option Str
 | .dict [(.str c,.bool true)]=>some c
 | _=>none
@[simp] theorem alj (c:Str):amz (ani c)=some c:=rfl
section
variable {X:Cx}{a:Expr}{fa:RP}{pos p p2:Pos}{y:Str}{cs:List Str}
end
section
variable {X:Cx}{σ:St}{H:Hp}{s:Shared}{e C:Addr}
theorem Inv.take {oe:Obj} (I:Inv X [] σ H s) (m:Mine X H e) (he:s.heap.get? e=some oe):Inv X [] σ (upd H e (.frz oe (.own e))) s/\jm H (upd H e (.frz oe (.own e))):=by
 have ne:∀ b o,H b=some o->b ≠ e:=fun b o q z=>by subst z; rw [m.un] at q; cases q
 have sm:jm H (upd H e (.frz oe (.own e))):=fun b o q=>by rw [ji (ne b o q)]; exact q
 have u:Un (frs X.stack) [e] H (upd H e (.frz oe (.own e))) s.heap s.heap:=⟨fun b o q _ _ _=>q,fun b o q _ _ _=>⟨o.slots,q⟩,fun b o q n nc=>by rw [ji (fun z=>nc (by simp [z]))]; exact n,fun b o q _=>⟨o,q⟩,fun b xs q=>sm b _ q,fun b o v q=>sm b _ q,fun b ps q=>⟨#[],by rw [sm b _ q]; simp⟩⟩
 have hok:HOk X.prog X.w (upd H e (.frz oe (.own e))) s.heap:=fun b o q=>by
  by_cases hb:b=e
  ·subst hb
   rw [jt] at q; cases q
   exact ⟨he,_,he⟩
  ·rw [ji hb] at q
   exact (I.hok b o q).stay (fun c v hc r=>r) (fun c r=>sm _ _ r) fun c v r=>sm _ _ r
 refine ⟨?_,sm⟩
 have J:=Inv.call (X:={ X with ex:=[e]++X.ex }) (g':=s.gens) (d':=s.drawn) (t':=s.toks) (Inv.exIn I fun b hb=>by rw [List.mem_singleton.mp hb]; exact ⟨m.new,m.loc,m.cel⟩) u hok I.bare fun b hb=>by
  rw [List.mem_singleton.mp hb]
  exact ⟨.inl (List.mem_append_left _ (by simp)),m.loc,m.cel,fun p hp=>m.pin p (by simpa using hp)⟩
 exact Inv.exOut J I.ok fun b hb=>by rw [List.mem_singleton.mp hb]; exact m.new
end
section
variable {X:Cx}{st b0:Stmt}{sts qg tb hb:List Stmt}{F G:RO}{fx:Rho->Option Str}{pos:Pos}
end
noncomputable abbrev anp:=Int × (Int × Int)
structure TripAt (h:Heap) (u:Value) (t:anp):Prop where
 ex:∃ a o k tk a2,u= .ref a/\h.get? a=some o/\o.cls= .type "tuple"/\o.data= .seq #[.int t.1 tk,.ref a2] k/\PairAt h (.ref a2) t.2
section
variable {X:Cx}
theorem ahH {Kp:List (Addr × Obj)}{σ:St}{H:Hp}{s:Shared}{a:Addr}{o:Obj}{xs:Array Value}{k:Nat} (I:Inv X Kp σ H s) (eo:s.heap.get? a=some o) (dk:o.data= .seq xs k):a ≠ X.env.locals:=fun z=>by
 obtain ⟨_,⟨o',es,ep,h1,h2,_⟩,_⟩:=I.loc
 rw [z] at eo; rw [eo] at h1; cases h1
 rw [dk] at h2; cases h2
theorem ajp {Kp:List (Addr × Obj)}{σ:St}{H:Hp}{s:Shared}{v:V}{p:Int × Int}{u:Value}{h':Heap} (I:Inv X Kp σ H s) (r:Rep X.K H (ahi p) v) (rv:jQ v u) (kp:∀ b o,b ≠ X.env.locals->s.heap.get? b=some o->h'.get? b=some o):∃ a,u= .ref a/\PairAt h' u p:=by
 obtain ⟨a2,ws,e2,e3,x1,r1,e4,e5,x2,r2,e6,e7,e8⟩:=r
 cases (show x1=_ from e5)
 cases (show x2=_ from e7)
 cases (show r2=[] from e8)
 subst e6; subst e4; subst e2
 cases rv
 obtain ⟨its,r3,⟨o,eo,co,k,dk⟩,_⟩:=I.tuple e3
 cases r3 with
 | cons y1 r3=>
  cases r3 with
  | cons y2 r3=>
   cases r3
   obtain ⟨t,rfl⟩:=y1
   obtain ⟨t',rfl⟩:=y2
   exact ⟨a2,rfl,a2,o,k,t,t',rfl,kp a2 o (ahH I eo dk) eo,co,by simpa using dk⟩
end
section
variable {α:Type}
end
section
variable {X:Cx}{e a b c:Expr}{es qg:List Expr}{st:Stmt}{sts srest:List Stmt}{fx gx:Rho->Option Str}{fa fb:RP}{F:RO}{pos:Pos}
theorem alk (h1:PSX X st fx) (h2:PSX X st gx):PSX X st (orX fx gx):=by
 with_unfolding_all
  intro s σ H ρ c I en q k
  cases hf:fx ρ with
  | some c'=>
   have:c'=c:=by simpa [orX,hf] using q
   subst this
   exact h1 s σ H ρ c' I en hf k
  | none=>exact h2 s σ H ρ c I en (by simpa [orX,hf] using q) k
noncomputable def items:PyData->Option (LP)
 | .list ds=>some ds
 | .tuple ds=>some ds
 | _=>none
noncomputable def itS (fa:RP):Rho->Option (LP):=fun ρ=>(fa ρ).bind items
theorem zC {tg:Expr} (h:PD X e fa):PID X tg e (itS fa):=by
 with_unfolding_all
  intro Kp s σ H R I ⟨ρ,ds,en,q,k⟩
  cases hf:fa ρ with
  | none=>simp [itS,hf] at q
  | some d=>
   have q':items d=some ds:=by simpa [itS,hf] using q
   cases d with
   | list es=>
    cases q'
    exact ac6 (tg:=tg) h Kp s σ H R I ⟨ρ,ds,en,by simp [itL,hf,aar],k⟩
   | tuple es=>
    cases q'
    exact acj (tg:=tg) h Kp s σ H R I ⟨ρ,ds,en,by simp [itT,hf,QG],k⟩
   | _=>cases q'
end
theorem _root_.L2.Room.units1 {k:Nat}{A:Around} (r:Room k A):A.units+1<cLine:=by have:=r.un; omega
theorem RoomH.units {k:Nat}{A:Around} (r:RoomH k A):A.units+64<cLine:=by have:=r.un; omega
theorem RoomH.mono {j k:Nat}{A:Around} (r:RoomH k A) (h:j<=k):RoomH j A:=⟨by have:=r.dp; omega,by have:=r.un; omega⟩
section
variable {X:Cx}{a b:Expr}{pos:Pos}
theorem ahI {op:CmpOp}{f:RP} (h:PC X op a b (tD X.K f)) (hm:behindInMarks op b=false:=by first | exact ad1 _ | with_unfolding_all rfl):PD X (.Compare a [op] [b] pos) f:=by
 with_unfolding_all exact (akt h hm)
end
@[irreducible] noncomputable def PTX (X:Cx) (e:Expr) (fx:Rho->Option Str):Prop:=∀ (s:Shared) (σ:St) (H:Hp) (ρ:Rho) (c:Str),Inv X [] σ H s->EnvR X.K H ρ σ->fx ρ=some c->(∀ ev s',Thr X H c ev s'->X.xe ev s')->wpAny (model X.prog X.w) X.A (isTrue e X.env (eval e X.env)) (fun _ _=>False) X.xe s
section
variable {X:Cx}{e a b c:Expr}{l r:List Stmt}{fx gx:Rho->Option Str}{pos:Pos}
theorem ajq (h:PDX X e fx) (he:∀ whole,isTrue e X.env whole=(do let v ←whole; standAt e.pos; holding [v] (truthy v)):=by intro _; rfl):PTX X e fx:=by
 with_unfolding_all
  intro s σ H ρ c I en q k
  exact isTrue_plain (wpAny_mono (h s σ H ρ c I en q k) (fun _ _ z=>z.elim) fun _ _ z=>z) (he _)
theorem ajr (h:PTX X e fx):PTX X (.UnaryOp .Not e pos) fx:=by
 with_unfolding_all
  intro s σ H ρ c I en q k
  exact isTrue_not (wpAny_mono (h s σ H ρ c I en q k) (fun _ _ z=>z.elim) fun _ _ z=>z)
theorem ajs (h:PTX X e fx):PSX X (.If e l r pos) fx:=by
 with_unfolding_all
  intro s σ H ρ c I en q k
  exact wpAny_If (wpAny_mono (h s σ H ρ c I en q k) (fun _ _ z=>z.elim) fun _ _ z=>z)
end
section
variable {X:Cx}{own:Option Nat}{tg:Expr}{st:Stmt}{sts:List Stmt}{fx:Rho->Option Str}{F:RO}
end
section
variable {X:Cx}{a i e:Expr}{es:List Expr}{pos fp:Pos}
end
section
variable {X:Cx}{own:Option Nat}{e a b c:Expr}{es:List Expr}{st:Stmt}{sts qg:List Stmt}{fa fb fc:RP}{F G:RO}{pos:Pos}
end
section
variable {X:Cx}{tg src:Expr}{pos pos':Pos}{own:Option Nat}
theorem ahJ (i:Nat) {x:Str}{el:Expr}{ts:List Expr}{sc:Scope}{ps:Pos}{fi:Rho->Option (LP)}{ga:PyData->Rho->Option Rho}{ft:Rho->Option Bool}{fe:RP} (N':List Str) (cap:List (Option Nat)) (hc:X.calm=true) (hN:X.N.Nodup) (hi:PID X tg src fi) (ok:CompOk X sc N' cap)
  (body:∀ cl C s0 H0 fp pn,PGD (blk X N' sc cl C s0 H0 fp pn) tg ga/\ag7 (blk X N' sc cl C s0 H0 fp pn) ts ft/\PD (blk X N' sc cl C s0 H0 fp pn) el fe)
  (ho:own ≠ some i:=by decide) (hi0:X.N[i]?=some x:=by rfl) (hx:Loc X.env.scope x:=by first | exact Or.inl rfl | exact Or.inr rfl) (hsw:swapsWith (.ListComp el [⟨tg,src,ts,0⟩] sc ps) (some (.Name x pos')) pos.line X.env=pure true:=by rfl)
  (hf:X.fn x=true ∨ X.env.scope.names.lookup x=some .local:=by first | exact .inl rfl | exact .inr rfl | assumption)
  (hs:∀ x,foldedSetIterable src X.env x=pure x:=by intro _; rfl):PSO X own (.Assign [.Name x pos'] (.ListComp el [⟨tg,src,ts,0⟩] sc ps) pos) (zl (fun ρ=>qQ fi cap ga ft fe (hid own ρ)) (jP i)):=by
 with_unfolding_all
  refine PS.imp (ae5 (g:=tDG X.K ga) (tt:=tDT X.K ft) (te:=tD X.K fe) hc hi ok (fun cl C s0 H0 fp pn=>body cl C s0 H0 fp pn) hN hi0 hx hsw hf hs) fun D σ H ⟨Hs,ρ,o,E,q,k⟩=>adj ?_
  cases h1:qQ fi cap ga ft fe (hid own ρ) with
  | none=>simp [zl,h1] at q
  | some d=>
   have:Out.nx (ρ.set i (some d))=o:=by simpa [zl,h1,jP] using q
   subst this
   exact ⟨hid own ρ,d,E.hid,h1,fun v H1 s1 r1=>k _ H1 ((E.mono s1).set ho r1)⟩
end
noncomputable def amA (ps:List (Int × Int)):PyData:= .tuple (ps.map ahi)
noncomputable def Q2 (h:Heap):List Value->List (Int × Int)->Prop
 | [],ps=>ps=[]
 | v::vs,ps=>∃ p r a,ps=p::r/\v= .ref a/\PairAt h (.ref a) p/\Q2 h vs r
theorem Q2.len {h:Heap}:∀ {vs:List Value}{ps:List (Int × Int)},Q2 h vs ps->vs.length=ps.length
 | [],ps,e=>by cases (show ps=[] from e); rfl
 | v::vs,ps,⟨p,r,a,e,_,_,k⟩=>by rw [e,List.length_cons,List.length_cons,k.len]
structure SetAt (h:Heap) (u:Value) (ps:List (Int × Int)):Prop where
 ex:∃ a o k vs,u= .ref a/\h.get? a=some o/\o.cls= .type "tuple"/\o.data= .seq (List.toArray vs) k/\Q2 h vs ps
section
variable {X:Cx}
theorem adq {Kp:List (Addr × Obj)}{σ:St}{H:Hp}{s:Shared}{h':Heap} (I:Inv X Kp σ H s) (kp:∀ b o,b ≠ X.env.locals->s.heap.get? b=some o->h'.get? b=some o):∀ (ps:List (Int × Int)) (xs:List V) (us:List Value),Reps X.K H (ps.map ahi) xs->jG xs us->Q2 h' us ps
 | [],xs,us,r,v=>by
  cases (show xs=[] from r)
  cases v
  rfl
 | p::ps,xs,us,r,v=>by
  obtain ⟨x,q,rfl,e2,e3⟩:=r
  cases v with
  | cons y v=>
   obtain ⟨a,rfl,pp⟩:=ajp I e2 y kp
   exact ⟨p,ps,a,rfl,rfl,pp,adq I kp ps _ _ e3 v⟩
theorem j5 {Kp:List (Addr × Obj)}{σ:St}{H:Hp}{s:Shared}{v:V}{p:List (Int × Int)}{u:Value}{h':Heap} (I:Inv X Kp σ H s) (r:Rep X.K H (amA p) v) (rv:jQ v u) (kp:∀ b o,b ≠ X.env.locals->s.heap.get? b=some o->h'.get? b=some o):SetAt h' u p:=by
 obtain ⟨a2,ws,e2,e3,e4⟩:=r
 subst e2
 cases rv
 obtain ⟨its,r3,⟨o,eo,co,k,dk⟩,_⟩:=I.tuple e3
 exact ⟨a2,o,k,its,rfl,kp a2 o (ahH I eo dk) eo,co,dk,adq I kp p ws its e4 r3⟩
end
set_option maxHeartbeats 4000000 in
section
variable {X:Cx}
end
section
variable {prog:Program}{w:World}{A:Around}{E:Value->SP0}{s:Shared}
end
section
variable {X:Cx}{a:Expr}{fa:RP}{pos p1 p2 p3:Pos}{j:Nat}
end
section
variable {X:Cx}{e b ev:Expr}{qg:List Stmt}{fe fk fv:RP}{G:RO}{pos pos2:Pos}
end
section
variable {X:Cx}
theorem ZO:∀ ns:List Int,zi (ns.map PyData.int)=some ns
 | []=>rfl
 | n::ns=>by simp [zi,aa9,ZO ns]
theorem RepM.ints {K:Fg}{H:Hp}:∀ {r:List (PyData × PyData)}{ks:List (Key × V)}{ns:List Int},RepM K H r ks->zi (r.map (·.1))=some ns->ks.map (·.1)=ns.map (fun n=>(Sum.inl n:Key))
 | [],ks,ns,h,e=>by cases (show ks=[] from h); cases e; rfl
 | (k,c)::r,ks,ns,⟨i,x,s,h1,h2,h3,h4⟩,e=>by
  subst h1; subst h2
  have e':=Qr e
  cases ns with
  | nil=>simp at e'
  | cons n ns=>
   rw [List.map_cons,List.map_cons] at e'
   obtain ⟨e1,e2⟩:=List.cons.inj e'
   have e1:i=Sum.inl n:=by
    cases i with
    | inl i=>exact congrArg _ (by injection e1)
    | inr t=>cases e1
   have e3:zi (r.map (·.1))=some ns:=by rw [e2]; exact ZO ns
   rw [List.map_cons,List.map_cons,RepM.ints h4 e3,e1]
end
section
variable {X:Cx}{σ:St}{H:Hp}{s:Shared}{h':Heap}{e C:Addr}{E:Value->SP0}{A:Around}
end
section
variable {X:Cx}{e a b c:Expr}{es:List Expr}{pos:Pos}
end
section
variable {prog:Program}{w:World}{A:Around}{s:Shared}{R:Result->SP0}
end
section
variable {X:Cx}{tg src:Expr}
end
section
variable {X:Cx}{e:Expr}{st:Stmt}{qg:List Stmt}{fa:RP}{G F:RO}{pos:Pos}
end
section
variable {X:Cx}{e a b c:Expr}{fa fb fc:RP}{pos p2:Pos}
end
section
variable {X:Cx}{own:Option Nat}{e a b c tg src:Expr}{body:List Stmt}{F:RO}{pos:Pos}
variable {es:List Expr}
end
inductive Cell where
 | lst (ds:LP)
 | ins (x:Str) (fs:List (Str × PyData))
noncomputable abbrev zj:=Addr->Option Cell
noncomputable def ajt (μ:zj) (a:Addr) (c:Cell):zj:=fun b=>if b=a then some c else μ b
theorem af3 {μ:zj}{a:Addr}{c:Cell}:ajt μ a c a=some c:=if_pos rfl
theorem aju {μ:zj}{a b:Addr}{c:Cell} (h:b ≠ a):ajt μ a c b=μ b:=if_neg h
noncomputable def Q3 (K:Fg) (H:Hp):List (Str × PyData)->List (Str × V)->Prop
 | [],vs=>vs=[]
 | (f,d)::fs,vs=>∃ v r,vs=(f,v)::r/\Rep K H d v/\Q3 K H fs r
noncomputable def alm (f:Str) (d:PyData):List (Str × PyData)->List (Str × PyData)
 | []=>[(f,d)]
 | (k,x)::r=>if k=f then (k,d)::r else (k,x)::alm f d r
section
variable {K:Fg}{H H':Hp}
theorem Q3.monoA (s:jC H H'):∀ {fs:List (Str × PyData)}{vs:List (Str × V)},Q3 K H fs vs->Q3 K H' fs vs
 | [],_,h=>h
 | (f,d)::fs,_,⟨v,r,h1,h2,h3⟩=>⟨v,r,h1,Rep.monoA s d v h2,Q3.monoA s h3⟩
theorem Q3.length:∀ {fs:List (Str × PyData)}{vs:List (Str × V)},Q3 K H fs vs->vs.length=fs.length
 | [],_,h=>by cases h; rfl
 | (f,d)::fs,_,⟨v,r,h1,h2,h3⟩=>by subst h1; simp [Q3.length h3]
theorem Q3.put {f:Str}{d:PyData}{v:V} (rv:Rep K H d v):∀ {fs:List (Str × PyData)}{vs:List (Str × V)},Q3 K H fs vs->Q3 K H (alm f d fs) (akM f v vs)
 | [],_,h=>by cases h; exact ⟨v,[],rfl,rv,rfl⟩
 | (k,x)::fs,_,⟨w,r,h1,h2,h3⟩=>by
  subst h1
  show Q3 K H (if k=f then (k,d)::fs else (k,x)::alm f d fs) (if k=f then (k,v)::r else (k,w)::akM f v r)
  by_cases hk:k=f
  ·rw [if_pos hk,if_pos hk]; exact ⟨v,r,rfl,rv,h3⟩
  ·rw [if_neg hk,if_neg hk]; exact ⟨w,_,rfl,h2,Q3.put rv h3⟩
end
noncomputable def Qd (K:Fg) (H:Hp) (a:Addr):Cell->Prop
 | .lst ds=>∃ xs,H a=some (QD a xs)/\Reps K H ds xs
 | .ins x fs=>∃ C dx vs,PySem.W.nsIn K mainGlobals x=some (some (.ref C))/\H a=some (.ins C dx vs)/\Q3 K H fs vs
noncomputable def qL (K:Fg) (H:Hp) (μ:zj):Prop:=∀ a c,μ a=some c->Qd K H a c
section
variable {K:Fg}{H H':Hp}{μ:zj}{a:Addr}{c:Cell}{ρ:Rho}{σ:St}
theorem EnvR.monoA (e:EnvR K H ρ σ) (h:jC H H'):EnvR K H' ρ σ:=⟨e.len,fun i d q=>let ⟨v,e1,e2⟩:=e.at' i d q; ⟨v,e1,Rep.monoA h d v e2⟩⟩
theorem Qd.to (h:Qd K H a c) (s:jC H H') (e:H' a=H a):Qd K H' a c:=by
 cases c with
 | lst ds=>obtain ⟨xs,h1,h2⟩:=h; exact ⟨xs,e.trans h1,Reps.monoA s _ _ h2⟩
 | ins x fs=>obtain ⟨C,dx,vs,h1,h2,h3⟩:=h; exact ⟨C,dx,vs,h1,e.trans h2,h3.monoA s⟩
theorem Qd.there (h:Qd K H a c):∃ o,H a=some o/\ag2 o=false:=by
 cases c with
 | lst ds=>obtain ⟨xs,h1,h2⟩:=h; exact ⟨_,h1,rfl⟩
 | ins x fs=>obtain ⟨C,dx,vs,h1,h2,h3⟩:=h; exact ⟨_,h2,rfl⟩
theorem qL.mono (cs:qL K H μ) (s:jm H H'):qL K H' μ:=fun a c h=>by
 obtain ⟨o,h1,_⟩:=(cs a c h).there
 exact (cs a c h).to (jm.a s) ((s _ _ h1).trans h1.symm)
theorem qL.free (cs:qL K H μ) (h:H a=none):μ a=none:=by
 cases q:μ a with
 | none=>rfl
 | some c=>obtain ⟨o,h1,_⟩:=(cs a c q).there; rw [h] at h1; cases h1
theorem qL.put (cs:qL K H μ) (s:jC H H') (k:∀ b,b ≠ a->∀ o,H b=some o->H' b=some o) (new:Qd K H' a c):qL K H' (ajt μ a c):=fun b d h=>by
 by_cases hb:b=a
 ·subst hb; rw [af3] at h; cases h; exact new
 ·rw [aju hb] at h
  obtain ⟨o,h1,_⟩:=(cs b d h).there
  exact (cs b d h).to s ((k b hb o h1).trans h1.symm)
theorem qL.upd {o:HO} (cs:qL K H μ) (s:jC H (L2.upd H a o)) (new:Qd K (L2.upd H a o) a c):qL K (L2.upd H a o) (ajt μ a c):=
 cs.put s (fun b hb o h=>by rw [ji hb]; exact h) new
theorem jC.upd {o u:HO} (h:H a=some u) (hu:ag2 u=false):jC H (L2.upd H a o):=fun b x q d=>by
 have:b ≠ a:=fun z=>by subst z; rw [h] at q; cases q; rw [hu] at d; cases d
 rw [ji this]; exact q
end
inductive Res (α:Type) where
 | ok (d:α) | er (c:Str)
noncomputable abbrev TR (α:Type):=Rho->zj->(Res α->zj->Prop)->Prop
inductive OutC where
 | nx (ρ:Rho) | rt (d:PyData) | bk (ρ:Rho) | ct (ρ:Rho) | er (c:Str)
noncomputable abbrev TRS:=Rho->zj->(OutC->zj->Prop)->Prop
noncomputable def ahK (X:Cx) (H:Hp) (μ:zj) (c:Str) (ev:Value) (s':Shared):Prop:=∃ e C σ' H',ev= .ref e/\X.mg c=some (.ref C)/\Inv X [] σ' H' s'/\jC H H'/\qL X.K H' μ/\Xc X H' s'.heap e C
theorem ahK.mono {X:Cx}{H H1:Hp}{μ:zj}{c:Str}{ev:Value}{s':Shared} (s:jC H H1) (h:ahK X H1 μ c ev s'):ahK X H μ c ev s':=by
 obtain ⟨e,C,σ',H',h1,h2,h3,h4,h5⟩:=h
 exact ⟨e,C,σ',H',h1,h2,h3,s.trans h4,h5⟩
noncomputable def ae6 {α:Type} (X:Cx) (H:Hp) (P:α->Hp->Prop):Res α->zj->Prop
 | .ok d,μ=>∀ H',jC H H'->qL X.K H' μ->P d H'
 | .er c,μ=>∀ ev s',ahK X H μ c ev s'->X.xe ev s'
noncomputable def ae7 (X:Cx) (H:Hp) (D:Ends):OutC->zj->Prop
 | .nx ρ,μ=>∀ σ H',jC H H'->EnvR X.K H' ρ σ->qL X.K H' μ->D.nx σ H'
 | .rt d,μ=>∀ v H',jC H H'->Rep X.K H' d v->qL X.K H' μ->D.rt v H'
 | .bk ρ,μ=>∀ σ H',jC H H'->EnvR X.K H' ρ σ->qL X.K H' μ->D.bk σ H'
 | .ct ρ,μ=>∀ σ H',jC H H'->EnvR X.K H' ρ σ->qL X.K H' μ->D.ct σ H'
 | .er c,μ=>∀ ev s',ahK X H μ c ev s'->X.xe ev s'
section
variable {X:Cx}{α β:Type}{H H1:Hp}{σ:St}
theorem ae6.mono {P:α->Hp->Prop}{o:Res α}{μ:zj} (h:ae6 X H P o μ) (s:jC H H1):ae6 X H1 P o μ:=by
 cases o with
 | ok d=>exact fun H' s1 c=>h H' (s.trans s1) c
 | er c=>exact fun ev s' t=>h ev s' (t.mono s)
theorem ae7.mono {D:Ends}{o:OutC}{μ:zj} (h:ae7 X H D o μ) (s:jC H H1):ae7 X H1 D o μ:=by
 cases o with
 | nx ρ=>exact fun σ H' s1 e c=>h σ H' (s.trans s1) e c
 | rt d=>exact fun v H' s1 e c=>h v H' (s.trans s1) e c
 | bk ρ=>exact fun σ H' s1 e c=>h σ H' (s.trans s1) e c
 | ct ρ=>exact fun σ H' s1 e c=>h σ H' (s.trans s1) e c
 | er c=>exact fun ev s' t=>h ev s' (t.mono s)
noncomputable def AtC (X:Cx) (σ:St) (H:Hp) (T:TR α) (P:α->Hp->Prop):Prop:=∃ ρ μ R,EnvR X.K H ρ σ/\qL X.K H μ/\T ρ μ R/\∀ o μ',R o μ'->ae6 X H P o μ'
noncomputable def AtS (X:Cx) (σ:St) (H:Hp) (T:TRS) (D:Ends):Prop:=∃ ρ μ R,EnvR X.K H ρ σ/\qL X.K H μ/\T ρ μ R/\∀ o μ',R o μ'->ae7 X H D o μ'
noncomputable def bindC (T:TR α) (k:α->TR β):TR β:=fun ρ μ R=>T ρ μ fun o μ'=>match o with
 | .ok d=>k d ρ μ' R
 | .er c=>R (.er c) μ'
noncomputable def amB (T:TR α) (k:α->TRS):TRS:=fun ρ μ R=>T ρ μ fun o μ'=>match o with
 | .ok d=>k d ρ μ' R
 | .er c=>R (.er c) μ'
noncomputable def anB (f:Rho->Option α):TR α:=fun ρ μ R=>∃ d,f ρ=some d/\R (.ok d) μ
noncomputable def anq (o:Option α):TR α:=fun _ μ R=>∃ d,o=some d/\R (.ok d) μ
theorem AtC.bind {T:TR α}{k:α->TR β}{P:β->Hp->Prop} (h:AtC X σ H (bindC T k) P):AtC X σ H T fun d H1=>jC H H1/\AtC X σ H1 (k d) P:=by
 obtain ⟨ρ,μ,R,en,cs,t,kk⟩:=h
 refine ⟨ρ,μ,_,en,cs,t,fun o μ1 r=>?_⟩
 cases o with
 | ok d=>exact fun H1 s1 cs1=>⟨s1,ρ,μ1,R,en.monoA s1,cs1,r,fun o μ' q=>(kk o μ' q).mono s1⟩
 | er c=>exact kk (.er c) μ1 r
theorem AtS.bind {T:TR α}{k:α->TRS}{D:Ends} (h:AtS X σ H (amB T k) D):AtC X σ H T fun d H1=>jC H H1/\AtS X σ H1 (k d) D:=by
 obtain ⟨ρ,μ,R,en,cs,t,kk⟩:=h
 refine ⟨ρ,μ,_,en,cs,t,fun o μ1 r=>?_⟩
 cases o with
 | ok d=>exact fun H1 s1 cs1=>⟨s1,ρ,μ1,R,en.monoA s1,cs1,r,fun o μ' q=>(kk o μ' q).mono s1⟩
 | er c=>exact kk (.er c) μ1 r
theorem AtC.imp {T:TR α}{P P':α->Hp->Prop} (h:AtC X σ H T P) (hp:∀ d H1,jC H H1->P d H1->P' d H1):AtC X σ H T P':=by
 obtain ⟨ρ,μ,R,en,cs,t,kk⟩:=h
 refine ⟨ρ,μ,R,en,cs,t,fun o μ1 r=>?_⟩
 have q:=kk o μ1 r
 cases o with
 | ok d=>exact fun H1 s1 c1=>hp d H1 s1 (q H1 s1 c1)
 | er c=>exact q
theorem AtC.ret {o:Option α}{P:α->Hp->Prop} (h:AtC X σ H (anq o) P):∃ d,o=some d/\∀ H',jm H H'->P d H':=by
 obtain ⟨ρ,μ,R,en,cs,⟨d,hf,hR⟩,kk⟩:=h
 exact ⟨d,hf,fun H' s=>kk _ _ hR H' (jm.a s) (cs.mono s)⟩
end
noncomputable def tC (X:Cx) (T:TR PyData):TE:=fun σ H Q=>AtC X σ H T fun d H'=>∀ v,Rep X.K H' d v->Q v H'
section
variable {X:Cx}{e a b c:Expr}{es:List Expr}{st:Stmt}{sts qg:List Stmt}{fa:RP}{Ta Tb To:TR PyData}{Tt Tu:TR Bool}{F:RO}{S S':TRS}{pos:Pos}
variable {er:List Expr}
end
noncomputable def amC (K:Fg) (x f:Str):Prop:=∀ C,PySem.W.nsIn K mainGlobals x=some (some (.ref C))->Cls K C/\akN K C f
section
variable {X:Cx}{e a b c o value:Expr}{es:List Expr}{st:Stmt}{Ta Tb To Tv:TR PyData}{Tr:TR (LP)}{pos pos' apos:Pos}{x f m:Str}
noncomputable abbrev GC3:=LP->zj->(Res PyData->zj->Prop)->Prop
noncomputable def amD (K:Fg) (mg:SV) (n:Nat) (g:GC3):Sp:=fun vs H Q E=>∃ ds μ R,ds.length=n/\Reps K H ds vs/\qL K H μ/\g ds μ R/\(∀ d μ',R (.ok d) μ'->∀ v H',jC H H'->Rep K H' d v->qL K H' μ'->Q v H')/\
 ∀ c μ',R (.er c) μ'->∀ C H',mg c=some (.ref C)->jC H H'->qL K H' μ'->E (.ref C) none H'
noncomputable def anr (P:Program) (w:World) (K:Fg) (mg:SV) (base:Heap) (x m:Str) (ps:List Str) (k n:Nat) (g:GC3):Prop:=
 ∃ (C f:Addr) (fd:FuncData),PySem.W.nsIn K mainGlobals x=some (some (.ref C))/\Cls K C/\Meth K C m f/\FnOk P w K mg base (CXt P w) k f fd ps (amD K mg n g)/\QB K fd ps []
end
section
variable {X:Cx}{e a b c o value:Expr}{es:List Expr}{st:Stmt}{Ta Tb To Tv:TR PyData}{Tr:TR (LP)}{pos pos' apos:Pos}{x f m:Str}
end
section
variable {X:Cx}{e a b c o value:Expr}{es:List Expr}{st:Stmt}{Ta Tb To Tv:TR PyData}{Tr:TR (LP)}{pos pos' apos:Pos}{x f m:Str}
end
section
variable {X:Cx}{e a b c o value:Expr}{es:List Expr}{st:Stmt}{Ta Tb To Tv:TR PyData}{Tr:TR (LP)}{pos pos' apos:Pos}{x f m:Str}
end
section
variable {X:Cx}{e a b c o value:Expr}{es:List Expr}{st:Stmt}{Ta Tb To Tv:TR PyData}{Tr:TR (LP)}{pos pos' apos:Pos}{x f m:Str}
end
section
variable {X:Cx}{e a b c o value:Expr}{es:List Expr}{st:Stmt}{Ta Tb To Tv:TR PyData}{Tr:TR (LP)}{pos pos' apos:Pos}{x f m:Str}
end
section
variable {X:Cx}{e a b c o value:Expr}{es:List Expr}{st:Stmt}{Ta Tb To Tv:TR PyData}{Tr:TR (LP)}{pos pos' apos cpos:Pos}{x f m:Str}
end
section
variable {X:Cx}{e a b c o value:Expr}{es:List Expr}{st:Stmt}{Ta Tb To Tv:TR PyData}{Tr:TR (LP)}{fa:RP}{pos pos' apos cpos:Pos}{x f m:Str}
end
section
variable {X:Cx}{e a b c o tg src:Expr}{es:List Expr}{st:Stmt}{body:List Stmt}{S:TRS}{Tt:TR Bool}{Tr:TR (LP)}{pos:Pos}{x:Str}
end
section
variable {P:Program}{w:World}{K:Fg}{mg:SV}{base:Heap}
end
section
variable {X:Cx}{e:Expr}{es:List Expr}{Tr:TR (LP)}{pos:Pos}{x:Str}
end
section
variable {X:Cx}{st b0:Stmt}{sts qg tb hb:List Stmt}{S S':TRS}{G:RO}{pos:Pos}
end
section
variable {P:Program}{w:World}{K:Fg}{mg:SV}{base:Heap}
noncomputable def aki (K:Fg) (x m qual:Str) (st:Stmt):Prop:=
 ∃ (C f:Addr) (oc:Value) (od an:Option Addr) (kV doc pm Kc ct:Value) (osl:Array (Option Value)),PySem.W.nsIn K mainGlobals x=some (some (.ref C))/\PySem.W.findIn K (.ref C) m=some (some (.ref f))/\PySem.W.isFn K (.ref f)=true/\
  K.lookup f=some ⟨oc,od,.func (PySem.W.fnOf m qual (zB st) (jX st) (jh st) .none kV doc pm an Kc ct),osl⟩/\PySem.W.codeIn K Kc qual=true/\PySem.W.keepIn K (.ref f)=true
noncomputable def aln (K:Fg) (x:Str):Prop:=∃ C,PySem.W.nsIn K mainGlobals x=some (some (.ref C))/\Cls K C/\PySem.W.makesIn K C=true/\PySem.W.keepIn K (.ref C)=true
theorem ajv {x f:Str}{C:Addr} (T:aln K x) (a:PySem.W.nsIn K mainGlobals x=some (some (.ref C))) (b:PySem.W.findIn K (.ref C) f=some none):amC K x f:=fun C' h=>by
 obtain ⟨D,d1,d2,_⟩:=T
 rw [a] at h; cases h
 rw [a] at d1; cases d1
 exact ⟨d2,b⟩
noncomputable abbrev aej (x qual:Str) (st:Stmt) (ps:List Str):Prop:=∀ (kV doc pm:Value) (an:Option Addr) (Kc ct:Value) (us:List Value),us.length=ps.length->bindArgs (PySem.W.fnOf x qual (zB st) (jX st) (jh st) .none kV doc pm an Kc ct) ⟨us,[]⟩=pure (ps.zip us)
theorem aki.met {x m qual:Str}{st:Stmt}{ps:List Str}{k n:Nat}{g:GC3} (T:aki K x m qual st) (Tc:aln K x) (hb:aej m qual st ps)
  (F:∀ (f:Addr) (fd:FuncData),Fun K m qual st f fd->FnOk P w K mg base (CXt P w) k f fd ps (amD K mg n g)):anr P w K mg base x m ps k n g:=by
 obtain ⟨C,f,oc,od,an,kV,doc,pm,Kc,ct,osl,a,b,i,l,c,kp⟩:=T
 obtain ⟨C',a',cl,_⟩:=Tc
 rw [a] at a'; cases a'
 have F1:=ad8 (st:=st) l c kp
 exact ⟨C,f,_,a,cl,⟨b,i,kp⟩,F f _ F1,F1.binds hb⟩
end
section
variable {X:Cx}{e a b tg src:Expr}{es:List Expr}{Tr:TR (LP)}{S:TRS}{body:List Stmt}{pos:Pos}
end
section
variable {X:Cx}{e a b c tg src:Expr}{es:List Expr}{Ta Tb:TR PyData}{Tr:TR (LP)}{S:TRS}{body:List Stmt}{pos:Pos}{x:Str}
end
noncomputable def amE (K:Fg) (x f:Str):Prop:=∃ C,PySem.W.nsIn K mainGlobals x=some (some (.ref C))/\PySem.W.findIn K (.ref C) f=some none
theorem amE.cls {K:Fg}{x f:Str} (h:amE K x f) (T:aln K x):amC K x f:=by
 obtain ⟨C,a,b⟩:=h
 exact ajv T a b
section
variable {X:Cx}{tg src:Expr}{pos pos':Pos}
end
section
variable {X:Cx}
end
section
variable {X:Cx}
noncomputable def abK:PyData->PyData->OP
 | .str i,.str j=>if i.length+j.length<1000000 then some (.str (i++j)) else none
 | _,_=>none
theorem zR:OpD X (binaryOp .Add) abK:=by
 refine ⟨_,ad3,fun p q d x y H Q h rx ry k=>?_⟩
 unfold abK at h
 split at h
 ·split at h
  ·rename_i hz
   cases h; cases (show x=_ from rx); cases (show y=_ from ry)
   exact ⟨_,_,rfl,rfl,by rw [sizeLine_eq]; omega,k _ H (jm.refl H) rfl⟩
  ·cases h
 ·cases h
theorem aek:OpR X (binaryOp .Mult) (fun x y H Q=>∃ i n,x= .str i/\y= .int n/\MulOk i n/\Q (.str (Txt.mul i n)) H):=by
 intro Kp s σ H x y u v Q I rx ry h
 obtain ⟨i,n,rfl,rfl,ok,q⟩:=h
 obtain ⟨t,rfl⟩:=rx
 obtain ⟨t',rfl⟩:=ry
 exact SB.mul ok fun t' k=>⟨.str (Txt.mul i n),H,I.tok _,⟨_,rfl⟩,q⟩
noncomputable def aaD:PyData->PyData->OP
 | .str i,.int n=>if i.length<=1000/\-1000<n/\n<1000 then some (.str (Txt.mul i n)) else none
 | _,_=>none
theorem ads {i:Str}{n:Int} (h:i.length<=1000/\-1000<n/\n<1000):MulOk i n:=by
 obtain ⟨h1,h2,h3⟩:=h
 refine ⟨by simp; omega,fun h4 _=>?_,fun h4 _=>?_⟩
 ·have h5:(i.length:Int)*n<=1000*1000:=Int.mul_le_mul (by omega) (by omega) (by omega) (by omega)
  have h6:(i.length:Int)<=(2 ^ 63 - 1) / n:=(Int.le_ediv_iff_mul_le (by omega)).mpr (by omega)
  omega
 ·have:i.length*n.toNat<=1000*1000:=Nat.mul_le_mul h1 (by omega)
  generalize i.length*n.toNat=z at this
  show decide (z > sizeLine)=false
  rw [sizeLine_eq]
  exact decide_eq_false (by omega)
theorem Q4:OpD X (binaryOp .Mult) aaD:=by
 refine ⟨_,aek,fun p q d x y H Q h rx ry k=>?_⟩
 unfold aaD at h
 split at h
 ·split at h
  ·rename_i hz
   cases h; cases (show x=_ from rx); cases (show y=_ from ry)
   exact ⟨_,_,rfl,rfl,ads hz,k _ H (jm.refl H) rfl⟩
  ·cases h
 ·cases h
noncomputable def abL (ds:LP):OP:=match ds with
 | [.str z]=>if z.length<1000000 then some (.int z.length) else none
 | _=>none
theorem acs:QT X (.builtin "len") abL:=by
 refine ⟨_,ace,fun ds d xs H Q h r k=>?_⟩
 unfold abL at h
 split at h
 ·split at h
  ·rename_i hz
   cases h
   obtain ⟨x,q,z1,z2,z3⟩:=r
   cases (show q=[] from z3)
   cases (show x=_ from z2)
   exact ⟨_,z1,by rw [sizeLine_eq]; omega,k _ H (jm.refl H) rfl⟩
  ·cases h
 ·cases h
noncomputable def akj:V->List V->Hp->VK->Prop:=fun x xs H Q=>∃ i j,x= .str i/\xs=[.str j]/\Q (.bl (Txt.endswith i j)) H
theorem ajw:MtR X "str.endswith" akj:=by
 intro Kp s σ H x vs v us Q I rx rv h
 obtain ⟨i,j,rfl,rfl,q⟩:=h
 obtain ⟨t,rfl⟩:=rx
 obtain ⟨u,rfl,ru⟩:=jG.one rv
 obtain ⟨t',rfl⟩:=ru
 exact SC.endswith ⟨.bl _,H,I,rfl,q⟩
theorem abM:∀ {texts:List Str}{its:List Value},jG (texts.map V.str) its->∃ l:List (Str × Tok),its=strValues l/\l.map (·.1)=texts
 | [],its,h=>by cases h; exact ⟨[],rfl,rfl⟩
 | x::xs,its,h=>by
  cases h with
  | cons r rr=>
   obtain ⟨t,rfl⟩:=r
   obtain ⟨l,rfl,e⟩:=abM rr
   exact ⟨(x,t)::l,rfl,by rw [List.map_cons,e]⟩
theorem abN:∀ (l:List (Str × Tok)),jG ((l.map (·.1)).map V.str) (strValues l)
 | []=> .nil
 | (x,t)::l=> .cons ⟨t,rfl⟩ (abN l)
noncomputable def akk (K:Fg):V->List V->Hp->VK->Prop:=fun x xs H Q=>∃ i p texts,x= .str i/\xs=[.ref p]/\SqL K H p (List.map V.str texts)/\JoinOk i texts=true/\Q (.str (Txt.join i texts)) H
theorem ajx:MtR X "str.join" (akk X.K):=by
 intro Kp s σ H x vs v us Q I rx rv h
 obtain ⟨i,p,texts,rfl,rfl,hq,hok,q⟩:=h
 obtain ⟨t,rfl⟩:=rx
 obtain ⟨u,rfl,ru⟩:=jG.one rv
 cases ru
 obtain ⟨its,r',pl,hz⟩:=I.list hq
 obtain ⟨l,rfl,e⟩:=abM r'
 exact SC.join pl.isList e hok fun t' k=>⟨.str _,H,I.tok _,⟨_,rfl⟩,q⟩
open Builtin Builtin.Str in
theorem act {prog:Program}{w:World}{A:Around}{E:Value->SP0}{s:Shared}{x y:Str}{t u:Tok}{Q:Value->SP0} (hy:(y.length == 0)=false)
  (hq:∀ (l:List (Str × Tok)) k,l.map (·.1)=Txt.split x y->Q (.ref s.heap.objs.size) { s with heap:=s.heap.push { cls:= .type "list",data:= .seq (strValues l).toArray },toks:=k })
  (hsz:x.length<=sizeLine) (hsz2:(partsBetween x (occurrences x y 0 x.length (x.length+1)) y.length).length<=sizeLine):
  wpAny (model prog w) A (call (.builtin "str.split") [.str x t,.str y u]) Q E s:=by
 cases h1:(decide (x.length<y.length) || decide (strKind x<strKind y))
 ·cases hf:(occurrences x y 0 x.length (x.length+1)).isEmpty
  ·refine call_meets F.slot_str_split (typeIs_str _ _ _) F.entry_str_split (F.args_str_split_2 _ _) (meets_str_split_sep x y t u h1 hy hf hsz hsz2) ?_
   show wants Q E _ { s with toks:=_,heap:=s.heap.push { cls:= .type "list",data:= .seq (strsFrom s.toks (partsBetween x (occurrences x y 0 x.length (x.length+1)) y.length)).toArray } }
   rw [strsFrom_eq]
   exact hq (numbered s.toks _) _ ((numbered_texts _ _).trans ((if_neg (ne_true_of_eq_false h1)).trans (if_neg (ne_true_of_eq_false hf))).symm)
  ·exact call_meets F.slot_str_split (typeIs_str _ _ _) F.entry_str_split (F.args_str_split_2 _ _) (meets_str_split_not_found x y t u h1 hy hf)
    (hq [(x,t)] s.toks ((if_neg (ne_true_of_eq_false h1)).trans (if_pos hf)).symm)
 ·exact call_meets F.slot_str_split (typeIs_str _ _ _) F.entry_str_split (F.args_str_split_2 _ _) (meets_str_split_cannot_occur x y t u h1)
   (hq [(x,t)] s.toks (if_pos h1).symm)
noncomputable def ahL:V->List V->Hp->VK->Prop:=fun x xs H Q=>∃ i j,x= .str i/\xs=[.str j]/\(j.length == 0)=false/\i.length<=sizeLine/\(Builtin.Str.partsBetween i (Builtin.Str.occurrences i j 0 i.length (i.length+1)) j.length).length<=sizeLine/\(Txt.split i j).length<=sizeLine/\∀ l,H l=none->Q (.ref l) (upd H l (.lst ((Txt.split i j).map V.str)))
theorem Qe:MtR X "str.split" ahL:=by
 intro Kp s σ H x vs v us Q I rx rv h
 obtain ⟨i,j,rfl,rfl,hy,hz,hz2,hz3,q⟩:=h
 obtain ⟨t,rfl⟩:=rx
 obtain ⟨u,rfl,ru⟩:=jG.one rv
 obtain ⟨t',rfl⟩:=ru
 refine act hy (fun l k e=>?_) hz hz2
 have hv:=abN l
 rw [e] at hv
 exact ⟨.ref s.heap.objs.size,_,I.laid (t':=k) (fun b o e=>Heap.get?_push_of_some _ e) (Nat.le_refl _) (show qq X.prog X.w _ _ _ (.lst _) from ⟨by rw [List.length_map]; exact hz3,strValues l,0,hv,Heap.get?_push_size _ rfl⟩),rfl,q _ (I.hok.fresh (Nat.le_refl _))⟩
theorem JU {name:Str}{id:String}{r:V->List V->Hp->VK->Prop}{g:PyData->PyData->OP}{a b:Expr}{fa fb:RP}{apos cpos:Pos} (slot:Slot "str" name id) (hty:typeOf (.builtin id)=pure (.type "method_descriptor")) (hm:MtR X id r)
  (hr:∀ p q d x y H Q,g p q=some d->Rep X.K H p x->Rep X.K H q y->(∀ v H',jm H H'->Rep X.K H' d v->Q v H')->r x [y] H Q) (h1:∀ p q d,g p q=some d->∃ z,p= .str z)
  (ha:PD X a fa) (hb:PD X b fb) (hbase:attributeBase a name X.env (eval a X.env)=eval a X.env:=by rfl)
  (hfew:((backTo cpos (starEach [b] X.env)).all (fun x=>!x.1) && (backToKw cpos (keywordEach [] X.env)).all (fun x=>x.1.isSome) && decide ([b].length+([]:List Keyword).length+(if ([]:List Keyword).isEmpty then 0 else 1)<30))=true:=by rfl)
  (hline:(apos.endLine == cpos.line)=true:=by rfl) (hs:starEach [b] X.env=(false,eval b X.env)::starEach [] X.env:=by rfl) (hplain:(backTo cpos (starEach [] X.env)).any (fun x=>x.1)=false:=by rfl):
  PD X (.Call (.Attribute a name apos) [b] [] cpos) (op2 g fa fb):=by
 with_unfolding_all
  refine PE.imp (agX PySem.F.plainAttrs_str slot hty hm ha (q0 hb JN hs) hbase hfew hline hs hplain) fun σ H Q ⟨ρ,d,en,h,k⟩=>?_
  cases e1:fa ρ with
  | none=>simp [op2,e1] at h
  | some p=>
   cases e2:fb ρ with
   | none=>simp [op2,e1,e2] at h
   | some q=>
    have h':g p q=some d:=by simpa [op2,e1,e2] using h
    obtain ⟨z,rfl⟩:=h1 p q d h'
    refine ⟨ρ,_,en,e1,fun x H1 s1 rx=>?_⟩
    cases (show x=V.str z from rx)
    refine ⟨rfl,ρ,q,en.mono s1,e2,fun y H2 s2 ry=>?_⟩
    exact hr _ q d _ y H2 Q h' rfl ry fun v H' s r=>k v H' (s1.trans (s2.trans s)) r
noncomputable def adt:PyData->PyData->OP
 | .str i,.str j=>some (.bool (Txt.endswith i j))
 | _,_=>none
noncomputable def qe:PyData->PyData->OP
 | .str i,.str j=>if (j.length == 0)=false/\i.length<1000000/\(Builtin.Str.partsBetween i (Builtin.Str.occurrences i j 0 i.length (i.length+1)) j.length).length<1000000/\(Txt.split i j).length<1000000 then some (.list ((Txt.split i j).map .str)) else none
 | _,_=>none
noncomputable def zS:LP->Option (List Str)
 | []=>some []
 | .str x::r=>(zS r).map (x::·)
 | _=>none
noncomputable def adu:PyData->PyData->OP
 | .str i,.list ds=>(zS ds).bind fun texts=>if JoinOk i texts=true then some (.str (Txt.join i texts)) else none
 | _,_=>none
theorem ZP {K:Fg}{H:Hp}:∀ {ds:LP}{xs:List V}{texts:List Str},zS ds=some texts->Reps K H ds xs->xs=texts.map V.str
 | [],xs,texts,h,r=>by cases h; exact r
 | d::ds,xs,texts,h,⟨x,q,e1,e2,e3⟩=>by
  cases d with
  | str z=>
   cases h1:zS ds with
   | none=>simp [zS,h1] at h
   | some ts=>
    have:z::ts=texts:=by simpa [zS,h1] using h
    subst this
    cases (show x=V.str z from e2)
    rw [e1,ZP h1 e3]; rfl
  | _=>simp [zS] at h
theorem abO {K:Fg}{H:Hp}:∀ (ts:List Str),Reps K H (ts.map PyData.str) (ts.map V.str)
 | []=>rfl
 | t::ts=>⟨_,_,rfl,rfl,abO ts⟩
theorem ajy {p q d:PyData}{x y:V}{H:Hp}{Q:VK} (h:adt p q=some d) (rx:Rep X.K H p x) (ry:Rep X.K H q y) (k:∀ v H',jm H H'->Rep X.K H' d v->Q v H'):akj x [y] H Q:=by
 unfold adt at h
 split at h
 ·cases h; cases (show x=_ from rx); cases (show y=_ from ry)
  exact ⟨_,_,rfl,rfl,k _ H (jm.refl H) rfl⟩
 ·cases h
theorem Qf {p q d:PyData}{x y:V}{H:Hp}{Q:VK} (h:qe p q=some d) (rx:Rep X.K H p x) (ry:Rep X.K H q y) (k:∀ v H',jm H H'->Rep X.K H' d v->Q v H'):ahL x [y] H Q:=by
 unfold qe at h
 split at h
 ·split at h
  ·rename_i hc
   obtain ⟨c1,c2,c3,c4⟩:=hc
   cases h; cases (show x=_ from rx); cases (show y=_ from ry)
   exact ⟨_,_,rfl,rfl,c1,by rw [sizeLine_eq]; omega,by rw [sizeLine_eq]; omega,by rw [sizeLine_eq]; omega,fun l hl=>k _ _ (jB hl) ⟨l,_,rfl,jt,abO _⟩⟩
  ·cases h
 ·cases h
theorem ajz {p q d:PyData}{x y:V}{H:Hp}{Q:VK} (h:adu p q=some d) (rx:Rep X.K H p x) (ry:Rep X.K H q y) (k:∀ v H',jm H H'->Rep X.K H' d v->Q v H'):akk X.K x [y] H Q:=by
 unfold adu at h
 split at h
 ·rename_i i ds
  cases h1:zS ds with
  | none=>simp [h1] at h
  | some texts=>
   rw [h1,zzD] at h
   split at h
   ·rename_i hok
    cases h; cases (show x=_ from rx)
    obtain ⟨a,us,g1,g2,g3⟩:=ry
    subst g1
    rw [ZP h1 g3] at g2
    exact ⟨_,a,texts,rfl,rfl,SqL.of g2,hok,k _ H (jm.refl H) rfl⟩
   ·cases h
 ·cases h
theorem ajA {p q d:PyData} (h:adt p q=some d):∃ z,p= .str z:=by
 unfold adt at h; split at h
 ·exact ⟨_,rfl⟩
 ·cases h
theorem Qg {p q d:PyData} (h:qe p q=some d):∃ z,p= .str z:=by
 unfold qe at h; split at h
 ·exact ⟨_,rfl⟩
 ·cases h
theorem ajB {p q d:PyData} (h:adu p q=some d):∃ z,p= .str z:=by
 unfold adu at h; split at h
 ·exact ⟨_,rfl⟩
 ·cases h
end
section
variable {X:Cx}{a b c:Expr}{fa fb fc:RP}{p2 pos:Pos}
noncomputable def amF:V->Option Int->Option Int->Hp->VK->Prop:=fun x lo hi H Q=>∃ z,x= .str z/\z.length<=sizeLine/\Q (.str (Txt.slice z lo hi)) H
theorem alo:SlR X amF:=by
 intro Kp s σ H x v vl vu lo hi sl Q I rx hs pl pu h
 obtain ⟨z,rfl,hz,q⟩:=h
 obtain ⟨t,rfl⟩:=rx
 have fin:∀ t' k,EP X Kp σ Q (.str (Txt.slice z lo hi) t') { s with toks:=k }:=fun t' k=>⟨.str _,H,I.tok _,⟨_,rfl⟩,q⟩
 refine ⟨"str",_,F.slot_str_getitem.lookup,typeIs_str _ _ _,?_⟩
 cases pl with
 | none=>
  cases pu with
  | none=>exact wpAny_getItem_str_slice (l:=none) (u:=none) (st:=none) hs rfl (post_val_or_str ⟨Nat.le_trans (Txt.slice_le z _ _) hz,fun t' k=>fin t' k⟩)
  | int j tj=>exact wpAny_getItem_str_slice (l:=none) (u:=some (j,tj)) (st:=none) hs rfl (post_val_or_str ⟨Nat.le_trans (Txt.slice_le z _ _) hz,fun t' k=>fin t' k⟩)
 | int i ti=>
  cases pu with
  | none=>exact wpAny_getItem_str_slice (l:=some (i,ti)) (u:=none) (st:=none) hs rfl (post_val_or_str ⟨Nat.le_trans (Txt.slice_le z _ _) hz,fun t' k=>fin t' k⟩)
  | int j tj=>exact wpAny_getItem_str_slice (l:=some (i,ti)) (u:=some (j,tj)) (st:=none) hs rfl (post_val_or_str ⟨Nat.le_trans (Txt.slice_le z _ _) hz,fun t' k=>fin t' k⟩)
noncomputable def ajC (p:PyData) (lo hi:Option Int):OP:=match p with
 | .str z=>if z.length<1000000 then some (.str (Txt.slice z lo hi)) else none
 | _=>none
theorem alp {K:Fg}{p d:PyData}{lo hi:Option Int}{x:V}{H:Hp}{Q:VK} (h:ajC p lo hi=some d) (r:Rep K H p x) (k:∀ v H',jm H H'->Rep K H' d v->Q v H'):amF x lo hi H Q:=by
 unfold ajC at h
 split at h
 ·split at h
  ·cases h
   cases (show x=_ from r)
   exact ⟨_,rfl,by rw [sizeLine_eq]; omega,k _ H (jm.refl H) rfl⟩
  ·cases h
 ·cases h
noncomputable def aaE (fa fb:RP):RP:=fun ρ=>(fa ρ).bind fun p=>(fb ρ).bind fun q=>(inI q).bind fun i=>ajC p none (some i)
theorem ahM (ha:PD X a fa) (hb:PD X b fb):PD X (.Subscript a (.Slice none (some b) none p2) pos) (aaE fa fb):=by
 with_unfolding_all
  refine PE.imp (QQ alo ha Z4 (Z5 hb)) fun σ H Q ⟨ρ,d,en,q,k⟩=>?_
  cases h1:fa ρ with
  | none=>simp [aaE,h1] at q
  | some y=>
   cases h2:fb ρ with
   | none=>simp [aaE,h1,h2] at q
   | some z=>
    cases h3:inI z with
    | none=>simp [aaE,h1,h2,h3] at q
    | some i=>
     have q':ajC y none (some i)=some d:=by simpa [aaE,h1,h2,h3] using q
     have hz:=QZ h3
     subst hz
     refine ⟨ρ,y,en,h1,fun v H1 s1 r1=>⟨ρ,_,en.mono s1,h2,fun u H2 s2 r2=>?_⟩⟩
     cases (show u=_ from r2)
     exact ⟨i,rfl,alp q' (Rep.mono s2 _ _ r1) fun v H' s r=>k v H' (s1.trans (s2.trans s)) r⟩
noncomputable def af4:PyData->PyData->OP
 | .str z,.int i=>if 0<=i/\i<1000000/\i<z.length then (z.cps[i.toNat]?).map fun c=> .str ⟨#[c]⟩ else none
 | _,_=>none
theorem alq (ha:PD X a fa) (hb:PD X b fb) (hs:acX b):PD X (.Subscript a b pos) (op2 af4 fa fb):=by
 with_unfolding_all
  refine PE.imp (acY ha hb hs) fun σ H Q h=>ag3 (fun p q d x y H Q h rx ry k=>?_) h
  unfold af4 at h
  split at h
  ·rename_i z i
   split at h
   ·rename_i hc
    cases h1:z.cps[i.toNat]? with
    | none=>simp [h1] at h
    | some c=>
     have:PyData.str ⟨#[c]⟩=d:=by simpa [h1] using h
     subst this
     cases (show x=_ from rx); cases (show y=_ from ry)
     exact ⟨z,i,c,rfl,rfl,hc.1,by omega,hc.2.2,h1,k _ H (jm.refl H) rfl⟩
   ·cases h
  ·cases h
theorem ahN {K:Fg}{T:String} (hT:T="str") (d:PyData):PySem.W.kitOne K (.type (tyn d)) (.type T)=some (zP T d):=by
 subst hT
 cases d <;> first | rfl | (rename_i kvs; by_cases h:zh kvs=true <;> simp only [tyn,zP,h] <;> rfl)
theorem ajD {a:Expr}{fa:RP}{T:Str}{Tn:String}{p p2 pos:Pos} (hT:Tn="str") (hm1:X.mg "isinstance"=none) (hm2:X.mg T=none) (hv:bootBuiltins T=some (.type Tn)) (ha:PD X a fa)
  (hg1:Gl X "isinstance":=by rfl) (hg2:Gl X T:=by rfl) (hn:T ≠ "__name__":=by decide) (hd:(T == ("__debug__":Str))=false:=by decide)
  (he:starEach [a,.Name T p2] X.env=[(false,eval a X.env),(false,eval (.Name T p2) X.env)]:=by rfl) (he2:starEach [.Name T p2] X.env=[(false,eval (.Name T p2) X.env)]:=by rfl) (hpl:(backTo pos (starEach [.Name T p2] X.env)).any (·.1)=false:=by rfl):
  PD X (.Call (.Name "isinstance" p) [a,.Name T p2] [] pos) (fun ρ=>(fa ρ).bind fun d=>QI Tn d):=by
 with_unfolding_all
  have hT2:PE X (.Name T p2) (L2.tC (.ty Tn)):=aeN hg2 hm2 hv rfl hn hd
  refine PE.imp (aai (ac9 (T:=Tn)) hg1 hm1 (by decide +kernel) (q0 ha (q0 hT2 JN (by rw [he2]; rfl)) (by rw [he,he2])) (by decide) (by decide) (by rw [he,he2]) hpl) fun σ H Q ⟨ρ,d,en,q,k⟩=>?_
  cases h1:fa ρ with
  | none=>simp [h1] at q
  | some c=>
   obtain ⟨hF,rfl⟩:=ada (show QI Tn c=some d by simpa [h1] using q)
   exact ⟨ρ,c,en,h1,fun v H1 s1 r1=>⟨v,c,_,rfl,r1,hF,ahN hT c,k _ H1 s1 rfl⟩⟩
end
theorem abP {H:Hp}{a:Addr}{ob:Obj}{ks:List (Key × V)} (h:H a=some (.frz ob (.dK ks))) (n:Str):aa7 H a (.str n) (JO ks (Sum.inr n:Key)):= .inl ⟨ks,Sum.inr n,.inr ⟨ob,h⟩,rfl,rfl⟩
section
variable {X:Cx}{e a b c tg src:Expr}{es:List Expr}{fa fb fc:RP}{pos:Pos}
noncomputable def aaF (p q:PyData):OP:=match Z9 p,q with
 | some r,.str n=>qK r (Sum.inr n)
 | _,_=>none
theorem ajE (hu:X.A.units+1<cLine) (ha:PD X a fa) (hb:PD X b fb) (hs:akW b:=by intro _ _; rfl):PD X (.Subscript a b pos) (op2 aaF fa fb):=by
 with_unfolding_all
  refine PE.imp (ai1 hu ha hb hs) fun σ H Q ⟨ρ,d,en,h,k⟩=>?_
  cases h1:fa ρ with
  | none=>simp [op2,h1] at h
  | some p=>
   cases h2:fb ρ with
   | none=>simp [op2,h1,h2] at h
   | some q=>
    have h':aaF p q=some d:=by simpa [op2,h1,h2] using h
    unfold aaF at h'
    split at h'
    ·rename_i r n hp
     refine ⟨ρ,p,en,h1,fun v H1 s1 r1=>⟨ρ,.str n,en.mono s1,h2,fun y H2 s2 r2=>?_⟩⟩
     cases (show y=V.str n from r2)
     obtain ⟨ad,ks,ob,e1,e2,e3⟩:=ZN hp (Rep.mono s2 _ _ r1)
     rcases Zu (Sum.inr n) e3 with ⟨z,_⟩ | ⟨d',x,z1,z2,z3⟩
     ·rw [z] at h'; cases h'
     ·rw [z1] at h'; cases h'
      exact ⟨ad,x,e1,by rw [←z2]; exact abP e2 n,k x H2 (s1.trans s2) z3⟩
    ·cases h'
noncomputable def aaG (neg:Bool) (q p:PyData):OP:=match Z9 p,q with
 | some r,.str n=>some (.bool (if neg then !(qK r (Sum.inr n)).isSome else (qK r (Sum.inr n)).isSome))
 | _,_=>none
theorem ajF (hu:X.A.units+1<cLine) (ha:PD X a fa) (hb:PD X b fb):PC X .In a b (tD X.K (op2 (aaG false) fa fb)):=by
 with_unfolding_all
  intro Kp s σ H Q I ⟨ρ,d,en,h,k⟩
  cases h1:fa ρ with
  | none=>simp [op2,h1] at h
  | some q=>
   cases h2:fb ρ with
   | none=>simp [op2,h1,h2] at h
   | some p=>
    have h':aaG false q p=some d:=by simpa [op2,h1,h2] using h
    unfold aaG at h'
    split at h'
    ·rename_i r n hp
     cases h'
     refine akX hu ha hb Kp s σ H Q I ⟨ρ,.str n,en,h1,fun v H1 s1 r1=>⟨ρ,p,en.mono s1,h2,fun y H2 s2 r2=>?_⟩⟩
     cases (show v=V.str n from r1)
     obtain ⟨ad,ks,ob,e1,e2,e3⟩:=ZN hp r2
     refine ⟨ad,_,e1,abP e2 n,k _ H2 (s1.trans s2) ?_⟩
     rcases Zu (Sum.inr n) e3 with ⟨z1,z2⟩ | ⟨d',x,z1,z2,z3⟩
     ·rw [z1,z2]; rfl
     ·rw [z1,z2]; rfl
    ·cases h'
end
section
variable {X:Cx}{e a b c tg src:Expr}{es:List Expr}{st:Stmt}{sts qg body:List Stmt}{fa fb fc:RP}{F G:RO}{pos:Pos}
noncomputable def alr (P:Program) (w:World):V->V->V->Hp->(Hp->Prop)->Prop:=fun o k v H Q=>∃ a ks ob n,o= .ref a/\k= .str n/\H a=some (ZM P w a ob ks)/\ks.length<sizeLine/\∀ ob',Q (upd H a (ZM P w a ob' (putK ks (Sum.inr n) v)))
theorem af5 (hu:X.A.units+1<cLine):al0 X (alr X.prog X.w):=by
 intro Kp s σ H o k v ov iv u Q I ro rk rv ⟨a,ks,ob,n,e1,e2,h1,h2,q⟩
 subst e1; subst e2
 cases ro
 obtain ⟨t,rfl⟩:=rk
 refine afO hu (Inv.openD I h1) (afM.k (k:=Sum.inr n) jt h2) ⟨t,rfl⟩ rv fun s' I'=>?_
 obtain ⟨ob',I2⟩:=Inv.sealedD I' jt
 rw [QO,QO] at I2
 exact ⟨_,I2,q ob'⟩
noncomputable def adv (c v k:OP):OP:=match c,v,k with
 | some (.dict ((.none,.none)::r)),some d,some (.str n)=>if r.length<1000000 then some (.dict ((.none,.none)::Jy r (Sum.inr n) d)) else none
 | _,_,_=>none
theorem af6 {c v k:OP}{o:PyData} (h:adv c v k=some o):∃ r d n,c=some (.dict ((.none,.none)::r))/\v=some d/\k=some (.str n)/\r.length<1000000/\o= .dict ((.none,.none)::Jy r (Sum.inr n) d):=by
 unfold adv at h
 split at h
 ·split at h
  ·rename_i hc
   cases h
   exact ⟨_,_,_,rfl,rfl,rfl,hc,rfl⟩
  ·cases h
 ·cases h
noncomputable def ae8 (i:Nat) (fk fv:RP):RO:=fun ρ=>(adv (lkp i ρ) (brw (some i) fv ρ) (brw (some i) fk ρ)).map fun d=> .nx (ρ.set i (some d))
theorem ahO (i:Nat) {x:Str}{p1 p2:Pos}{fk fv:RP} (hu:X.A.units+1<cLine) (hk:PD X b fk) (he:PD X e fv) (hN:X.N[i]?=some x:=by rfl) (hv:Vis X.env.scope x:=by first | exact Or.inl rfl | exact Or.inr (Or.inl rfl) | exact Or.inr (Or.inr rfl))
  (hd:(x == ("__debug__":Str))=false:=by decide) (hcd:(x == ("__classdict__":Str))=false:=by decide)
  (ha:∀ v,assign (.Subscript (.Name x p1) b p2) X.env v=(do
   let ov ←holding [v] (eval (.Name x p1) X.env)
   let iv ←holding [v,ov] (eval b X.env)
   standAt p2
   holding [v,ov,iv] (setItem ov iv v)
   release [v,ov,iv] []):=by intro _; rfl)
  (hs:swapsWithSole [.Subscript (.Name x p1) b p2] e pos.line X.env=pure false:=by rfl) (hw:swappedStores [.Subscript (.Name x p1) b p2] e X.env=pure none:=by rfl)
  (h1:(assignEach [.Subscript (.Name x p1) b p2] X.env).map (·.2)=[assign (.Subscript (.Name x p1) b p2) X.env]:=by rfl):PSO X (some i) (.Assign [.Subscript (.Name x p1) b p2] e pos) (ae8 i fk fv):=by
 with_unfolding_all
  refine PS.imp (agO (ahm (own:=some i) he) (akB (ab5 hN hv hd hcd) (ahm (own:=some i) hk) (af5 hu) ha) hs hw h1) fun D σ H ⟨Hs,ρ,o,E,q,k⟩=>?_
  cases hp:adv (lkp i ρ) (brw (some i) fv ρ) (brw (some i) fk ρ) with
  | none=>simp [ae8,hp] at q
  | some nw=>
   have:Out.nx (ρ.set i (some nw))=o:=by simpa [ae8,hp] using q
   subst this
   obtain ⟨r,d,n,q1,q2,q3,hl,rfl⟩:=af6 hp
   refine ⟨Hs,ρ,d,E,q2,fun v H1 s1 E1 r1=>?_⟩
   obtain ⟨d0,a,g1,g2,g3,g4⟩:=E1.ow i rfl
   rw [zt q1] at g1; cases g1
   refine ⟨.ref a,g2,Hs,ρ,.str n,E1,q3,fun kv H2 s2 E2 r2=>?_⟩
   cases (show kv=V.str n from r2)
   obtain ⟨d1,a1,f1,f2,f3,f4⟩:=E2.ow i rfl
   rw [zt q1] at f1; cases f1
   rw [g2] at f2; cases f2
   obtain ⟨ks,r',ob,e1,e2,e3⟩:=f4
   cases e1
   refine ⟨a,ks,ob,n,rfl,rfl,e2,by rw [e3.length]; exact aax hl,fun ob'=>k _ _ (E2.put (zt q1) g2 f3 e2 (fun _ _ _ z=>z) ⟨_,_,ob',rfl,jt,?_⟩)⟩
   have s5:jS H2 (upd H2 a (ZM X.prog X.w a ob' (putK ks (Sum.inr n) v))):=jS.upd e2
   exact RepM.putK (Sum.inr n) (Rep.monoE (s2.trans s5) _ _ r1) (RepM.monoE s5 _ _ e3)
end
noncomputable def sg (x:Str):List Nat:=x.cps.toList
theorem QL {x y:Str} (h:sg x=sg y):x=y:=Str.ext' (by
 have:=congrArg List.toArray h
 simpa [sg] using this)
theorem zm (x y:Str):sg (x++y)=sg x++sg y:=by
 unfold sg
 rw [Str.cps_append,Array.toList_append]
theorem Jq (x:Str):x.length=(sg x).length:=by
 unfold sg
 rw [Array.length_toList]; rfl
theorem zT (c:Nat):sg ⟨#[c]⟩=[c]:=rfl
theorem Q5 {c:Nat}:∀ {a b r s:List Nat},c ∉ a->c ∉ b->a++c::r=b++c::s->a=b/\r=s
 | [],[],r,s,_,_,h=>⟨rfl,(List.cons.inj h).2⟩
 | [],y::b,r,s,_,hb,h=>absurd (List.cons.inj h).1 (fun e=>hb (by rw [e]; exact List.mem_cons_self))
 | x::a,[],r,s,ha,_,h=>absurd (List.cons.inj h).1 (fun e=>ha (by rw [e]; exact List.mem_cons_self))
 | x::a,y::b,r,s,ha,hb,h=>by
  obtain ⟨e1,e2⟩:=List.cons.inj h
  obtain ⟨f1,f2⟩:=Q5 (fun z=>ha (List.mem_cons_of_mem _ z)) (fun z=>hb (List.mem_cons_of_mem _ z)) e2
  exact ⟨by rw [e1,f1],f2⟩
theorem qB (c:Nat) (x y:Str) (r:List Str):sg (Str.join ⟨#[c]⟩ (x::y::r))=sg x++c::sg (Str.join ⟨#[c]⟩ (y::r)):=by
 show sg (x++⟨#[c]⟩++Str.join ⟨#[c]⟩ (y::r))=_
 rw [zm,zm,zT,List.append_assoc]; rfl
theorem Q6 (c:Nat):∀ (ps qs:List Str),ps ≠ []->qs ≠ []->(∀ p ∈ ps,c ∉ sg p)->(∀ q ∈ qs,c ∉ sg q)->sg (Str.join ⟨#[c]⟩ ps)=sg (Str.join ⟨#[c]⟩ qs)->ps=qs
 | [],_,h,_,_,_,_=>absurd rfl h
 | _::_,[],_,h,_,_,_=>absurd rfl h
 | [x],[y],_,_,_,_,h=>by rw [QL (show sg x=sg y from h)]
 | [x],y::z::r,_,_,hp,_,h=>by
  rw [qB] at h
  exact absurd (show c ∈ sg x by rw [show sg x=_ from h]; simp) (hp x List.mem_cons_self)
 | x::z::r,[y],_,_,_,hq,h=>by
  rw [qB] at h
  exact absurd (show c ∈ sg y by rw [←show _=sg y from h]; simp) (hq y List.mem_cons_self)
 | x::x2::r,y::y2::s,_,_,hp,hq,h=>by
  rw [qB,qB] at h
  obtain ⟨e1,e2⟩:=Q5 (hp x List.mem_cons_self) (hq y List.mem_cons_self) h
  rw [QL e1,Q6 c (x2::r) (y2::s) (by simp) (by simp) (fun p hp'=>hp p (List.mem_cons_of_mem _ hp')) (fun q hq'=>hq q (List.mem_cons_of_mem _ hq')) e2]
theorem zU (c:Nat) {ps:List Str} (hne:ps ≠ []) (hf:∀ p ∈ ps,c ∉ sg p):Txt.split (Str.join ⟨#[c]⟩ ps) ⟨#[c]⟩=ps:=by
 have h1:=split_pos (Str.join ⟨#[c]⟩ ps) ⟨#[c]⟩
 refine Q6 c _ _ (fun e=>?_) hne (fun p hp=>StrLaws.split_free _ c p hp) hf (by rw [StrLaws.join_split])
 rw [e] at h1
 simp at h1
theorem JB {x:Str} (c:Nat) (hx:x.length<900000):qe (.str x) (.str ⟨#[c]⟩)=some (.list ((Txt.split x ⟨#[c]⟩).map .str)):=by
 have h2:=split_le x ⟨#[c]⟩
 have h3:(Builtin.Str.partsBetween x (Builtin.Str.occurrences x ⟨#[c]⟩ 0 x.length (x.length+1)) (⟨#[c]⟩:Str).length).length<=x.length+2:=by
  rw [len_partsBetween]
  have:=StrLaws.occ_length_le x ⟨#[c]⟩ 0 x.length (x.length+1)
  omega
 show (if ((⟨#[c]⟩:Str).length == 0)=false/\x.length<1000000/\(Builtin.Str.partsBetween x (Builtin.Str.occurrences x ⟨#[c]⟩ 0 x.length (x.length+1)) (⟨#[c]⟩:Str).length).length<1000000/\(Txt.split x ⟨#[c]⟩).length<1000000 then some (PyData.list ((Txt.split x ⟨#[c]⟩).map .str)) else none)=_
 rw [if_pos ⟨rfl,by omega,by omega,by omega⟩]
theorem adw (c:Nat):∀ (n:Nat) (acc:Array Nat),((List.replicate n (#[c]:Array Nat)).foldl (·++·) acc).toList=acc.toList++List.replicate n c
 | 0,acc=>by simp
 | n+1,acc=>by
  rw [List.replicate_succ,List.foldl_cons,adw c n,Array.toList_append,List.append_assoc,List.replicate_succ]; rfl
theorem acu (c:Nat) (n:Int):sg (Txt.mul ⟨#[c]⟩ n)=List.replicate n.toNat c:=by
 unfold Txt.mul
 by_cases h1:n<1
 ·rw [if_pos h1,show n.toNat=0 by omega]; rfl
 ·rw [if_neg h1]
  by_cases h2:n=1
  ·subst h2; rfl
  ·have:((n == 1 || (⟨#[c]⟩:Str).length == 0)=true)=False:=by
    have:(⟨#[c]⟩:Str).length=1:=rfl
    simp [h2,this]
   rw [if_neg (by rw [this]; exact id)]
   show ((List.replicate n.toNat (#[c]:Array Nat)).foldl (·++·) #[]).toList=_
   rw [adw]; rfl
theorem Q7 (c:Nat) {n:Int} (h0:-1000<n) (h1:n<1000):aaD (.str ⟨#[c]⟩) (.int n)=some (.str (Txt.mul ⟨#[c]⟩ n)):=by
 show (if (⟨#[c]⟩:Str).length<=1000/\-1000<n/\n<1000 then some (PyData.str (Txt.mul ⟨#[c]⟩ n)) else none)=_
 rw [if_pos ⟨by show 1<=1000; omega,h0,h1⟩]
theorem ahP {x y:Str} (h:x.length+y.length<1000000):abK (.str x) (.str y)=some (.str (x++y)):=by
 show (if x.length+y.length<1000000 then some (PyData.str (x++y)) else none)=_
 rw [if_pos h]
theorem Qh:∀ (ts:List Str),sg (Str.join Str.empty ts)=(ts.map sg).flatten
 | []=>rfl
 | [x]=>by show sg x=_; simp
 | x::y::r=>by
  show sg (x++Str.empty++Str.join Str.empty (y::r))=_
  rw [zm,zm,Qh (y::r)]
  show sg x++[]++_=_
  rw [List.append_nil]; rfl
theorem ahQ (s:Str) (ts:List Str):Txt.join s ts=Str.join s ts:=StrLaws.glued_eq_join s ts
noncomputable def J1 (v:Option Int) (d n:Nat):Nat:=match v with
 | none=>d
 | some i=>(max 0 (min (if i<0 then i+(n:Int) else i) (n:Int))).toNat
theorem ahR {v:Option Int}{d n:Nat} (h:d<=n):J1 v d n<=n:=by
 cases v with
 | none=>exact h
 | some i=>show (max 0 (min (if i<0 then i+(n:Int) else i) (n:Int))).toNat<=n; omega
theorem ajG (a b:Nat):sliceRange (a:Int) (b:Int) 1=(List.range (b - a)).map (fun k=>a+k):=by
 unfold sliceRange
 simp only [show ((1:Int) > 0)=True from by simp,zzM]
 by_cases hlt:(a:Int)<b
 ·have e3:(((b:Int) - a+1 - 1) / 1).toNat=b - a:=by
   rw [Int.ediv_one]; omega
  simp only [hlt,zzM,e3]
  refine List.map_congr_left fun k _=>?_
  omega
 ·have:b - a=0:=by omega
  simp [hlt,this]
theorem als (lo hi:Option Int) (n:Nat):Builtin.Str.strSliceIndices lo hi 1 n=(List.range (J1 hi n n - J1 lo 0 n)).map (fun k=>J1 lo 0 n+k):=by
 rw [←ajG]
 have c1:∀ (v:Option Int) (d:Nat),(match v with
   | none=>(d:Int)
   | some i=>if (1:Int) > 0 then max 0 (min (if i<0 then i+(n:Int) else i) (n:Int)) else max (-1) (min (if i<0 then i+(n:Int) else i) ((n:Int) - 1)))=((J1 v d n:Nat):Int):=by
  intro v d
  cases v with
  | none=>rfl
  | some i=>
   show (if (1:Int) > 0 then max 0 (min (if i<0 then i+(n:Int) else i) (n:Int)) else _)=(((max 0 (min (if i<0 then i+(n:Int) else i) (n:Int))).toNat:Nat):Int)
   rw [if_pos (by omega)]; omega
 have e1:=c1 lo 0
 have e2:=c1 hi n
 unfold Builtin.Str.strSliceIndices
 simp only [show ((1:Int) > 0)=True from by simp,zzM] at e1 e2 ⊢
 rw [←e1,←e2]
 rfl
theorem ahS (x:Str) (lo hi:Option Int):sg (Txt.slice x lo hi)=((sg x).drop (J1 lo 0 x.length)).take (J1 hi x.length x.length - J1 lo 0 x.length):=by
 have hl:=Jq x
 have hb:=ahR (v:=hi) (Nat.le_refl x.length)
 unfold Txt.slice
 rw [als]
 generalize J1 lo 0 x.length=A at*
 generalize J1 hi x.length x.length=B at*
 by_cases hc:((1:Int) == 1 && ((List.range (B - A)).map fun k=>A+k).length == x.length)=true
 ·rw [if_pos hc]
  have hc':B - A=x.length:=by simpa using hc
  by_cases h0:x.length=0
  ·have:sg x=[]:=List.eq_nil_of_length_eq_zero (by omega)
   rw [this]; simp
  ·have:A=0:=by omega
   rw [this,List.drop_zero,List.take_of_length_le (by omega)]
 ·rw [if_neg hc]
  show (((List.range (B - A)).map fun k=>A+k).filterMap (x.cps[·]?))=_
  by_cases hab:A<=B
  ·have h:=StrLaws.picks (sg x) (B - A) A (by omega)
   unfold sg at h ⊢
   simpa using h
  ·have:B - A=0:=by omega
   rw [this]; simp
noncomputable def aaH (x:Str):Bool:=x.cps.all (· < 128)
noncomputable def Qi (x:Str):LP:=x.cps.toList.map fun c=> .str ⟨#[c]⟩
section
variable {X:Cx}{e:Expr}{fa:RP}{tg:Expr}
theorem ael {x:Str}{i:Nat}{d:PyData} (h:(Qi x)[i]?=some d):∃ c,x.cps[i]?=some c/\d= .str ⟨#[c]⟩:=by
 unfold Qi at h
 rw [List.getElem?_map] at h
 cases hc:x.cps.toList[i]? with
 | none=>rw [hc] at h; cases h
 | some c=>
  rw [hc] at h
  cases h
  exact ⟨c,by simpa using hc,rfl⟩
theorem aem (x:Str):(Qi x).length=x.cps.size:=by unfold Qi; simp
end
noncomputable def amG (x:Str):It:=
 ⟨fun i H=>i<x.cps.size,
  fun i H u H'=>∃ p c,u= .ref p/\H p=none/\H'=upd H p (.tup [.int (i:Int),.str ⟨#[c]⟩])/\x.cps[i]?=some c,
  fun i H=>x.cps.size<=i⟩
theorem aen {P:Program}{w:World}{K:Fg}{elts:List Expr}{x1:Nat}{pos:Pos}{e it:Addr} (x:Str) (t:Tok) (hei:e ≠ it):
  Turn P w K (.Tuple elts x1 pos) (amG x) [e,it] e (fun i h=>(∃ old,IsEnum h e it i old)/\h.IsStrIter it "str_ascii_iterator" x t i) where
 mem:=by simp
 obj:=fun i h st b hb=>by
  obtain ⟨⟨old,he⟩,o,ho,hc,hd⟩:=st
  simp only [List.mem_cons,List.not_mem_nil,or_false] at hb
  rcases hb with rfl | rfl
  ·exact ⟨_,he,fun v q=>by cases q⟩
  ·exact ⟨o,ho,fun v q=>by rw [hd] at q; cases q⟩
 keep:=fun i h h' st k=>by
  obtain ⟨⟨old,he⟩,o,ho,r⟩:=st
  exact ⟨⟨old,k e (by simp) _ he⟩,o,k it (by simp) o ho,r⟩
 item:=by
  intro X hP hw hK hc i Kp s σ H E I hf st hg
  subst hP hw hK
  have hi:i<x.cps.size:=hg
  obtain ⟨⟨old,he⟩,hit⟩:=st
  refine wpAny_pyNext_enum_itemD (Draws.strAscii (A:=X.A.in1) (show X.A.in1.handled=none from I.ok.hd hc) it x t) he hit hi hei (by simp only [List.mem_cons,List.not_mem_nil,or_false]; exact hei) fun x1 h1 tk hx1 ho hit1 hT hsz hk=>⟨_,rfl,?_⟩
  obtain ⟨c,tc,hcx,rfl⟩:=hx1
  refine wpAny_letOwnedTupleGo_enum (s:={ s with heap:=h1,toks:=tk+1 }) ho fun h2 he2 hs2=>?_
  have nT:H s.heap.objs.size=none:=I.hok.fresh (Nat.le_refl _)
  have elt:e<s.heap.objs.size:=Heap.lt_size he
  have B2:∀ b o,b ∉ [e,it]->s.heap.get? b=some o->h2.get? b=some o:=fun b o hb q=>by
   simp only [List.mem_cons,List.not_mem_nil,or_false,not_or] at hb
   exact (hs2.2 b hb.1).trans (hk b o hb.1 hb.2 q)
  have T2:h2.get? s.heap.objs.size=some { cls:= .type "tuple",data:= .seq #[.int i tk,.str ⟨#[c]⟩ tc] }:=(hs2.2 _ (Nat.ne_of_gt elt)).trans hT
  have hit2:h2.IsStrIter it "str_ascii_iterator" x t (i+1):=by
   obtain ⟨o,ho',r⟩:=hit1
   exact ⟨o,(hs2.2 it hei.symm).trans ho',r⟩
  have ntr:∀ b u,H b=some u->b ∉ [e,it]:=fun b u q hb=>by
   have:=(hf b hb).1
   rw [q] at this; cases this
  have neT:∀ b u,H b=some u->b ≠ s.heap.objs.size:=fun b u e q=>by rw [q,nT] at e; cases e
  have hok2:HOk X.prog X.w (upd H s.heap.objs.size (.tup [.int (i:Int),.str ⟨#[c]⟩])) h2:=fun b u q=>by
   by_cases hb:b=s.heap.objs.size
   ·subst hb
    rw [jt] at q
    cases q
    exact ⟨by show 2<=sizeLine; rw [sizeLine_eq]; decide,[.int i tk,.str ⟨#[c]⟩ tc],.cons ⟨_,rfl⟩ (.cons ⟨_,rfl⟩ .nil),⟨_,T2,rfl,_,rfl⟩⟩
   ·rw [ji hb] at q
    refine (I.hok b u q).stay (fun c o hc' z=>B2 c o ?_ z) (fun c z=>by rw [ji (neT c _ z)]; exact z) fun c ws z=>by rw [ji (neT c _ z)]; exact z
    rcases hc' with q' | q'
    ·rw [q']; exact ntr b u q
    ·exact ntr c _ q'
  have I2:Inv X Kp σ (upd H s.heap.objs.size (.tup [.int (i:Int),.str ⟨#[c]⟩])) { s with heap:=h2,toks:=tk+1 }:=by
   refine I.step (t':=tk+1) (g':=s.gens) (d':=s.drawn) (ch:=[e,it]) (fun b hb=>?_) (fun b o _ _ hb q _=>B2 b o hb q) (fun b o _ _ hb q _=>⟨o.slots,B2 b o hb q⟩) (fun b o hb q n=>?_) (fun b o hb q=>⟨o,B2 b o hb q⟩)
    (fun b ws q=>by rw [ji (neT b _ q)]; exact q) (fun b ob ws q=>by rw [ji (neT b _ q)]; exact q) (fun b ps q=>⟨#[],by rw [ji (neT b _ q),q]; simp⟩) (fun m hm=>?_) hok2 I.bare
   ·obtain ⟨f0,f1,f2,f3,f4,f5⟩:=hf b hb
    exact ⟨f3,f1,f4,f5⟩
   ·rw [ji (Nat.ne_of_lt (Heap.lt_size q))]; exact n
   ·obtain ⟨o,es,ep,ho',r⟩:=hm
    refine ⟨o,es,ep,B2 _ o (fun hb=>?_) ho',r⟩
    exact (hf _ hb).2.1 rfl
  refine ⟨.ref s.heap.objs.size,_,I2,rfl,⟨_,c,rfl,nT,rfl,hcx⟩,⟨⟨_,by simpa using he2⟩,hit2⟩,fun b hb=>?_⟩
  have hlt:b<s.heap.objs.size:=by
   simp only [List.mem_cons,List.not_mem_nil,or_false] at hb
   rcases hb with rfl | rfl
   ·exact elt
   ·obtain ⟨o,ho',_⟩:=hit; exact Heap.lt_size ho'
  rw [ji (Nat.ne_of_lt hlt)]
  exact (hf b hb).1
 done:=by
  intro X hP hw hK hc i Kp s σ H E I hf st hg
  subst hP hw hK
  have hl:x.cps.size<=i:=hg
  obtain ⟨⟨old,he⟩,hit⟩:=st
  refine wpAny_pyNext_enum_endD (n:=i) (fp:=[it]) (P:=fun _ _=>False) (St:=fun k h=>k=i/\h.IsStrIter it "str_ascii_iterator" x t i) ⟨fun _ _ st=>by obtain ⟨o,e,_⟩:=st.2; exact ⟨o,e⟩,fun _ _ _ st kp=>⟨st.1,by obtain ⟨o,e,r⟩:=st.2; exact ⟨o,kp it (by simp) o e,r⟩⟩,fun k s Q E hk st=>absurd st.1 (by omega),fun s Q E st hE=>wpAny_nextOf_ascii_end (show X.A.in1.handled=none from I.ok.hd hc) st.2 (by simp; omega) hE⟩ he ⟨rfl,hit⟩ fun h1 hx=>⟨rfl,?_⟩
  have ntr:∀ b u,H b=some u->b ≠ it:=fun b u q hb=>by
   have:=(hf it (by simp)).1
   rw [hb] at q
   rw [q] at this; cases this
  refine I.step (t':=s.toks) (g':=s.gens) (d':=s.drawn) (ch:=[it]) (fun b hb=>?_) (fun b o _ _ hb q _=>hx b o (by simpa using hb) q) (fun b o _ _ hb q _=>⟨o.slots,hx b o (by simpa using hb) q⟩) (fun b o hb q n=>n) (fun b o hb q=>⟨o,hx b o (by simpa using hb) q⟩)
   (fun b ws q=>q) (fun b ob ws q=>q) (fun b ps q=>⟨#[],by rw [q]; simp⟩) (fun m hm=>?_) (fun b u q=>?_) I.bare
  ·obtain ⟨f0,f1,f2,f3,f4,f5⟩:=hf b (by simp only [List.mem_cons,List.not_mem_nil,or_false] at hb ⊢; exact .inr hb)
   exact ⟨f3,f1,f4,f5⟩
  ·obtain ⟨o,es,ep,ho,r⟩:=hm
   refine ⟨o,es,ep,hx _ o (fun hb=>?_) ho,r⟩
   exact (hf it (by simp)).2.1 hb.symm
  ·refine (I.hok b u q).stay (fun c o hc' z=>hx c o ?_ z) (fun c z=>z) fun c ws z=>z
   rcases hc' with q' | q'
   ·rw [q']; exact ntr b u q
   ·exact ntr c _ q'
 self:=fun _ _ _ _ _ st h=>by
  obtain ⟨⟨old,he⟩,_⟩:=st
  exact wpAny_pyIter_enum he h
section
variable {X:Cx}
noncomputable def alu (ta:TA):TI:=fun σ H R=>ta σ H fun vs H1=>∃ x,vs=[.str x]/\aaH x=true/\R (amG x) H1
theorem ahT {ea:Expr}{elts:List Expr}{x1:Nat}{tp:Pos}{ta:TA}{p pos:Pos} (hg:Gl X "enumerate") (hm:X.mg "enumerate"=none) (ha:PA X [ea] ta)
  (hs:starEach [ea] X.env=[(false,eval ea X.env)]:=by rfl):
  PI X (.Tuple elts x1 tp) (.Call (.Name "enumerate" p) [ea] [] pos) (alu ta):=by
 intro Kp s σ H R I h
 refine Call_ (QF I hg hm boot_enumerate (PyProof.Rows.callWith_type1 (thn (ha pos Kp s σ H _ I h) fun us s1 ⟨vs,H1,I1,r1,q1⟩=>?_) (by rw [hs]; rfl) (by rfl)))
 obtain ⟨x,e,hasc,q⟩:=q1
 subst e
 cases r1 with
 | cons r1 rr=>
  cases rr
  obtain ⟨t,rfl⟩:=r1
  refine call_enumerate_str fun h' he hit hz kp=>?_
  have hty:strIterType x="str_ascii_iterator":=by
   unfold strIterType
   rw [if_pos (show x.cps.all (· < 128)=true from hasc)]
  rw [hty] at hit
  refine wpAny_pyIter_enum he ?_
  have I2:Inv X Kp σ H1 { s1 with heap:=h' }:=I1.kept (t':=s1.toks) kp
  refine ⟨_,[s1.heap.objs.size+1,s1.heap.objs.size],_,_,H1,rfl,I2,aen (e:=s1.heap.objs.size+1) (it:=s1.heap.objs.size) x t (Nat.succ_ne_self _),⟨⟨_,he⟩,hit⟩,fun y hy=>?_,q⟩
  have hle:s1.heap.objs.size<=y:=by
   simp only [List.mem_cons,List.not_mem_nil,or_false] at hy
   rcases hy with e | e <;> rw [e] <;> omega
  exact I1.fpOk hle (I1.hok.fresh hle)
noncomputable def aaI (ds:LP):Option (LP):=match ds with
 | [.str x]=>if aaH x=true then some (JA 0 (Qi x)) else none
 | _=>none
theorem af7 {ea:Expr}{elts:List Expr}{x1:Nat}{tp:Pos}{p pos:Pos}{fr:Rho->Option (LP)} (hm:X.mg "enumerate"=none) (ha:PAD X [ea] fr) (hg:Gl X "enumerate":=by rfl)
  (hs:starEach [ea] X.env=[(false,eval ea X.env)]:=by rfl):
  PID X (.Tuple elts x1 tp) (.Call (.Name "enumerate" p) [ea] [] pos) (fun ρ=>(fr ρ).bind aaI):=by
 with_unfolding_all
  refine PI.imp (ahT hg hm ha hs) fun σ H R ⟨ρ,ds,en,q,k⟩=>?_
  cases h1:fr ρ with
  | none=>simp [h1] at q
  | some as=>
   have q':aaI as=some ds:=by simpa [h1] using q
   refine ⟨ρ,as,en,h1,fun vs H1 s1 r1=>?_⟩
   unfold aaI at q'
   split at q'
   ·rename_i x
    split at q'
    ·rename_i hasc
     cases q'
     obtain ⟨v1,w1,e1,rp,e4⟩:=r1
     cases (show w1=[] from e4)
     cases (show v1=_ from rp)
     have lz:=Zv (Qi x) 0
     rw [aem] at lz
     refine ⟨x,e1,hasc,k _ H1 s1 fun i H2 s2=>⟨fun hi=>?_,fun hi=>?_,fun u H3 y=>?_⟩⟩
     ·rw [lz] at hi; exact hi
     ·rw [lz] at hi; exact hi
     ·obtain ⟨pp,c,e5,e6,e7,e8⟩:=y
      subst e5; subst e7
      refine ⟨jB e6,fun d hd=>?_⟩
      obtain ⟨dx,g3,g4⟩:=abJ (Qi x) 0 i d hd
      subst g4
      obtain ⟨c',f1,rfl⟩:=ael g3
      rw [e8] at f1; cases f1
      exact ⟨pp,[.int (i:Int),.str ⟨#[c]⟩],rfl,SqT.of jt,_,_,rfl,by show V.int (i:Int)=V.int ((0+i:Nat):Int); rw [Nat.zero_add],_,_,rfl,rfl,rfl⟩
    ·cases q'
   ·cases q'
end
section
variable {prog:Program}{w:World}{A:Around}{E:Value->SP0}
theorem abQ {it t:Addr}{items:Array Value} (hne:t ≠ it):∀ (n i:Nat) (s:Shared) (Q:List Value->SP0),s.heap.IsListIter it t i->s.heap.IsList t items->i+n<=items.size->
  (∀ h',h'.IsListIter it t (i+n)->Heap.SameBut it s.heap h'->Q ((items.toList.drop i).take n) { s with heap:=h' })->wpAny (model prog w) A (draw (.ref it) n) Q E s
 | 0,i,s,Q,hit,_,_,hQ=>by
  show wpAny _ _ (pure []) Q E s
  exact wpAny_pure (by simpa using hQ s.heap hit (Heap.SameBut.refl ..))
 | n+1,i,s,Q,hit,ht,hle,hQ=>by
  have hlt:i<items.size:=by omega
  show wpAny _ _ (pyNext (.ref it) >>= _) Q E s
  refine wpAny_bind (wpAny_pyNext_list_item hit ht (x:=items[i]) (by simp [hlt]) fun h₁ hit₁ hs₁=>?_)
  refine wpAny_bind (wpAny_holding (abQ hne n (i+1) _ _ hit₁ (ht.extBut hs₁.extBut hne) (by omega) fun h₂ hit₂ hs₂=>wpAny_pure ?_))
  have hd:items.toList.drop i=items[i]::items.toList.drop (i+1):=by simp [List.drop_eq_getElem_cons,hlt]
  have:=hQ h₂ (by rw [show i+(n+1)=i+1+n by omega]; exact hit₂) (hs₁.trans hs₂)
  rw [hd,List.take_succ_cons] at this
  exact this
theorem Zw {s:Shared}{t:Addr}{items:Array Value}{Q:List Value->SP0} (hh:A.handled=none) (ht:s.heap.IsList t items)
  (hQ:∀ h',Heap.ExtBut s.heap.objs.size s.heap h'->Q items.toList { s with heap:=h' }):wpAny (model prog w) A (unpackItems (.ref t) items.size none) Q E s:=by
 have hlt:t ≠ s.heap.objs.size:=by obtain ⟨o,ho,_⟩:=ht; exact Nat.ne_of_lt (Heap.lt_size ho)
 unfold unpackItems
 refine wpAny_bind ?_
 ·unfold notIterableAtAll
  refine wpAny_bind (wpAny_specialOf ht.typeIs slot_list_iter.lookup ?_)
  refine wpAny_pure ?_
  simp only [zzL,zzN]
  refine wpAny_bind (wpAny_holding (wpAny_pyIter_list ht ?_))
  refine wpAny_bind (wpAny_holding (abQ hlt items.size 0 _ _ ⟨_,Heap.get?_push_size _ rfl,rfl,rfl⟩ (ht.push _) (by omega) fun h₁ hit₁ hs₁=>?_))
  have hall:List.take items.size (List.drop 0 items.toList)=items.toList:=by
   rw [List.drop_zero]; exact List.take_of_length_le (by simp)
  rw [hall]
  rw [if_neg (by simp)]
  have ht₁:h₁.IsList t items:=(ht.push _).extBut hs₁.extBut hlt
  refine wpAny_bind (wpAny_holding (wpAny_pyNext_list_end hh hit₁ ht₁ (by simp) fun h₂ he₂=>?_))
  simp only [Option.isSome_none,zzL,zzN]
  refine wpAny_pure (hQ h₂ fun b o hb e=>he₂ b o hb (hs₁.extBut b o hb (Heap.get?_push_of_some _ e)))
theorem Q8 {s:Shared}{env:Env}{elts:List Expr}{x1}{pos:Pos}{t:Addr}{items:Array Value}{Q:Unit->SP0} (hh:A.handled=none) (ht:s.heap.IsList t items)
  (hn:(assignEach elts env).length=items.size) (hstar:(assignEach elts env).findIdx? (·.1)=none)
  (h:∀ h',Heap.ExtBut s.heap.objs.size s.heap h'->wpAny (model prog w) A (assignInOrder ((assignEach elts env).map (·.2)) items.toList) Q E { s with heap:=h' }):
  wpAny (model prog w) A (assign (.Tuple elts x1 pos) env (.ref t)) Q E s:=by
 rw [assign_Tuple]
 refine wpAny_bind (wpAny_standAt ?_)
 unfold unpack
 rw [hn,hstar]
 exact wpAny_bind (wpAny_holding (Zw hh ht h))
end
section
variable {X:Cx}{es:List Expr}{pos:Pos}
noncomputable def ans (K:Fg) (n:Nat) (t:TGs):TG:=fun v σ H Q=>∃ a xs,v= .ref a/\SqL K H a xs/\xs.length=n/\t xs σ H Q
theorem alv {k:Nat}{t:TGs}{n:Nat} (hc:X.calm=true) (h:PGs X es t)
  (hn:(assignEach es X.env).length=n:=by rfl) (hst:(assignEach es X.env).findIdx? (·.1)=none:=by rfl):PG X (.Tuple es k pos) (ans X.K n t):=by
 intro Kp s σ H v u Q I r hw
 obtain ⟨a,xs,e1,hq,hl,hw⟩:=hw
 subst e1
 cases r
 obtain ⟨its,rv,ht,hz⟩:=I.list hq
 refine Q8 (I.ok.hd hc) ht.isList (by simp [hn,←hl,rv.length]) hst fun h' hx=>?_
 have I1:Inv X Kp σ H { s with heap:=h' }:=I.kept (t':=s.toks) fun b o e=>hx b o (Nat.ne_of_lt (Heap.lt_size e)) e
 exact h Kp _ σ H xs _ Q I1 (by simpa using rv) hw
noncomputable def ajH (n:Nat) (gr:LP->Rho->Option Rho) (d:PyData) (ρ:Rho):Option Rho:=match d with
 | .list ds=>if ds.length=n then gr ds ρ else none
 | _=>none
theorem ajI {k n:Nat}{gr:LP->Rho->Option Rho} (hc:X.calm=true) (h:ag5 X es gr) (hn:(assignEach es X.env).length=n:=by rfl) (hst:(assignEach es X.env).findIdx? (·.1)=none:=by rfl):
  PGD X (.Tuple es k pos) (ajH n gr):=by
 with_unfolding_all
  refine PG.imp (alv hc h hn hst) fun v σ H Q ⟨ρ,d,ρ',en,r,q,k⟩=>?_
  cases d with
  | list ds=>
   obtain ⟨a,xs,e1,e2,e3⟩:=r
   by_cases hl:ds.length=n
   ·exact ⟨a,xs,e1,SqL.of e2,by rw [e3.length]; exact hl,ρ,ds,ρ',en,e3,by simpa [ajH,hl] using q,k⟩
   ·simp [ajH,hl] at q
  | _=>simp [ajH] at q
end
end BX
end
local macro_rules
  | `(tactic| dsimp? [$xs,*])=>`(tactic| simp only [BX.j2,BX.ifS,BX.ifD,BX.ifX,BX.akZ,BX.orB,BX.zz,BX.tst,BX.op2,BX.chn,BX.jO,BX.JQ,BX.J4,BX.jj,BX.jD,BX.lkp,BX.cst,BX.qP,BX.Z0,BX.zl,BX.jP,BX.qX,BX.nxX,BX.orX,BX.af2,BX.ag4,BX.asB,zzA,zzB,zzC,zzD,zzH,zzE,zzI,zzF,zzG,zzJ,zzK,zzL,zzM,zzN,$(⟨xs.elemsAndSeps⟩),*])
section
namespace Rods
open PySem L2 BX
open PyProof.Rows hiding St
noncomputable def top (i:Nat):Stmt:=PySem.Challenge.pw_beadrods_k62_whole_unlike_drawings.main.body.getD i (.Pass ⟨0,0,0,0⟩)
structure Bare (mg:SV):Prop where
 isi:mg "isinstance"=none
 bool:mg "bool"=none
 int:mg "int"=none
 tuple:mg "tuple"=none
 zip:mg "zip"=none
 range:mg "range"=none
 all:mg "all"=none
 len:mg "len"=none
 max:mg "max"=none
 min:mg "min"=none
 sum:mg "sum"=none
 sorted:mg "sorted"=none
 abs:mg "abs"=none
 list:mg "list"=none
 enum:mg "enumerate"=none
 vale:mg "ValueError"=none
 str:mg "str"=none
 set:mg "set"=none
 dict:mg "dict"=none
theorem ajJ:bootBuiltins "bool"=some (.type "bool"):=by decide +kernel
theorem alw:bootBuiltins "int"=some (.type "int"):=by decide +kernel
theorem JC:bootBuiltins "tuple"=some (.type "tuple"):=by decide +kernel
theorem alx:bootBuiltins "str"=some (.type "str"):=by decide +kernel
theorem aeo:bootBuiltins "all"=some (.builtin "all"):=by decide +kernel
theorem qf:bootBuiltins "len"=some (.builtin "len"):=by decide +kernel
theorem ahh:bootBuiltins "max"=some (.builtin "max"):=by decide +kernel
theorem ahg:bootBuiltins "min"=some (.builtin "min"):=by decide +kernel
theorem aly:bootBuiltins "sum"=some (.builtin "sum"):=by decide +kernel
noncomputable abbrev Q9:Stmt:=top 7
noncomputable abbrev Qt:Stmt:=top 16
noncomputable abbrev Za:Stmt:=top 15
noncomputable abbrev acv:Stmt:=top 17
noncomputable abbrev zw (C:Program->World->Fg->(SV)->Heap->Prop) (qual:Str) (st:Stmt) (N:List Str) (k:Nat) (B:RO):Prop:=
 ∀ (P:Program) (w:World) (K:Fg) (mg:SV) (base:Heap) (f:Addr) (Kc:Value) (A:Around) (Ko:List Env) (s:Shared) (H:Hp) (E:XK),C P w K mg base->Room k (A.deeper (envOfC qual (jh st) s.heap.objs.size f Kc))->
  aao (aah CX0 P w K mg base N qual (jh st) f Kc A Ko s H E).nox (jX st) B
theorem aep:FnScope ["thing","least","most"] ["thing","least","most"] (jh Q9):=⟨rfl,rfl,rfl,by decide +kernel,rfl,by decide +kernel,by decide +kernel⟩
noncomputable def Zb:{ B:RO // zw (fun _ _ _ mg _=>Bare mg) "is_whole" Q9 ["thing","least","most"] 0 B }:=
 ⟨_,fun P w K mg base f Kc A Ko s H E T hr=>
  jc (jY (qA (zM (j0 (Zt (.inl rfl) T.isi T.bool ajJ (jb 0))) (za (j7 (j0 (Zt (.inr (.inl rfl)) T.isi T.int alw (jb 0))))))) (jc (jz zL) jg) jg)
  (jc (jz (ag8 acl acl (jb 1) (jb 0) (jb 2))) jg)⟩
noncomputable def jV:LP->OP:=jJ ["thing","least","most"] 3 Zb.1
theorem adx:FnScope ["manner","rod"] ["manner","rod"] (jh Qt):=⟨rfl,rfl,rfl,by decide +kernel,rfl,by decide +kernel,by decide +kernel⟩
noncomputable def Zx:{ B:RO // zw (fun _ _ _ _ _=>True) "rod_worth" Qt ["manner","rod"] 0 B }:=
 ⟨_,fun P w K mg base f Kc A Ko s H E T hr=>
  jc (jz (jp jy (jp qT (jA (jb 1) jf) (jA (jb 0) jf)) (jA (jb 1) jf))) jg⟩
noncomputable def JD:LP->OP:=jJ ["manner","rod"] 2 Zx.1
theorem ahU:FnScope ["rod"] ["rod"] (jh acv):=⟨rfl,rfl,rfl,by decide +kernel,rfl,by decide +kernel,by decide +kernel⟩
noncomputable def aeq:{ B:RO // zw (fun _ _ _ _ _=>True) "beads" acv ["rod"] 0 B }:=
 ⟨_,fun P w K mg base f Kc A Ko s H E T hr=>jc (jz (jp jy (jA (jb 0) jf) (jA (jb 0) jf))) jg⟩
noncomputable def acw:LP->OP:=jJ ["rod"] 1 aeq.1
noncomputable def Jr (i:Nat) (m:Nat):LP:=(List.range m).map fun (j:Nat)=>PyData.tuple [.int (i:Int),.int (j:Int)]
noncomputable def JE (n m:Nat):LP:=(List.range n).flatMap fun (i:Nat)=>Jr i m
theorem ady (i m:Nat):Jr i (m+1)=Jr i m++[PyData.tuple [.int (i:Int),.int (m:Int)]]:=by simp [Jr,List.range_succ]
theorem QM (n m:Nat):JE (n+1) m=JE n m++Jr n m:=by simp [JE,List.range_succ]
theorem adz (i m:Nat):noLs (Jr i m)=true:=QW fun d hd=>by
 obtain ⟨j,_,rfl⟩:=List.mem_map.mp hd
 simp [noL,noLs]
theorem af8 (n m:Nat):noLs (JE n m)=true:=by
 induction n with
 | zero=>simp [JE,noLs]
 | succ n ih=>rw [QM,Qa,ih,adz]; rfl
theorem ae9 (i m:Nat):(Jr i m).length=m:=by simp [Jr]
theorem aaJ (n m:Nat):(JE n m).length=n*m:=by
 induction n with
 | zero=>simp [JE]
 | succ n ih=>rw [QM,List.length_append,ih,ae9,Nat.succ_mul]
noncomputable def qC (ds:LP):OP:=match ds with
 | [.tuple [.int u,.int _,.int l,.int _]]=>if 0<=u/\u<1000/\0<=l/\l<1000 then some (.list (JE (u+1).toNat (l+1).toNat)) else none
 | _=>none
theorem JV:FnScope ["manner","rods","upper","lower"] ["manner"] (jh Za):=⟨rfl,rfl,rfl,by decide +kernel,rfl,by decide +kernel,by decide +kernel⟩
section
variable {P:Program}{w:World}{K:Fg}{mg:SV}{base:Heap}
theorem aer {f:Addr}{fd:FuncData} (F:Fun K "all_rods" "all_rods" Za f fd) (T:Bare mg):FnOk P w K mg base CX0 1 f fd ["manner"] (Pur K 1 qC):=by
 with_unfolding_all
  refine F.ok JV (fun vs H Q E h=>?_) (fun Kc A Ko s H vs Q E hr h=>?_)
  ·obtain ⟨ds,d,h1,h2,_⟩:=h
   rw [h2.length]; exact h1
  ·obtain ⟨ds,d,h1,h2,h3,k⟩:=h
   unfold qC at h3
   split at h3
   ·rename_i u e l b
    split at h3
    ·rename_i hb
     obtain ⟨hu0,hu1,hl0,hl1⟩:=hb
     cases h3
     refine ⟨_,J2 (adY (i:=1) JV.nd rfl (Or.inl rfl) (ad4 JN))
      (J2 (ab9 PassesOwn.never rfl (Zp rfl T.range (ja (jp jy (jA (jb 0) jf) jf) je)) (Z3 (i:=2) JV.nd rfl (Or.inl rfl))
       (ab7 (ab9 PassesOwn.never rfl (Zp rfl T.range (ja (jp jy (jA (jb 0) jf) jf) je)) (Z3 (i:=3) JV.nd rfl (Or.inl rfl))
        (ab7 (ab8 (agX PySem.F.plainAttrs_list PySem.F.slot_list_append PySem.F.type_list_append afI (pv 1) (q0 (agU (q0 (pv 2) (q0 (pv 3) JN))) JN)))))))
      (ab7 (adX (pv 1)))),?_⟩
     obtain ⟨mv,rr,e1,em,e2⟩:=h2
     cases (show rr=[] from e2)
     subst e1
     have nm:noL (PyData.tuple [.int u,.int e,.int l,.int b])=true:=by simp [noL,noLs]
     refine ⟨Nat.zero_le _,fun p hp=>?_⟩
     have envr:∀ {H2:Hp} {x2 x3:Option V} {y:Option V},jm H H2->EnvR K H2 [some (PyData.tuple [.int u,.int e,.int l,.int b]),none,none,none] [some mv,y,x2,x3]:=fun {H2 x2 x3 y} s2=>
      ⟨rfl,fun i d q=>by
       cases i with
       | zero=>cases q; exact ⟨mv,rfl,Rep.mono s2 _ _ em⟩
       | succ i=>
        match i,q with
        | 0,q=>cases q
        | 1,q=>cases q
        | 2,q=>cases q
        | j+3,q=>simp at q⟩
     refine ⟨_,[.int (u+1)],envr (jB hp),by simp [jj,jD,op2,lkp,dIx,atI,ixN,cst,JS],fun vs1 H1 s1 r1=>?_⟩
     obtain ⟨y1,q1,f1,f2,f3⟩:=r1
     cases (show y1=V.int (u+1) from f2)
     cases (show q1=[] from f3)
     subst f1
     refine ⟨u+1,rfl,by omega,by omega,abn (n:=(u+1).toNat) (fun i σ H2=>∃ x2 x3 xs,σ=[some mv,some (.ref p),x2,x3]/\jm H H2/\H2 p=some (.lst xs)/\Reps K H2 (JE i (l+1).toNat) xs)
      ⟨none,none,[],rfl,(jB hp).trans s1,s1 _ _ jt,rfl⟩ ?_ ?_⟩
     ·rintro i σ H2 hi ⟨x2,x3,xs,rfl,s2,hp2,r2⟩
      refine ⟨_,[.int (l+1)],envr s2,by simp [jj,jD,op2,lkp,dIx,atI,ixN,cst,JS],fun vs2 H3 s3 r3=>?_⟩
      obtain ⟨y2,q2,g1,g2,g3⟩:=r3
      cases (show y2=V.int (l+1) from g2)
      cases (show q2=[] from g3)
      subst g1
      refine ⟨l+1,rfl,by omega,by omega,abn (n:=(l+1).toNat) (fun j σ H4=>∃ x3 ys,σ=[some mv,some (.ref p),some (.int (0+i)),x3]/\jm H H4/\H4 p=some (.lst ys)/\Reps K H4 (JE i (l+1).toNat++Jr i j) ys)
       ⟨x3,xs,rfl,s2.trans s3,s3 _ _ hp2,by simpa [Jr] using Reps.mono s3 _ _ r2⟩ ?_ ?_⟩
      ·rintro j σ H4 hj ⟨x3',ys,rfl,s4,hp4,r4⟩
       have hlen:ys.length<sizeLine:=by
        rw [r4.length,List.length_append,aaJ,ae9,sizeLine_eq]
        have h1:i*(l+1).toNat<=1000*1001:=Nat.mul_le_mul (by omega) (by omega)
        omega
       refine ⟨_,rfl,.inl ⟨rfl,ys,SqL.of hp4⟩,_,rfl,_,rfl,by show 2<=sizeLine; rw [sizeLine_eq]; decide,fun q hq=>?_⟩
       have npq:p ≠ q:=qj hp4 hq
       refine ⟨p,ys,.ref q,rfl,rfl,by rw [ji npq]; exact hp4,hlen,?_⟩
       have t1:zu H4 (upd (upd H4 q (.tup [.int (0+(i:Int)),.int (0+(j:Int))])) p (.lst (ys++[.ref q]))):=
        (jm.n (jB hq)).trans (zu.upd (xs:=ys) (by rw [ji npq]; exact hp4))
       refine ⟨_,ys++[.ref q],rfl,fun c o hc=>?_,jt,?_⟩
       ·have hc4:=s4 c o hc
        rw [ji (qj hc hp),ji (qj hc4 hq)]
        exact hc4
       ·rw [ady,←List.append_assoc]
        refine (Reps.monoN t1 _ _ (by rw [Qa,af8,adz]; rfl) r4).append ⟨.ref q,[],rfl,⟨q,_,rfl,SqT.of (by rw [ji (Ne.symm npq)]; exact jt),?_⟩,rfl⟩
        exact ⟨_,_,rfl,by show _=V.int _; rw [Int.zero_add],_,_,rfl,by show _=V.int _; rw [Int.zero_add],rfl⟩
      ·rintro σ H4 ⟨x3',ys,rfl,s4,hp4,r4⟩
       exact ⟨_,x3',ys,rfl,s4,hp4,by rw [QM]; exact r4⟩
     ·rintro σ H2 ⟨x2,x3,xs,rfl,s2,hp2,r2⟩
      exact ⟨_,rfl,k _ _ s2 ⟨p,xs,rfl,hp2,r2⟩⟩
    ·cases h3
   ·cases h3
end
noncomputable abbrev Qu:Stmt:=top 12
noncomputable abbrev Qv:Stmt:=top 11
noncomputable abbrev CC:=Program->World->Fg->(SV)->Heap->Prop
structure CHasAll (P:Program) (w:World) (K:Fg) (mg:SV) (base:Heap):Prop where
 t:Bare mg
 allRods:jq P w K mg base "all_rods" ["manner"] 1 1 qC
 rodWorth:jq P w K mg base "rod_worth" ["manner","rod"] 1 2 JD
theorem abR:FnScope ["manner","worths"] ["manner"] (jh Qu):=⟨rfl,rfl,rfl,by decide +kernel,rfl,by decide +kernel,by decide +kernel⟩
theorem nd2:(["rod","manner"]:List Str).Nodup:=by decide +kernel
theorem nd3:(["digit","worths"]:List Str).Nodup:=by decide +kernel
noncomputable def acx:{ B:RO // zw CHasAll "has_all_digits" Qu ["manner","worths"] 1 B }:=
 ⟨_,fun P w K mg base f Kc A Ko s H E C hr=>
  jc (jM 1 abR.nd (zr ["rod","manner"] [none,some 0] rfl (ac6 (jk C.allRods hr (Nat.le_refl _) (ja (jb 0) je) (jd js))) (qF (jh Qu) ["manner","worths"] (by decide +kernel))
   fun cl C' s0 H0 fp pn=>⟨jL 0 nd2,qR,jk C.rodWorth hr (Nat.le_refl _) (ja (jb 1) (ja (jb 0) je)) (jd (jd js))⟩))
  (jc (jz (jE (aeb rfl) C.t.all aeo (ja (zr ["digit","worths"] [none,some 1] rfl (zO rfl C.t.range (ja (jA (jb 0) jf) je)) (qF (jh Qu) ["manner","worths"] (by decide +kernel))
   fun cl C' s0 H0 fp pn=>⟨jL 0 nd3,qR,acg (ak4 hr.units) (jb 0) (jb 1)⟩) je))) jg)⟩
noncomputable abbrev aaK:Stmt:=top 13
noncomputable def GC (K:Fg) (mg:SV) (x:Str) (d:PyData):Prop:=∃ v u,mg x=some u/\jQ v u/\∀ H,Rep K H d v
theorem ZQ {X:Cx}{pos:Pos}{x:Str}{d:PyData} (c:GC X.K X.mg x d) (hg:Gl X x:=by rfl) (hd:(x == ("__debug__":Str))=false:=by decide):PD X (.Name x pos) (cst d):=by
 with_unfolding_all
  obtain ⟨v,u,h1,h2,h3⟩:=c
  exact ai5 hg h1 h2 h3 hd
noncomputable def Zc:LP->OP:=jJ ["manner","worths"] 1 acx.1
structure CIsManner (P:Program) (w:World) (K:Fg) (mg:SV) (base:Heap):Prop where
 t:Bare mg
 least:GC K mg "LEAST_PARTS" (.tuple [.int 0,.int 1,.int 0,.int 2])
 most:GC K mg "MOST_PARTS" (.tuple [.int 3,.int 16,.int 12,.int 16])
 isWhole:jq P w K mg base "is_whole" ["thing","least","most"] 1 3 jV
 hasAll:jq P w K mg base "has_all_digits" ["manner"] 2 1 Zc
theorem Jb:FnScope ["thing","part","least","most"] ["thing"] (jh Qv):=⟨rfl,rfl,rfl,by decide +kernel,rfl,by decide +kernel,by decide +kernel⟩
noncomputable def Zy:{ B:RO // zw CIsManner "is_manner" Qv ["thing","part","least","most"] 2 B }:=
 ⟨_,fun P w K mg base f Kc A Ko s H E C hr=>
  jc (jY (qA (zM (j7 (j0 (Zt (.inr (.inr rfl)) C.t.isi C.t.tuple JC (jb 0)))) (za (jW (zb hr.units) (jE qw C.t.len qf (ja (jb 0) je)) (jE qw C.t.len qf (ja (ZQ C.most) je)))))) (jc (jz zL) jg) jg)
  (jc (Z6 PassesOwn.never rfl (ahe C.t.zip (ja (jb 0) (ja (ZQ C.least) (ja (ZQ C.most) je)))) (aci (n:=3) rfl (qE (jL 1 Jb.nd) (qE (jL 2 Jb.nd) (qE (jL 3 Jb.nd) QS))))
   (jc (jY (j7 (j0 (jk C.isWhole hr (by decide) (ja (jb 1) (ja (jb 2) (ja (jb 3) je))) (jd (jd (jd js)))))) (jc (jz zL) jg) jg) jg))
  (jc (jz (jk C.hasAll hr (Nat.le_refl _) (ja (jb 0) je) (jd js))) jg))⟩
noncomputable def qt:LP->OP:=jJ ["thing","part","least","most"] 1 Zy.1
structure CCheck (P:Program) (w:World) (K:Fg) (mg:SV) (base:Heap):Prop where
 isManner:jq P w K mg base "is_manner" ["thing"] 3 1 qt
theorem ahV:FnScope ["thing"] ["thing"] (jh aaK):=⟨rfl,rfl,rfl,by decide +kernel,rfl,by decide +kernel,by decide +kernel⟩
noncomputable def aes:{ B:RO // zw CCheck "check_manner" aaK ["thing"] 3 B }:=
 ⟨_,fun P w K mg base f Kc A Ko s H E C hr=>
  jc (jY (j7 (j0 (jk C.isManner hr (Nat.le_refl _) (ja (jb 0) je) (jd js)))) aaq jg) jg⟩
noncomputable def Qj:LP->OP:=jJ ["thing"] 1 aes.1
noncomputable abbrev ahW (C:CC) (qual:Str) (st:Stmt) (N:List Str) (k:Nat) (sts:List Stmt) (B:RO):Prop:=
 ∀ (P:Program) (w:World) (K:Fg) (mg:SV) (base:Heap) (f:Addr) (Kc:Value) (A:Around) (Ko:List Env) (s:Shared) (H:Hp) (E:XK),C P w K mg base->Room k (A.deeper (envOfC qual (jh st) s.heap.objs.size f Kc))->
  aao (aah CX0 P w K mg base N qual (jh st) f Kc A Ko s H E).nox sts B
noncomputable abbrev ahX (own:Nat) (C:CC) (qual:Str) (st:Stmt) (N:List Str) (k:Nat) (sts:List Stmt) (B:RO):Prop:=
 ∀ (P:Program) (w:World) (K:Fg) (mg:SV) (base:Heap) (f:Addr) (Kc:Value) (A:Around) (Ko:List Env) (s:Shared) (H:Hp) (E:XK),C P w K mg base->Room k (A.deeper (envOfC qual (jh st) s.heap.objs.size f Kc))->
  adc (aah CX0 P w K mg base N qual (jh st) f Kc A Ko s H E).nox (some own) sts B
noncomputable def Jc:Stmt->List Stmt
 | .For _ _ b _ _=>b
 | _=>[]
noncomputable def adA (l:List Stmt) (i:Nat):Stmt:=l.getD i (.Pass ⟨0,0,0,0⟩)
noncomputable abbrev acy:Stmt:=top 14
noncomputable abbrev zn:Stmt:=top 20
noncomputable abbrev qS:Stmt:=top 21
noncomputable abbrev JF:Stmt:=top 22
noncomputable def alR:Stmt->List Stmt
 | .While _ b _ _=>b
 | _=>[]
structure CIsRod (P:Program) (w:World) (K:Fg) (mg:SV) (base:Heap):Prop where
 t:Bare mg
 isWhole:jq P w K mg base "is_whole" ["thing","least","most"] 1 3 jV
theorem ahY:FnScope ["manner","thing"] ["manner","thing"] (jh acy):=⟨rfl,rfl,rfl,by decide +kernel,rfl,by decide +kernel,by decide +kernel⟩
noncomputable def Zz:{ B:RO // zw CIsRod "is_rod" acy ["manner","thing"] 1 B }:=
 ⟨_,fun P w K mg base f Kc A Ko s H E C hr=>
  jc (jY (qA (zM (j7 (j0 (Zt (.inr (.inr rfl)) C.t.isi C.t.tuple JC (jb 1)))) (za (jW (zb hr.units) (jE qw C.t.len qf (ja (jb 1) je)) jf)))) (jc (jz zL) jg) jg)
  (jc (jz (ahp (jk C.isWhole hr (Nat.le_refl _) (ja (jA (jb 1) jf) (ja jf (ja (jA (jb 0) jf) je))) (jd (jd (jd js)))) (aho (jk C.isWhole hr (Nat.le_refl _) (ja (jA (jb 1) jf) (ja jf (ja (jA (jb 0) jf) je))) (jd (jd (jd js))))))) jg)⟩
noncomputable def Js:LP->OP:=jJ ["manner","thing"] 2 Zz.1
structure CIsSet (P:Program) (w:World) (K:Fg) (mg:SV) (base:Heap):Prop where
 t:Bare mg
 check:jq P w K mg base "check_manner" ["thing"] 4 1 Qj
 isRod:jq P w K mg base "is_rod" ["manner","thing"] 2 2 Js
 most:GC K mg "MOST_RODS" (.int 4)
theorem ahZ:FnScope ["manner","thing"] ["manner","thing"] (jh zn):=⟨rfl,rfl,rfl,by decide +kernel,rfl,by decide +kernel,by decide +kernel⟩
theorem ndp:(["part","manner"]:List Str).Nodup:=by decide +kernel
noncomputable def ZA:{ B:RO // zw CIsSet "is_setting" zn ["manner","thing"] 4 B }:=
 ⟨_,fun P w K mg base f Kc A Ko s H E C hr=>
  jc (zN (jk C.check hr (Nat.le_refl _) (ja (jb 0) je) (jd js)))
  (jc (jY (qA (zM (j7 (j0 (Zt (.inr (.inr rfl)) C.t.isi C.t.tuple JC (jb 1)))) (za (j7 (afS acl acl jf (jE qw C.t.len qf (ja (jb 1) je)) (ZQ C.most)))))) (jc (jz zL) jg) jg)
  (jc (jz (jE (aeb rfl) C.t.all aeo (ja (zr ["part","manner"] [none,some 0] rfl (acj (jb 1)) (qF (jh zn) ["manner","thing"] (by decide +kernel))
   fun cl C' s0 H0 fp pn=>⟨jL 0 ndp,qR,jk C.isRod hr (by decide) (ja (jb 1) (ja (jb 0) je)) (jd (jd js))⟩) je))) jg))⟩
noncomputable def aaL:LP->OP:=jJ ["manner","thing"] 2 ZA.1
structure CChkSet (P:Program) (w:World) (K:Fg) (mg:SV) (base:Heap):Prop where
 isSet:jq P w K mg base "is_setting" ["manner","thing"] 5 2 aaL
theorem af9:FnScope ["manner","thing"] ["manner","thing"] (jh qS):=⟨rfl,rfl,rfl,by decide +kernel,rfl,by decide +kernel,by decide +kernel⟩
noncomputable def aaa:{ B:RO // zw CChkSet "check_setting" qS ["manner","thing"] 5 B }:=
 ⟨_,fun P w K mg base f Kc A Ko s H E C hr=>
  jc (jY (j7 (j0 (jk C.isSet hr (Nat.le_refl _) (ja (jb 0) (ja (jb 1) je)) (jd (jd js))))) aaq jg) jg⟩
noncomputable def qG:LP->OP:=jJ ["manner","thing"] 2 aaa.1
structure CAllBeads (P:Program) (w:World) (K:Fg) (mg:SV) (base:Heap):Prop where
 t:Bare mg
 check:jq P w K mg base "check_setting" ["manner","thing"] 6 2 qG
 beads:jq P w K mg base "beads" ["rod"] 1 1 acw
theorem adB:FnScope ["manner","setting"] ["manner","setting"] (jh JF):=⟨rfl,rfl,rfl,by decide +kernel,rfl,by decide +kernel,by decide +kernel⟩
theorem ndo:(["rod"]:List Str).Nodup:=by decide +kernel
noncomputable def Qw:{ B:RO // zw CAllBeads "all_beads" JF ["manner","setting"] 6 B }:=
 ⟨_,fun P w K mg base f Kc A Ko s H E C hr=>
  jc (zN (jk C.check hr (Nat.le_refl _) (ja (jb 0) (ja (jb 1) je)) (jd (jd js))))
  (jc (jz (jE (ak8 rfl) C.t.sum aly (ja (zr ["rod"] [none] rfl (acj (jb 1)) (qF (jh JF) ["manner","setting"] (by decide +kernel))
   fun cl C' s0 H0 fp pn=>⟨jL 0 ndo,qR,jk C.beads hr (by decide) (ja (jb 0) je) (jd js)⟩) je))) jg)⟩
noncomputable def Qx:LP->OP:=jJ ["manner","setting"] 2 Qw.1
noncomputable abbrev afa:Stmt:=top 39
noncomputable abbrev acz:Stmt:=top 40
noncomputable abbrev aab:Stmt:=top 41
noncomputable abbrev JG:Stmt:=top 42
theorem ajK:FnScope ["_law_script","_law_k"] ["_law_script","_law_k"] (jh afa):=⟨rfl,rfl,rfl,by decide +kernel,rfl,by decide +kernel,by decide +kernel⟩
noncomputable def afb:{ B:RO // zw (fun _ _ _ mg _=>Bare mg) "_law_cell" afa ["_law_script","_law_k"] 0 B }:=
 ⟨_,fun P w K mg base f Kc A Ko s H E C hr=>
  jc (jY (jW (aat hr.units) (jb 0) (ach je)) (jc (jz (jp qT jf (jb 1))) jg) jg)
  (jc (jz (jp jy (jA (jb 0) (jp Qq (jb 1) (jE qw C.len qf (ja (jb 0) je)))) (jp qT jf (jp QU (jb 1) (jE qw C.len qf (ja (jb 0) je)))))) jg)⟩
noncomputable def adC:LP->OP:=jJ ["_law_script","_law_k"] 2 afb.1
structure CDrawn (P:Program) (w:World) (K:Fg) (mg:SV) (base:Heap):Prop where
 cell:jq P w K mg base "_law_cell" ["_law_script","_law_k"] 1 2 adC
theorem aaM:FnScope ["_law_script","_law_k","_law_many","_law_cell_here"] ["_law_script","_law_k","_law_many"] (jh acz):=⟨rfl,rfl,rfl,by decide +kernel,rfl,by decide +kernel,by decide +kernel⟩
noncomputable def aet:{ B:RO // zw CDrawn "_law_drawn" acz ["_law_script","_law_k","_law_many","_law_cell_here"] 1 B }:=
 ⟨_,fun P w K mg base f Kc A Ko s H E C hr=>
  jc (jM 3 aaM.nd (jp Qq (jp jy (jp qT (jp Qq (jk C.cell hr (Nat.le_refl _) (ja (jb 0) (ja (jb 1) je)) (jd (jd js))) jf) jf) (jp qT jf (jp jy (jb 1) jf))) jf))
  (jc (jM 3 aaM.nd (jp Qq (jp jy (jp qT (jb 3) (jb 3)) (jp QU (jb 3) jf)) jf))
  (jc (jz (jp Qq (jp QU (jp Qq (jp jy (jp qT (jb 3) (jb 3)) (jp QU (jb 3) jf)) jf) jf) (jb 2))) jg))⟩
noncomputable def JW:LP->OP:=jJ ["_law_script","_law_k","_law_many","_law_cell_here"] 3 aet.1
noncomputable abbrev acA:List Str:=["_law_script","_law_at","_law_known","_law_way","_law_each","_law_upper","_law_lower"]
structure CManner (P:Program) (w:World) (K:Fg) (mg:SV) (base:Heap):Prop where
 t:Bare mg
 drawn:jq P w K mg base "_law_drawn" ["_law_script","_law_k","_law_many"] 2 3 JW
theorem zo:FnScope acA ["_law_script","_law_at"] (jh aab):=⟨rfl,rfl,rfl,by decide +kernel,rfl,by decide +kernel,by decide +kernel⟩
noncomputable def jr (a b c d:Int):PyData:= .tuple [.int a,.int b,.int c,.int d]
noncomputable def ZB:LP:=[jr 1 5 4 10,jr 2 5 5 10,jr 0 1 9 10,jr 1 5 5 10,jr 0 1 10 10,jr 1 2 1 4,jr 0 1 1 2]
noncomputable def ZC:LP:=[jr 1 4 3 8,jr 1 3 2 5,jr 3 4 3 16,jr 2 3 2 7,jr 1 1 1 3]
noncomputable def aac:{ B:RO // zw CManner "_law_manner" aab acA 2 B }:=
 ⟨_,fun P w K mg base f Kc A Ko s H E C hr=>
  jc (jM 2 zo.nd (ahk 3 (.list ZB) (by kernel_rfl)))
  (jc (jM 2 zo.nd (jp jy (jb 2) (ahk 3 (.list ZC) (by kernel_rfl))))
  (jc (jM 3 zo.nd (jk C.drawn hr (Nat.le_refl _) (ja (jb 0) (ja (jb 1) (ja (jp qT jf (jE qw C.t.len qf (ja (jb 2) je))) je))) (jd (jd (jd js)))))
  (jc (jY (jW ak5 (jb 3) (jE qw C.t.len qf (ja (jb 2) je))) (jc (jz (jA (jb 2) (jb 3))) jg) jg)
  (jc (jM 4 zo.nd (jp jy jf (jk C.drawn hr (Nat.le_refl _) (ja (jb 0) (ja (jp jy (jb 1) jf) (ja jf je))) (jd (jd (jd js))))))
  (jc (jM 5 zo.nd (jk C.drawn hr (Nat.le_refl _) (ja (jb 0) (ja (jp jy (jb 1) jf) (ja jf je))) (jd (jd (jd js)))))
  (jc (jM 6 zo.nd (jp jy (jE (ajc rfl) C.t.max ahh (ja (jp Z7 (jb 4) jf) (ja jf je))) (jk C.drawn hr (Nat.le_refl _) (ja (jb 0) (ja (jp jy (jb 1) jf) (ja jf je))) (jd (jd (jd js))))))
  (jc (jz (Jp (ja (jb 5) (ja (jb 4) (ja (jb 6) (ja (jp jy jf (jk C.drawn hr (Nat.le_refl _) (ja (jb 0) (ja (jp jy (jb 1) jf) (ja (jE (ajd rfl) C.t.min ahg (ja jf (ja (jp jy (jp qT (jb 5) (jb 4)) (jb 6)) je))) je))) (jd (jd (jd js))))) je)))))) jg)))))))⟩
noncomputable def JX:LP->OP:=jJ acA 2 aac.1
structure CSetting (P:Program) (w:World) (K:Fg) (mg:SV) (base:Heap):Prop where
 t:Bare mg
 drawn:jq P w K mg base "_law_drawn" ["_law_script","_law_k","_law_many"] 2 3 JW
noncomputable abbrev ajL:List Str:=["_law_script","_law_at","_law_manner_here","_law_most","_law_rods_here","_law_found","_law_k","_law_rod"]
theorem ZD:FnScope ajL ["_law_script","_law_at","_law_manner_here","_law_most"] (jh JG):=⟨rfl,rfl,rfl,by decide +kernel,rfl,by decide +kernel,by decide +kernel⟩
noncomputable def aaN:{ B:RO // ahW CSetting "_law_setting" JG ajL 2 (Jc (adA (jX JG) 2)) B }:=
 ⟨_,fun P w K mg base f Kc A Ko s H E C hr=>
  (jc (jM 7 ZD.nd (Jp (ja (jk C.drawn hr (by decide) (ja (jb 0) (ja (jp jy (jp jy (jb 1) jf) (jp qT jf (jb 6))) (ja (jp jy (jA (jb 2) jf) jf) je))) (jd (jd (jd js)))) (ja (jk C.drawn hr (by decide) (ja (jb 0) (ja (jp jy (jp jy (jb 1) jf) (jp qT jf (jb 6))) (ja (jp jy (jA (jb 2) jf) jf) je))) (jd (jd (jd js)))) je))))
  (jc (jM 5 ZD.nd (jp jy (jb 5) (Jp (ja (jb 7) je))))
  jg))⟩
noncomputable def aga:{ B:RO // zw CSetting "_law_setting" JG ajL 2 B }:=
 ⟨_,fun P w K mg base f Kc A Ko s H E C hr=>
  (jc (jM 4 ZD.nd (jp jy jf (jk C.drawn hr (by decide) (ja (jb 0) (ja (jb 1) (ja (jb 3) je))) (jd (jd (jd js))))))
  (jc (jM 5 ZD.nd (Jp je))
  (jc (Z6 PassesOwn.never rfl (zO rfl C.t.range (ja (jb 4) je)) (jL 6 ZD.nd) (aaN.2 P w K mg base f Kc A Ko s H E C hr))
  (jc (jz (jb 5))
  jg))))⟩
noncomputable def acB:LP->OP:=jJ ajL 4 aga.1
noncomputable abbrev ah0 (C:CC) (qual:Str) (st:Stmt) (N:List Str) (k:Nat) (Fx:Rho->Option Str):Prop:=
 ∀ (P:Program) (w:World) (K:Fg) (mg:SV) (base:Heap) (f:Addr) (Kc:Value) (A:Around) (Ko:List Env) (s:Shared) (H:Hp) (E:XK),C P w K mg base->Room k (A.deeper (envOfC qual (jh st) s.heap.objs.size f Kc))->
  ahA (aah (CXt P w) P w K mg base N qual (jh st) f Kc A Ko s H E) (jX st) Fx
noncomputable def Qk (k:Bool):PyData:= .str (if k=true then "lower" else "upper")
noncomputable def mv (r:Int) (k:Bool) (c:Int):PyData:= .tuple [.int r,Qk k,.int c]
theorem QW {ds:LP} (h:∀ d ∈ ds,noL d=true):noLs ds=true:=by
 induction ds with
 | nil=>rfl
 | cons d ds ih=>simp only [noLs,h d List.mem_cons_self,ih fun c hc=>h c (List.mem_cons_of_mem _ hc),Bool.and_self]
noncomputable def ab (i:Int):Int:=if i<0 then -i else i
noncomputable def fd (p q:Int × Int):Int:=ab (q.1 - p.1)+ab (q.2 - p.2)
noncomputable abbrev Zd:Stmt:=top 24
structure CRodText (P:Program) (w:World) (K:Fg) (mg:SV) (base:Heap):Prop where
 tr:True
noncomputable abbrev aaO:List Str:=["manner","rod"]
theorem aeu:FnScope aaO ["manner","rod"] (jh Zd):=⟨rfl,rfl,rfl,by decide +kernel,rfl,by decide +kernel,by decide +kernel⟩
noncomputable def Ze:{ B:RO // zw CRodText "rod_text" Zd aaO 0 B }:=
 ⟨_,fun P w K mg base f Kc A Ko s H E C hr=>
  (jc (jz (jp zR (jp zR (jp zR (jp zR (jp zR (jp zR (jp Q4 qz (jp Z7 (jA (jb 0) jf) (jA (jb 1) jf))) qz) (jp Q4 qz (jA (jb 1) jf))) qz) (jp Q4 qz (jA (jb 1) jf))) qz) (jp Q4 qz (jp Z7 (jA (jb 0) jf) (jA (jb 1) jf)))))
  jg)⟩
noncomputable def JH:LP->OP:=jJ aaO 2 Ze.1
noncomputable abbrev zc:Stmt:=top 25
structure CSettingText (P:Program) (w:World) (K:Fg) (mg:SV) (base:Heap):Prop where
 c_chkSet:jq P w K mg base "check_setting" ["manner","thing"] 6 2 qG
 c_RodText:jq P w K mg base "rod_text" ["manner","rod"] 1 2 JH
noncomputable abbrev zD:List Str:=["manner","setting"]
theorem aaP:FnScope zD ["manner","setting"] (jh zc):=⟨rfl,rfl,rfl,by decide +kernel,rfl,by decide +kernel,by decide +kernel⟩
theorem ah1:(["rod","manner"]:List Str).Nodup:=by decide +kernel
noncomputable def zE:{ B:RO // zw CSettingText "setting_text" zc zD 6 B }:=
 ⟨_,fun P w K mg base f Kc A Ko s H E C hr=>
  (jc (zN (jk C.c_chkSet hr (by decide) (ja (jb 0) (ja (jb 1) je)) (jd (jd js))))
  (jc (jz (JU PySem.F.slot_str_join PySem.F.type_str_join ajx (fun _ _ _ _ _ _ _=>ajz) (fun _ _ _=>ajB) qz (zr ["rod","manner"] [none,some 0] rfl (zC (jb 1)) (qF (jh zc) zD (by decide +kernel))
   fun cl C' s0 H0 fp pn=>⟨(jL 0 ah1),qR,(jp zR (jk C.c_RodText hr (by decide) (ja (jb 1) (ja (jb 0) je)) (jd (jd js))) qz)⟩)))
  jg))⟩
noncomputable def qk:LP->OP:=jJ zD 2 zE.1
noncomputable abbrev qZ:Stmt:=top 28
structure CRodsByLine (P:Program) (w:World) (K:Fg) (mg:SV) (base:Heap):Prop where
 c_allRods:jq P w K mg base "all_rods" ["manner"] 1 1 qC
 c_RodText:jq P w K mg base "rod_text" ["manner","rod"] 1 2 JH
noncomputable abbrev Jd:List Str:=["manner","known","rod"]
theorem Jt:FnScope Jd ["manner"] (jh qZ):=⟨rfl,rfl,rfl,by decide +kernel,rfl,by decide +kernel,by decide +kernel⟩
noncomputable def zd:{ B:RO // ahX 1 CRodsByLine "rods_by_line" qZ Jd 1 (Jc (adA (jX qZ) 1)) B }:=
 ⟨_,fun P w K mg base f Kc A Ko s H E C hr=>
  (qY (ahO 1 hr.units1 (jk C.c_RodText hr (by decide) (ja (jb 0) (ja (jb 2) je)) (jd (jd js))) (jb 2))
  Qb)⟩
noncomputable def Je:{ B:RO // zw CRodsByLine "rods_by_line" qZ Jd 1 B }:=
 ⟨_,fun P w K mg base f Kc A Ko s H E C hr=>
  (add (ade 1 Jt.nd ahn
  (qY (acp PassesOwn.never rfl (zC (jk C.c_allRods hr (by decide) (ja (jb 0) je) (jd js))) (aaw 2 Jt.nd) (zd.2 P w K mg base f Kc A Ko s H E C hr))
  (qY (ae3 (jb 1))
  Qb))))⟩
noncomputable def zx:LP->OP:=jJ Jd 1 Je.1
noncomputable abbrev Jf:Stmt:=top 27
structure CCheckEnded (P:Program) (w:World) (K:Fg) (mg:SV) (base:Heap):Prop where
 t:Bare mg
noncomputable abbrev Ql:List Str:=["text"]
theorem abd:FnScope Ql ["text"] (jh Jf):=⟨rfl,rfl,rfl,by decide +kernel,rfl,by decide +kernel,by decide +kernel⟩
noncomputable def Jg:{ B:RO // zw CCheckEnded "check_ended" Jf Ql 0 B }:=
 ⟨_,fun P w K mg base f Kc A Ko s H E C hr=>
  (jc (jY (qA (zM (j7 (j0 (ajD rfl C.t.isi C.t.str alx (jb 0)))) (za (j7 (j0 (JU PySem.F.slot_str_endswith PySem.F.type_str_endswith ajw (fun _ _ _ _ _ _ _=>ajy) (fun _ _ _=>ajA) (jb 0) qz)))))) (jc Zs
  jg) jg)
  jg)⟩
noncomputable def Jh:LP->OP:=jJ Ql 1 Jg.1
noncomputable abbrev qH:Stmt:=top 26
structure CReadSetting (P:Program) (w:World) (K:Fg) (mg:SV) (base:Heap):Prop where
 t:Bare mg
 c_check:jq P w K mg base "check_manner" ["thing"] 4 1 Qj
 c_CheckEnded:jq P w K mg base "check_ended" ["text"] 1 1 Jh
 c_RodsByLine:jq P w K mg base "rods_by_line" ["manner"] 2 1 zx
 k_MOST_RODS:GC K mg "MOST_RODS" (.int 4)
noncomputable abbrev ze:List Str:=["manner","text","known","lines"]
theorem zV:FnScope ze ["manner","text"] (jh qH):=⟨rfl,rfl,rfl,by decide +kernel,rfl,by decide +kernel,by decide +kernel⟩
theorem adD:(["line","known"]:List Str).Nodup:=by decide +kernel
noncomputable def zF:{ B:RO // zw CReadSetting "read_setting" qH ze 4 B }:=
 ⟨_,fun P w K mg base f Kc A Ko s H E C hr=>
  (jc (zN (jk C.c_check hr (by decide) (ja (jb 0) je) (jd js)))
  (jc (zN (jk C.c_CheckEnded hr (by decide) (ja (jb 1) je) (jd js)))
  (jc (jM 2 zV.nd (jk C.c_RodsByLine hr (by decide) (ja (jb 0) je) (jd js)))
  (jc (jM 3 zV.nd (JU PySem.F.slot_str_split PySem.F.type_str_split Qe (fun _ _ _ _ _ _ _=>Qf) (fun _ _ _=>Qg) (ahM (jb 1) (aed jf)) qz))
  (jc (jY (qA (zM (jW ak6 (jE qw C.t.len qf (ja (jb 3) je)) (ZQ C.k_MOST_RODS)) (za (j7 (j0 (jE (aeb rfl) C.t.all aeo (ja (zr ["line","known"] [none,some 2] rfl (zC (jb 3)) (qF (jh qH) ze (by decide +kernel))
   fun cl C' s0 H0 fp pn=>⟨(jL 0 adD),qR,(ahI (ajF hr.units1 (jb 0) (jb 1)))⟩) je))))))) (jc Zs
  jg) jg)
  (jc (jz (abx adf C.t.tuple JC (ja (zr ["line","known"] [none,some 2] rfl (zC (jb 3)) (qF (jh qH) ze (by decide +kernel))
   fun cl C' s0 H0 fp pn=>⟨(jL 0 adD),qR,(ajE hr.units1 (jb 1) (jb 0))⟩) je)))
  jg))))))⟩
noncomputable def qI:LP->OP:=jJ ze 2 zF.1
noncomputable abbrev Ji:Stmt:=top 33
structure CNamesBeads (P:Program) (w:World) (K:Fg) (mg:SV) (base:Heap):Prop where
 t:Bare mg
 c_isWhole:jq P w K mg base "is_whole" ["thing","least","most"] 1 3 jV
 k_DECKS:GC K mg "DECKS" (.tuple [.str "upper",.str "lower"])
noncomputable abbrev Qm:List Str:=["setting","thing"]
theorem abe:FnScope Qm ["setting","thing"] (jh Ji):=⟨rfl,rfl,rfl,by decide +kernel,rfl,by decide +kernel,by decide +kernel⟩
noncomputable def qD:{ B:RO // zw CNamesBeads "names_beads" Ji Qm 1 B }:=
 ⟨_,fun P w K mg base f Kc A Ko s H E C hr=>
  (jc (jY (qA (zM (j7 (j0 (Zt (.inr (.inr rfl)) C.t.isi C.t.tuple JC (jb 1)))) (za (jW (zb hr.units) (jE qw C.t.len qf (ja (jb 1) je)) jf)))) (jc (jz zL)
  jg) jg)
  (jc (jY (qA (zM (j7 (j0 (jk C.c_isWhole hr (by decide) (ja (jA (jb 1) jf) (ja jf (ja (jp Z7 (jE qw C.t.len qf (ja (jb 0) je)) jf) je))) (jd (jd (jd js)))))) (za (jW (afR hr.units) (jA (jb 1) jf) (ZQ C.k_DECKS))))) (jc (jz zL)
  jg) jg)
  (jc (jz (ahp (jk C.c_isWhole hr (by decide) (ja (jA (jb 1) jf) (ja (aed jf) (ja jf je))) (jd (jd (jd js)))) (aho (acg (zb hr.units) (jA (jb 1) jf) jf))))
  jg)))⟩
noncomputable def Jj:LP->OP:=jJ Qm 2 qD.1
noncomputable abbrev aad:Stmt:=top 34
structure CPushed (P:Program) (w:World) (K:Fg) (mg:SV) (base:Heap):Prop where
 tr:True
noncomputable abbrev acC:List Str:=["rod","deck","by"]
theorem agb:FnScope acC ["rod","deck","by"] (jh aad):=⟨rfl,rfl,rfl,by decide +kernel,rfl,by decide +kernel,by decide +kernel⟩
noncomputable def Zf:{ B:RO // zw CPushed "pushed" aad acC 0 B }:=
 ⟨_,fun P w K mg base f Kc A Ko s H E C hr=>
  (jc (jY (jW (aat hr.units) (jb 1) qz) (jc (jz (Jp (ja (jp jy (jA (jb 0) jf) (jb 2)) (ja (jA (jb 0) jf) je))))
  jg) jg)
  (jc (jz (Jp (ja (jA (jb 0) jf) (ja (jp jy (jA (jb 0) jf) (jb 2)) je))))
  jg))⟩
noncomputable def aae:LP->OP:=jJ acC 3 Zf.1
noncomputable abbrev Zg:Stmt:=top 32
structure CCanMove (P:Program) (w:World) (K:Fg) (mg:SV) (base:Heap):Prop where
 c_NamesBeads:jq P w K mg base "names_beads" ["setting","thing"] 2 2 Jj
 c_isRod:jq P w K mg base "is_rod" ["manner","thing"] 2 2 Js
 c_Pushed:jq P w K mg base "pushed" ["rod","deck","by"] 1 3 aae
noncomputable abbrev aaQ:List Str:=["manner","setting","thing"]
theorem aev:FnScope aaQ ["manner","setting","thing"] (jh Zg):=⟨rfl,rfl,rfl,by decide +kernel,rfl,by decide +kernel,by decide +kernel⟩
noncomputable def Zh:{ B:RO // zw CCanMove "can_move" Zg aaQ 2 B }:=
 ⟨_,fun P w K mg base f Kc A Ko s H E C hr=>
  (jc (jY (j7 (j0 (jk C.c_NamesBeads hr (by decide) (ja (jb 1) (ja (jb 2) je)) (jd (jd js))))) (jc (jz zL)
  jg) jg)
  (jc (jz (jk C.c_isRod hr (by decide) (ja (jb 0) (ja (jk C.c_Pushed hr (by decide) (ja (jA (jb 1) (jA (jb 2) jf)) (ja (jA (jb 2) jf) (ja (jA (jb 2) jf) je))) (jd (jd (jd js)))) je)) (jd (jd js))))
  jg))⟩
noncomputable def zW:LP->OP:=jJ aaQ 3 Zh.1
noncomputable abbrev Jk:Stmt:=top 35
structure CBehindMove (P:Program) (w:World) (K:Fg) (mg:SV) (base:Heap):Prop where
 c_Pushed:jq P w K mg base "pushed" ["rod","deck","by"] 1 3 aae
noncomputable abbrev Qn:List Str:=["setting","move","at"]
theorem QE:FnScope Qn ["setting","move"] (jh Jk):=⟨rfl,rfl,rfl,by decide +kernel,rfl,by decide +kernel,by decide +kernel⟩
noncomputable def Jl:{ B:RO // zw CBehindMove "behind_move" Jk Qn 1 B }:=
 ⟨_,fun P w K mg base f Kc A Ko s H E C hr=>
  (jc (jM 2 QE.nd (jA (jb 1) jf))
  (jc (jz (jp jy (jp jy (ahE (jb 0) (jb 2)) (Jp (ja (jk C.c_Pushed hr (by decide) (ja (jA (jb 0) (jb 2)) (ja (jA (jb 1) jf) (ja (jA (jb 1) jf) je))) (jd (jd (jd js)))) je))) (aeh (jb 0) (jp jy (jb 2) jf))))
  jg))⟩
noncomputable def Jm:LP->OP:=jJ Qn 2 Jl.1
noncomputable abbrev acD:Stmt:=top 36
structure CMoved (P:Program) (w:World) (K:Fg) (mg:SV) (base:Heap):Prop where
 c_chkSet:jq P w K mg base "check_setting" ["manner","thing"] 6 2 qG
 c_CanMove:jq P w K mg base "can_move" ["manner","setting","thing"] 3 3 zW
 c_BehindMove:jq P w K mg base "behind_move" ["setting","move"] 2 2 Jm
noncomputable abbrev aew:List Str:=["manner","setting","move"]
theorem ah2:FnScope aew ["manner","setting","move"] (jh acD):=⟨rfl,rfl,rfl,by decide +kernel,rfl,by decide +kernel,by decide +kernel⟩
noncomputable def acE:{ B:RO // zw CMoved "moved" acD aew 6 B }:=
 ⟨_,fun P w K mg base f Kc A Ko s H E C hr=>
  (jc (zN (jk C.c_chkSet hr (by decide) (ja (jb 0) (ja (jb 1) je)) (jd (jd js))))
  (jc (jY (j7 (j0 (jk C.c_CanMove hr (by decide) (ja (jb 0) (ja (jb 1) (ja (jb 2) je))) (jd (jd (jd js)))))) (jc Zs
  jg) jg)
  (jc (jz (jk C.c_BehindMove hr (by decide) (ja (jb 1) (ja (jb 2) je)) (jd (jd js))))
  jg)))⟩
noncomputable def aaR:LP->OP:=jJ aew 3 acE.1
noncomputable abbrev qu:Stmt:=top 37
structure CAllMoves (P:Program) (w:World) (K:Fg) (mg:SV) (base:Heap):Prop where
 t:Bare mg
 c_chkSet:jq P w K mg base "check_setting" ["manner","thing"] 6 2 qG
 c_CanMove:jq P w K mg base "can_move" ["manner","setting","thing"] 3 3 zW
 k_DECKS:GC K mg "DECKS" (.tuple [.str "upper",.str "lower"])
 k_WAYS:GC K mg "WAYS" (.tuple [.int 1,.int (-1)])
noncomputable abbrev zp:List Str:=["manner","setting","told","rod","deck","several"]
theorem zy:FnScope zp ["manner","setting"] (jh qu):=⟨rfl,rfl,rfl,by decide +kernel,rfl,by decide +kernel,by decide +kernel⟩
theorem ah3:(["by","rod","deck"]:List Str).Nodup:=by decide +kernel
theorem ah4:(["move","manner","setting"]:List Str).Nodup:=by decide +kernel
noncomputable def QN:{ B:RO // ahX 2 CAllMoves "all_moves" qu zp 6 (Jc (adA (Jc (adA (jX qu) 2)) 0)) B }:=
 ⟨_,fun P w K mg base f Kc A Ko s H E C hr=>
  (qY (ahJ 5 ["by","rod","deck"] [none,some 3,some 4] rfl zy.nd (zC (ZQ C.k_WAYS)) (qF (jh qu) zp (by decide +kernel))
   fun cl C' s0 H0 fp pn=>⟨(jL 0 ah3),qR,(Jp (ja (jb 1) (ja (jb 2) (ja (jb 0) je))))⟩)
  (qY (ajh (afZ 2 (zr ["move","manner","setting"] [none,some 0,some 1] rfl (zC (jb 5)) (qF (jh qu) zp (by decide +kernel))
   fun cl C' s0 H0 fp pn=>⟨(jL 0 ah4),(aas (j0 (jk C.c_CanMove hr (by decide) (ja (jb 1) (ja (jb 2) (ja (jb 0) je))) (jd (jd (jd js)))))),(jb 0)⟩)))
  Qb))⟩
noncomputable def zX:{ B:RO // ahX 2 CAllMoves "all_moves" qu zp 6 (Jc (adA (jX qu) 2)) B }:=
 ⟨_,fun P w K mg base f Kc A Ko s H E C hr=>
  (qY (acp PassesOwn.never rfl (zC (ZQ C.k_DECKS)) (aaw 4 zy.nd) (QN.2 P w K mg base f Kc A Ko s H E C hr))
  Qb)⟩
noncomputable def Qy:{ B:RO // zw CAllMoves "all_moves" qu zp 6 B }:=
 ⟨_,fun P w K mg base f Kc A Ko s H E C hr=>
  (jc (zN (jk C.c_chkSet hr (by decide) (ja (jb 0) (ja (jb 1) je)) (jd (jd js))))
  (add (ade 2 zy.nd (ald je)
  (qY (acp PassesOwn.never rfl (zO rfl C.t.range (ja (jE qw C.t.len qf (ja (jb 1) je)) je)) (aaw 3 zy.nd) (zX.2 P w K mg base f Kc A Ko s H E C hr))
  (qY (ae3 (jb 2))
  Qb)))))⟩
noncomputable def JI:LP->OP:=jJ zp 2 Qy.1
noncomputable abbrev Z2:Stmt:=top 47
structure CLaw (P:Program) (w:World) (K:Fg) (mg:SV) (base:Heap):Prop where
 t:Bare mg
 c_manner:jq P w K mg base "_law_manner" ["_law_script","_law_at"] 3 2 JX
 c_setting:jq P w K mg base "_law_setting" ["_law_script","_law_at","_law_manner_here","_law_most"] 3 4 acB
 c_drawn:jq P w K mg base "_law_drawn" ["_law_script","_law_k","_law_many"] 2 3 JW
 c_AllMoves:jq P w K mg base "all_moves" ["manner","setting"] 7 2 JI
 c_Moved:jq P w K mg base "moved" ["manner","setting","move"] 7 3 aaR
 c_SettingText:jq P w K mg base "setting_text" ["manner","setting"] 7 2 qk
 c_ReadSetting:jq P w K mg base "read_setting" ["manner","text"] 5 2 qI
 c_allBeads:jq P w K mg base "all_beads" ["manner","setting"] 7 2 Qx
noncomputable abbrev acF:List Str:=["_law_script","_law_manner_here","_law_one","_law_other","_law_move","_law_rows","_law_texts","_law_lines","_law_unlike","_law_signs","_law_setting_here","_law_many","_law_line","_law_above","_law_under"]
theorem qm:FnScope acF ["_law_script"] (jh Z2):=⟨rfl,rfl,rfl,by decide +kernel,rfl,by decide +kernel,by decide +kernel⟩
theorem ah5:(["_law_k","_law_script","_law_manner_here"]:List Str).Nodup:=by decide +kernel
theorem ah6:(["_law_text"]:List Str).Nodup:=by decide +kernel
theorem ah7:(["_law_at","_law_lines"]:List Str).Nodup:=by decide +kernel
theorem adE:(["_law_at","_law_sign","_law_lines","_law_move"]:List Str).Nodup:=by decide +kernel
noncomputable def adF:{ B:RO // ahW CLaw "law" Z2 acF 7 (Jc (adA (Jc (adA (jX Z2) 9)) 1)) B }:=
 ⟨_,fun P w K mg base f Kc A Ko s H E C hr=>
  (jc (jY (jW (zb hr.units) (jE acs C.t.len qf (ja (jb 12) je)) (jp jy (jp jy (jA (jb 1) jf) (jA (jb 1) jf)) jf)) (jc (jz zL)
  jg) jg)
  (jc (ai6 (JU PySem.F.slot_str_split PySem.F.type_str_split Qe (fun _ _ _ _ _ _ _=>Qf) (fun _ _ _=>Qg) (jb 12) qz) (ajI (n:=2) rfl (qE (jL 13 qm.nd) (qE (jL 14 qm.nd) QS))))
  (jc (jM 11 qm.nd (jp jy (jp jy (jb 11) (jE acs C.t.len qf (ja (jA (JU PySem.F.slot_str_split PySem.F.type_str_split Qe (fun _ _ _ _ _ _ _=>Qf) (fun _ _ _=>Qg) (jb 13) qz) jf) je))) (jE acs C.t.len qf (ja (jA (JU PySem.F.slot_str_split PySem.F.type_str_split Qe (fun _ _ _ _ _ _ _=>Qf) (fun _ _ _=>Qg) (jb 14) qz) jf) je))))
  jg)))⟩
noncomputable def aaS:{ B:RO // ahW CLaw "law" Z2 acF 7 (Jc (adA (jX Z2) 9)) B }:=
 ⟨_,fun P w K mg base f Kc A Ko s H E C hr=>
  (jc (jM 11 qm.nd jf)
  (jc (Z6 PassesOwn.never rfl (zC (ahF (jb 5) (aed jf))) (jL 12 qm.nd) (adF.2 P w K mg base f Kc A Ko s H E C hr))
  (jc (jY (qA (zM (jW (zb hr.units) (jb 11) (jk C.c_allBeads hr (by decide) (ja (jb 1) (ja (jb 10) je)) (jd (jd js)))) (za (jW (zb hr.units) (jE qw C.t.len qf (ja (jb 5) je)) (jp jy (jE qw C.t.len qf (ja (jb 2) je)) jf))))) (jc (jz zL)
  jg) jg)
  jg)))⟩
noncomputable def agc:{ B:RO // zw CLaw "law" Z2 acF 7 B }:=
 ⟨_,fun P w K mg base f Kc A Ko s H E C hr=>
  (jc (jM 1 qm.nd (jk C.c_manner hr (by decide) (ja (jb 0) (ja jf je)) (jd (jd js))))
  (jc (jM 2 qm.nd (jk C.c_setting hr (by decide) (ja (jb 0) (ja jf (ja (jb 1) (ja jf je)))) (jd (jd (jd (jd js))))))
  (jc (jM 3 qm.nd (abx adf C.t.tuple JC (ja (zr ["_law_k","_law_script","_law_manner_here"] [none,some 0,some 1] rfl (zO rfl C.t.range (ja (jE qw C.t.len qf (ja (jb 2) je)) je)) (qF (jh Z2) acF (by decide +kernel))
   fun cl C' s0 H0 fp pn=>⟨(jL 0 ah5),qR,(jA (jk C.c_setting hr (by decide) (ja (jb 1) (ja (jp jy jf (jp qT jf (jb 0))) (ja (jb 2) (ja jf je)))) (jd (jd (jd (jd js))))) jf)⟩) je)))
  (jc (jM 4 qm.nd ad9)
  (jc (jY (jW (aat hr.units) (jk C.c_drawn hr (by decide) (ja (jb 0) (ja jf (ja jf je))) (jd (jd (jd js)))) jf) (jc (jM 5 qm.nd (jk C.c_AllMoves hr (by decide) (ja (jb 1) (ja (jb 2) je)) (jd (jd js))))
  (jc (jM 4 qm.nd (jA (jb 5) (jk C.c_drawn hr (by decide) (ja (jb 0) (ja jf (ja (jE qw C.t.len qf (ja (jb 5) je)) je))) (jd (jd (jd js))))))
  (jc (jM 3 qm.nd (jk C.c_Moved hr (by decide) (ja (jb 1) (ja (jb 2) (ja (jb 4) je))) (jd (jd (jd js)))))
  jg))) jg)
  (jc (jM 6 qm.nd (ach (ja (jk C.c_SettingText hr (by decide) (ja (jb 1) (ja (jb 2) je)) (jd (jd js))) (ja (jk C.c_SettingText hr (by decide) (ja (jb 1) (ja (jb 3) je)) (jd (jd js))) je))))
  (jc (jY (qA (zM (jW (zb hr.units) (acg (aat hr.units) (jA (jb 6) jf) (jA (jb 6) jf)) (acg (aat hr.units) (jb 2) (jb 3))) (za (jW (zb hr.units) (jk C.c_ReadSetting hr (by decide) (ja (jb 1) (ja (jA (jb 6) jf) je)) (jd (jd js))) (jb 3))))) (jc (jz zL)
  jg) jg)
  (jc (jM 7 qm.nd (zr ["_law_text"] [none] rfl (zC (jb 6)) (qF (jh Z2) acF (by decide +kernel))
   fun cl C' s0 H0 fp pn=>⟨(jL 0 ah6),qR,(JU PySem.F.slot_str_split PySem.F.type_str_split Qe (fun _ _ _ _ _ _ _=>Qf) (fun _ _ _=>Qg) (jb 0) qz)⟩))
  (jc (jY (jW ahs (jb 4) ad9) (jc (adk 8 ["_law_at","_law_lines"] [none,some 7] rfl qm.nd (zO rfl C.t.range (ja (jE qw C.t.len qf (ja (jA (jb 7) jf) je)) je)) (qF (jh Z2) acF (by decide +kernel))
   fun cl C' s0 H0 fp pn=>⟨(jL 0 ah7),(aas (jW (zb hr.units) (jA (jA (jb 1) jf) (jb 0)) (jA (jA (jb 1) jf) (jb 0)))),(jb 0)⟩)
  (jc (jY (jW (zb hr.units) (jb 8) (ach (ja (jA (jb 4) jf) je))) (jc (jz zL)
  jg) jg)
  (jc (adk 9 ["_law_at","_law_sign","_law_lines","_law_move"] [none,none,some 7,some 4] rfl qm.nd (af7 C.t.enum (ja (jA (jA (jb 7) jf) (jA (jb 4) jf)) je)) (qF (jh Z2) acF (by decide +kernel))
   fun cl C' s0 H0 fp pn=>⟨(aci (n:=2) rfl (qE (jL 0 adE) (qE (jL 1 adE) QS))),(aas (jW (zb hr.units) (alq (jA (jA (jb 2) jf) (jA (jb 3) jf)) (jb 0) (by intro _ _; rfl)) (jb 1))),(jb 0)⟩)
  (jc (jY (qA (zM (jW (zb hr.units) (jE qw C.t.len qf (ja (jb 9) je)) jf) (za (jW (zb hr.units) (jA (jb 9) jf) (jp jy (jA (jb 9) jf) jf))))) (jc (jz zL)
  jg) jg)
  jg)))) jg)
  (jc (Z6 PassesOwn.never rfl (ahy C.t.zip (ja (Jp (ja (jb 2) (ja (jb 3) je))) (ja (jb 7) je))) (aci (n:=2) rfl (qE (jL 10 qm.nd) (qE (jL 5 qm.nd) QS))) (aaS.2 P w K mg base f Kc A Ko s H E C hr))
  (jc (jz zL)
  jg)))))))))))⟩
noncomputable def agd:LP->OP:=jJ acF 1 agc.1
theorem j9 (i a b:Int):jV [.int i,.int a,.int b]=some (.bool (decide (a<=i) && decide (i<=b))):=by
 by_cases h:a<=i <;> simp [jV,jJ,Zb,jU,j2,ifS,orB,tst,lkp,zP,tyn,asB,zz,chn,J5,qP,qX,h]
theorem acG (u e l b x y:Int) (h:-18446744073709551616<x/\x<18446744073709551616):JD [.tuple [.int u,.int e,.int l,.int b],.tuple [.int x,.int y]]=some (.int (x*e+y)):=by
 simp [JD,jJ,Zx,jU,j2,op2,lkp,dIx,atI,ixN,qP,qX,cst,QA,JS,h]
theorem age (x y:Int):acw [.tuple [.int x,.int y]]=some (.int (x+y)):=by
 simp [acw,jJ,aeq,jU,j2,op2,lkp,dIx,atI,ixN,qP,qX,cst,JS]
theorem acH {n:Nat}{i:Int} (h0:0<=i) (h:i.toNat<n):ixN n i=some i.toNat:=by
 unfold ixN
 rw [if_pos h0,if_pos (by omega)]
noncomputable def okN (u e l b:Int):Bool:=decide (0<=u) && decide (u<=3) && decide (1<=e) && decide (e<=5) && decide (e - 1<=l) && decide (1<=l) && decide (l<=11) && decide (2<=b) && decide (b<=16) && decide (b<=u*e+l+1)
noncomputable def qh (u l:Int):LP:=JE (u+1).toNat (l+1).toNat
noncomputable def jT (e:Int):PyData->Int
 | .tuple [.int x,.int y]=>x*e+y
 | _=>-1
noncomputable def pr (p:Int × Int):PyData:= .tuple [.int p.1,.int p.2]
noncomputable def ju (ps:List (Int × Int)):PyData:= .tuple (ps.map pr)
noncomputable def unP:PyData->Option (Int × Int)
 | .tuple [.int x,.int y]=>some (x,y)
 | _=>none
noncomputable def okP (u l:Int) (p:Int × Int):Bool:=decide (0<=p.1) && decide (p.1<=u) && decide (0<=p.2) && decide (p.2<=l)
noncomputable def okS (u l:Int) (ps:List (Int × Int)):Bool:=decide (1<=ps.length) && decide (ps.length<=4) && ps.all (okP u l)
noncomputable def wt (e:Int) (p:Int × Int):Int:=p.1*e+p.2
noncomputable def val (b e:Int) (ps:List (Int × Int)):Int:=ps.foldl (fun n p=>n*b+wt e p) 0
noncomputable def bds (ps:List (Int × Int)):Int:=(ps.map fun p=>p.1+p.2).sum
noncomputable def anC (b e:Int) (ps:List (Int × Int)):Bool:=ps.all fun p=>decide (wt e p<b)
noncomputable def amH (e:Int):List Int->LP->List Int
 | c,[]=>c
 | c,r::rs=>amH e (c.set (jT e r).toNat (c.getD (jT e r).toNat 0+1)) rs
noncomputable def amI (u e l:Int):List Int:=amH e (List.replicate (u*e+l+1).toNat 0) (qh u l)
noncomputable def cnt (u e l n:Int):Int:=((qh u l).filter fun r=>jT e r == n).length
noncomputable def okM (u e l b:Int):Bool:=decide (0<=u) && decide (u<=3) && decide (1<=e) && decide (e<=5) && decide (e - 1<=l) && decide (1<=l) && decide (l<=10) && decide (2<=b) && decide (b<=16) && decide (b<=u*e+l+1)
theorem agf {n m:Nat}{d:PyData} (h:d ∈ JE n m):∃ i j:Nat,i<n/\j<m/\d= .tuple [.int i,.int j]:=by
 obtain ⟨i,hi,hd⟩:=List.mem_flatMap.mp h
 obtain ⟨j,hj,rfl⟩:=List.mem_map.mp hd
 exact ⟨i,j,List.mem_range.mp hi,List.mem_range.mp hj,rfl⟩
theorem Jn (i:Int):okD (.int i)=true:=by simp [okD,PyData.canLay0,PyData.depth]
theorem ZR {u e l b:Int} (hu:0<=u) (hu':u<100) (hl:0<=l) (hl':l<100):qC [jr u e l b]=some (.list (qh u l)):=by
 simp [qC,jr,qh,hu,hl,show u<1000 by omega,show l<1000 by omega]
theorem ah8 {u l:Int} (hu':u<100) (hl':l<100):few (qh u l)=true:=by
 simp only [few,qh,aaJ,decide_eq_true_eq]
 have:(u+1).toNat*(l+1).toNat<=100*100:=Nat.mul_le_mul (by omega) (by omega)
 omega
theorem agg {u e l b:Int} (hu':u<100) {d:PyData} (h:d ∈ qh u l):JD [jr u e l b,d]=some (.int (jT e d)):=by
 obtain ⟨i,j,hi,hj,rfl⟩:=agf h
 exact acG u e l b i j (by omega)
theorem aaT {α:Type} (f:α->Int):∀ xs:List α,zi (xs.map fun d=>PyData.int (f d))=some (xs.map f)
 | []=>rfl
 | x::xs=>by simp [zi,aa9,aaT f xs]
theorem adG (ns:List Int):okD (.list (ns.map PyData.int))=true:=by
 have h1:∀ ns:List Int,PyData.canLayAll0 (ns.map PyData.int)=true:=fun ns=>by
  induction ns with
  | nil=>rfl
  | cons n ns ih=>simp [PyData.canLayAll0,PyData.canLay0,ih]
 have h2:∀ ns:List Int,PyData.depthAll (ns.map PyData.int)=0:=fun ns=>by
  induction ns with
  | nil=>rfl
  | cons n ns ih=>simp [PyData.depthAll,PyData.depth,ih]
 simp [okD,PyData.canLay0,h1,PyData.depth,h2]
theorem ah9 (ns:List Int) (d:Int):(ns.map PyData.int).any (fun z=>PyData.eqv z (.int d))=ns.any (fun z=>z == d):=by
 induction ns with
 | nil=>rfl
 | cons n ns ih=>simp only [List.map_cons,List.any_cons,ih]; rfl
theorem aaf {α:Type} (f:α->Bool):∀ xs:List α,bls (xs.map fun d=>PyData.bool (f d))=some (xs.map f)
 | []=>rfl
 | x::xs=>by simp [bls,asB,aaf f xs]
theorem ix0 (u e l b:Int):dIx (jr u e l b) (.int 0)=some (.int u):=rfl
theorem ix2 (u e l b:Int):dIx (jr u e l b) (.int 2)=some (.int l):=rfl
theorem ix3 (u e l b:Int):dIx (jr u e l b) (.int 3)=some (.int b):=rfl
theorem Zi {j:Int} (h:0<=j) (h':j<1000000):zY [.int j]=some (qM 0 j.toNat):=by
 unfold zY
 exact if_pos (by omega)
theorem Jo (a b:Int):PyData.eqv (.int a) (.int b)=(a == b):=by unfold PyData.eqv; rfl
theorem aaU {u e l b:Int} (hu:0<=u) (hu':u<100) (hl:0<=l) (hl':l<100) (hb:0<=b) (hb':b<100):Zc [jr u e l b]=some (.bool ((List.range b.toNat).all fun d=>((qh u l).map (jT e)).any fun z=>z == (d:Int))):=by
 have h1:=ZR (e:=e) (b:=b) hu hu' hl hl'
 have h2:=ah8 hu' hl'
 have h4:few (qM 0 b.toNat)=true:=by simp [few,qM]; omega
 simp only [Zc,jJ,acx,jU,j2,qP,qQ,itL,jO,jj,jD,lkp,aar,List.length_cons,List.length_nil,zzM,List.map_cons,List.map_nil,List.cons_append,List.nil_append,zzA,zzC,zzD,zzE,h1,h2,QH,zl]
 rw [Jx (fun d=> .int (jT e d))]
 ·simp only [jP,qX,op2,cst,lkp,zzD,zzE,zzF,zzG,List.replicate,List.length_cons,List.length_nil,zzA,zzB,zzC,ix3,Zi hb (show b<1000000 by omega),h4,zzM]
  rw [Jx (fun d=> .bool (((qh u l).map (jT e)).any fun z=>z == (aa9 d).getD 0))]
  ·have:(qM 0 b.toNat).map (fun d=>PyData.bool (((qh u l).map (jT e)).any fun z=>z == (aa9 d).getD 0))=(List.range b.toNat).map fun (d:Nat)=>PyData.bool (((qh u l).map (jT e)).any fun z=>z == (d:Int)):=by
    simp [qM,aa9,Function.comp_def]
   simp only [zzE,zzD,this,ac8,aaf (fun (d:Nat)=>((qh u l).map (jT e)).any fun z=>z == (d:Int)),List.all_map,Function.comp_def,id]
  ·intro d hd
   obtain ⟨k,_,rfl⟩:=List.mem_map.mp hd
   have h5:(qh u l).map (fun d=>PyData.int (jT e d))=((qh u l).map (jT e)).map PyData.int:=by simp
   have h6:=adG ((qh u l).map (jT e))
   simp only [op2,lkp,zzG,zzA,zzB,zzC,zzD,dIn,Jn,h5,h6,ah9]
   simp [aa9]
 ·intro d hd
  simp [jO,jj,jD,lkp,agg (b:=b) (e:=e) hu' hd]
theorem acI {u e l b:Int} (hu:0<=u) (hu':u<=3) (he:1<=e) (he':e<=16) (hl:0<=l) (hl':l<=12) (hb:2<=b) (hb':b<=16):qt [jr u e l b]=Zc [jr u e l b]:=by
 have g:=aaU (e:=e) hu (by omega) hl (by omega) (show 0<=b by omega) (by omega)
 have w1:jV [.int u,.int 0,.int 3]=some (.bool true):=by rw [j9]; simp [hu,hu']
 have w2:jV [.int e,.int 1,.int 16]=some (.bool true):=by rw [j9]; simp [he,he']
 have w3:jV [.int l,.int 0,.int 12]=some (.bool true):=by rw [j9]; simp [hl,hl']
 have w4:jV [.int b,.int 2,.int 16]=some (.bool true):=by rw [j9]; simp [hb,hb']
 have z:ae0 [jr u e l b,.tuple [.int 0,.int 1,.int 0,.int 2],.tuple [.int 3,.int 16,.int 12,.int 16]]=some [.tuple [.int u,.int 0,.int 3],.tuple [.int e,.int 1,.int 16],.tuple [.int l,.int 0,.int 12],.tuple [.int b,.int 2,.int 16]]:=rfl
 rw [g]
 rw [show jr u e l b= .tuple [.int u,.int e,.int l,.int b] from rfl] at g z ⊢
 simp [qt,jJ,Zy,jU,j2,ifS,orB,zz,tst,zP,tyn,asB,lkp,op2,jO,jj,jD,qN,cst,dNe,Jn,Jo,qX,aa8,z,jR,Z1,j8,JR,jP,w1,w2,w3,w4,qP,g]
theorem Qz {m:PyData} (h:qt [m]=some (.bool true)):Qj [m]=some .none:=by
 simp [Qj,jJ,aes,jU,j2,ifS,zz,tst,asB,jO,jj,jD,lkp,h,qX]
theorem ajM:few []=true:=by simp [few]
theorem add_int (i j:Int):JS (.int i) (.int j)=some (.int (i+j)):=rfl
theorem qJ {i j:Int} (h:-1000000000000<i/\i<1000000000000):QA (.int i) (.int j)=some (.int (i*j)):=by
 unfold QA; exact if_pos (.inl ⟨by omega,by omega⟩)
theorem afc {i j:Int} (h:0<j):aja (.int i) (.int j)=some (.int (i % j)):=by unfold aja; exact if_pos h
theorem adH {i j:Int} (h:0<j) (h':j<1000000000):aeX (.int i) (.int j)=some (.int (i / j)):=by unfold aeX; exact if_pos ⟨h,by omega⟩
theorem aia (ns:List Int) (hn:ns.length<1000000) (k:Int) (hk:0<=k):∃ c,adC [scr ns,.int k]=some (.int c):=by
 cases ns with
 | nil=>
  refine ⟨7*k,?_⟩
  simp [adC,jJ,afb,jU,j2,ifS,tst,op2,lkp,J4,jD,few,dEq,scr,zh,asB,qP,cst,qJ,qX]
 | cons n ns=>
  have hl:0<(((n::ns).map fun n=>(PyData.int n,PyData.none)).length:Int):=by simp
  have hl':(((n::ns).map fun n=>(PyData.int n,PyData.none)).length:Int)<1000000:=by simp at hn ⊢; omega
  have hsc:=abw (n::ns)
  have e1:dEq (scr (n::ns)) (.list [])=some (.bool false):=by
   show (if zh ((n::ns).map fun n=>(PyData.int n,PyData.none))=true then some (PyData.bool ((n::ns).map fun n=>(PyData.int n,PyData.none)).isEmpty) else none)=_
   rw [if_pos hsc]; rfl
  have e2:qN [scr (n::ns)]=some (.int (((n::ns).map fun n=>(PyData.int n,PyData.none)).length)):=by
   show (if zh ((n::ns).map fun n=>(PyData.int n,PyData.none))=true then some (PyData.int ((n::ns).map fun n=>(PyData.int n,PyData.none)).length) else none)=_
   rw [if_pos hsc]
  generalize hL:(((n::ns).map fun n=>(PyData.int n,PyData.none)).length:Int)=L at*
  have h0:0<=k % L:=Int.emod_nonneg _ (by omega)
  have h1:k % L<L:=Int.emod_lt_of_pos _ hl
  have e3:∃ c,dIx (scr (n::ns)) (.int (k % L))=some (.int c):=by
   have hlen:((n::ns).map fun n=>(PyData.int n,PyData.none)).length<1000000:=by omega
   have hlt:(k % L).toNat<((n::ns).map fun n=>(PyData.int n,PyData.none)).length:=by omega
   have hx:ixN ((n::ns).map fun n=>(PyData.int n,PyData.none)).length (k % L)=some (k % L).toNat:=acH h0 hlt
   refine ⟨((n::ns)[(k % L).toNat]'(by simpa using hlt)),?_⟩
   show (if ((n::ns).map fun n=>(PyData.int n,PyData.none)).length<1000000/\zh ((n::ns).map fun n=>(PyData.int n,PyData.none))=true then (atI ((n::ns).map fun n=>(PyData.int n,PyData.none)) (k % L)).map (·.1) else none)=_
   rw [if_pos ⟨hlen,hsc⟩]
   unfold atI
   rw [hx,zzD,List.getElem?_eq_getElem hlt,zzE,List.getElem_map]
  obtain ⟨c,e3⟩:=e3
  refine ⟨c+6553*(k / L),?_⟩
  simp [adC,jJ,afb,jU,j2,ifS,tst,op2,lkp,J4,jD,few,asB,qP,cst,qX,jO,jj,e1,e2,e3,afc hl,adH hl (show L<1000000000 by omega),qJ,add_int]
theorem qi (ns:List Int) (hn:ns.length<1000000) (k m:Int) (hk:0<=k) (hm:0<m):∃ r,JW [scr ns,.int k,.int m]=some (.int r)/\0<=r/\r<m:=by
 obtain ⟨c,hc⟩:=aia ns hn k hk
 generalize h1:(c % 2147483563*69069+104723*(k+1)) % 2147483563=a
 generalize h2:(a*a+a / 3) % 2147483399=d
 have ha:0<=a/\a<2147483563:=by rw [←h1]; exact ⟨Int.emod_nonneg _ (by omega),Int.emod_lt_of_pos _ (by omega)⟩
 have hd:0<=d/\d<2147483399:=by rw [←h2]; exact ⟨Int.emod_nonneg _ (by omega),Int.emod_lt_of_pos _ (by omega)⟩
 have hc':0<=c % 2147483563/\c % 2147483563<2147483563:=⟨Int.emod_nonneg _ (by omega),Int.emod_lt_of_pos _ (by omega)⟩
 refine ⟨(d*d+d / 7) % 2147483647 / 11 % m,?_,Int.emod_nonneg _ (by omega),Int.emod_lt_of_pos _ hm⟩
 have m1:QA (.int (c % 2147483563)) (.int 69069)=some (.int (c % 2147483563*69069)):=qJ (by omega)
 have m2:QA (.int 104723) (.int (k+1))=some (.int (104723*(k+1))):=qJ (by omega)
 have m3:QA (.int a) (.int a)=some (.int (a*a)):=qJ (by omega)
 have m4:QA (.int d) (.int d)=some (.int (d*d)):=qJ (by omega)
 simp [JW,jJ,aet,jU,j2,zl,jP,op2,lkp,jD,qP,cst,qX,jO,jj,hc,m1,m2,m3,m4,afc,adH,add_int,h1,h2,hm]
theorem aib (w:Int) (h0:0<=w) (h:w<12):∃ u e l b,dIx (.list (ZB++ZC)) (.int w)=some (jr u e l b)/\okM u e l b=true:=by
 obtain ⟨n,rfl⟩:=Int.eq_ofNat_of_zero_le h0
 have hn:n<12:=by omega
 have:∀ n<12,∃ u e l b,dIx (.list (ZB++ZC)) (.int (n:Nat))=some (jr u e l b)/\okM u e l b=true:=by
  intro n hn
  match n,hn with
  | 0,_=>exact ⟨_,_,_,_,rfl,by decide⟩
  | 1,_=>exact ⟨_,_,_,_,rfl,by decide⟩
  | 2,_=>exact ⟨_,_,_,_,rfl,by decide⟩
  | 3,_=>exact ⟨_,_,_,_,rfl,by decide⟩
  | 4,_=>exact ⟨_,_,_,_,rfl,by decide⟩
  | 5,_=>exact ⟨_,_,_,_,rfl,by decide⟩
  | 6,_=>exact ⟨_,_,_,_,rfl,by decide⟩
  | 7,_=>exact ⟨_,_,_,_,rfl,by decide⟩
  | 8,_=>exact ⟨_,_,_,_,rfl,by decide⟩
  | 9,_=>exact ⟨_,_,_,_,rfl,by decide⟩
  | 10,_=>exact ⟨_,_,_,_,rfl,by decide⟩
  | 11,_=>exact ⟨_,_,_,_,rfl,by decide⟩
  | k+12,h=>omega
 exact this n hn
theorem aex (ns:List Int) (hn:ns.length<1000000) (k:Int) (hk:0<=k):∃ u e l b,JX [scr ns,.int k]=some (jr u e l b)/\okM u e l b=true:=by
 obtain ⟨w,hw,hw0,hw1⟩:=qi ns hn k 24 hk (by omega)
 have a1:JS (.list ZB) (.list ZC)=some (.list (ZB++ZC)):=rfl
 have a2:qN [.list (ZB++ZC)]=some (.int 12):=rfl
 have a3:QA (.int 2) (.int 12)=some (.int 24):=rfl
 by_cases hlt:w<12
 ·obtain ⟨u,e,l,b,h1,h2⟩:=aib w hw0 hlt
  refine ⟨u,e,l,b,?_,h2⟩
  simp [JX,jJ,aac,jU,j2,zl,jP,op2,lkp,jD,qP,cst,qX,jO,jj,ifS,tst,asB,a1,a2,a3,hw,J5,hlt,h1]
 ·obtain ⟨r1,e1,p1,q1⟩:=qi ns hn (k+1) 5 (by omega) (by omega)
  obtain ⟨r2,e2,p2,q2⟩:=qi ns hn (k+2) 4 (by omega) (by omega)
  obtain ⟨r3,e3,p3,q3⟩:=qi ns hn (k+3) 4 (by omega) (by omega)
  generalize hlo:(if (1:Int) > 1+r1 - 1 then 1 else 1+r1 - 1)+r3=lo
  have hlo1:1<=lo/\r1<=lo/\lo<=10:=by
   rw [←hlo]; split <;> omega
  have hue:0<=r2*(1+r1)/\r2*(1+r1)<=3*5:=⟨Int.mul_nonneg p2 (by omega),Int.mul_le_mul (by omega) (by omega) (by omega) (by omega)⟩
  generalize hmn:(if r2*(1+r1)+lo<15 then r2*(1+r1)+lo else 15)=mn
  have hmn1:0<mn/\mn<=15/\mn<=r2*(1+r1)+lo:=by
   rw [←hmn]; split <;> omega
  obtain ⟨r4,e4,p4,q4⟩:=qi ns hn (k+4) mn (by omega) (by omega)
  refine ⟨r2,1+r1,lo,2+r4,?_,?_⟩
  ·have m1:QA (.int r2) (.int (1+r1))=some (.int (r2*(1+r1))):=qJ (by omega)
   have x1:ag9 [.int (1+r1 - 1),.int 1]=some (.int (if (1:Int) > 1+r1 - 1 then 1 else 1+r1 - 1)):=rfl
   have x2:aha [.int 15,.int (r2*(1+r1)+lo)]=some (.int (if r2*(1+r1)+lo<15 then r2*(1+r1)+lo else 15)):=rfl
   have x3:ai9 (.int (1+r1)) (.int 1)=some (.int (1+r1 - 1)):=rfl
   simp only [JX,jJ,aac,jU,j2,zl,jP,op2,lkp,jD,qP,cst,qX,jO,jj,ifS,tst,asB,a1,a2,a3,hw,J5,hlt,zzD,zzE,zzF,zzG,List.replicate,List.length_cons,List.length_nil,zzM,List.map_cons,List.map_nil,List.cons_append,List.nil_append,zzA,zzB,zzC,add_int,e1,e2,e3,m1,x1,x2,x3,decide_false,hlo,hmn,e4]
   simp [e1,e2,e3,m1,x1,x2,x3,hlo,hmn,e4,add_int,lkp,JQ,jj,jD,few,jr]
   simp only [JQ,jj,jD,lkp,op2,jO,cst,zzD,zzE,zzA,zzB,zzC,add_int,m1,x2,hmn,e4]
   simp
  ·have:=hue.1
   simp [okM]
   omega
noncomputable def isInt (t:Int):PyData->Bool
 | .int x=>x == t
 | _=>false
noncomputable def alz (u e l:Int):Bool:=
 isInt (u*e+l) (alb none ((qh u l).map (jT e))) &&
 ((List.range (u*e+l+1).toNat).all fun n=>(qh u l).any fun r=>jT e r == (n:Int)) &&
 ((qh u l).all fun r=>decide (0<=jT e r) && decide (jT e r<=u*e+l)) &&
 decide (amI u e l=(List.range (u*e+l+1).toNat).map fun (n:Nat)=>cnt u e l n)
noncomputable def zZ:Bool:=(List.range 4).all fun (i:Nat)=>(List.range 5).all fun (j:Nat)=>(List.range 11).all fun (k:Nat)=>decide (k+1<j) || alz i (j+1) (k+1)
structure Chk (u e l:Int):Prop where
 most:alb none ((qh u l).map (jT e))= .int (u*e+l)
 dig:∀ n:Nat,n<(u*e+l+1).toNat->((qh u l).any fun r=>jT e r == (n:Int))=true
 rng:∀ r ∈ qh u l,0<=jT e r/\jT e r<=u*e+l
 lst:amI u e l=(List.range (u*e+l+1).toNat).map fun (n:Nat)=>cnt u e l n
theorem alA {u e l:Int} (h:alz u e l=true):Chk u e l:=by
 simp only [alz,Bool.and_eq_true,List.all_eq_true,decide_eq_true_eq] at h
 obtain ⟨⟨⟨h1,h2⟩,h3⟩,h4⟩:=h
 refine ⟨?_,fun n hn=>h2 n (List.mem_range.mpr hn),fun r hr=>h3 r hr,h4⟩
 generalize alb none ((qh u l).map (jT e))=x at h1
 cases x <;> simp [isInt] at h1
 rw [h1]
theorem qo {u e l b:Int} (h:okN u e l b=true):0<=u/\u<=3/\1<=e/\e<=5/\e - 1<=l/\1<=l/\l<=11/\2<=b/\b<=16/\b<=u*e+l+1:=by
 simp only [okN,Bool.and_eq_true,decide_eq_true_eq] at h
 omega
theorem alB {u e l b:Int} (H:zZ=true) (h:okN u e l b=true):Chk u e l:=by
 obtain ⟨a1,a2,a3,a4,a5,a6,a7,_⟩:=qo h
 simp only [zZ,List.all_eq_true,Bool.or_eq_true,decide_eq_true_eq] at H
 have:=H u.toNat (List.mem_range.mpr (by omega)) (e - 1).toNat (List.mem_range.mpr (by omega)) (l - 1).toNat (List.mem_range.mpr (by omega))
 rcases this with z | z
 ·exfalso; omega
 ·rw [show ((u.toNat:Nat):Int)=u by omega,show (((e - 1).toNat:Nat):Int)+1=e by omega,show (((l - 1).toNat:Nat):Int)+1=l by omega] at z
  exact alA z
theorem ajN {u e l b:Int} (h:okM u e l b=true):okN u e l b=true:=by
 simp only [okM,okN,Bool.and_eq_true,decide_eq_true_eq] at h ⊢
 omega
theorem alC {u e l b:Int} (H:zZ=true) (h:okN u e l b=true) {n:Int} (h0:0<=n) (hn:n<b):((qh u l).any fun r=>jT e r == n)=true:=by
 obtain ⟨a1,a2,a3,a4,a5,a6,a7,a8,a9,a10⟩:=qo h
 have:=(alB H h).dig n.toNat (by omega)
 rw [show ((n.toNat:Nat):Int)=n by omega] at this
 exact this
end Rods
theorem Rods.allN_true:Rods.zZ=true:=by decide +kernel
namespace Rods
open PySem L2 BX
open PyProof.Rows hiding St
theorem jw {F G:RO}{ρ ρ1:Rho} (h:F ρ=some (.nx ρ1)):j2 F G ρ=G ρ1:=by
 unfold j2
 rw [h]
 rfl
theorem qd {N:List Str}{n:Nat}{B:RO}{ds:LP}{d:PyData} (hl:ds.length=n) (h:B (jU N ds)=some (.rt d)):jJ N n B ds=some d:=by
 unfold jJ
 rw [if_pos hl,h]
section
variable {u e l b:Int}
theorem qv {u l:Int}{p:Int × Int} (h:okP u l p=true):0<=p.1/\p.1<=u/\0<=p.2/\p.2<=l:=by
 simp only [okP,Bool.and_eq_true,decide_eq_true_eq] at h
 exact ⟨h.1.1.1,h.1.1.2,h.1.2,h.2⟩
end
theorem qU {ds:LP} (h:ds.length<10000):few ds=true:=by
 rw [few]
 refine decide_eq_true ?_
 omega
theorem ajO {u e l b:Int} (H:zZ=true) (h:okN u e l b=true):qt [jr u e l b]=some (.bool true):=by
 obtain ⟨a1,a2,a3,a4,a5,a6,a7,a8,a9,a10⟩:=qo h
 rw [acI a1 a2 a3 (by omega) (by omega) (by omega) a8 a9,aaU a1 (by omega) (by omega) (by omega) (by omega) (by omega)]
 congr 2
 refine List.all_eq_true.mpr fun d hd=>?_
 have:=alC H h (n:=(d:Int)) (by omega) (by have:=List.mem_range.mp hd; omega)
 simpa [List.any_map,Function.comp_def] using this
theorem zq {u l:Int}{ps:List (Int × Int)} (h:okS u l ps=true):1<=ps.length/\ps.length<=4/\ps.all (okP u l)=true:=by
 simp only [okS,Bool.and_eq_true,decide_eq_true_eq] at h
 exact ⟨h.1.1,h.1.2,h.2⟩
theorem acJ {u l:Int}{ps:List (Int × Int)} (h1:1<=ps.length) (h2:ps.length<=4) (h3:ps.all (okP u l)=true):okS u l ps=true:=by
 simp only [okS,Bool.and_eq_true,decide_eq_true_eq]
 exact ⟨⟨h1,h2⟩,h3⟩
section
variable {u e l b:Int}{ps qs:List (Int × Int)}
theorem agh {p:Int × Int} (hp:okP u l p=true):Js [jr u e l b,pr p]=some (.bool true):=by
 obtain ⟨q1,q2,q3,q4⟩:=qv hp
 have w1:jV [.int p.1,.int 0,.int u]=some (.bool true):=by rw [j9]; simp [q1,q2]
 have w2:jV [.int p.2,.int 0,.int l]=some (.bool true):=by rw [j9]; simp [q3,q4]
 simp [Js,jJ,Zz,jU,j2,ifS,orB,zz,tst,zP,tyn,asB,lkp,op2,jO,jj,jD,qN,cst,dNe,Jn,Jo,qX,qP,acq,pr,jr,dIx,atI,ixN,w1,w2]
theorem agi (H:zZ=true) (h:okN u e l b=true) (hs:okS u l ps=true):aaL [jr u e l b,ju ps]=some (.bool true):=by
 obtain ⟨h1,h4,hp⟩:=zq hs
 have g0:=Qz (ajO H h)
 have hf:few (ps.map pr)=true:=qU (by rw [List.length_map]; omega)
 have c1:J5 (fun i j=>decide (i<=j)) (.int 1) (.int ((ps.map pr).length:Int))=some (.bool true):=by
  show some (PyData.bool (decide ((1:Int)<=((ps.map pr).length:Int))))=_
  rw [decide_eq_true (by rw [List.length_map]; omega)]
 have c2:J5 (fun i j=>decide (i<=j)) (.int ((ps.map pr).length:Int)) (.int 4)=some (.bool true):=by
  show some (PyData.bool (decide (((ps.map pr).length:Int)<=4)))=_
  rw [decide_eq_true (by rw [List.length_map]; omega)]
 refine qd rfl ?_
 show ZA.1 [some (jr u e l b),some (ju ps)]=_
 simp only [ZA]
 refine (jw (ρ1:=[some (jr u e l b),some (ju ps)]) ?_).trans ?_
 ·simp only [Z0,jO,jj,jD,lkp,zzA,zzB,zzC,zzD,zzE,g0]
 refine (jw (ρ1:=[some (jr u e l b),some (ju ps)]) ?_).trans ?_
 ·simp [ifS,orB,zz,tst,zP,tyn,asB,lkp,ju,chn,jO,jj,jD,qN,cst,qX]
  simp [List.length_map] at c1 c2
  simp [c1,c2]
  rfl
 simp only [j2,qP,jO,jj,jD,qQ,itT,lkp,ju,QG,zzA,zzB,zzC,zzD,zzE,hf,zzM,QH,List.map_cons,List.map_nil,zzH]
 rw [Jx (fun _=> .bool true)]
 ·have:bls ((ps.map pr).map fun _=>PyData.bool true)=some ((ps.map pr).map fun _=>true):=aaf (fun _=>true) _
  simp only [zzE,zzD,ac8,this]
  simp
 ·intro d hd
  obtain ⟨p,hp',rfl⟩:=List.mem_map.mp hd
  simp [jO,jj,jD,lkp,agh (e:=e) (b:=b) (List.all_eq_true.mp hp p hp')]
theorem adI (H:zZ=true) (h:okN u e l b=true) (hs:okS u l ps=true):qG [jr u e l b,ju ps]=some .none:=by
 have g:=agi H h hs
 simp [qG,jJ,aaa,jU,j2,ifS,zz,tst,asB,jO,jj,jD,lkp,g,qX]
theorem aey (ns:List Int):zi (ns.map PyData.int)=some ns:=by simpa using aaT (fun i:Int=>i) ns
theorem ajP (H:zZ=true) (h:okN u e l b=true) (hs:okS u l ps=true):Qx [jr u e l b,ju ps]=some (.int (bds ps)):=by
 obtain ⟨h1,h4,hp⟩:=zq hs
 have g:=adI H h hs
 have hf:few (ps.map pr)=true:=qU (by rw [List.length_map]; omega)
 refine qd rfl ?_
 show Qw.1 [some (jr u e l b),some (ju ps)]=_
 simp only [Qw]
 refine (jw (ρ1:=[some (jr u e l b),some (ju ps)]) ?_).trans ?_
 ·simp only [Z0,jO,jj,jD,lkp,zzA,zzB,zzC,zzD,zzE,g]
 simp only [j2,qP,jO,jj,jD,qQ,itT,lkp,ju,QG,zzA,zzB,zzC,zzD,zzE,hf,zzM,QH,List.map_cons,List.map_nil,zzH]
 rw [Jx (fun d=> .int (((unP d).map fun p=>p.1+p.2).getD 0))]
 ·have:(ps.map pr).map (fun d=>PyData.int (((unP d).map fun p=>p.1+p.2).getD 0))=(ps.map fun p=>p.1+p.2).map PyData.int:=by
   rw [List.map_map,List.map_map]
   refine List.map_congr_left fun p _=>?_
   rfl
  simp only [zzE,zzD,this,ak7,aey,bds]
 ·intro d hd
  obtain ⟨p,hp',rfl⟩:=List.mem_map.mp hd
  have:=age p.1 p.2
  simp [jO,jj,jD,lkp,pr,unP,this]
theorem ajQ (i j:Int):dEq (.int i) (.int j)=some (.bool (decide (i=j))):=by
 have:(i == j)=decide (i=j):=rfl
 simp only [dEq,Jn,Jo,and_self,zzM,this]
theorem Qo (ps:List (Int × Int)):qN [ju ps]=some (.int (ps.length:Int)):=by
 show some (PyData.int ((ps.map pr).length:Int))=_
 rw [List.length_map]
theorem alD (p q:Int × Int):PyData.eqv (pr p) (pr q)=decide (p=q):=by
 obtain ⟨a,b⟩:=p
 obtain ⟨c,d⟩:=q
 simp only [pr,PyData.eqv,PyData.eqvAll,Prod.mk.injEq,Bool.and_true,Bool.decide_and]
 rfl
theorem abS:∀ (ps qs:List (Int × Int)),PyData.eqvAll (ps.map pr) (qs.map pr)=decide (ps=qs)
 | [],[]=>by simp [PyData.eqvAll]
 | [],q::qs=>by simp [PyData.eqvAll]
 | p::ps,[]=>by simp [PyData.eqvAll]
 | p::ps,q::qs=>by simp [PyData.eqvAll,alD,abS ps qs]
theorem Zj (ps qs:List (Int × Int)):PyData.eqv (ju ps) (ju qs)=decide (ps=qs):=by
 unfold ju PyData.eqv
 exact abS ps qs
theorem Zk (ps:List (Int × Int)):okD (ju ps)=true:=by
 have h1:∀ ps:List (Int × Int),PyData.canLayAll0 (ps.map pr)=true:=fun ps=>by
  induction ps with
  | nil=>rfl
  | cons p ps ih=>simp [PyData.canLayAll0,PyData.canLay0,pr,ih]
 have h2:∀ ps:List (Int × Int),PyData.depthAll (ps.map pr)<=1:=fun ps=>by
  induction ps with
  | nil=>simp [PyData.depthAll]
  | cons p ps ih=>simp [PyData.depthAll,PyData.depth,pr] at ih ⊢; omega
 have:=h2 ps
 simp [okD,ju,PyData.canLay0,h1,PyData.depth]
 omega
theorem afd (ps qs:List (Int × Int)):dEq (ju ps) (ju qs)=some (.bool (decide (ps=qs))):=by
 show (if okD _=true/\okD _=true then some (PyData.bool _) else none)=_
 rw [if_pos ⟨Zk ps,Zk qs⟩,Zj]
theorem afe (ps qs:List (Int × Int)):dNe (ju ps) (ju qs)=some (.bool (!decide (ps=qs))):=by
 unfold dNe
 rw [if_pos ⟨Zk ps,Zk qs⟩,Zj]
end
theorem ZS:∀ (a b:List Int),PyData.eqvAll (a.map .int) (b.map .int)=decide (a=b)
 | [],[]=>by simp [PyData.eqvAll]
 | [],_::_=>by simp [PyData.eqvAll]
 | _::_,[]=>by simp [PyData.eqvAll]
 | x::a,y::b=>by
  rw [List.map_cons,List.map_cons,PyData.eqvAll,Jo,ZS a b]
  by_cases h:x=y <;> by_cases h2:a=b <;> simp [h,h2]
theorem aic (a b:List Int):dNe (.list (a.map .int)) (.list (b.map .int))=some (.bool (!decide (a=b))):=by
 have h:PyData.eqv (.list (a.map .int)) (.list (b.map .int))=decide (a=b):=by rw [PyData.eqv,ZS]
 unfold dNe
 simp only [adG,and_self,zzM,h]
noncomputable def bd (p:Int × Int):Int:=p.1+p.2
end Rods
namespace BX
open PySem PySem.Spec L2
open PyProof.Rows hiding St
theorem Zl {ga:PyData->Rho->Option Rho}{F:RO} (Iv:Nat->Rho->Prop):∀ (ds:LP) (i:Nat) (ρ:Rho),Iv i ρ->
  (∀ j d ρ,ds[j]?=some d->Iv (i+j) ρ->∃ ρ1 ρ2,ga d ρ=some ρ1/\F ρ1=some (.nx ρ2)/\Iv (i+j+1) ρ2)->∃ ρ',jR ga F ds ρ=some (.nx ρ')/\Iv (i+ds.length) ρ'
 | [],i,ρ,h,_=>⟨ρ,rfl,h⟩
 | d::ds,i,ρ,h,hs=>by
  obtain ⟨ρ1,ρ2,h1,h2,h3⟩:=hs 0 d ρ rfl h
  obtain ⟨ρ',h4,h5⟩:=Zl Iv ds (i+1) ρ2 h3 fun j d ρ hd hi=>by
   have:=hs (j+1) d ρ (by simpa using hd) (by rw [show i+(j+1)=i+1+j by omega]; exact hi)
   rw [show i+1+j+1=i+(j+1)+1 by omega]; exact this
  refine ⟨ρ',?_,by rw [List.length_cons,show i+(ds.length+1)=i+1+ds.length by omega]; exact h5⟩
  simp [jR,h1,h2,h4]
theorem JJ {n j:Nat}{d:PyData} (h:(qM 0 n)[j]?=some d):j<n/\d= .int j:=by
 simp only [qM,List.getElem?_map] at h
 cases hj:(List.range n)[j]? with
 | none=>rw [hj] at h; cases h
 | some k=>
  rw [hj] at h
  obtain ⟨h1,h2⟩:=List.getElem?_eq_some_iff.mp hj
  simp at h1 h2
  subst h2
  simp at h
  exact ⟨h1,h.symm⟩
theorem JK (n:Nat):(qM 0 n).length=n:=by simp [qM]
end BX
namespace Rods
open PySem L2 BX
open PyProof.Rows hiding St
section
variable {u e l b:Int}
theorem aid (p:Int × Int) (t:List (Int × Int)):bds (p::t)=bd p+bds t:=by simp [bds,bd]
theorem aez {n:Nat} (hn:n<=1000):zY [.int (n:Int)]=some (qM 0 n):=by
 have:=Zi (j:=(n:Int)) (by omega) (by omega)
 rw [show ((n:Int)).toNat=n by omega] at this
 exact this
end
section
variable {u e l b:Int}{ps qs:List (Int × Int)}
theorem acK {xs ys:LP} (hx:xs ≠ [] ∨ True) (hl:xs.length+ys.length<10000):JS (.tuple xs) (.tuple ys)=some (.tuple (xs++ys)):=by
 cases xs with
 | nil=>rfl
 | cons x xs=>
  have hf:few ((x::xs)++ys)=true:=qU (by rw [List.length_append]; exact hl)
  show (if few ((x::xs)++ys)=true then some (PyData.tuple ((x::xs)++ys)) else none)=_
  rw [if_pos hf]
theorem aie {ns:List Int} (hn:ns.length<1000000) (h:okN u e l b=true) {at_:Int} (ha:0<=at_) {j:Nat} (hj:j<4) {x3 x4 x7:OP} (hq:qs.length<=4):
  ∃ p,okP u l p=true/\aaN.1 [some (scr ns),some (.int at_),some (jr u e l b),x3,x4,some (ju qs),some (.int (j:Int)),x7]=some (.nx [some (scr ns),some (.int at_),some (jr u e l b),x3,x4,some (ju (qs++[p])),some (.int (j:Int)),some (pr p)]):=by
 obtain ⟨a1,a2,a3,a4,a5,a6,a7,a8,a9,a10⟩:=qo h
 obtain ⟨x,d1,x0,x1⟩:=qi ns hn (at_+1+2*(j:Int)) (u+1) (by omega) (by omega)
 obtain ⟨y,d2,y0,y1⟩:=qi ns hn (at_+2+2*(j:Int)) (l+1) (by omega) (by omega)
 have m1:QA (.int 2) (.int (j:Int))=some (.int (2*(j:Int))):=qJ ⟨by omega,by omega⟩
 have f2:few [PyData.int x,.int y]=true:=qU (by simp)
 have f1:few [PyData.tuple [.int x,.int y]]=true:=qU (by simp)
 have ad:JS (ju qs) (.tuple [.tuple [.int x,.int y]])=some (ju (qs++[(x,y)])):=by
  have:=acK (xs:=qs.map pr) (ys:=[pr (x,y)]) (.inr trivial) (by simp; omega)
  rw [show ju (qs++[(x,y)])= .tuple (qs.map pr++[pr (x,y)]) by simp [ju]]
  exact this
 generalize scr ns=S at*
 refine ⟨(x,y),?_,?_⟩
 ·simp only [okP,Bool.and_eq_true,decide_eq_true_eq]
  exact ⟨⟨⟨x0,by omega⟩,y0⟩,by omega⟩
 ·simp only [aaN]
  refine (jw (ρ1:=[some S,some (.int at_),some (jr u e l b),x3,x4,some (ju qs),some (.int (j:Int)),some (.tuple [.int x,.int y])]) ?_).trans ?_
  ·simp only [zl,JQ,jO,jj,jD,op2,lkp,cst,jP,zzA,zzB,zzC,zzD,zzE,ix0,ix2,m1,add_int,d1,d2,f2,zzM,zzF,zzG]
  simp only [j2,zl,JQ,jj,jD,op2,lkp,jP,zzA,zzB,zzC,zzD,zzE,f1,zzM,ad,zzF,zzG,qX]
  rfl
theorem aif {ns:List Int} (hn:ns.length<1000000) (h:okN u e l b=true) {at_:Int} (ha:0<=at_) {mo:Int} (hm1:1<=mo) (hm4:mo<=4):∃ ps,acB [scr ns,.int at_,jr u e l b,.int mo]=some (ju ps)/\okS u l ps=true/\(ps.length:Int)<=mo:=by
 obtain ⟨r,d0,r0,r1⟩:=qi ns hn at_ mo ha (by omega)
 have hr:zY [.int (1+r)]=some (qM 0 (1+r).toNat):=Zi (by omega) (by omega)
 obtain ⟨ρ',hl,hI⟩:=Zl (ga:=jP 6) (F:=aaN.1) (fun i ρ=>∃ qs x6 x7,ρ=[some (scr ns),some (.int at_),some (jr u e l b),some (.int mo),some (.int (1+r)),some (ju qs),x6,x7]/\qs.length=i/\qs.all (okP u l)=true) (qM 0 (1+r).toNat) 0
  [some (scr ns),some (.int at_),some (jr u e l b),some (.int mo),some (.int (1+r)),some (ju []),none,none] ⟨[],none,none,rfl,rfl,rfl⟩ (fun j d ρ hd hi=>by
   obtain ⟨hj,rfl⟩:=JJ hd
   obtain ⟨qs,x6,x7,rfl,hlen,hall⟩:=hi
   obtain ⟨p,hp,hb⟩:=aie hn h ha (j:=j) (by omega) (x3:=some (.int mo)) (x4:=some (.int (1+r))) (x7:=x7) (qs:=qs) (by omega)
   exact ⟨_,_,rfl,hb,qs++[p],_,_,rfl,by rw [List.length_append,hlen]; rfl,by rw [List.all_append,hall,List.all_cons,hp]; rfl⟩)
 obtain ⟨qs,x6,x7,rfl,hlen,hall⟩:=hI
 rw [JK,Nat.zero_add] at hlen
 refine ⟨qs,qd rfl ?_,acJ (by omega) (by omega) hall,by omega⟩
 generalize scr ns=S at*
 show aga.1 [some S,some (.int at_),some (jr u e l b),some (.int mo),none,none,none,none]=_
 simp only [aga]
 refine (jw (ρ1:=[some S,some (.int at_),some (jr u e l b),some (.int mo),some (.int (1+r)),none,none,none]) ?_).trans ?_
 ·simp only [zl,jO,jj,jD,op2,lkp,cst,jP,zzA,zzB,zzC,zzD,zzE,d0,add_int,zzF,zzG]
 refine (jw (ρ1:=[some S,some (.int at_),some (jr u e l b),some (.int mo),some (.int (1+r)),some (ju []),none,none]) rfl).trans ?_
 refine (jw (ρ1:=[some S,some (.int at_),some (jr u e l b),some (.int mo),some (.int (1+r)),some (ju qs),x6,x7]) ?_).trans ?_
 ·show (Option.bind (Option.bind _ zY) _)=_
  simp only [jj,jD,lkp,zzA,zzB,zzC,zzD,zzE,hr]
  exact hl
 rfl
theorem acL (i j:Int):dNe (.int i) (.int j)=some (.bool (!decide (i=j))):=by
 have:(i == j)=decide (i=j):=rfl
 simp only [dNe,Jn,Jo,and_self,zzM,this]
end
structure XCheck (P:Program) (w:World) (K:Fg) (mg:SV) (base:Heap):Prop where
 c_isManner:jq P w K mg base "is_manner" ["thing"] 3 1 qt
 e_NoManner:ale K mg "NoManner"
noncomputable def aeA:{ F:Rho->Option Str // ah0 XCheck "check_manner" aaK ["thing"] 3 F }:=
 ⟨_,fun P w K mg base f Kc A Ko s H E C hr=>
  (Jz (ahB (j7 (j0 (jk C.c_isManner hr (by decide) (ja (jb 0) je) (jd js)))) (Jz (abG rfl C.e_NoManner rfl)) aaC))⟩
noncomputable def aig:LP->Option Str:=adn ["thing"] 1 aeA.1
structure XIsSet (P:Program) (w:World) (K:Fg) (mg:SV) (base:Heap):Prop where
 x_check:alg P w K mg base "check_manner" ["thing"] 4 1 aig
noncomputable def aeB:{ F:Rho->Option Str // ah0 XIsSet "is_setting" zn ["manner","thing"] 4 F }:=
 ⟨_,fun P w K mg base f Kc A Ko s H E C hr=>
  (Jz (ahC (adm rfl C.x_check hr (by decide) (ja (jb 0) je) (jd js))))⟩
noncomputable def aih:LP->Option Str:=adn ["manner","thing"] 2 aeB.1
structure XChkSet (P:Program) (w:World) (K:Fg) (mg:SV) (base:Heap):Prop where
 c_isSet:jq P w K mg base "is_setting" ["manner","thing"] 5 2 aaL
 x_isSet:alg P w K mg base "is_setting" ["manner","thing"] 5 2 aih
 e_NoSetting:ale K mg "NoSetting"
noncomputable def acM:{ F:Rho->Option Str // ah0 XChkSet "check_setting" qS ["manner","thing"] 5 F }:=
 ⟨_,fun P w K mg base f Kc A Ko s H E C hr=>
  (Jz (alk (ajs (ajr (ajq (adm rfl C.x_isSet hr (by decide) (ja (jb 0) (ja (jb 1) je)) (jd (jd js)))))) (ahB (j7 (j0 (jk C.c_isSet hr (by decide) (ja (jb 0) (ja (jb 1) je)) (jd (jd js))))) (Jz (abG rfl C.e_NoSetting rfl)) aaC)))⟩
noncomputable def aff:LP->Option Str:=adn ["manner","thing"] 2 acM.1
section
variable {u e l b:Int}{ps qs:List (Int × Int)}
theorem aaV {N:List Str}{n:Nat}{F:Rho->Option Str}{ds:LP} (hl:ds.length=n):adn N n F ds=F (jU N ds):=by
 unfold adn
 rw [if_pos hl]
end
theorem amJ (ds:LP) (k:Nat):QJ ds none (some (k:Int))=ds.take k:=by
 unfold QJ
 rw [HT.sIx_none,HT.sIx_nat,List.drop_zero,Nat.sub_zero]
 by_cases h:k<=ds.length
 ·rw [Nat.min_eq_left h]
 ·rw [Nat.min_eq_right (by omega),List.take_of_length_le (by omega),List.take_of_length_le (by omega)]
theorem ajR (ds:LP) (k:Nat):QJ ds (some (k:Int)) none=ds.drop k:=by
 unfold QJ
 rw [HT.sIx_none,HT.sIx_nat]
 by_cases h:k<=ds.length
 ·rw [Nat.min_eq_left h,List.take_of_length_le (by rw [List.length_drop]; omega)]
 ·rw [Nat.min_eq_right (by omega),List.drop_of_length_le (by omega),List.drop_of_length_le (by omega),List.take_nil]
section
variable {u e l b:Int}{ps qs:List (Int × Int)}
theorem ajS {ns:List Int} (hn:ns.length<1000000) (h:okN u e l b=true) {at_:Int} (ha:0<=at_):∃ ps,acB [scr ns,.int at_,jr u e l b,.int 4]=some (ju ps)/\okS u l ps=true:=by
 obtain ⟨r,d0,r0,r1⟩:=qi ns hn at_ 4 ha (by omega)
 have hr:zY [.int (1+r)]=some (qM 0 (1+r).toNat):=Zi (by omega) (by omega)
 obtain ⟨ρ',hl,hI⟩:=Zl (ga:=jP 6) (F:=aaN.1) (fun i ρ=>∃ qs x6 x7,ρ=[some (scr ns),some (.int at_),some (jr u e l b),some (.int 4),some (.int (1+r)),some (ju qs),x6,x7]/\qs.length=i/\qs.all (okP u l)=true) (qM 0 (1+r).toNat) 0
  [some (scr ns),some (.int at_),some (jr u e l b),some (.int 4),some (.int (1+r)),some (ju []),none,none] ⟨[],none,none,rfl,rfl,rfl⟩ (fun j d ρ hd hi=>by
   obtain ⟨hj,rfl⟩:=JJ hd
   obtain ⟨qs,x6,x7,rfl,hlen,hall⟩:=hi
   obtain ⟨p,hp,hb⟩:=aie hn h ha (j:=j) (by omega) (x3:=some (.int 4)) (x4:=some (.int (1+r))) (x7:=x7) (qs:=qs) (by omega)
   exact ⟨_,_,rfl,hb,qs++[p],_,_,rfl,by rw [List.length_append,hlen]; rfl,by rw [List.all_append,hall,List.all_cons,hp]; rfl⟩)
 obtain ⟨qs,x6,x7,rfl,hlen,hall⟩:=hI
 rw [JK,Nat.zero_add] at hlen
 refine ⟨qs,qd rfl ?_,acJ (by omega) (by omega) hall⟩
 generalize scr ns=S at*
 show aga.1 [some S,some (.int at_),some (jr u e l b),some (.int 4),none,none,none,none]=_
 simp only [aga]
 refine (jw (ρ1:=[some S,some (.int at_),some (jr u e l b),some (.int 4),some (.int (1+r)),none,none,none]) ?_).trans ?_
 ·simp only [zl,jO,jj,jD,op2,lkp,cst,jP,zzA,zzB,zzC,zzD,zzE,d0,add_int,zzF,zzG]
 refine (jw (ρ1:=[some S,some (.int at_),some (jr u e l b),some (.int 4),some (.int (1+r)),some (ju []),none,none]) rfl).trans ?_
 refine (jw (ρ1:=[some S,some (.int at_),some (jr u e l b),some (.int 4),some (.int (1+r)),some (ju qs),x6,x7]) ?_).trans ?_
 ·show (Option.bind (Option.bind _ zY) _)=_
  simp only [jj,jD,lkp,zzA,zzB,zzC,zzD,zzE,hr]
  exact hl
 rfl
end
noncomputable def whB (a b:Int):PyData->Bool
 | .int i=>decide (a<=i) && decide (i<=b)
 | _=>false
theorem ZT (d:PyData) (hd:noD d=true) (a b:Int):jV [d,.int a,.int b]=some (.bool (whB a b d)):=by
 cases d with
 | int i=>exact j9 i a b
 | dict k=>simp [noD] at hd
 | _=>simp [jV,jJ,Zb,jU,j2,ifS,orB,tst,lkp,zP,tyn,asB,zz,chn,J5,qP,qX,whB,cst]
noncomputable def abf (u l:Int):PyData->Bool
 | .tuple [x,y]=>whB 0 u x && whB 0 l y
 | _=>false
theorem aii {ds:LP} (h:noDs ds=true):∀ d ∈ ds,noD d=true:=by
 induction ds with
 | nil=>intro d hd; cases hd
 | cons x xs ih=>
  have h':noD x=true/\noDs xs=true:=by simpa [noDs] using h
  intro d hd
  rcases List.mem_cons.mp hd with rfl | q
  ·exact h'.1
  ·exact ih h'.2 d q
section
variable {u e l b:Int}
theorem agj (d:PyData) (hd:noD d=true) (h:∀ x y,d ≠ .tuple [x,y]):Js [jr u e l b,d]=some (.bool false):=by
 cases d with
 | dict k=>simp [noD] at hd
 | tuple ds=>
  have hl:¬ (ds.length:Int)=2:=fun z=>by
   have z':ds.length=2:=by omega
   match ds,z' with
   | [x,y],_=>exact h x y rfl
  simp [Js,jJ,Zz,jU,j2,ifS,orB,zz,tst,zP,tyn,asB,lkp,op2,jO,jj,jD,qN,cst,dNe,Jn,Jo,qX,qP,hl]
 | _=>simp [Js,jJ,Zz,jU,j2,ifS,orB,zz,tst,zP,tyn,asB,lkp,op2,jO,jj,jD,qN,cst,dNe,Jn,Jo,qX,qP]
theorem abT (d:PyData) (hd:noD d=true):Js [jr u e l b,d]=some (.bool (abf u l d)):=by
 by_cases h:∃ x y,d= .tuple [x,y]
 ·obtain ⟨x,y,rfl⟩:=h
  have hx:noD x=true/\noD y=true:=by simpa [noD,noDs] using hd
  have w1:=ZT x hx.1 0 u
  have w2:=ZT y hx.2 0 l
  cases c1:whB 0 u x <;> rw [c1] at w1 <;> simp [Js,jJ,Zz,jU,j2,ifS,orB,zz,tst,zP,tyn,asB,lkp,op2,jO,jj,jD,qN,cst,dNe,Jn,Jo,qX,qP,acq,jr,dIx,atI,ixN,w1,w2,abf,c1]
 ·rw [agj d hd fun x y z=>h ⟨x,y,z⟩]
  congr 2
  unfold abf
  split
  ·exact absurd ⟨_,_,rfl⟩ h
  ·rfl
noncomputable def abg (u l:Int):PyData->Bool
 | .tuple ds=>decide (1<=ds.length) && decide (ds.length<=4) && ds.all (abf u l)
 | _=>false
theorem abU (hm:Qj [jr u e l b]=some .none) (d:PyData) (hd:noD d=true):aaL [jr u e l b,d]=some (.bool (abg u l d)):=by
 refine qd rfl ?_
 show ZA.1 [some (jr u e l b),some d]=_
 simp only [ZA]
 refine (jw (ρ1:=[some (jr u e l b),some d]) ?_).trans ?_
 ·simp only [Z0,jO,jj,jD,lkp,zzA,zzB,zzC,zzD,zzE,hm]
 cases d with
 | dict k=>simp [noD] at hd
 | tuple ds=>
  by_cases h1:1<=ds.length
  ·by_cases h4:ds.length<=4
   ·have hf:few ds=true:=qU (by omega)
    have c1:J5 (fun i j=>decide (i<=j)) (.int 1) (.int (ds.length:Int))=some (.bool true):=by
     show some (PyData.bool (decide ((1:Int)<=(ds.length:Int))))=_
     rw [decide_eq_true (by omega)]
    have c2:J5 (fun i j=>decide (i<=j)) (.int (ds.length:Int)) (.int 4)=some (.bool true):=by
     show some (PyData.bool (decide ((ds.length:Int)<=4)))=_
     rw [decide_eq_true (by omega)]
    refine (jw (ρ1:=[some (jr u e l b),some (.tuple ds)]) ?_).trans ?_
    ·simp [ifS,orB,zz,tst,zP,tyn,asB,lkp,chn,jO,jj,jD,qN,cst,qX,c1,c2]
    simp only [j2,qP,jO,jj,jD,qQ,itT,lkp,QG,zzA,zzB,zzC,zzD,zzE,hf,zzM,QH,List.map_cons,List.map_nil,zzH]
    rw [Jx (fun d=> .bool (abf u l d))]
    ·have:bls (ds.map fun d=>PyData.bool (abf u l d))=some (ds.map (abf u l)):=aaf (abf u l) _
     simp only [zzE,zzD,ac8,this,abg,decide_eq_true h1,decide_eq_true h4,Bool.true_and,List.all_map,Function.comp_def,id]
    ·intro d hd'
     simp [jO,jj,jD,lkp,abT (e:=e) (b:=b) d (aii (by simpa [noD] using hd) d hd')]
   ·have c1:J5 (fun i j=>decide (i<=j)) (.int 1) (.int (ds.length:Int))=some (.bool true):=by
     show some (PyData.bool (decide ((1:Int)<=(ds.length:Int))))=_
     rw [decide_eq_true (by omega)]
    have c2:J5 (fun i j=>decide (i<=j)) (.int (ds.length:Int)) (.int 4)=some (.bool false):=by
     show some (PyData.bool (decide ((ds.length:Int)<=4)))=_
     rw [decide_eq_false (by omega)]
    simp [j2,ifS,orB,zz,tst,zP,tyn,asB,lkp,chn,jO,jj,jD,qN,cst,qX,c1,c2,qP,abg,h4]
  ·have c1:J5 (fun i j=>decide (i<=j)) (.int 1) (.int (ds.length:Int))=some (.bool false):=by
    show some (PyData.bool (decide ((1:Int)<=(ds.length:Int))))=_
    rw [decide_eq_false (by omega)]
   simp [j2,ifS,orB,zz,tst,zP,tyn,asB,lkp,chn,jO,jj,jD,qN,cst,qX,c1,qP,abg,h1]
 | _=>simp [j2,ifS,orB,zz,tst,zP,tyn,asB,lkp,chn,jO,jj,jD,cst,qX,qP,abg]
theorem aeC (hm:Qj [jr u e l b]=some .none) (d:PyData) (hd:noD d=true) (hs:abg u l d=true):qG [jr u e l b,d]=some .none:=by
 have g:=abU (e:=e) hm d hd
 rw [hs] at g
 simp [qG,jJ,aaa,jU,j2,ifS,zz,tst,asB,jO,jj,jD,lkp,g,qX]
end
theorem agk {d:PyData} (h:qt [d]=some (.bool true)):aig [d]=none:=by
 refine (aaV rfl).trans ?_
 show aeA.1 [some d]=_
 simp [aeA,ifX,zz,tst,asB,jO,jj,jD,lkp,h,af2]
theorem agl {m d:PyData} (h:qt [m]=some (.bool true)):aih [m,d]=none:=by
 have g:=agk h
 refine (aaV rfl).trans ?_
 show aeB.1 [some m,some d]=_
 simp [aeB,jO,jj,jD,lkp,g]
theorem aeD {u e l b:Int} (hM:qt [jr u e l b]=some (.bool true)) {d:PyData} (hd:noD d=true) (hs:abg u l d=true):aff [jr u e l b,d]=none:=by
 have g:=abU (e:=e) (Qz hM) d hd
 rw [hs] at g
 have g2:=agl (d:=d) hM
 refine (aaV rfl).trans ?_
 show acM.1 [some (jr u e l b),some d]=_
 simp [acM,orX,ifX,zz,tst,asB,jO,jj,jD,lkp,g,g2,af2]
theorem afg {u l:Int} (p:Int × Int):abf u l (pr p)=okP u l p:=by
 simp [abf,pr,whB,okP,Bool.and_assoc]
theorem abV {u l:Int} (ps:List (Int × Int)):abg u l (ju ps)=okS u l ps:=by
 simp only [abg,ju,okS,List.length_map,List.all_map]
 congr 2
 funext p
 exact afg p
theorem afh:∀ ps:List (Int × Int),noDs (ps.map pr)=true
 | []=>rfl
 | p::ps=>by simp [noDs,noD,pr,afh ps]
theorem adJ (ps:List (Int × Int)):noD (ju ps)=true:=by
 simp [noD,ju,afh]
theorem alE {ds:LP} (h:ds.length<50):few ds=true:=qU (by omega)
theorem fw1 {a:PyData}:few [a]=true:=alE (by simp)
theorem fw2 {a b:PyData}:few [a,b]=true:=alE (by simp)
theorem fw3 {a b c:PyData}:few [a,b,c]=true:=alE (by simp)
theorem ng1:afY (.int 1)=some (.int (-1)):=rfl
noncomputable def shl (n:Nat) (d:PyData):Prop:=d.canLay0=true/\d.depth<=n
theorem acN {n:Nat}{d:PyData} (h:shl n d) (hn:n<30):okD d=true:=by
 unfold okD
 rw [h.1,decide_eq_true (show d.depth<30 by have:=h.2; omega)]; rfl
theorem alF {ds:LP}{k:Int} (h0:0<=k) (hk:k<ds.length) (hl:ds.length<9999):∃ v,dIx (.list ds) (.int k)=some v/\v ∈ ds:=by
 have hlt:k.toNat<ds.length:=by omega
 refine ⟨ds[k.toNat],?_,List.getElem_mem _⟩
 have e1:ixN ds.length k=some k.toNat:=acH h0 hlt
 show (if ds.length<1000000 then atI ds k else none)=_
 rw [if_pos (by omega)]
 unfold atI
 rw [e1]
 show ds[k.toNat]?=_
 rw [List.getElem?_eq_getElem hlt]
theorem ajT {ps:List (Int × Int)}{i:Nat}{p:Int × Int} (h4:ps.length<=4) (hd:ps[i]?=some p):dIx (ju ps) (.int (i:Int))=some (pr p):=by
 have hi:i<ps.length:=(List.getElem?_eq_some_iff.mp hd).1
 show (if (ps.map pr).length<1000000 then atI (ps.map pr) (i:Int) else none)=_
 rw [if_pos (by rw [List.length_map]; omega)]
 unfold atI
 rw [acH (by omega) (by rw [List.length_map]; simpa using hi),zzD,List.getElem?_map]
 rw [show ((i:Int)).toNat=i by simp,hd]; rfl
section
variable {m s t:PyData}{c:Str}
theorem aij {d:PyData} (g:qG [m,s]=some .none) (k:zW [m,s,t]=some (.bool true)) (bm:Jm [s,t]=some d):aaR [m,s,t]=some d:=by
 refine qd rfl ?_
 show acE.1 [some m,some s,some t]=_
 dsimp? [acE,g,k,bm]
end
noncomputable def shP (p:Int × Int) (k:Bool) (c:Int):Int × Int:=if k=true then (p.1,p.2+c) else (p.1+c,p.2)
theorem ant {x y z:PyData}:dIx (.tuple [x,y,z]) (.int 0)=some x:=rfl
theorem anu {x y z:PyData}:dIx (.tuple [x,y,z]) (.int 1)=some y:=rfl
theorem anv {x y z:PyData}:dIx (.tuple [x,y,z]) (.int 2)=some z:=rfl
theorem lnt {x y z:PyData}:qN [.tuple [x,y,z]]=some (.int 3):=rfl
theorem itt {xs:LP}:QI "tuple" (.tuple xs)=some (.bool true):=rfl
theorem ajU:dNe (.int 3) (.int 3)=some (.bool false):=by kernel_rfl
theorem amK (k:Bool):dIn true (Qk k) (.tuple [.str "upper",.str "lower"])=some (.bool false):=by cases k <;> kernel_rfl
theorem ajV {c:Int} (hc:c=1 ∨ c=-1):jV [.int c,.int (-1),.int 1]=some (.bool true)/\dNe (.int c) (.int 0)=some (.bool true)/\dIn true (.int c) (.tuple [.int 1,.int (-1)])=some (.bool false)/\QI "bool" (.int c)=some (.bool false):=by
 rcases hc with rfl | rfl <;> exact ⟨by kernel_rfl,by kernel_rfl,by kernel_rfl,rfl⟩
section
variable {u e l b:Int}{ps:List (Int × Int)}
theorem aik (x y z:PyData) {X Y Z N:Bool} (ln:qN [ju ps]=some (.int (ps.length:Int))) (wx:jV [x,.int 0,.int ((ps.length:Int) - 1)]=some (.bool X)) (iy:X=true->dIn true y (.tuple [.str "upper",.str "lower"])=some (.bool !Y)) (wz:X=true->Y=true->jV [z,.int (-1),.int 1]=some (.bool Z)) (nz:X=true->Y=true->Z=true->dNe z (.int 0)=some (.bool N)):Jj [ju ps,.tuple [x,y,z]]=some (.bool (X && Y && Z && N)):=by
 have sb:ai9 (.int (ps.length:Int)) (.int 1)=some (.int ((ps.length:Int) - 1)):=rfl
 have e0:=ant (x:=x) (y:=y) (z:=z)
 have e1:=anu (x:=x) (y:=y) (z:=z)
 have e2:=anv (x:=x) (y:=y) (z:=z)
 have e3:=lnt (x:=x) (y:=y) (z:=z)
 have e4:=itt (xs:=[x,y,z])
 generalize PyData.tuple [x,y,z]=D at*
 generalize (ps.length:Int)=n at*
 refine qd rfl ?_
 show qD.1 [some (ju ps),some D]=_
 cases X with
 | false=>dsimp? [qD,e0,e3,e4,ajU,ln,sb,wx,Bool.false_and]
 | true=>
  have iy:=iy rfl
  cases Y with
  | false=>dsimp? [qD,e0,e1,e3,e4,ajU,ln,sb,wx,iy,Bool.false_and,Bool.true_and]
  | true=>
   have wz:=wz rfl rfl
   cases Z with
   | false=>dsimp? [qD,acq,e0,e1,e2,e3,e4,ajU,ln,sb,wx,iy,wz,ng1,Bool.false_and,Bool.true_and]
   | true=>
    have nz:=nz rfl rfl rfl
    dsimp? [qD,acq,e0,e1,e2,e3,e4,ajU,ln,sb,wx,iy,wz,nz,ng1,Bool.false_and,Bool.true_and]
theorem anw {r:Nat} (hr:r<ps.length):jV [.int (r:Int),.int 0,.int ((ps.length:Int) - 1)]=some (.bool true):=by
 rw [j9,decide_eq_true (by omega),decide_eq_true (by omega)]; rfl
end
theorem abW (p:Int × Int) (k:Bool) (c:Int):aae [pr p,Qk k,.int c]=some (pr (shP p k c)):=by
 have i0:dIx (pr p) (.int 0)=some (.int p.1):=rfl
 have i1:dIx (pr p) (.int 1)=some (.int p.2):=rfl
 have a1:JS (.int p.1) (.int c)=some (.int (p.1+c)):=rfl
 have a2:JS (.int p.2) (.int c)=some (.int (p.2+c)):=rfl
 refine qd rfl ?_
 show Zf.1 [some (pr p),some (Qk k),some (.int c)]=_
 cases k with
 | false=>
  have q:dEq (Qk false) (.str "upper")=some (.bool true):=by kernel_rfl
  dsimp? [Zf,q,i0,i1,a1,fw2]
  rfl
 | true=>
  have q:dEq (Qk true) (.str "upper")=some (.bool false):=by kernel_rfl
  dsimp? [Zf,q,i0,i1,a2,fw2]
  rfl
theorem abX {α:Type}:∀ (ps:List α) (r:Nat) (q:α),r<ps.length->ps.set r q=ps.take r++[q]++ps.drop (r+1)
 | [],r,q,h=>by simp at h
 | p::ps,0,q,h=>rfl
 | p::ps,r+1,q,h=>by
  simp only [zzF,List.take_succ_cons,List.drop_succ_cons,List.cons_append]
  rw [abX ps r q (by simpa using h)]
section
variable {u e l b:Int}{ps:List (Int × Int)}
theorem anx {r:Nat} (hr:r<ps.length) (h4:ps.length<=4) (q:Int × Int):∃ A1 A2 A3,adp (ju ps) none (some (r:Int))=some A1/\JS A1 (.tuple [pr q])=some A2/\adp (ju ps) (some ((r:Int)+1)) none=some A3/\JS A2 A3=some (ju (ps.set r q)):=by
 refine ⟨.tuple ((ps.map pr).take r),.tuple ((ps.map pr).take r++[pr q]),.tuple ((ps.map pr).drop (r+1)),?_,?_,?_,?_⟩
 ·show some (PyData.tuple (QJ _ none (some (r:Int))))=_
  rw [amJ]
 ·exact acK (.inr trivial) (by rw [List.length_take,List.length_map]; simp; omega)
 ·show some (PyData.tuple (QJ _ (some ((r:Int)+1)) none))=_
  rw [show (r:Int)+1=((r+1:Nat):Int) by omega,ajR]
 ·rw [acK (.inr trivial) (by rw [List.length_append,List.length_take,List.length_drop,List.length_map]; simp only [List.length_cons,List.length_nil]; omega),abX ps r q hr]
  show some (PyData.tuple _)=some (PyData.tuple (List.map pr _))
  rw [List.map_append,List.map_append,List.map_take,List.map_drop]; rfl
theorem ajW (hs:okS u l ps=true) (r:Nat) {q:Int × Int} (hq:okP u l q=true):okS u l (ps.set r q)=true:=by
 obtain ⟨h1,h4,hp⟩:=zq hs
 refine acJ (by rw [List.length_set]; exact h1) (by rw [List.length_set]; exact h4) (List.all_eq_true.mpr fun x hx=>?_)
 rcases List.mem_or_eq_of_mem_set hx with z | rfl
 ·exact List.all_eq_true.mp hp x z
 ·exact hq
end
structure Th (u e l b:Int) (ps:List (Int × Int)) (d:PyData) (o:Option (List (Int × Int))):Prop where
 cm:zW [jr u e l b,ju ps,d]=some (.bool o.isSome)
 bm:∀ qs,o=some qs->Jm [ju ps,d]=some (ju qs)/\okS u l qs=true
section
variable {u e l b:Int}{ps:List (Int × Int)}
theorem ZU (hs:okS u l ps=true) {r:Nat}{p:Int × Int} (hp:ps[r]?=some p) (k:Bool) {c:Int} (hc:c=1 ∨ c=-1):Th u e l b ps (mv (r:Int) k c) (if okP u l (shP p k c)=true then some (ps.set r (shP p k c)) else none):=by
 obtain ⟨h1,h4,hall⟩:=zq hs
 obtain ⟨hr,hpe⟩:=List.getElem?_eq_some_iff.mp hp
 have hpo:okP u l p=true:=List.all_eq_true.mp hall p (by rw [←hpe]; exact List.getElem_mem _)
 have hpo':0<=p.1/\p.1<=u/\0<=p.2/\p.2<=l:=by simp only [okP,Bool.and_eq_true,decide_eq_true_eq] at hpo; omega
 obtain ⟨f1,f2,f3,f4⟩:=ajV hc
 have ixT:=ajT h4 hp
 have k1:=aik (X:=true) (Y:=true) (Z:=true) (N:=true) (.int (r:Int)) (Qk k) (.int c) (Qo ps) (anw hr) (fun _=>amK k) (fun _ _=>f1) (fun _ _ _=>f2)
 obtain ⟨A1,A2,A3,s1,s2,s3,s4⟩:=anx hr h4 (shP p k c)
 have gr:=abT (u:=u) (e:=e) (l:=l) (b:=b) (pr (shP p k c)) rfl
 rw [afg] at gr
 refine ⟨?_,fun qs z=>?_⟩
 ·have e0:dIx (mv (r:Int) k c) (.int 0)=some (.int (r:Int)):=rfl
  have e1:dIx (mv (r:Int) k c) (.int 1)=some (Qk k):=rfl
  have e2:dIx (mv (r:Int) k c) (.int 2)=some (.int c):=rfl
  have pu:=abW p k c
  have k1':Jj [ju ps,mv (r:Int) k c]=some (.bool true):=k1
  have io:(if okP u l (shP p k c)=true then some (ps.set r (shP p k c)) else none).isSome=okP u l (shP p k c):=by split <;> simp_all
  rw [io]
  generalize mv (r:Int) k c=D at*
  generalize okP u l (shP p k c)=OK at*
  generalize pr (shP p k c)=Q at*
  refine qd rfl ?_
  show Zh.1 [some (jr u e l b),some (ju ps),some D]=_
  dsimp? [Zh,k1',e0,e1,e2,ixT,pu,gr]
 ·by_cases ho:okP u l (shP p k c)=true
  ·rw [if_pos ho] at z
   cases z
   refine ⟨?_,ajW hs r ho⟩
   have e0:dIx (mv (r:Int) k c) (.int 0)=some (.int (r:Int)):=rfl
   have e1:dIx (mv (r:Int) k c) (.int 1)=some (Qk k):=rfl
   have e2:dIx (mv (r:Int) k c) (.int 2)=some (.int c):=rfl
   have a1:JS (.int (r:Int)) (.int 1)=some (.int ((r:Int)+1)):=rfl
   have pu:=abW p k c
   generalize mv (r:Int) k c=D at*
   generalize pr (shP p k c)=Q at*
   generalize ju (ps.set r (shP p k c))=R at*
   refine qd rfl ?_
   show Jl.1 [some (ju ps),some D,none]=_
   dsimp? [Jl,abH,Qs,inI,e0,e1,e2,a1,ixT,pu,s1,fw1,s2,s3,s4]
  ·rw [if_neg ho] at z; cases z
theorem akl (H:zZ=true) (h:okN u e l b=true) (hs:okS u l ps=true):qG [jr u e l b,ju ps]=some .none/\True:=by
 have hM:=ajO H h
 have hb:abg u l (ju ps)=true:=by rw [abV]; exact hs
 exact ⟨aeC (Qz hM) _ (adJ ps) hb,trivial⟩
theorem ail (H:zZ=true) (h:okN u e l b=true) {ps qs:List (Int × Int)}{d:PyData} (hs:okS u l ps=true) (t:Th u e l b ps d (some qs)):aaR [jr u e l b,ju ps,d]=some (ju qs):=
 aij (akl H h hs).1 t.cm (t.bm _ rfl).1
end
noncomputable def tM (M T d:PyData):Bool:=match zW [M,T,d] with
 | some (.bool x)=>x
 | _=>false
noncomputable def c4 (r:Nat):LP:=[mv (r:Int) false 1,mv (r:Int) false (-1),mv (r:Int) true 1,mv (r:Int) true (-1)]
noncomputable def agm (M T:PyData) (r:Nat):LP:=(c4 r).filter (tM M T)
noncomputable def Zm (M T:PyData) (n:Nat):LP:=(List.range n).flatMap (agm M T)
theorem abY (M T:PyData) (k:Nat):Zm M T (k+1)=Zm M T k++agm M T k:=by
 unfold Zm
 rw [List.range_succ,List.flatMap_append]
 simp
theorem aim (M T:PyData) (r:Nat):(agm M T r).length<=4:=List.length_filter_le _ _
theorem aaW (M T:PyData):∀ n:Nat,(Zm M T n).length<=4*n
 | 0=>by simp [Zm]
 | n+1=>by
  rw [abY,List.length_append]
  have:=aim M T n
  have:=aaW M T n
  omega
theorem afi {u e l b:Int}{ps:List (Int × Int)}{d:PyData}{o:Option (List (Int × Int))} (t:Th u e l b ps d o):tM (jr u e l b) (ju ps) d=o.isSome:=by
 unfold tM
 rw [t.cm]
section
variable {u e l b:Int}{ps:List (Int × Int)}
theorem amL (hs:okS u l ps=true) {r:Nat} (hr:r<ps.length):∀ d ∈ c4 r,∃ o,Th u e l b ps d o:=fun d hd=>by
 have hp:ps[r]?=some ps[r]:=List.getElem?_eq_getElem hr
 simp only [c4,List.mem_cons,List.not_mem_nil,or_false] at hd
 rcases hd with rfl | rfl | rfl | rfl
 ·exact ⟨_,ZU hs hp false (.inl rfl)⟩
 ·exact ⟨_,ZU hs hp false (.inr rfl)⟩
 ·exact ⟨_,ZU hs hp true (.inl rfl)⟩
 ·exact ⟨_,ZU hs hp true (.inr rfl)⟩
theorem ajX (h:okN u e l b=true) (hs:okS u l ps=true):1<=(Zm (jr u e l b) (ju ps) ps.length).length:=by
 obtain ⟨a1,a2,a3,a4,a5,a6,a7,a8,a9,a10⟩:=qo h
 obtain ⟨h1,h4,hall⟩:=zq hs
 have hr:0<ps.length:=by omega
 have hp:ps[0]?=some ps[0]:=List.getElem?_eq_getElem hr
 have hpo:okP u l ps[0]=true:=List.all_eq_true.mp hall _ (List.getElem_mem _)
 generalize ps[0]=p at*
 have hpo':0<=p.1/\p.1<=u/\0<=p.2/\p.2<=l:=by simp only [okP,Bool.and_eq_true,decide_eq_true_eq] at hpo; omega
 have key:∃ c:Int,(c=1 ∨ c=-1)/\okP u l (shP p true c)=true:=by
  by_cases q:p.2<l
  ·exact ⟨1,.inl rfl,by simp [okP,shP]; omega⟩
  ·exact ⟨-1,.inr rfl,by simp [okP,shP]; omega⟩
 obtain ⟨c,hc,ho⟩:=key
 have t:=ZU (e:=e) (b:=b) hs hp true hc
 rw [if_pos ho] at t
 have hm:mv ((0:Nat):Int) true c ∈ agm (jr u e l b) (ju ps) 0:=by
  refine List.mem_filter.mpr ⟨?_,by rw [afi t]; rfl⟩
  rcases hc with rfl | rfl
  ·simp [c4]
  ·simp [c4]
 have hx:mv ((0:Nat):Int) true c ∈ Zm (jr u e l b) (ju ps) ps.length:=List.mem_flatMap.mpr ⟨0,List.mem_range.mpr hr,hm⟩
 exact List.length_pos_of_mem hx
theorem afj (hs:okS u l ps=true) {r:Nat} (hr:r<ps.length) {F:LP} (hF:F.length<1000) (k:Bool) {x:OP}:∃ y,QN.1 [some (jr u e l b),some (ju ps),some (.list F),some (.int (r:Int)),some (Qk k),x]=some (.nx [some (jr u e l b),some (ju ps),some (.list (F++[mv (r:Int) k 1,mv (r:Int) k (-1)].filter (tM (jr u e l b) (ju ps)))),some (.int (r:Int)),some (Qk k),y]):=by
 refine ⟨some (.list [mv (r:Int) k 1,mv (r:Int) k (-1)]),?_⟩
 have hin:∀ d ∈ [mv (r:Int) k 1,mv (r:Int) k (-1)],d ∈ c4 r:=fun d hd=>by
  simp only [List.mem_cons,List.not_mem_nil,or_false] at hd
  cases k <;> rcases hd with rfl | rfl <;> simp [c4]
 have cp:=QX (ft:=tst (jO zW (jj (lkp 1) (jj (lkp 2) (jj (lkp 0) jD))))) (fe:=lkp 0) (i:=0) (tM (jr u e l b) (ju ps)) id [mv (r:Int) k 1,mv (r:Int) k (-1)] [none,some (jr u e l b),some (ju ps)] (fun d hd=>by
   obtain ⟨o,t⟩:=amL (e:=e) (b:=b) hs hr d (hin d hd)
   have cm:=t.cm
   rw [afi t]
   dsimp? [cm]) (fun d hd _=>by dsimp? [id])
 rw [List.map_id] at cp
 have w1:jF (jP 0) Jw (JQ (jj (lkp 1) (jj (lkp 2) (jj (lkp 0) jD)))) [.int 1,.int (-1)] [none,some (.int (r:Int)),some (Qk k)]=some [mv (r:Int) k 1,mv (r:Int) k (-1)]:=by
  dsimp? [jF,Jw,fw3]
  rfl
 have el:ajk (some (.list F)) (some (.list ([mv (r:Int) k 1,mv (r:Int) k (-1)].filter (tM (jr u e l b) (ju ps)))))=some (.list (F++[mv (r:Int) k 1,mv (r:Int) k (-1)].filter (tM (jr u e l b) (ju ps)))):=by
  have hl:([mv (r:Int) k 1,mv (r:Int) k (-1)].filter (tM (jr u e l b) (ju ps))).length<=2:=List.length_filter_le _ _
  have hn:noLs ([mv (r:Int) k 1,mv (r:Int) k (-1)].filter (tM (jr u e l b) (ju ps)))=true:=QW fun d hd=>by
   have:=(List.mem_filter.mp hd).1
   simp only [List.mem_cons,List.not_mem_nil,or_false] at this
   rcases this with rfl | rfl <;> rfl
  show (if _/\_ then _ else _)=_
  rw [if_pos ⟨hn,by omega⟩]
 have iw:items (.tuple [.int 1,.int (-1)])=some [.int 1,.int (-1)]:=rfl
 simp only [QN]
 refine (jw (ρ1:=[some (jr u e l b),some (ju ps),some (.list F),some (.int (r:Int)),some (Qk k),some (.list [mv (r:Int) k 1,mv (r:Int) k (-1)])]) ?_).trans ?_
 ·dsimp? [brw,hid,okB,aef,aht,aji,qQ,itS,iw,QH,List.map_cons,List.map_nil,fw2]
  try simp only [j2,ifS,ifD,ifX,akZ,orB,zz,tst,op2,chn,jO,JQ,J4,jj,jD,lkp,cst,qP,Z0,zl,jP,qX,nxX,orX,af2,ag4,asB,zzA,zzB,zzC,zzD,zzH,zzE,zzI,zzF,zzG,zzJ,zzK,zzL,zzM,zzN] at w1
  dsimp? [w1]
 have it:items (.list [mv (r:Int) k 1,mv (r:Int) k (-1)])=some [mv (r:Int) k 1,mv (r:Int) k (-1)]:=rfl
 have f2:few [mv (r:Int) k 1,mv (r:Int) k (-1)]=true:=fw2
 generalize [mv (r:Int) k 1,mv (r:Int) k (-1)]=TWO at*
 generalize PyData.list TWO=C at*
 try simp only [j2,ifS,ifD,ifX,akZ,orB,zz,tst,op2,chn,jO,JQ,J4,jj,jD,lkp,cst,qP,Z0,zl,jP,qX,nxX,orX,af2,ag4,asB,zzA,zzB,zzC,zzD,zzH,zzE,zzI,zzF,zzG,zzJ,zzK,zzL,zzM,zzN] at cp
 dsimp? [brw,hid,okB,aef,aht,aji,qQ,itS,it,QH,List.map_cons,List.map_nil,f2,cp,el]
theorem ajY (hs:okS u l ps=true) {r:Nat} (hr:r<ps.length) {F:LP} (hF:F.length<900) {x4 x5:OP}:∃ y4 y5,zX.1 [some (jr u e l b),some (ju ps),some (.list F),some (.int (r:Int)),x4,x5]=some (.nx [some (jr u e l b),some (ju ps),some (.list (F++agm (jr u e l b) (ju ps) r)),some (.int (r:Int)),y4,y5]):=by
 obtain ⟨y,s1⟩:=afj (e:=e) (b:=b) hs hr (F:=F) (by omega) false (x:=x5)
 have hl:([mv (r:Int) false 1,mv (r:Int) false (-1)].filter (tM (jr u e l b) (ju ps))).length<=2:=List.length_filter_le _ _
 obtain ⟨y',s2⟩:=afj (e:=e) (b:=b) hs hr (F:=F++[mv (r:Int) false 1,mv (r:Int) false (-1)].filter (tM (jr u e l b) (ju ps))) (by rw [List.length_append]; omega) true (x:=y)
 refine ⟨some (Qk true),y',?_⟩
 have iw:items (.tuple [.str "upper",.str "lower"])=some [Qk false,Qk true]:=rfl
 have eR:F++agm (jr u e l b) (ju ps) r=(F++[mv (r:Int) false 1,mv (r:Int) false (-1)].filter (tM (jr u e l b) (ju ps)))++[mv (r:Int) true 1,mv (r:Int) true (-1)].filter (tM (jr u e l b) (ju ps)):=by
  rw [List.append_assoc,←List.filter_append]; rfl
 rw [eR]
 simp only [zX]
 refine (jw (ρ1:=[some (jr u e l b),some (ju ps),some (.list ((F++[mv (r:Int) false 1,mv (r:Int) false (-1)].filter (tM (jr u e l b) (ju ps)))++[mv (r:Int) true 1,mv (r:Int) true (-1)].filter (tM (jr u e l b) (ju ps)))),some (.int (r:Int)),some (Qk true),y']) ?_).trans rfl
 generalize mv (r:Int) false 1=m1 at*
 generalize mv (r:Int) false (-1)=m2 at*
 generalize mv (r:Int) true 1=m3 at*
 generalize mv (r:Int) true (-1)=m4 at*
 dsimp? [aa8,itS,brw,hid,okB,aef,aht,aji,iw,jR,s1,s2]
theorem ain {M T:PyData}{n:Int}{RR F:LP}{x3 x4 x5:OP} (ck:qG [M,T]=some .none) (ln:qN [T]=some (.int n)) (rg:zY [.int n]=some RR) (lp:jR (jP 3) zX.1 RR [some M,some T,some (.list []),none,none,none]=some (.nx [some M,some T,some (.list F),x3,x4,x5])):JI [M,T]=some (.list F):=by
 refine qd rfl ?_
 show Qy.1 [some M,some T,none,none,none,none]=_
 simp only [Qy]
 refine (jw (ρ1:=[some M,some T,none,none,none,none]) ?_).trans ?_
 ·dsimp? [ck]
 have key:∀ {Y:RO} {d:PyData},Y [some M,some T,some (.list []),none,none,none]=some (.rt d)->aay 2 (J4 jD) Y [some M,some T,none,none,none,none]=some (.rt d):=fun {Y d} hy=>by
  have l8:2<[some M,some T,none,none,none,none].length:=by simp
  dsimp? [aay,ajM,hy]
  rw [if_pos l8]
 refine key ?_
 refine (jw (ρ1:=[some M,some T,some (.list F),x3,x4,x5]) ?_).trans ?_
 ·dsimp? [aa8,brw,hid,okB,aef,aht,aji,ln,rg]
  exact lp
 dsimp? [zzA]
theorem acO (H:zZ=true) (h:okN u e l b=true) (hs:okS u l ps=true):JI [jr u e l b,ju ps]=some (.list (Zm (jr u e l b) (ju ps) ps.length)):=by
 obtain ⟨h1,h4,hall⟩:=zq hs
 have ck:=(akl H h hs).1
 have rg:zY [.int (ps.length:Int)]=some (qM 0 ps.length):=by
  have:zY [.int (ps.length:Int)]=some (qM 0 (ps.length:Int).toNat):=Zi (by omega) (by omega)
  rw [Int.toNat_natCast] at this; exact this
 have ln:=Qo ps
 obtain ⟨ρ',lp,x3,x4,x5,e'⟩:=Zl (ga:=jP 3) (F:=zX.1) (fun k ρ=>∃ x3 x4 x5,ρ=[some (jr u e l b),some (ju ps),some (.list (Zm (jr u e l b) (ju ps) k)),x3,x4,x5]) (qM 0 ps.length) 0 [some (jr u e l b),some (ju ps),some (.list []),none,none,none] ⟨none,none,none,rfl⟩ (fun j d ρ hd ⟨x3,x4,x5,e⟩=>by
  obtain ⟨hj,rfl⟩:=JJ hd
  subst e
  have hl:=aaW (jr u e l b) (ju ps) j
  obtain ⟨y4,y5,q⟩:=ajY (e:=e) (b:=b) hs (r:=j) hj (F:=Zm (jr u e l b) (ju ps) (0+j)) (by rw [Nat.zero_add]; omega) (x4:=x4) (x5:=x5)
  refine ⟨_,_,rfl,q,⟨some (.int (j:Int)),y4,y5,?_⟩⟩
  rw [Nat.zero_add,abY])
 rw [JK,Nat.zero_add] at e'
 subst e'
 exact ain ck ln rg lp
end
section
variable {u e l b:Int}
theorem aaX (ds:LP):qN [.list ds]=some (.int (ds.length:Int)):=rfl
theorem agn {ps:List (Int × Int)} (hs:okS u l ps=true) {d:PyData}:d ∈ Zm (jr u e l b) (ju ps) ps.length ↔ ∃ (r:Nat) (k:Bool) (c:Int) (p:Int × Int),ps[r]?=some p/\(c=1 ∨ c=-1)/\okP u l (shP p k c)=true/\d=mv (r:Int) k c:=by
 constructor
 ·intro hd
  obtain ⟨r,hr,hm⟩:=List.mem_flatMap.mp hd
  obtain ⟨h1,h2⟩:=List.mem_filter.mp hm
  have hr:=List.mem_range.mp hr
  have hp:ps[r]?=some ps[r]:=List.getElem?_eq_getElem hr
  have key:∀ (k:Bool) (c:Int),(c=1 ∨ c=-1)->tM (jr u e l b) (ju ps) (mv (r:Int) k c)=true->okP u l (shP ps[r] k c)=true:=fun k c hc ht=>by
   rw [afi (ZU (e:=e) (b:=b) hs hp k hc)] at ht
   by_cases ho:okP u l (shP ps[r] k c)=true
   ·exact ho
   ·rw [if_neg ho] at ht; cases ht
  simp only [c4,List.mem_cons,List.not_mem_nil,or_false] at h1
  rcases h1 with rfl | rfl | rfl | rfl
  ·exact ⟨r,false,1,_,hp,.inl rfl,key false 1 (.inl rfl) h2,rfl⟩
  ·exact ⟨r,false,-1,_,hp,.inr rfl,key false (-1) (.inr rfl) h2,rfl⟩
  ·exact ⟨r,true,1,_,hp,.inl rfl,key true 1 (.inl rfl) h2,rfl⟩
  ·exact ⟨r,true,-1,_,hp,.inr rfl,key true (-1) (.inr rfl) h2,rfl⟩
 ·rintro ⟨r,k,c,p,hp,hc,ho,rfl⟩
  obtain ⟨hr,_⟩:=List.getElem?_eq_some_iff.mp hp
  refine List.mem_flatMap.mpr ⟨r,List.mem_range.mpr hr,List.mem_filter.mpr ⟨?_,?_⟩⟩
  ·rcases hc with rfl | rfl <;> cases k <;> simp [c4]
  ·rw [afi (ZU (e:=e) (b:=b) hs hp k hc),if_pos ho]; rfl
theorem ajZ {ps:List (Int × Int)} (hs:okS u l ps=true) (h1:(ps.length:Int)<=1):∃ p,ps=[p]/\okP u l p=true:=by
 obtain ⟨a,_,hp⟩:=zq hs
 cases ps with
 | nil=>simp at a
 | cons p ps=>
  cases ps with
  | nil=>exact ⟨p,rfl,by simpa using hp⟩
  | cons q ps=>simp at h1; omega
theorem amM {ns:List Int} (hn:ns.length<1000000) (h:okN u e l b=true) (ds:LP):(∀ d ∈ ds,∃ k:Nat,d= .int (k:Int))->∀ x:OP,∃ qs:List (Int × Int),jF (jP 0) Jw (op2 dIx (jO acB (jj (lkp 1) (jj (op2 JS (cst (.int 20)) (op2 QA (cst (.int 4)) (lkp 0))) (jj (lkp 2) (jj (cst (.int 1)) jD))))) (cst (.int 0))) ds [x,some (scr ns),some (jr u e l b)]=some (qs.map pr)/\qs.length=ds.length/\qs.all (okP u l)=true:=by
 induction ds with
 | nil=>intro _ x; exact ⟨[],rfl,rfl,rfl⟩
 | cons d ds ih=>
  intro hd x
  obtain ⟨k,rfl⟩:=hd d List.mem_cons_self
  obtain ⟨qs,q1,q2,q3⟩:=ih (fun d h=>hd d (List.mem_cons_of_mem _ h)) (some (.int (k:Int)))
  obtain ⟨ps,g,hs,hl⟩:=aif hn h (at_:=20+4*(k:Int)) (by omega) (mo:=1) (by omega) (by omega)
  obtain ⟨p,rfl,hp⟩:=ajZ hs hl
  have m:QA (.int 4) (.int (k:Int))=some (.int (4*(k:Int))):=qJ (by omega)
  have ix:dIx (ju [p]) (.int 0)=some (pr p):=rfl
  have a:JS (.int 20) (.int (4*(k:Int)))=some (.int (20+4*(k:Int))):=rfl
  refine ⟨p::qs,?_,by rw [List.length_cons,List.length_cons,q2],by rw [List.all_cons,hp,q3]; rfl⟩
  rw [List.map_cons]
  generalize jr u e l b=M at*
  generalize scr ns=S at*
  generalize ju [p]=Z at*
  generalize pr p=P at*
  generalize (20+4*(k:Int))=kk at*
  generalize 4*(k:Int)=k4 at*
  dsimp? [jF,Jw,m,a,g,ix,q1]
end
theorem amN {tt:Rho->Option Bool}{A B:RO}{ρ:Rho} (h:tt ρ=some true):ifS tt A B ρ=A ρ:=by
 show (tt ρ).bind _=_
 rw [h]; rfl
theorem acP {tt:Rho->Option Bool}{A:RO}{ρ:Rho} (h:tt ρ=some false):ifS tt A (fun ρ=>some (.nx ρ)) ρ=some (.nx ρ):=by
 show (tt ρ).bind _=_
 rw [h]; rfl
theorem j5 {i:Nat}{f:RP}{ρ:Rho}{d:PyData} (h:f ρ=some d):zl f (jP i) ρ=some (.nx (ρ.set i (some d))):=by
 show (f ρ).bind _=_
 rw [h]; rfl
theorem jo {g:PyData->PyData->OP}{f1 f2:RP}{ρ:Rho}{x y z:PyData} (h1:f1 ρ=some x) (h2:f2 ρ=some y) (h3:g x y=some z):op2 g f1 f2 ρ=some z:=by
 show (f1 ρ).bind _=_
 rw [h1,zzD,h2,zzD,h3]
theorem zG {fi:Rho->Option (LP)}{cap:List (Option Nat)}{ga:PyData->Rho->Option Rho}{ft:Rho->Option Bool}{fe:RP}{ρ:Rho}{ds ys:LP} (h1:fi ρ=some ds) (hf:few ds=true) (h2:jF ga ft fe ds (QH cap ρ)=some ys):qQ fi cap ga ft fe ρ=some (.list ys):=by
 show (fi ρ).bind _=_
 rw [h1,zzD,if_pos hf,h2]; rfl
theorem jK {g:LP->OP}{fs:Rho->Option (LP)}{ρ:Rho}{ds:LP}{d:PyData} (h1:fs ρ=some ds) (h2:g ds=some d):jO g fs ρ=some d:=by
 show (fs ρ).bind _=_
 rw [h1,zzD,h2]
theorem jH {f:RP}{fs:Rho->Option (LP)}{ρ:Rho}{d:PyData}{ds:LP} (h1:f ρ=some d) (h2:fs ρ=some ds):jj f fs ρ=some (d::ds):=by
 unfold jj
 rw [h1,zzD,h2]; rfl
theorem qx {f:RP}{ρ:Rho}{c:Bool} (h:f ρ=some (.bool c)):tst f ρ=some c:=by
 show (f ρ).bind _=_
 rw [h]; rfl
theorem alG {i:Nat}{f:RP}{G:RO}{ρ:Rho}{d c:PyData} (h1:f ρ=some d) (h2:i < ρ.length) (h3:G (ρ.set i (some d))=some (.rt c)):aay i f G ρ=some (.rt c):=by
 show (f ρ).bind _=_
 rw [h1,zzD,if_pos h2,h3]; rfl
theorem acQ {fi:Rho->Option (LP)}{ga:PyData->Rho->Option Rho}{F:RO}{ρ:Rho}{ds:LP}{o:Option Out} (h1:fi ρ=some ds) (h2:jR ga F ds ρ=o):aa8 fi ga F ρ=o:=by
 show (fi ρ).bind _=_
 rw [h1,zzD]; exact h2
theorem ZE {f:RP}{G:RO}{ρ:Rho}{d:PyData} (h:f ρ=some d):j2 (qP f) G ρ=some (.rt d):=by
 unfold j2 qP
 rw [h]; rfl
theorem aeE {fs:Rho->Option (LP)}{ρ:Rho}{ds:LP} (h:fs ρ=some ds) (hf:few ds=true):J4 fs ρ=some (.list ds):=by
 unfold J4; rw [h,zzD,if_pos hf]
theorem aio {fs:Rho->Option (LP)}{ρ:Rho}{ds:LP} (h:fs ρ=some ds) (hf:few ds=true):JQ fs ρ=some (.tuple ds):=by
 unfold JQ; rw [h,zzD,if_pos hf]
theorem afk {A B:Rho->Option Bool}{ρ:Rho} (h1:A ρ=some false) (h2:B ρ=some false):orB A B ρ=some false:=by
 unfold orB
 rw [h1,zzD,if_neg (by decide),h2]
noncomputable abbrev PL:=List (Int × Int)
section
variable {u e l b:Int}
noncomputable def dig (b:Int) (r:Nat) (n:Int) (i:Nat):Int:=if 0<i then n / b ^ (r - 1 - i) % b else n / b ^ (r - 1 - i)
end
section
variable {u e l b:Int}{ps:PL}
theorem zI (hs:okS u l ps=true):1<=ps.length/\ps.length<=4/\ps.all (okP u l)=true:=by
 unfold okS at hs
 simp only [Bool.and_eq_true,decide_eq_true_eq] at hs
 exact ⟨hs.1.1,hs.1.2,hs.2⟩
theorem aj0 {N:List Str}{n:Nat}{B:RO}{ds:LP}{ρ:Rho} (hl:ds.length=n) (h:B (jU N ds)=some (.nx ρ)):jJ N n B ds=some .none:=by
 unfold jJ
 rw [if_pos hl,h]
theorem ck2 (H:zZ=true) (h:okN u e l b=true) (hs:okS u l ps=true):qG [jr u e l b,ju ps]=some .none/\aff [jr u e l b,ju ps]=none:=
 ⟨adI H h hs,aeD (ajO H h) (adJ ps) (by rw [abV]; exact hs)⟩
end
noncomputable def sh (n:Nat) (d:PyData):Prop:=shl n d/\noD d=true
theorem s_o:Str.ofString "o"=⟨#[111]⟩:=by kernel_rfl
theorem s_d:Str.ofString "."=⟨#[46]⟩:=by kernel_rfl
theorem s_b:Str.ofString "|"=⟨#[124]⟩:=by kernel_rfl
theorem s_n:Str.ofString "\n"=⟨#[10]⟩:=by kernel_rfl
theorem s_0:Str.ofString ""=Str.empty:=by kernel_rfl
noncomputable abbrev os (n:Int):Str:=Txt.mul ⟨#[111]⟩ n
theorem zA {n:Int}:(os n).length=n.toNat:=by rw [Jq,acu,List.length_replicate]
noncomputable def jv (u l:Int) (p:Int × Int):Str:=os (u - p.1)++⟨#[46]⟩++os p.1++⟨#[124]⟩++os p.2++⟨#[46]⟩++os (l - p.2)
noncomputable def Zn (u l:Int) (p:Int × Int):List Nat:=List.replicate (u - p.1).toNat 111++46::(List.replicate p.1.toNat 111++124::(List.replicate p.2.toNat 111++46::List.replicate (l - p.2).toNat 111))
theorem zH (u l:Int) (p:Int × Int):sg (jv u l p)=Zn u l p:=by
 unfold jv Zn
 simp only [zm,acu,zT,List.append_assoc,List.singleton_append,List.cons_append,List.nil_append]
theorem JL {u l:Int}{p:Int × Int} (hp:okP u l p=true):(jv u l p).length=(u+l+3).toNat:=by
 obtain ⟨q1,q2,q3,q4⟩:=qv hp
 rw [Jq,zH]
 simp only [Zn,List.length_append,List.length_cons,List.length_replicate]
 omega
section
variable {u e l b:Int}
theorem aeF {f1 f2:RP}{ρ:Rho}{x y:Str} (h1:f1 ρ=some (.str x)) (h2:f2 ρ=some (.str y)) (h:x.length+y.length<1000000):op2 abK f1 f2 ρ=some (.str (x++y)):=jo h1 h2 (ahP h)
theorem ZV (h:okN u e l b=true) {p:Int × Int} (hp:okP u l p=true):JH [jr u e l b,pr p]=some (.str (jv u l p)):=by
 obtain ⟨a1,a2,a3,a4,a5,a6,a7,a8,a9,a10⟩:=qo h
 obtain ⟨q1,q2,q3,q4⟩:=qv hp
 have m1:aaD (.str (Str.ofString "o")) (.int (u - p.1))=some (.str (os (u - p.1))):=by rw [s_o]; exact Q7 111 (by omega) (by omega)
 have m2:aaD (.str (Str.ofString "o")) (.int p.1)=some (.str (os p.1)):=by rw [s_o]; exact Q7 111 (by omega) (by omega)
 have m3:aaD (.str (Str.ofString "o")) (.int p.2)=some (.str (os p.2)):=by rw [s_o]; exact Q7 111 (by omega) (by omega)
 have m4:aaD (.str (Str.ofString "o")) (.int (l - p.2))=some (.str (os (l - p.2))):=by rw [s_o]; exact Q7 111 (by omega) (by omega)
 have l1:=zA (n:=u - p.1)
 have l2:=zA (n:=p.1)
 have l3:=zA (n:=p.2)
 have l4:=zA (n:=l - p.2)
 have ld:(⟨#[46]⟩:Str).length=1:=rfl
 have lb:(⟨#[124]⟩:Str).length=1:=rfl
 refine qd rfl ?_
 show Ze.1 [some (jr u e l b),some (pr p)]=_
 simp only [Ze]
 refine ZE ?_
 unfold jv
 refine aeF (aeF (aeF (aeF (aeF (aeF (jo rfl (jo (jo rfl rfl rfl) (jo rfl rfl rfl) rfl) m1) (congrArg (fun z=>some (PyData.str z)) s_d) ?_) (jo rfl (jo rfl rfl rfl) m2) ?_) (congrArg (fun z=>some (PyData.str z)) s_b) ?_) (jo rfl (jo rfl rfl rfl) m3) ?_) (congrArg (fun z=>some (PyData.str z)) s_d) ?_) (jo rfl (jo (jo rfl rfl rfl) (jo rfl rfl rfl) rfl) m4) ?_
 all_goals
  simp only [Str.length_append,l1,l2,l3,l4,ld,lb]
  omega
noncomputable def lnN (u l:Int) (p:Int × Int):Str:=jv u l p++⟨#[10]⟩
noncomputable def jZ (u l:Int) (ps:PL):Str:=Str.join Str.empty (ps.map (lnN u l))
theorem afl {p:Int × Int} (hp:okP u l p=true):(lnN u l p).length=(u+l+3).toNat+1:=by
 unfold lnN
 rw [Str.length_append,JL hp]; rfl
theorem afm (h:okN u e l b=true):∀ (ps:PL) (x:OP),ps.all (okP u l)=true->jF (jP 0) Jw (op2 abK (jO JH (jj (lkp 1) (jj (lkp 0) jD))) (cst (.str (Str.ofString "\n")))) (ps.map pr) [x,some (jr u e l b)]=some ((ps.map (lnN u l)).map .str)
 | [],_,_=>rfl
 | p::ps,x,hk=>by
  obtain ⟨a1,a2,a3,a4,a5,a6,a7,a8,a9,a10⟩:=qo h
  have hp:=List.all_eq_true.mp hk p List.mem_cons_self
  have ih:=afm h ps (some (pr p)) (List.all_eq_true.mpr fun y hy=>List.all_eq_true.mp hk y (List.mem_cons_of_mem _ hy))
  have f1:op2 abK (jO JH (jj (lkp 1) (jj (lkp 0) jD))) (cst (.str (Str.ofString "\n"))) [some (pr p),some (jr u e l b)]=some (.str (lnN u l p)):=aeF (jK rfl (ZV h hp)) (congrArg (fun z=>some (PyData.str z)) s_n) (by
   rw [JL hp]
   show _+1<_
   omega)
  show jF _ _ _ (pr p::ps.map pr) _=_
  rw [jF]
  simp only [jP,zzG,zzD,Jw,zzM,f1,ih,zzE]
  rfl
theorem aaY:∀ (ts:List Str),zS (ts.map .str)=some ts
 | []=>rfl
 | t::ts=>by rw [List.map_cons,zS,aaY ts]; rfl
theorem ago (h:okN u e l b=true) {ps:PL} (hk:ps.all (okP u l)=true) (h4:ps.length<=4):JoinOk Str.empty (ps.map (lnN u l))=true:=by
 obtain ⟨a1,a2,a3,a4,a5,a6,a7,a8,a9,a10⟩:=qo h
 unfold JoinOk
 rw [StrLaws.joinFits (B:=100) (fun y hy=>?_) (by
  rw [List.length_map]
  show ps.length*100+ps.length*0<=16777216
  omega)]
 ·rfl
 ·obtain ⟨p,hp,rfl⟩:=List.mem_map.mp hy
  rw [afl (List.all_eq_true.mp hk p hp)]
  omega
theorem qV (H:zZ=true) (h:okN u e l b=true) {ps:PL} (hs:okS u l ps=true):qk [jr u e l b,ju ps]=some (.str (jZ u l ps)):=by
 obtain ⟨h1,h4,hk⟩:=zI hs
 have ck:=(ck2 H h hs).1
 have fw:few (ps.map pr)=true:=qU (by rw [List.length_map]; omega)
 have c1:=zG (fi:=itS (lkp 1)) (cap:=[none,some 0]) (ρ:=[some (jr u e l b),some (ju ps)]) (ds:=ps.map pr) rfl fw (afm h ps none hk)
 have jn:adu (.str (Str.ofString "")) (.list ((ps.map (lnN u l)).map .str))=some (.str (jZ u l ps)):=by
  rw [s_0]
  show ((zS ((ps.map (lnN u l)).map .str)).bind fun texts=>if JoinOk Str.empty texts=true then some (PyData.str (Txt.join Str.empty texts)) else none)=_
  rw [aaY,zzD,if_pos (ago h hk h4),ahQ]; rfl
 refine qd rfl ?_
 show zE.1 [some (jr u e l b),some (ju ps)]=_
 simp only [zE]
 refine (jw (ρ1:=[some (jr u e l b),some (ju ps)]) ?_).trans ?_
 ·unfold Z0
  rw [jK rfl ck]; rfl
 ·exact ZE (jo rfl c1 jn)
end
theorem afn {c m n:Nat} (h:List.replicate m c=List.replicate n c):m=n:=by
 have:=congrArg List.length h
 simpa using this
theorem aj1 (n:Nat):46 ∉ List.replicate n 111:=fun h=>by
 have:=(List.mem_replicate.mp h).2
 omega
theorem akm (n:Nat):124 ∉ List.replicate n 111:=fun h=>by
 have:=(List.mem_replicate.mp h).2
 omega
theorem adK {u l:Int}{p q:Int × Int} (hp:okP u l p=true) (hq:okP u l q=true) (h:jv u l p=jv u l q):p=q:=by
 obtain ⟨p1,p2,p3,p4⟩:=qv hp
 obtain ⟨q1,q2,q3,q4⟩:=qv hq
 have e:=congrArg sg h
 rw [zH,zH] at e
 unfold Zn at e
 obtain ⟨e1,e2⟩:=Q5 (aj1 _) (aj1 _) e
 obtain ⟨e3,e4⟩:=Q5 (akm _) (akm _) e2
 obtain ⟨e5,e6⟩:=Q5 (aj1 _) (aj1 _) e4
 have f1:=afn e3
 have f2:=afn e5
 exact Prod.ext (by omega) (by omega)
theorem abZ (u l:Int) (p:Int × Int):10 ∉ sg (jv u l p):=by
 rw [zH]
 unfold Zn
 simp [List.mem_replicate]
theorem JY {u l:Int}:∀ (ps:PL),ps ≠ []->sg (jZ u l ps)=sg (Str.join ⟨#[10]⟩ (ps.map (jv u l)))++[10]
 | [],h=>absurd rfl h
 | [p],_=>by
  show sg (lnN u l p)=sg (jv u l p)++[10]
  rw [lnN,zm]; rfl
 | p::q::r,_=>by
  have ih:=JY (u:=u) (l:=l) (q::r) (by simp)
  have e1:sg (jZ u l (p::q::r))=sg (lnN u l p)++sg (jZ u l (q::r)):=by
   unfold jZ
   rw [Qh,Qh]; rfl
  rw [e1,ih,lnN,zm]
  show _=sg (Str.join ⟨#[10]⟩ (jv u l p::jv u l q::r.map (jv u l)))++[10]
  rw [qB]
  simp only [zT,List.append_assoc,List.cons_append,List.nil_append,List.map_cons]
theorem aip {u l:Int}{ps:PL} (h:ps ≠ []):Txt.slice (jZ u l ps) none (some (-1))=Str.join ⟨#[10]⟩ (ps.map (jv u l)):=by
 refine QL ?_
 have e:=JY (u:=u) (l:=l) ps h
 rw [ahS,Jq,e]
 have hl:(sg (Str.join ⟨#[10]⟩ (ps.map (jv u l)))++[10]).length=(sg (Str.join ⟨#[10]⟩ (ps.map (jv u l)))).length+1:=by simp
 rw [hl]
 generalize sg (Str.join ⟨#[10]⟩ (ps.map (jv u l)))=L
 have c1:J1 none 0 (L.length+1)=0:=rfl
 have c2:J1 (some (-1)) (L.length+1) (L.length+1)=L.length:=by
  show (max 0 (min (if (-1:Int)<0 then (-1)+((L.length+1:Nat):Int) else (-1)) ((L.length+1:Nat):Int))).toNat=L.length
  rw [if_pos (by omega)]; omega
 rw [c1,c2,List.drop_zero,Nat.sub_zero,List.take_append_of_le_length (Nat.le_refl _),List.take_length]
theorem agp {u l:Int}{ps:PL} (h:ps ≠ []):Txt.endswith (jZ u l ps) ⟨#[10]⟩=true:=by
 have e:=JY (u:=u) (l:=l) ps h
 have hl:=Jq (jZ u l ps)
 rw [e,List.length_append] at hl
 unfold Txt.endswith
 rw [StrLaws.subAt_eq]
 have e2:(jZ u l ps).cps.toList=sg (Str.join ⟨#[10]⟩ (ps.map (jv u l)))++[10]:=e
 have l1:(⟨#[10]⟩:Str).length=1:=rfl
 rw [e2,l1,hl]
 simp
theorem aiq {κ:Key}{d:PyData} (h:zQ κ d=true):d=aan κ:=by
 cases κ with
 | inl n=>cases d <;> simp_all [zQ,isI,aan]
 | inr t=>cases d <;> simp_all [zQ,isS,aan]
theorem adL {κ κ':Key}{d:PyData} (hne:κ' ≠ κ):∀ r:List (PyData × PyData),qK (r.map fun p=>if zQ κ p.1=true then (p.1,d) else p) κ'=qK r κ'
 | []=>rfl
 | p::r=>by
  have ih:=adL hne r (d:=d)
  unfold qK at ih ⊢
  rw [List.map_cons,List.find?_cons,List.find?_cons]
  by_cases hk:zQ κ p.1=true
  ·rw [if_pos hk]
   have:zQ κ' p.1=false:=by
    rw [aiq hk,zv]
    exact decide_eq_false (fun z=>hne z.symm)
   simp only [this]
   exact ih
  ·rw [if_neg hk]
   cases hc:zQ κ' p.1 with
   | true=>rfl
   | false=>exact ih
theorem ab0 {κ:Key}{d:PyData}:∀ r:List (PyData × PyData),r.any (fun p=>zQ κ p.1)=true->qK (r.map fun p=>if zQ κ p.1=true then (p.1,d) else p) κ=some d
 | [],h=>by cases h
 | p::r,h=>by
  have ih:=ab0 r (d:=d) (κ:=κ)
  unfold qK at ih ⊢
  rw [List.map_cons,List.find?_cons]
  by_cases hk:zQ κ p.1=true
  ·rw [if_pos hk]
   simp only [hk]
   rfl
  ·rw [if_neg hk]
   have hk':zQ κ p.1=false:=by simpa using hk
   simp only [hk']
   rw [List.any_cons,hk',Bool.false_or] at h
   exact ih h
theorem agq (r:List (PyData × PyData)) (κ κ':Key) (d:PyData):qK (Jy r κ d) κ'=if κ'=κ then some d else qK r κ':=by
 unfold Jy
 by_cases ha:r.any (fun p=>zQ κ p.1)=true
 ·rw [if_pos ha]
  by_cases h:κ'=κ
  ·subst h
   rw [if_pos rfl,ab0 r ha]
  ·rw [if_neg h,adL h]
 ·rw [if_neg ha]
  unfold qK
  rw [List.find?_append]
  by_cases h:κ'=κ
  ·subst h
   rw [if_pos rfl]
   have:r.find? (fun p=>zQ κ' p.1)=none:=List.find?_eq_none.mpr fun p hp hk=>ha (List.any_eq_true.mpr ⟨p,hp,hk⟩)
   rw [this,Option.none_or,List.find?_cons,zv]
   simp
  ·rw [if_neg h]
   cases hf:r.find? (fun p=>zQ κ' p.1) with
   | some p=>rfl
   | none=>
    rw [Option.none_or,List.find?_cons,zv,decide_eq_false (fun z=>h z.symm)]
    rfl
theorem agr (r:List (PyData × PyData)) (κ:Key) (d:PyData):(Jy r κ d).length<=r.length+1:=by
 unfold Jy
 split
 ·rw [List.length_map]; omega
 ·rw [List.length_append]; exact Nat.le_refl _
section
variable {u e l b:Int}
noncomputable def ZW (u l:Int):PL:=(List.range (u+1).toNat).flatMap fun (i:Nat)=>(List.range (l+1).toNat).map fun (j:Nat)=>((i:Int),(j:Int))
theorem afo:qh u l=(ZW u l).map pr:=by
 unfold qh JE ZW
 rw [List.map_flatMap]
 congr 1
 funext i
 rw [List.map_map]; rfl
theorem ZF {p:Int × Int}:p ∈ ZW u l ↔ okP u l p=true:=by
 unfold ZW
 simp only [List.mem_flatMap,List.mem_map,List.mem_range,okP,Bool.and_eq_true,decide_eq_true_eq]
 constructor
 ·rintro ⟨i,hi,j,hj,rfl⟩
  refine ⟨⟨⟨?_,?_⟩,?_⟩,?_⟩ <;> simp <;> omega
 ·rintro ⟨⟨⟨h1,h2⟩,h3⟩,h4⟩
  exact ⟨p.1.toNat,by omega,p.2.toNat,by omega,Prod.ext (by simp; omega) (by simp; omega)⟩
theorem ags (hu:u<100) (hl:l<100):(ZW u l).length<20000:=by
 have h1:(qh u l).length=(ZW u l).length:=by rw [afo,List.length_map]
 have h2:(qh u l).length=(u+1).toNat*(l+1).toNat:=aaJ _ _
 have h3:(u+1).toNat*(l+1).toNat<=100*100:=Nat.mul_le_mul (by omega) (by omega)
 omega
noncomputable def knF (u l:Int):PL->List (PyData × PyData)->List (PyData × PyData)
 | [],r=>r
 | q::qs,r=>knF u l qs (Jy r (Sum.inr (jv u l q)) (pr q))
theorem afp {p:Int × Int} (hp:okP u l p=true):∀ (qs:PL) (r:List (PyData × PyData)),(∀ q ∈ qs,okP u l q=true)->(p ∈ qs ∨ qK r (Sum.inr (jv u l p))=some (pr p))->qK (knF u l qs r) (Sum.inr (jv u l p))=some (pr p)
 | [],r,_,h=>h.elim (fun z=>nomatch z) id
 | q::qs,r,hq,h=>by
  refine afp hp qs _ (fun x hx=>hq x (List.mem_cons_of_mem _ hx)) ?_
  rw [agq]
  by_cases hpq:p=q
  ·subst hpq
   exact .inr (by rw [if_pos rfl])
  ·have hne:¬ (Sum.inr (jv u l p):Key)=Sum.inr (jv u l q):=fun z=>hpq (adK hp (hq q List.mem_cons_self) (Sum.inr.inj z))
   rw [if_neg hne]
   rcases h with h | h
   ·rcases List.mem_cons.mp h with z | z
    ·exact absurd z hpq
    ·exact .inl z
   ·exact .inr h
noncomputable def knR (u l:Int):List (PyData × PyData):=knF u l (ZW u l) []
theorem afq {p:Int × Int} (hp:okP u l p=true):qK (knR u l) (Sum.inr (jv u l p))=some (pr p):=afp hp _ _ (fun q hq=>ZF.mp hq) (.inl (ZF.mpr hp))
theorem afr (h:okN u e l b=true):∀ (qs:PL) (r:List (PyData × PyData)) (x:OP),(∀ q ∈ qs,okP u l q=true)->r.length+qs.length<900000->∃ y,jR (jP 2) zd.1 (qs.map pr) [some (jr u e l b),some (.dict ((.none,.none)::r)),x]=some (.nx [some (jr u e l b),some (.dict ((.none,.none)::knF u l qs r)),y])
 | [],r,x,_,_=>⟨x,rfl⟩
 | q::qs,r,x,hq,hl=>by
  rw [List.length_cons] at hl
  have pl:=agr r (Sum.inr (jv u l q)) (pr q)
  obtain ⟨y,ih⟩:=afr h qs (Jy r (Sum.inr (jv u l q)) (pr q)) (some (pr q)) (fun z hz=>hq z (List.mem_cons_of_mem _ hz)) (by omega)
  refine ⟨y,?_⟩
  have gt:=ZV h (hq q List.mem_cons_self)
  have st:zd.1 [some (jr u e l b),some (.dict ((.none,.none)::r)),some (pr q)]=some (.nx [some (jr u e l b),some (.dict ((.none,.none)::Jy r (Sum.inr (jv u l q)) (pr q))),some (pr q)]):=by
   have pd:adv (some (.dict ((.none,.none)::r))) (some (pr q)) (some (.str (jv u l q)))=some (.dict ((.none,.none)::Jy r (Sum.inr (jv u l q)) (pr q))):=by
    show (if r.length<1000000 then some (PyData.dict ((.none,.none)::Jy r (Sum.inr (jv u l q)) (pr q))) else none)=_
    rw [if_pos (by omega)]
   simp only [zd,j2,ae8,brw,hid,jO,jj,jD,lkp,qX,zzA,zzB,zzC,zzD,zzE,zzF,zzG,gt,pd]
  show jR _ _ (pr q::qs.map pr) _=_
  rw [jR]
  simp only [jP,zzF,zzG,zzD,st]
  exact ih
noncomputable def knD (u l:Int):PyData:= .dict ((.none,.none)::knR u l)
theorem aj2 {M:PyData}{ds:LP}{D:PyData}{y:OP} (ga:qC [M]=some (.list ds)) (lp:jR (jP 2) zd.1 ds [some M,some (.dict [(.none,.none)]),none]=some (.nx [some M,some D,y])):zx [M]=some D:=by
 refine qd rfl ?_
 show Je.1 [some M,none,none]=_
 simp only [Je]
 refine alG (d:= .dict [(.none,.none)]) rfl (by simp) ?_
 have it:(fun ρ=>itS (jO qC (jj (lkp 0) jD)) (hid (some 1) ρ)) [some M,some (.dict [(.none,.none)]),none]=some ds:=by
  show (jO qC (jj (lkp 0) jD) (hid (some 1) [some M,some (.dict [(.none,.none)]),none])).bind items=_
  rw [jK (ds:=[M]) rfl ga]; rfl
 refine (jw (acQ (fi:=fun ρ=>itS (jO qC (jj (lkp 0) jD)) (hid (some 1) ρ)) it lp)).trans ?_
 exact ZE rfl
theorem aaZ (h:okN u e l b=true):zx [jr u e l b]=some (knD u l):=by
 obtain ⟨a1,a2,a3,a4,a5,a6,a7,a8,a9,a10⟩:=qo h
 have ga:=ZR (u:=u) (e:=e) (l:=l) (b:=b) (by omega) (by omega) (by omega) (by omega)
 rw [afo] at ga
 have ln:=ags (u:=u) (l:=l) (by omega) (by omega)
 obtain ⟨y,lp⟩:=afr h (ZW u l) [] none (fun q hq=>ZF.mp hq) (by rw [List.length_nil]; omega)
 exact aj2 ga lp
theorem air {p:Int × Int} (hp:okP u l p=true):aaG false (.str (jv u l p)) (knD u l)=some (.bool true):=by
 show some (PyData.bool (qK (knR u l) (Sum.inr (jv u l p))).isSome)=_
 rw [afq hp]; rfl
theorem ais {p:Int × Int} (hp:okP u l p=true):aaF (knD u l) (.str (jv u l p))=some (pr p):=by
 show qK (knR u l) (Sum.inr (jv u l p))=_
 exact afq hp
theorem adM:∀ (ps:PL) (x:OP),ps.all (okP u l)=true->jF (jP 0) Jw (op2 (aaG false) (lkp 0) (lkp 1)) ((ps.map (jv u l)).map .str) [x,some (knD u l)]=some (List.replicate ps.length (.bool true))
 | [],_,_=>rfl
 | p::ps,x,hk=>by
  have hp:=List.all_eq_true.mp hk p List.mem_cons_self
  have ih:=adM ps (some (.str (jv u l p))) (List.all_eq_true.mpr fun y hy=>List.all_eq_true.mp hk y (List.mem_cons_of_mem _ hy))
  have f1:op2 (aaG false) (lkp 0) (lkp 1) [some (.str (jv u l p)),some (knD u l)]=some (.bool true):=jo rfl rfl (air hp)
  show jF _ _ _ (.str (jv u l p)::(ps.map (jv u l)).map .str) _=_
  rw [jF]
  simp only [jP,zzG,zzD,Jw,zzM,f1,ih,zzE]
  rfl
theorem adN:∀ (ps:PL) (x:OP),ps.all (okP u l)=true->jF (jP 0) Jw (op2 aaF (lkp 1) (lkp 0)) ((ps.map (jv u l)).map .str) [x,some (knD u l)]=some (ps.map pr)
 | [],_,_=>rfl
 | p::ps,x,hk=>by
  have hp:=List.all_eq_true.mp hk p List.mem_cons_self
  have ih:=adN ps (some (.str (jv u l p))) (List.all_eq_true.mpr fun y hy=>List.all_eq_true.mp hk y (List.mem_cons_of_mem _ hy))
  have f1:op2 aaF (lkp 1) (lkp 0) [some (.str (jv u l p)),some (knD u l)]=some (pr p):=jo rfl rfl (ais hp)
  show jF _ _ _ (.str (jv u l p)::(ps.map (jv u l)).map .str) _=_
  rw [jF]
  simp only [jP,zzG,zzD,Jw,zzM,f1,ih,zzE]
  rfl
theorem aa0 (h:okN u e l b=true):∀ (ps:PL),ps.all (okP u l)=true->(jZ u l ps).length<=ps.length*100
 | [],_=>Nat.le_refl _
 | p::ps,hk=>by
  obtain ⟨a1,a2,a3,a4,a5,a6,a7,a8,a9,a10⟩:=qo h
  have hp:=List.all_eq_true.mp hk p List.mem_cons_self
  have ih:=aa0 h ps (List.all_eq_true.mpr fun y hy=>List.all_eq_true.mp hk y (List.mem_cons_of_mem _ hy))
  have ll:=afl hp
  rw [Jq] at ih ll ⊢
  unfold jZ at ih ⊢
  rw [Qh] at ih ⊢
  rw [List.map_cons,List.map_cons,List.flatten_cons,List.length_append,ll,List.length_cons,Nat.succ_mul]
  omega
theorem ait {x:Str} (he:Txt.endswith x ⟨#[10]⟩=true):Jh [.str x]=some .none:=by
 have i1:QI "str" (.str x)=some (.bool true):=rfl
 have e1:adt (.str x) (.str (Str.ofString "\n"))=some (.bool true):=by
  rw [s_n]
  show some (PyData.bool (Txt.endswith x ⟨#[10]⟩))=_
  rw [he]
 refine aj0 (ρ:=[some (.str x)]) rfl ?_
 show Jg.1 [some (.str x)]=_
 simp only [Jg,j2,ifS,orB,zz,tst,op2,lkp,cst,qX,asB,zzA,zzB,zzC,zzD,zzE,zzJ,zzL,zzN,i1,e1]
theorem agt {M T KD:PyData}{x y:Str}{ls:LP}{bs ds:LP} (ck:Qj [M]=some .none) (ce:Jh [.str x]=some .none) (kb:zx [M]=some KD) (sl:aaE (lkp 1) (fun ρ=>(cst (.int 1) ρ).bind afY) [some M,some (.str x),some KD,none]=some (.str y)) (sp:qe (.str y) (.str (Str.ofString "\n"))=some (.list ls)) (ln:qN [.list ls]=some (.int ls.length)) (h4:ls.length<=4)
  (fw:few ls=true) (c1:jF (jP 0) Jw (op2 (aaG false) (lkp 0) (lkp 1)) ls [none,some KD]=some bs) (al:ac8 [.list bs]=some (.bool true)) (c2:jF (jP 0) Jw (op2 aaF (lkp 1) (lkp 0)) ls [none,some KD]=some ds) (tp:aaz [.list ds]=some T):qI [M,.str x]=some T:=by
 refine qd rfl ?_
 show zF.1 [some M,some (.str x),none,none]=_
 simp only [zF]
 refine (jw (ρ1:=[some M,some (.str x),none,none]) ?_).trans ?_
 ·unfold Z0; rw [jK rfl ck]; rfl
 refine (jw (ρ1:=[some M,some (.str x),none,none]) ?_).trans ?_
 ·unfold Z0; rw [jK rfl ce]; rfl
 refine (jw (ρ1:=[some M,some (.str x),some KD,none]) (j5 (i:=2) (jK rfl kb))).trans ?_
 refine (jw (ρ1:=[some M,some (.str x),some KD,some (.list ls)]) (j5 (i:=3) (jo sl rfl sp))).trans ?_
 refine (jw (ρ1:=[some M,some (.str x),some KD,some (.list ls)]) (acP ?_)).trans ?_
 ·have t1:tst (op2 (J5 fun i j=>decide (j<i)) (jO qN (jj (lkp 3) jD)) (cst (.int 4))) [some M,some (.str x),some KD,some (.list ls)]=some false:=by
   refine qx (jo (jK rfl ln) rfl ?_)
   show some (PyData.bool (decide ((4:Int)<(ls.length:Int))))=_
   rw [decide_eq_false (by omega)]
  have t2:=zG (fi:=itS (lkp 3)) (cap:=[none,some 2]) (ρ:=[some M,some (.str x),some KD,some (.list ls)]) (ds:=ls) rfl fw c1
  have t3:=qx (jK (g:=ac8) (jH (fs:=jD) (ds:=[]) t2 rfl) al)
  unfold orB
  rw [t1,zzD,if_neg (by decide)]
  unfold zz
  rw [t3]; rfl
 ·exact ZE (jK (jH (zG (fi:=itS (lkp 3)) (cap:=[none,some 2]) (ds:=ls) rfl fw c2) rfl) tp)
theorem afs:∀ n:Nat,bls (List.replicate n (PyData.bool true))=some (List.replicate n true)
 | 0=>rfl
 | n+1=>by rw [List.replicate_succ,bls,afs n]; rfl
theorem aj3 (n:Nat):ac8 [.list (List.replicate n (.bool true))]=some (.bool true):=by
 show (bls (List.replicate n (PyData.bool true))).map (fun bs=>PyData.bool (bs.all id))=_
 rw [afs]
 show some (PyData.bool ((List.replicate n true).all id))=_
 have e:(List.replicate n true).all id=true:=List.all_eq_true.mpr fun x hx=>(List.mem_replicate.mp hx).2
 rw [e]
theorem qW (H:zZ=true) (h:okN u e l b=true) {ps:PL} (hs:okS u l ps=true):qI [jr u e l b,.str (jZ u l ps)]=some (ju ps):=by
 obtain ⟨h1,h4,hk⟩:=zI hs
 have hne:ps ≠ []:=fun z=>by rw [z] at h1; simp at h1
 have hne':ps.map (jv u l) ≠ []:=fun z=>hne (List.map_eq_nil_iff.mp z)
 have tl:=aa0 h ps hk
 have cut:=aip (u:=u) (l:=l) hne
 have sp0:=zU 10 hne' (fun p hp=>by
  obtain ⟨q,_,rfl⟩:=List.mem_map.mp hp
  exact abZ u l q)
 have jl:(Str.join ⟨#[10]⟩ (ps.map (jv u l))).length<900000:=by
  rw [←cut]
  have:=Txt.slice_le (jZ u l ps) none (some (-1))
  omega
 have sp:qe (.str (Str.join ⟨#[10]⟩ (ps.map (jv u l)))) (.str (Str.ofString "\n"))=some (.list ((ps.map (jv u l)).map .str)):=by
  rw [s_n,JB 10 jl,sp0]
 have sl:aaE (lkp 1) (fun ρ=>(cst (.int 1) ρ).bind afY) [some (jr u e l b),some (.str (jZ u l ps)),some (knD u l),none]=some (.str (Str.join ⟨#[10]⟩ (ps.map (jv u l)))):=by
  show (if (jZ u l ps).length<1000000 then some (PyData.str (Txt.slice (jZ u l ps) none (some (-1)))) else none)=_
  rw [if_pos (by omega),cut]
 have ll:((ps.map (jv u l)).map PyData.str).length=ps.length:=by rw [List.length_map,List.length_map]
 have ln:qN [.list ((ps.map (jv u l)).map .str)]=some (.int (((ps.map (jv u l)).map PyData.str).length:Int)):=rfl
 exact agt (Qz (ajO H h)) (ait (agp hne)) (aaZ h) sl sp ln (by rw [ll]; exact h4) (qU (by rw [ll]; omega)) (adM ps none hk) (aj3 _) (adN ps none hk) rfl
theorem Zo {p:Int × Int}:∀ c ∈ sg (jv u l p),c<1114112:=by
 rw [zH]
 unfold Zn
 intro c hc
 simp only [List.mem_append,List.mem_cons,List.mem_replicate] at hc
 omega
theorem adO {ps:PL}:∀ c ∈ sg (jZ u l ps),c<1114112:=by
 unfold jZ
 rw [Qh]
 intro c hc
 obtain ⟨L,hL,hc'⟩:=List.mem_flatten.mp hc
 obtain ⟨t,ht,rfl⟩:=List.mem_map.mp hL
 obtain ⟨p,_,rfl⟩:=List.mem_map.mp ht
 rw [lnN,zm,List.mem_append] at hc'
 rcases hc' with z | z
 ·exact Zo c z
 ·have:c=10:=by simpa [zT] using z
  omega
theorem acR {x:Str} (h:∀ c ∈ sg x,c<1114112):sh 1 (.str x):=by
 refine ⟨⟨?_,by simp [PyData.depth]⟩,rfl⟩
 show x.cps.all (fun c=>decide (c<1114112))=true
 rw [←Array.all_toList]
 exact List.all_eq_true.mpr fun c hc=>decide_eq_true (h c hc)
end
theorem aft (x y:Str):PyData.eqv (.str x) (.str y)=decide (x=y):=by
 unfold PyData.eqv
 by_cases h:x=y
 ·subst h; simp
 ·simp [h]
theorem alH {x y:Str} (hx:∀ c ∈ sg x,c<1114112) (hy:∀ c ∈ sg y,c<1114112):dEq (.str x) (.str y)=some (.bool (decide (x=y))):=by
 have o1:okD (.str x)=true:=acN (acR hx).1 (by omega)
 have o2:okD (.str y)=true:=acN (acR hy).1 (by omega)
 show (if okD (.str x)=true/\okD (.str y)=true then some (PyData.bool (PyData.eqv (.str x) (.str y))) else none)=_
 rw [if_pos ⟨o1,o2⟩,aft]
theorem aiu {x y:Str} (hx:∀ c ∈ sg x,c<1114112) (hy:∀ c ∈ sg y,c<1114112):dNe (.str x) (.str y)=some (.bool (!decide (x=y))):=by
 have o1:okD (.str x)=true:=acN (acR hx).1 (by omega)
 have o2:okD (.str y)=true:=acN (acR hy).1 (by omega)
 show (if okD (.str x)=true/\okD (.str y)=true then some (PyData.bool (!PyData.eqv (.str x) (.str y))) else none)=_
 rw [if_pos ⟨o1,o2⟩,aft]
theorem ab1 (c:Nat):∀ (ls:List Str) (x:Str),ls ≠ []->sg (Str.join ⟨#[c]⟩ (ls++[x]))=sg (Str.join ⟨#[c]⟩ ls)++c::sg x
 | [],_,h=>absurd rfl h
 | [y],x,_=>by
  show sg (Str.join ⟨#[c]⟩ (y::x::[]))=_
  rw [qB]; rfl
 | y::z::r,x,_=>by
  show sg (Str.join ⟨#[c]⟩ (y::z::(r++[x])))=_
  rw [qB,qB,List.append_assoc,List.cons_append]
  have:=ab1 c (z::r) x (by simp)
  rw [←this]; rfl
section
variable {u e l b:Int}
theorem aiv (H:zZ=true) (h:okN u e l b=true) {ps qs:PL} (hs:okS u l ps=true) (hq:okS u l qs=true) (ht:jZ u l ps=jZ u l qs):ps=qs:=by
 have r1:=qW H h hs
 have r2:=qW H h hq
 rw [ht,r2] at r1
 have e1:=Option.some.inj r1
 have:=Zj qs ps
 rw [e1,Zj] at this
 have:decide (ps=ps)=decide (qs=ps):=this
 rw [decide_eq_true (rfl:ps=ps)] at this
 exact (of_decide_eq_true this.symm).symm
noncomputable def jI (u l:Int) (ps:PL):List Str:=ps.map (jv u l)++[Str.empty]
theorem aeG {ps:PL} (hne:ps ≠ []):Str.join ⟨#[10]⟩ (jI u l ps)=jZ u l ps:=by
 refine QL ?_
 unfold jI
 rw [ab1 10 _ _ (fun z=>hne (List.map_eq_nil_iff.mp z)),JY ps hne]; rfl
theorem JZ (h:okN u e l b=true) {ps:PL} (hs:okS u l ps=true):qe (.str (jZ u l ps)) (.str (Str.ofString "\n"))=some (.list ((jI u l ps).map .str)):=by
 obtain ⟨h1,h4,hk⟩:=zI hs
 have hne:ps ≠ []:=fun z=>by rw [z] at h1; simp at h1
 have tl:=aa0 h ps hk
 rw [s_n,JB 10 (by omega),←aeG hne,zU 10 (by unfold jI; simp) (fun p hp=>by
  unfold jI at hp
  rcases List.mem_append.mp hp with z | z
  ·obtain ⟨q,_,rfl⟩:=List.mem_map.mp z
   exact abZ u l q
  ·rw [List.mem_singleton.mp z]
   show 10 ∉ []
   simp)]
theorem ab2 {ps:PL}:∀ x ∈ jI u l ps,∀ c ∈ sg x,c<1114112:=fun x hx=>by
 unfold jI at hx
 rcases List.mem_append.mp hx with z | z
 ·obtain ⟨q,_,rfl⟩:=List.mem_map.mp z
  exact Zo
 ·rw [List.mem_singleton.mp z]
  intro c hc
  cases hc
theorem JM (ps:PL):(jI u l ps).length=ps.length+1:=by
 unfold jI
 rw [List.length_append,List.length_map]; rfl
theorem aa1 (ps:PL):((jI u l ps).map PyData.str).length=ps.length+1:=by rw [List.length_map,JM]
theorem aak {ls:List Str}{k:Nat}{x:Str} (h:ls[k]?=some x) (hl:ls.length<1000):dIx (.list (ls.map .str)) (.int (k:Int))=some (.str x):=by
 obtain ⟨hk,he⟩:=List.getElem?_eq_some_iff.mp h
 show (if (ls.map PyData.str).length<1000000 then atI (ls.map PyData.str) (k:Int) else none)=_
 rw [if_pos (by rw [List.length_map]; omega)]
 unfold atI
 rw [acH (by omega) (by rw [List.length_map]; omega)]
 simp [h]
noncomputable def zf (u:Int) (p:Int × Int):Str:=os (u - p.1)++⟨#[46]⟩++os p.1
noncomputable def zg (l:Int) (p:Int × Int):Str:=os p.2++⟨#[46]⟩++os (l - p.2)
theorem aiw (p:Int × Int):jv u l p=Str.join ⟨#[124]⟩ [zf u p,zg l p]:=by
 refine QL ?_
 rw [qB]
 show _=sg (zf u p)++124::sg (zg l p)
 rw [zH]
 unfold Zn zf zg
 simp only [zm,acu,zT,List.append_assoc,List.singleton_append,List.cons_append,List.nil_append]
theorem agu (p:Int × Int):zf u p=Str.join ⟨#[46]⟩ [os (u - p.1),os p.1]:=by
 refine QL ?_
 rw [qB]
 show _=sg (os (u - p.1))++46::sg (os p.1)
 unfold zf
 simp only [zm,zT,List.append_assoc,List.singleton_append]
theorem agv (p:Int × Int):zg l p=Str.join ⟨#[46]⟩ [os p.2,os (l - p.2)]:=by
 refine QL ?_
 rw [qB]
 show _=sg (os p.2)++46::sg (os (l - p.2))
 unfold zg
 simp only [zm,zT,List.append_assoc,List.singleton_append]
theorem ZG {n:Int}{c:Nat} (h:c ∈ sg (os n)):c=111:=by
 rw [acu] at h
 exact (List.mem_replicate.mp h).2
theorem agw {p:Int × Int}{c:Nat} (h:c ∈ sg (zf u p)):c=111 ∨ c=46:=by
 unfold zf at h
 simp only [zm,zT,List.mem_append,List.mem_singleton] at h
 rcases h with (z | z) | z
 ·exact .inl (ZG z)
 ·exact .inr z
 ·exact .inl (ZG z)
theorem agx {p:Int × Int}{c:Nat} (h:c ∈ sg (zg l p)):c=111 ∨ c=46:=by
 unfold zg at h
 simp only [zm,zT,List.mem_append,List.mem_singleton] at h
 rcases h with (z | z) | z
 ·exact .inl (ZG z)
 ·exact .inr z
 ·exact .inl (ZG z)
theorem agy (h:okN u e l b=true) {p:Int × Int} (hp:okP u l p=true):qe (.str (jv u l p)) (.str (Str.ofString "|"))=some (.list [.str (zf u p),.str (zg l p)]):=by
 obtain ⟨a1,a2,a3,a4,a5,a6,a7,a8,a9,a10⟩:=qo h
 have ll:=JL hp
 rw [s_b,JB 124 (by omega),aiw,zU 124 (by simp) (fun q hq=>by
  simp only [List.mem_cons,List.not_mem_nil,or_false] at hq
  rcases hq with rfl | rfl
  ·intro hc; rcases agw hc with z | z <;> omega
  ·intro hc; rcases agx hc with z | z <;> omega)]
 rfl
theorem agz (h:okN u e l b=true) {p:Int × Int} (hp:okP u l p=true):qe (.str (zf u p)) (.str (Str.ofString "."))=some (.list [.str (os (u - p.1)),.str (os p.1)]):=by
 obtain ⟨a1,a2,a3,a4,a5,a6,a7,a8,a9,a10⟩:=qo h
 obtain ⟨q1,q2,q3,q4⟩:=qv hp
 have ll:(zf u p).length<900000:=by
  unfold zf
  rw [Str.length_append,Str.length_append,zA,zA]
  show _+1+_<_
  omega
 rw [s_d,JB 46 ll,agu,zU 46 (by simp) (fun q hq=>by
  simp only [List.mem_cons,List.not_mem_nil,or_false] at hq
  rcases hq with rfl | rfl <;> intro hc <;> have:=ZG hc <;> omega)]
 rfl
theorem agA (h:okN u e l b=true) {p:Int × Int} (hp:okP u l p=true):qe (.str (zg l p)) (.str (Str.ofString "."))=some (.list [.str (os p.2),.str (os (l - p.2))]):=by
 obtain ⟨a1,a2,a3,a4,a5,a6,a7,a8,a9,a10⟩:=qo h
 obtain ⟨q1,q2,q3,q4⟩:=qv hp
 have ll:(zg l p).length<900000:=by
  unfold zg
  rw [Str.length_append,Str.length_append,zA,zA]
  show _+1+_<_
  omega
 rw [s_d,JB 46 ll,agv,zU 46 (by simp) (fun q hq=>by
  simp only [List.mem_cons,List.not_mem_nil,or_false] at hq
  rcases hq with rfl | rfl <;> intro hc <;> have:=ZG hc <;> omega)]
 rfl
theorem len_str {x:Str} (h:x.length<1000000):abL [.str x]=some (.int (x.length:Int)):=by
 show (if x.length<1000000 then some (PyData.int x.length) else none)=_
 rw [if_pos h]
end
noncomputable def dfs:Nat->List Nat->List Nat->List Int
 | k,x::xs,y::ys=>if y=x then dfs (k+1) xs ys else (k:Int)::dfs (k+1) xs ys
 | _,_,_=>[]
theorem adP:∀ (k:Nat) (xs:List Nat),dfs k xs xs=[]
 | _,[]=>rfl
 | k,x::xs=>by rw [dfs,if_pos rfl,adP]
theorem afu {x y:Nat} (hxy:x ≠ y) (B:List Nat):∀ (A:List Nat) (k:Nat),dfs k (A++x::y::B) (A++y::x::B)=[((k+A.length:Nat):Int),((k+A.length+1:Nat):Int)]
 | [],k=>by
  show dfs k (x::y::B) (y::x::B)=_
  rw [dfs,if_neg (fun z=>hxy z.symm),dfs,if_neg hxy,adP]; rfl
 | a::A,k=>by
  show dfs k (a::(A++x::y::B)) (a::(A++y::x::B))=_
  rw [dfs,if_pos rfl,afu hxy B A (k+1)]
  simp only [List.length_cons]
  rw [show k+1+A.length=k+(A.length+1) by omega]
noncomputable abbrev mkS (c:Nat):PyData:= .str ⟨#[c]⟩
theorem afv {c:Nat} (h:c<1114112):∀ z ∈ sg ⟨#[c]⟩,z<1114112:=fun z hz=>by
 rw [zT,List.mem_singleton] at hz
 omega
theorem alI {y:Str}{k c:Nat}{ys:List Nat} (h:(sg y).drop k=c::ys) (hl:y.length<1000):af4 (.str y) (.int (k:Int))=some (mkS c):=by
 have hk:(sg y)[k]?=some c:=by
  have:=List.getElem?_drop (xs:=sg y) (i:=k) (j:=0)
  rw [h,Nat.add_zero] at this
  exact this.symm
 have hlt:k<y.length:=by
  rw [Jq]
  exact (List.getElem?_eq_some_iff.mp hk).1
 have hc:y.cps[k]?=some c:=by
  unfold sg at hk
  simpa using hk
 show (if 0<=(k:Int)/\(k:Int)<1000000/\(k:Int)<(y.length:Int) then (y.cps[(k:Int).toNat]?).map fun c=>PyData.str ⟨#[c]⟩ else none)=_
 rw [if_pos ⟨by omega,by omega,by omega⟩,Int.toNat_natCast,hc]; rfl
theorem ab3 {LN MV L1:PyData}{y:Str}{r:Int} (i1:dIx LN (.int 1)=some L1) (i2:dIx MV (.int 0)=some (.int r)) (i3:dIx L1 (.int r)=some (.str y)) (hl:y.length<1000) (ly:∀ c ∈ sg y,c<1114112):
  ∀ (xs:List Nat) (k:Nat) (ys:List Nat) (x0 x1:OP),xs.length=ys.length->(∀ c ∈ xs,c<1114112)->(sg y).drop k=ys->
  jF (Z1 2 (j8 (jP 0) (j8 (jP 1) JR))) (tst (op2 dNe (op2 af4 (op2 dIx (op2 dIx (lkp 2) (cst (.int 1))) (op2 dIx (lkp 3) (cst (.int 0)))) (lkp 0)) (lkp 1))) (lkp 0) (JA k (xs.map mkS)) [x0,x1,some LN,some MV]=some ((dfs k xs ys).map .int)
 | [],k,ys,x0,x1,hn,_,_=>by
  have:ys=[]:=List.eq_nil_of_length_eq_zero hn.symm
  subst this; rfl
 | x::xs,k,[],x0,x1,hn,_,_=>by cases hn
 | x::xs,k,c::ys,x0,x1,hn,hx,hd=>by
  have hd':(sg y).drop (k+1)=ys:=by
   have:=congrArg List.tail hd
   simpa using this
  have ih:=ab3 i1 i2 i3 hl ly xs (k+1) ys (some (.int (k:Int))) (some (mkS x)) (by simpa using hn) (fun z hz=>hx z (List.mem_cons_of_mem _ hz)) hd'
  have hc:c<1114112:=ly c (List.mem_of_mem_drop (i:=k) (by rw [hd]; exact List.mem_cons_self))
  have ne:=aiu (afv hc) (afv (hx x List.mem_cons_self))
  have hcx:decide ((⟨#[c]⟩:Str)=⟨#[x]⟩)=decide (c=x):=by
   rw [decide_eq_decide]
   exact ⟨fun z=>by have:=congrArg sg z; simpa [zT] using this,fun z=>by rw [z]⟩
  rw [hcx] at ne
  have tt:tst (op2 dNe (op2 af4 (op2 dIx (op2 dIx (lkp 2) (cst (.int 1))) (op2 dIx (lkp 3) (cst (.int 0)))) (lkp 0)) (lkp 1)) [some (.int (k:Int)),some (mkS x),some LN,some MV]=some (!decide (c=x)):=qx (jo (jo (jo (jo rfl rfl i1) (jo rfl rfl i2) i3) rfl (alI hd hl)) rfl ne)
  have ga:Z1 2 (j8 (jP 0) (j8 (jP 1) JR)) (.tuple [.int (k:Int),mkS x]) [x0,x1,some LN,some MV]=some [some (.int (k:Int)),some (mkS x),some LN,some MV]:=rfl
  show jF _ _ _ (.tuple [.int (k:Int),mkS x]::JA (k+1) (xs.map mkS)) _=_
  rw [jF]
  simp only [ga,zzD,tt]
  rw [dfs]
  by_cases h:c=x
  ·rw [decide_eq_true h,if_pos h]
   exact ih
  ·rw [decide_eq_false h,if_neg h]
   have e1:lkp 0 [some (.int (k:Int)),some (mkS x),some LN,some MV]=some (.int (k:Int)):=rfl
   simp only [zzK,zzM,e1,zzD,ih,zzE]
   rfl
theorem afw (n c:Nat) (z:List Nat):List.replicate (n+1) c++z=List.replicate n c++c::z:=by
 rw [List.replicate_succ']; simp
theorem agB {u l:Int}{p:Int × Int}{k:Bool}{c:Int} (hp:okP u l p=true) (hq:okP u l (shP p k c)=true) (hc:c=1 ∨ c=-1):∃ A x y B,x ≠ y/\sg (jv u l p)=A++x::y::B/\sg (jv u l (shP p k c))=A++y::x::B:=by
 obtain ⟨p1,p2,p3,p4⟩:=qv hp
 obtain ⟨q1,q2,q3,q4⟩:=qv hq
 rw [zH,zH]
 unfold Zn
 cases k with
 | false=>
  have e1:(shP p false c).1=p.1+c:=by unfold shP; simp
  have e2:(shP p false c).2=p.2:=by unfold shP; simp
  rw [e1] at q1 q2 ⊢
  rw [e2]
  generalize 124::(List.replicate p.2.toNat 111++46::List.replicate (l - p.2).toNat 111)=R
  rcases hc with rfl | rfl
  ·refine ⟨List.replicate (u - (p.1+1)).toNat 111,111,46,List.replicate p.1.toNat 111++R,by decide,?_,?_⟩
   ·rw [show (u - p.1).toNat=(u - (p.1+1)).toNat+1 by omega,afw]
   ·rw [show (p.1+1).toNat=p.1.toNat+1 by omega,List.replicate_succ]; rfl
  ·refine ⟨List.replicate (u - p.1).toNat 111,46,111,List.replicate (p.1+-1).toNat 111++R,by decide,?_,?_⟩
   ·rw [show p.1.toNat=(p.1+-1).toNat+1 by omega,List.replicate_succ]; rfl
   ·rw [show (u - (p.1+-1)).toNat=(u - p.1).toNat+1 by omega,afw]
 | true=>
  have e1:(shP p true c).1=p.1:=by unfold shP; simp
  have e2:(shP p true c).2=p.2+c:=by unfold shP; simp
  rw [e2] at q3 q4 ⊢
  rw [e1]
  have asc:∀ Z:List Nat,List.replicate (u - p.1).toNat 111++46::(List.replicate p.1.toNat 111++124::Z)=(List.replicate (u - p.1).toNat 111++46::(List.replicate p.1.toNat 111++[124]))++Z:=fun Z=>by simp
  rw [asc (List.replicate p.2.toNat 111++46::List.replicate (l - p.2).toNat 111),asc (List.replicate (p.2+c).toNat 111++46::List.replicate (l - (p.2+c)).toNat 111)]
  generalize List.replicate (u - p.1).toNat 111++46::(List.replicate p.1.toNat 111++[124])=R
  rcases hc with rfl | rfl
  ·refine ⟨R++List.replicate p.2.toNat 111,46,111,List.replicate (l - (p.2+1)).toNat 111,by decide,?_,?_⟩
   ·rw [show (l - p.2).toNat=(l - (p.2+1)).toNat+1 by omega,List.replicate_succ,List.append_assoc]
   ·rw [show (p.2+1).toNat=p.2.toNat+1 by omega,afw,List.append_assoc]
  ·refine ⟨R++List.replicate (p.2+-1).toNat 111,111,46,List.replicate (l - p.2).toNat 111,by decide,?_,?_⟩
   ·rw [show p.2.toNat=(p.2+-1).toNat+1 by omega,afw,List.append_assoc]
   ·rw [show (l - (p.2+-1)).toNat=(l - p.2).toNat+1 by omega,List.replicate_succ,List.append_assoc]
theorem alJ {f:RP}{g:PyData->Rho->Option Rho}{ρ ρ':Rho}{d:PyData} (h1:f ρ=some d) (h2:g d ρ=some ρ'):zl f g ρ=some (.nx ρ'):=by
 unfold zl
 rw [h1,zzD,h2]; rfl
theorem aix (ds:LP) (x:PyData):QJ (ds++[x]) none (some (-1))=ds:=by
 unfold QJ
 have e1:HT.sIx (ds++[x]).length 0 none=0:=rfl
 have e2:HT.sIx (ds++[x]).length (ds++[x]).length (some (-1))=ds.length:=by
  rw [List.length_append,List.length_singleton]
  unfold HT.sIx
  simp
  omega
 rw [e1,e2,List.drop_zero,Nat.sub_zero,List.take_left]
section
variable {u e l b:Int}{x0 x2 x3 x4 x5 x6 x7 x8 x9 x10 x12 x13 x14:OP}
theorem aj4 (h:okN u e l b=true) {p:Int × Int} (hp:okP u l p=true) {m:Int}:
  adF.1 [x0,some (jr u e l b),x2,x3,x4,x5,x6,x7,x8,x9,x10,some (.int m),some (.str (jv u l p)),x13,x14]=some (.nx [x0,some (jr u e l b),x2,x3,x4,x5,x6,x7,x8,x9,x10,some (.int (m+p.1+p.2)),some (.str (jv u l p)),some (.str (zf u p)),some (.str (zg l p))]):=by
 obtain ⟨a1,a2,a3,a4,a5,a6,a7,a8,a9,a10⟩:=qo h
 obtain ⟨q1,q2,q3,q4⟩:=qv hp
 have ll:=JL hp
 have l0:abL [.str (jv u l p)]=some (.int (u+l+3)):=by
  rw [len_str (by omega),ll]
  exact congrArg (fun z=>some (PyData.int z)) (by omega)
 have nn:dNe (.int (u+l+3)) (.int (u+l+3))=some (.bool false):=by rw [acL]; simp
 have o1:abL [.str (os p.1)]=some (.int p.1):=by
  rw [len_str (by rw [zA]; omega),zA]
  exact congrArg (fun z=>some (PyData.int z)) (by omega)
 have o2:abL [.str (os p.2)]=some (.int p.2):=by
  rw [len_str (by rw [zA]; omega),zA]
  exact congrArg (fun z=>some (PyData.int z)) (by omega)
 have s1:=agy h hp
 have s2:=agz h hp
 have s3:=agA h hp
 simp only [adF]
 refine (jw (ρ1:=[x0,some (jr u e l b),x2,x3,x4,x5,x6,x7,x8,x9,x10,some (.int m),some (.str (jv u l p)),x13,x14]) (acP (qx (jo (jK rfl l0) (jo (jo (jo rfl rfl (ix0 u e l b)) (jo rfl rfl (ix2 u e l b)) rfl) rfl rfl) nn)))).trans ?_
 refine (jw (ρ1:=[x0,some (jr u e l b),x2,x3,x4,x5,x6,x7,x8,x9,x10,some (.int m),some (.str (jv u l p)),some (.str (zf u p)),some (.str (zg l p))]) (alJ (jo rfl rfl s1) rfl)).trans ?_
 exact (jw (j5 (i:=11) (jo (jo rfl (jK (jH (jo (jo rfl rfl s2) rfl rfl) rfl) o1) rfl) (jK (jH (jo (jo rfl rfl s3) rfl rfl) rfl) o2) rfl))).trans rfl
theorem aj5 (h:okN u e l b=true):∀ (qs:PL) (m:Int) (x12 x13 x14:OP),qs.all (okP u l)=true->∃ y12 y13 y14,jR (jP 12) adF.1 ((qs.map (jv u l)).map .str) [x0,some (jr u e l b),x2,x3,x4,x5,x6,x7,x8,x9,x10,some (.int m),x12,x13,x14]=some (.nx [x0,some (jr u e l b),x2,x3,x4,x5,x6,x7,x8,x9,x10,some (.int (m+bds qs)),y12,y13,y14]):=by
 intro qs
 induction qs with
 | nil=>
  intro m x12 x13 x14 _
  refine ⟨x12,x13,x14,?_⟩
  rw [show m+bds []=m by simp [bds]]; rfl
 | cons q qs ih=>
  intro m x12 x13 x14 hk
  have hq:=List.all_eq_true.mp hk q List.mem_cons_self
  have st:=aj4 h hq (m:=m) (x0:=x0) (x2:=x2) (x3:=x3) (x4:=x4) (x5:=x5) (x6:=x6) (x7:=x7) (x8:=x8) (x9:=x9) (x10:=x10) (x13:=x13) (x14:=x14)
  obtain ⟨y12,y13,y14,l1⟩:=ih (m+q.1+q.2) (some (.str (jv u l q))) (some (.str (zf u q))) (some (.str (zg l q))) (List.all_eq_true.mpr fun y hy=>List.all_eq_true.mp hk y (List.mem_cons_of_mem _ hy))
  refine ⟨y12,y13,y14,?_⟩
  show jR _ _ (.str (jv u l q)::(qs.map (jv u l)).map .str) _=_
  rw [jR]
  simp only [jP,zzF,zzG,zzD,st]
  rw [show m+bds (q::qs)=m+q.1+q.2+bds qs by rw [aid]; unfold bd; omega]
  exact l1
theorem aiy {M ONE SH:PyData}{ls:LP}{n bd':Int}{rows:LP}{y12 y13 y14:OP} (sl:ahz (.list rows) none (some (-1))=some (.list ls))
  (lp:jR (jP 12) adF.1 ls [x0,some M,some ONE,x3,x4,some (.list rows),x6,x7,x8,x9,some SH,some (.int 0),x12,x13,x14]=some (.nx [x0,some M,some ONE,x3,x4,some (.list rows),x6,x7,x8,x9,some SH,some (.int bd'),y12,y13,y14]))
  (ab:Qx [M,SH]=some (.int bd')) (l1:qN [.list rows]=some (.int (n+1))) (l2:qN [ONE]=some (.int n)) {x11:OP}:
  aaS.1 [x0,some M,some ONE,x3,x4,some (.list rows),x6,x7,x8,x9,some SH,x11,x12,x13,x14]=some (.nx [x0,some M,some ONE,x3,x4,some (.list rows),x6,x7,x8,x9,some SH,some (.int bd'),y12,y13,y14]):=by
 have n1:dNe (.int bd') (.int bd')=some (.bool false):=by rw [acL]; simp
 have n2:dNe (.int (n+1)) (.int (n+1))=some (.bool false):=by rw [acL]; simp
 simp only [aaS]
 refine (jw (ρ1:=[x0,some M,some ONE,x3,x4,some (.list rows),x6,x7,x8,x9,some SH,some (.int 0),x12,x13,x14]) (j5 (i:=11) rfl)).trans ?_
 have it:itS (abI (lkp 5) (fun ρ=>(cst (.int 1) ρ).bind afY)) [x0,some M,some ONE,x3,x4,some (.list rows),x6,x7,x8,x9,some SH,some (.int 0),x12,x13,x14]=some ls:=by
  show (ahz (.list rows) none (some (-1))).bind items=_
  rw [sl]; rfl
 refine (jw (acQ it lp)).trans ?_
 exact (jw (acP (afk (qx (jo rfl (jK rfl ab) n1)) (qx (jo (jK rfl l1) (jo (jK rfl l2) rfl rfl) n2))))).trans rfl
theorem adQ (H:zZ=true) (h:okN u e l b=true) {ps qs:PL} (hq:okS u l qs=true) (hl:qs.length=ps.length) {x11:OP}:
  ∃ y11 y12 y13 y14,aaS.1 [x0,some (jr u e l b),some (ju ps),x3,x4,some (.list ((jI u l qs).map .str)),x6,x7,x8,x9,some (ju qs),x11,x12,x13,x14]=some (.nx [x0,some (jr u e l b),some (ju ps),x3,x4,some (.list ((jI u l qs).map .str)),x6,x7,x8,x9,some (ju qs),y11,y12,y13,y14]):=by
 obtain ⟨h1,h4,hk⟩:=zI hq
 obtain ⟨y12,y13,y14,lp⟩:=aj5 h (x0:=x0) (x2:=some (ju ps)) (x3:=x3) (x4:=x4) (x5:=some (.list ((jI u l qs).map .str))) (x6:=x6) (x7:=x7) (x8:=x8) (x9:=x9) (x10:=some (ju qs)) qs 0 x12 x13 x14 hk
 rw [Int.zero_add] at lp
 refine ⟨_,_,_,_,aiy (n:=(ps.length:Int)) ?_ lp (ajP H h hq) ?_ (Qo ps)⟩
 ·show some (PyData.list (QJ ((jI u l qs).map .str) none (some (-1))))=_
  unfold jI
  rw [List.map_append]
  exact congrArg (fun z=>some (PyData.list z)) (aix _ _)
 ·rw [aaX,aa1,hl]; rfl
end
theorem alK {S M A B B0 T0 T1 L0 L1:PyData}{w n:Int}{c:Bool}{cs R3:LP}{ρ':Rho} (mn:JX [S,.int 0]=some M) (st:acB [S,.int 10,M,.int 4]=some A) (la:qN [A]=some (.int n)) (r3:zY [.int n]=some R3) (f3:few R3=true)
  (c3:jF (jP 0) Jw (op2 dIx (jO acB (jj (lkp 1) (jj (op2 JS (cst (.int 20)) (op2 QA (cst (.int 4)) (lkp 0))) (jj (lkp 2) (jj (cst (.int 1)) jD))))) (cst (.int 0))) R3 [none,some S,some M]=some cs) (tp:aaz [.list cs]=some B0) (d40:JW [S,.int 40,.int 2]=some (.int w))
  (w0:dEq (.int w) (.int 0)=some (.bool false)) (bb:B0=B)
  (t0:qk [M,A]=some T0) (t1:qk [M,B]=some T1) (e1:dEq T0 T1=some (.bool c)) (e2:dEq A B=some (.bool c)) (rd:qI [M,T1]=some B) (nb:dNe B B=some (.bool false)) (s0:qe T0 (.str (Str.ofString "\n"))=some L0) (s1:qe T1 (.str (Str.ofString "\n"))=some L1)
  (lp:jR (Z1 2 (j8 (jP 10) (j8 (jP 5) JR))) aaS.1 [.tuple [A,L0],.tuple [B,L1]] [some S,some M,some A,some B,some .none,none,some (.list [T0,T1]),some (.list [L0,L1]),none,none,none,none,none,none,none]=some (.nx ρ')):agd [S]=some (.bool true):=by
 subst bb
 have cb:dNe (.bool c) (.bool c)=some (.bool false):=by cases c <;> rfl
 have it:items (.list [T0,T1])=some [T0,T1]:=rfl
 have c7:jF (jP 0) Jw (op2 qe (lkp 0) (cst (.str (Str.ofString "\n")))) [T0,T1] [none]=some [L0,L1]:=by
  have g0:op2 qe (lkp 0) (cst (.str (Str.ofString "\n"))) [some T0]=some L0:=jo rfl rfl s0
  have g1:op2 qe (lkp 0) (cst (.str (Str.ofString "\n"))) [some T1]=some L1:=jo rfl rfl s1
  simp only [jF,jP,zzG,zzD,Jw,zzM,g0,g1,zzE]
 refine qd rfl ?_
 show agc.1 [some S,none,none,none,none,none,none,none,none,none,none,none,none,none,none]=_
 simp only [agc]
 refine (jw (ρ1:=[some S,some M,none,none,none,none,none,none,none,none,none,none,none,none,none]) (j5 (i:=1) (jK rfl mn))).trans ?_
 refine (jw (ρ1:=[some S,some M,some A,none,none,none,none,none,none,none,none,none,none,none,none]) (j5 (i:=2) (jK rfl st))).trans ?_
 refine (jw (ρ1:=[some S,some M,some A,some B0,none,none,none,none,none,none,none,none,none,none,none]) (j5 (i:=3) (jK (jH (zG (fi:=fun ρ=>(jj (jO qN (jj (lkp 2) jD)) jD ρ).bind zY) (cap:=[none,some 0,some 1]) (ds:=R3) (by show (jj (jO qN (jj (lkp 2) jD)) jD _).bind zY=_; rw [jH (ds:=[]) (jK (ds:=[A]) rfl la) rfl]; exact r3) f3 c3) rfl) tp))).trans ?_
 refine (jw (ρ1:=[some S,some M,some A,some B0,some .none,none,none,none,none,none,none,none,none,none,none]) (j5 (i:=4) rfl)).trans ?_
 refine (jw (ρ1:=[some S,some M,some A,some B0,some .none,none,none,none,none,none,none,none,none,none,none]) (acP (qx (jo (jK rfl d40) rfl w0)))).trans ?_
 refine (jw (ρ1:=[some S,some M,some A,some B0,some .none,none,some (.list [T0,T1]),none,none,none,none,none,none,none,none]) (j5 (i:=6) (aeE (jH (jK rfl t0) (jH (jK rfl t1) rfl)) fw2))).trans ?_
 refine (jw (ρ1:=[some S,some M,some A,some B0,some .none,none,some (.list [T0,T1]),none,none,none,none,none,none,none,none]) (acP (afk (qx (jo (jo (jo rfl rfl rfl) (jo rfl rfl rfl) e1) (jo rfl rfl e2) cb)) (qx (jo (jK (jH rfl (jH (jo rfl rfl rfl) rfl)) rd) rfl nb))))).trans ?_
 refine (jw (ρ1:=[some S,some M,some A,some B0,some .none,none,some (.list [T0,T1]),some (.list [L0,L1]),none,none,none,none,none,none,none]) (j5 (i:=7) (zG (fi:=itS (lkp 6)) (cap:=[none]) (ds:=[T0,T1]) rfl fw2 c7))).trans ?_
 refine (jw (ρ1:=[some S,some M,some A,some B0,some .none,none,some (.list [T0,T1]),some (.list [L0,L1]),none,none,none,none,none,none,none]) (acP (qx (jo rfl rfl rfl)))).trans ?_
 refine (jw (acQ (fi:=fun ρ=>(jj (JQ (jj (lkp 2) (jj (lkp 3) jD))) (jj (lkp 7) jD) ρ).bind aaB) (ds:=[.tuple [A,L0],.tuple [B0,L1]]) (by show (jj (JQ (jj (lkp 2) (jj (lkp 3) jD))) (jj (lkp 7) jD) _).bind aaB=_; rw [jH (ds:=[.list [L0,L1]]) (aio (ds:=[A,B0]) rfl fw2) rfl]; rfl) lp)).trans ?_
 exact ZE rfl
theorem aj6 {S M A B B0 T0 T1 L0 L1 MV X0:PyData}{w w' nm nl r a9 n:Int}{c:Bool}{ms RR U8 EN cs R3:LP}{ρ':Rho} (mn:JX [S,.int 0]=some M) (st:acB [S,.int 10,M,.int 4]=some A) (la:qN [A]=some (.int n)) (r3:zY [.int n]=some R3) (f3:few R3=true)
  (c3:jF (jP 0) Jw (op2 dIx (jO acB (jj (lkp 1) (jj (op2 JS (cst (.int 20)) (op2 QA (cst (.int 4)) (lkp 0))) (jj (lkp 2) (jj (cst (.int 1)) jD))))) (cst (.int 0))) R3 [none,some S,some M]=some cs) (tp:aaz [.list cs]=some B0) (d40:JW [S,.int 40,.int 2]=some (.int w))
  (w0:dEq (.int w) (.int 0)=some (.bool true)) (am:JI [M,A]=some (.list ms)) (lm:qN [.list ms]=some (.int nm)) (d41:JW [S,.int 41,.int nm]=some (.int w')) (im:dIx (.list ms) (.int w')=some MV) (mo:aaR [M,A,MV]=some B) (nn:ajj MV=false)
  (l0:qN [L0]=some (.int nl)) (rn:zY [.int nl]=some RR) (fr:few RR=true) (c8:jF (jP 0) (tst (op2 dNe (op2 dIx (op2 dIx (lkp 1) (cst (.int 0))) (lkp 0)) (op2 dIx (op2 dIx (lkp 1) (cst (.int 1))) (lkp 0)))) (lkp 0) RR [none,some (.list [L0,L1])]=some U8) (i4:dIx MV (.int 0)=some (.int r)) (n8:dNe (.list U8) (.list [.int r])=some (.bool false))
  (il:dIx L0 (.int r)=some X0) (en:aaI [X0]=some EN) (fe:few EN=true) (c9:jF (Z1 2 (j8 (jP 0) (j8 (jP 1) JR))) (tst (op2 dNe (op2 af4 (op2 dIx (op2 dIx (lkp 2) (cst (.int 1))) (op2 dIx (lkp 3) (cst (.int 0)))) (lkp 0)) (lkp 1))) (lkp 0) EN [none,none,some (.list [L0,L1]),some MV]=some [.int a9,.int (a9+1)])
  (t0:qk [M,A]=some T0) (t1:qk [M,B]=some T1) (e1:dEq T0 T1=some (.bool c)) (e2:dEq A B=some (.bool c)) (rd:qI [M,T1]=some B) (nb:dNe B B=some (.bool false)) (s0:qe T0 (.str (Str.ofString "\n"))=some L0) (s1:qe T1 (.str (Str.ofString "\n"))=some L1)
  (lp:jR (Z1 2 (j8 (jP 10) (j8 (jP 5) JR))) aaS.1 [.tuple [A,L0],.tuple [B,L1]] [some S,some M,some A,some B,some MV,some (.list ms),some (.list [T0,T1]),some (.list [L0,L1]),some (.list U8),some (.list [.int a9,.int (a9+1)]),none,none,none,none,none]=some (.nx ρ')):agd [S]=some (.bool true):=by
 have cb:dNe (.bool c) (.bool c)=some (.bool false):=by cases c <;> rfl
 have it:items (.list [T0,T1])=some [T0,T1]:=rfl
 have c7:jF (jP 0) Jw (op2 qe (lkp 0) (cst (.str (Str.ofString "\n")))) [T0,T1] [none]=some [L0,L1]:=by
  have g0:op2 qe (lkp 0) (cst (.str (Str.ofString "\n"))) [some T0]=some L0:=jo rfl rfl s0
  have g1:op2 qe (lkp 0) (cst (.str (Str.ofString "\n"))) [some T1]=some L1:=jo rfl rfl s1
  simp only [jF,jP,zzG,zzD,Jw,zzM,g0,g1,zzE]
 refine qd rfl ?_
 show agc.1 [some S,none,none,none,none,none,none,none,none,none,none,none,none,none,none]=_
 simp only [agc]
 refine (jw (ρ1:=[some S,some M,none,none,none,none,none,none,none,none,none,none,none,none,none]) (j5 (i:=1) (jK rfl mn))).trans ?_
 refine (jw (ρ1:=[some S,some M,some A,none,none,none,none,none,none,none,none,none,none,none,none]) (j5 (i:=2) (jK rfl st))).trans ?_
 refine (jw (ρ1:=[some S,some M,some A,some B0,none,none,none,none,none,none,none,none,none,none,none]) (j5 (i:=3) (jK (jH (zG (fi:=fun ρ=>(jj (jO qN (jj (lkp 2) jD)) jD ρ).bind zY) (cap:=[none,some 0,some 1]) (ds:=R3) (by show (jj (jO qN (jj (lkp 2) jD)) jD _).bind zY=_; rw [jH (ds:=[]) (jK (ds:=[A]) rfl la) rfl]; exact r3) f3 c3) rfl) tp))).trans ?_
 refine (jw (ρ1:=[some S,some M,some A,some B0,some .none,none,none,none,none,none,none,none,none,none,none]) (j5 (i:=4) rfl)).trans ?_
 refine (jw (ρ1:=[some S,some M,some A,some B,some MV,some (.list ms),none,none,none,none,none,none,none,none,none]) ((amN (qx (jo (jK rfl d40) rfl w0))).trans ?_)).trans ?_
 ·refine (jw (ρ1:=[some S,some M,some A,some B0,some .none,some (.list ms),none,none,none,none,none,none,none,none,none]) (j5 (i:=5) (jK rfl am))).trans ?_
  refine (jw (ρ1:=[some S,some M,some A,some B0,some MV,some (.list ms),none,none,none,none,none,none,none,none,none]) (j5 (i:=4) (jo rfl (jK (jH rfl (jH rfl (jH (jK rfl lm) rfl))) d41) im))).trans ?_
  exact (jw (j5 (i:=3) (jK rfl mo))).trans rfl
 refine (jw (ρ1:=[some S,some M,some A,some B,some MV,some (.list ms),some (.list [T0,T1]),none,none,none,none,none,none,none,none]) (j5 (i:=6) (aeE (jH (jK rfl t0) (jH (jK rfl t1) rfl)) fw2))).trans ?_
 refine (jw (ρ1:=[some S,some M,some A,some B,some MV,some (.list ms),some (.list [T0,T1]),none,none,none,none,none,none,none,none]) (acP (afk (qx (jo (jo (jo rfl rfl rfl) (jo rfl rfl rfl) e1) (jo rfl rfl e2) cb)) (qx (jo (jK (jH rfl (jH (jo rfl rfl rfl) rfl)) rd) rfl nb))))).trans ?_
 refine (jw (ρ1:=[some S,some M,some A,some B,some MV,some (.list ms),some (.list [T0,T1]),some (.list [L0,L1]),none,none,none,none,none,none,none]) (j5 (i:=7) (zG (fi:=itS (lkp 6)) (cap:=[none]) (ds:=[T0,T1]) rfl fw2 c7))).trans ?_
 refine (jw (ρ1:=[some S,some M,some A,some B,some MV,some (.list ms),some (.list [T0,T1]),some (.list [L0,L1]),some (.list U8),some (.list [.int a9,.int (a9+1)]),none,none,none,none,none]) ((amN (qx (jo rfl rfl (show ahr MV .none=some (.bool true) by show some (PyData.bool (!ajj MV))=_; rw [nn]; rfl)))).trans ?_)).trans ?_
 ·refine (jw (ρ1:=[some S,some M,some A,some B,some MV,some (.list ms),some (.list [T0,T1]),some (.list [L0,L1]),some (.list U8),none,none,none,none,none,none]) (j5 (i:=8) (zG (fi:=fun ρ=>(jj (jO qN (jj (op2 dIx (lkp 7) (cst (.int 0))) jD)) jD ρ).bind zY) (cap:=[none,some 7]) (ds:=RR) (by show (jj (jO qN (jj (op2 dIx (lkp 7) (cst (.int 0))) jD)) jD _).bind zY=_; rw [jH (ds:=[]) (jK (ds:=[L0]) (jH (jo rfl rfl rfl) rfl) l0) rfl]; exact rn) fr c8))).trans ?_
  refine (jw (ρ1:=[some S,some M,some A,some B,some MV,some (.list ms),some (.list [T0,T1]),some (.list [L0,L1]),some (.list U8),none,none,none,none,none,none]) (acP (qx (jo rfl (aeE (jH (jo rfl rfl i4) rfl) fw1) n8)))).trans ?_
  refine (jw (ρ1:=[some S,some M,some A,some B,some MV,some (.list ms),some (.list [T0,T1]),some (.list [L0,L1]),some (.list U8),some (.list [.int a9,.int (a9+1)]),none,none,none,none,none]) (j5 (i:=9) (zG (fi:=fun ρ=>(jj (op2 dIx (op2 dIx (lkp 7) (cst (.int 0))) (op2 dIx (lkp 4) (cst (.int 0)))) jD ρ).bind aaI) (cap:=[none,none,some 7,some 4]) (ds:=EN) (by show (jj (op2 dIx (op2 dIx (lkp 7) (cst (.int 0))) (op2 dIx (lkp 4) (cst (.int 0)))) jD _).bind aaI=_; rw [jH (ds:=[]) (jo (jo rfl rfl rfl) (jo rfl rfl i4) il) rfl]; exact en) fe c9))).trans ?_
  exact (jw (acP (afk (qx (jo (jK rfl rfl) rfl rfl)) (qx (jo (jo rfl rfl rfl) (jo (jo rfl rfl rfl) rfl rfl) (show dNe (.int (a9+1)) (.int (a9+1))=some (.bool false) by rw [acL]; simp)))))).trans rfl
 refine (jw (acQ (fi:=fun ρ=>(jj (JQ (jj (lkp 2) (jj (lkp 3) jD))) (jj (lkp 7) jD) ρ).bind aaB) (ds:=[.tuple [A,L0],.tuple [B,L1]]) (by show (jj (JQ (jj (lkp 2) (jj (lkp 3) jD))) (jj (lkp 7) jD) _).bind aaB=_; rw [jH (ds:=[.list [L0,L1]]) (aio (ds:=[A,B]) rfl fw2) rfl]; rfl) lp)).trans ?_
 exact ZE rfl
noncomputable def aj7 (r:Nat):PyData->Bool
 | .int k=>decide (k=(r:Int))
 | _=>false
theorem adR (r:Nat):∀ n:Nat,(List.range n).filter (fun k=>decide (k=r))=if r<n then [r] else []
 | 0=>rfl
 | n+1=>by
  rw [List.range_succ,List.filter_append,adR r n]
  by_cases h:r<n
  ·rw [if_pos h,if_pos (by omega),List.filter_cons_of_neg (by simp; omega)]; rfl
  ·rw [if_neg h]
   by_cases h2:n=r
   ·rw [if_pos (by omega),List.filter_cons_of_pos (by simpa using h2)]; simp [h2]
   ·rw [if_neg (by omega),List.filter_cons_of_neg (by simpa using h2)]; rfl
theorem alL {r n:Nat} (h:r<n):((qM 0 n).filter (aj7 r)).map id=[PyData.int (r:Int)]:=by
 have e:qM 0 n=(List.range n).map fun (k:Nat)=>PyData.int (k:Int):=by
  refine List.ext_getElem? fun i=>?_
  cases hi:(qM 0 n)[i]? with
  | none=>
   have hl:=List.getElem?_eq_none_iff.mp hi
   rw [JK] at hl
   symm
   rw [List.getElem?_eq_none_iff,List.length_map,List.length_range]
   exact hl
  | some d=>
   obtain ⟨h1,rfl⟩:=JJ hi
   rw [List.getElem?_map,List.getElem?_range h1]; rfl
 rw [e,List.filter_map,List.map_id]
 have:(aj7 r ∘ fun (k:Nat)=>PyData.int (k:Int))=fun k=>decide (k=r):=by
  funext k
  show decide ((k:Int)=(r:Int))=_
  rw [decide_eq_decide]; omega
 rw [this,adR r n,if_pos h]; rfl
section
variable {u e l b:Int}
theorem zJ {ps:PL}{k:Nat}{p:Int × Int} (h:ps[k]?=some p):(jI u l ps)[k]?=some (jv u l p):=by
 obtain ⟨hk,he⟩:=List.getElem?_eq_some_iff.mp h
 unfold jI
 rw [List.getElem?_append_left (by rw [List.length_map]; exact hk),List.getElem?_map,h]; rfl
theorem aa2 (ps:PL):(jI u l ps)[ps.length]?=some Str.empty:=by
 unfold jI
 rw [List.getElem?_append_right (by rw [List.length_map]; exact Nat.le_refl _),List.length_map,Nat.sub_self]; rfl
theorem alM {p:Int × Int}{k:Bool}{c:Int} (hc:c=1 ∨ c=-1):p ≠ shP p k c:=fun z=>by
 have h1:=congrArg Prod.fst z
 have h2:=congrArg Prod.snd z
 unfold shP at h1 h2
 cases k <;> simp at h1 h2 <;> omega
theorem aj8 {ps:PL}{r:Nat}{p q:Int × Int} (hs:okS u l ps=true) (hq:okP u l q=true) (hr:ps[r]?=some p) (hne:p ≠ q):
  jF (jP 0) (tst (op2 dNe (op2 dIx (op2 dIx (lkp 1) (cst (.int 0))) (lkp 0)) (op2 dIx (op2 dIx (lkp 1) (cst (.int 1))) (lkp 0)))) (lkp 0) (qM 0 (ps.length+1)) [none,some (.list [.list ((jI u l ps).map .str),.list ((jI u l (ps.set r q)).map .str)])]=some [.int (r:Int)]:=by
 obtain ⟨h1,h4,hk⟩:=zI hs
 obtain ⟨hrl,hre⟩:=List.getElem?_eq_some_iff.mp hr
 have hp:okP u l p=true:=List.all_eq_true.mp hk p (List.mem_of_getElem? hr)
 have key:∀ k:Nat,k<ps.length+1->∃ x y,(jI u l ps)[k]?=some x/\(jI u l (ps.set r q))[k]?=some y/\(x=y ↔ ¬ k=r):=fun k hlt=>by
  by_cases hlast:k=ps.length
  ·subst hlast
   have:=aa2 (u:=u) (l:=l) (ps.set r q)
   rw [List.length_set] at this
   exact ⟨_,_,aa2 ps,this,⟨fun _=>by omega,fun _=>rfl⟩⟩
  ·have hk1:k<ps.length:=by omega
   have g1:ps[k]?=some ps[k]:=List.getElem?_eq_getElem hk1
   by_cases hkr:k=r
   ·subst hkr
    have g2:(ps.set k q)[k]?=some q:=List.getElem?_set_self hk1
    rw [hr] at g1
    refine ⟨_,_,zJ hr,zJ g2,⟨fun z=>absurd (adK hp hq z) hne,fun z=>absurd rfl z⟩⟩
   ·have g2:(ps.set r q)[k]?=some ps[k]:=by rw [List.getElem?_set_ne (fun z=>hkr z.symm)]; exact g1
    exact ⟨_,_,zJ g1,zJ g2,⟨fun _=>hkr,fun _=>rfl⟩⟩
 rw [←alL (show r<ps.length+1 by omega)]
 refine QX (i:=0) (aj7 r) id (qM 0 (ps.length+1)) _ (fun d hd=>?_) (fun d hd _=>?_)
 ·obtain ⟨i,hi,e⟩:=List.getElem_of_mem hd
  have hg:(qM 0 (ps.length+1))[i]?=some d:=by rw [List.getElem?_eq_getElem hi,e]
  obtain ⟨hlt,rfl⟩:=JJ hg
  obtain ⟨x,y,k1,k2,k3⟩:=key i hlt
  have lx:∀ c ∈ sg x,c<1114112:=ab2 x (List.mem_of_getElem? k1)
  have ly:∀ c ∈ sg y,c<1114112:=ab2 y (List.mem_of_getElem? k2)
  have i1:=aak k1 (by rw [JM]; omega)
  have i2:=aak k2 (by rw [JM,List.length_set]; omega)
  have ne:=aiu lx ly
  have:(!decide (x=y))=aj7 r (.int (i:Int)):=by
   show _=decide ((i:Int)=(r:Int))
   by_cases z:i=r
   ·rw [decide_eq_true (show (i:Int)=(r:Int) by omega),decide_eq_false (fun w=>k3.mp w z)]; rfl
   ·rw [decide_eq_false (show ¬ (i:Int)=(r:Int) by omega),decide_eq_true (k3.mpr z)]; rfl
  rw [←this]
  generalize PyData.list ((jI u l ps).map .str)=L0 at*
  generalize PyData.list ((jI u l (ps.set r q)).map .str)=L1 at*
  exact qx (jo (jo (jo rfl rfl rfl) rfl i1) (jo (jo rfl rfl rfl) rfl i2) ne)
 ·rfl
theorem aiz {p:Int × Int}:aaH (jv u l p)=true:=by
 unfold aaH
 rw [←Array.all_toList]
 refine List.all_eq_true.mpr fun c hc=>decide_eq_true ?_
 have hc:c ∈ sg (jv u l p):=hc
 rw [zH] at hc
 unfold Zn at hc
 simp only [List.mem_append,List.mem_cons,List.mem_replicate] at hc
 omega
theorem adS (H:zZ=true) (h:okN u e l b=true) {ps qs:PL} (hs:okS u l ps=true) (hq:okS u l qs=true) (hl:qs.length=ps.length) {x0 x4 x5 x6 x7 x8 x9:OP}:
  ∃ ρ',jR (Z1 2 (j8 (jP 10) (j8 (jP 5) JR))) aaS.1 [.tuple [ju ps,.list ((jI u l ps).map .str)],.tuple [ju qs,.list ((jI u l qs).map .str)]] [x0,some (jr u e l b),some (ju ps),some (ju qs),x4,x5,x6,x7,x8,x9,none,none,none,none,none]=some (.nx ρ'):=by
 obtain ⟨y11,y12,y13,y14,t0⟩:=adQ H h (ps:=ps) hs rfl (x0:=x0) (x3:=some (ju qs)) (x4:=x4) (x6:=x6) (x7:=x7) (x8:=x8) (x9:=x9) (x11:=none) (x12:=none) (x13:=none) (x14:=none)
 obtain ⟨z11,z12,z13,z14,t1⟩:=adQ H h (ps:=ps) hq hl (x0:=x0) (x3:=some (ju qs)) (x4:=x4) (x6:=x6) (x7:=x7) (x8:=x8) (x9:=x9) (x11:=y11) (x12:=y12) (x13:=y13) (x14:=y14)
 generalize PyData.list ((jI u l ps).map .str)=L0 at*
 generalize PyData.list ((jI u l qs).map .str)=L1 at*
 refine ⟨[x0,some (jr u e l b),some (ju ps),some (ju qs),x4,some L1,x6,x7,x8,x9,some (ju qs),z11,z12,z13,z14],?_⟩
 simp only [jR,Z1,j8,JR,jP,List.length_cons,List.length_nil,zzM,zzD,zzF,zzG,t0,t1]
end
theorem agC (H:zZ=true) (ns:List Int) (hn:ns.length<1000000):agd [scr ns]=some (.bool true):=by
 obtain ⟨u,e,l,b,mn,hm⟩:=aex ns hn 0 (Int.le_refl _)
 have h:=ajN hm
 obtain ⟨ps,st,hs⟩:=ajS hn h (at_:=10) (by omega)
 obtain ⟨a1,a2,a3,a4,a5,a6,a7,a8,a9,a10⟩:=qo h
 obtain ⟨h1,h4,hk⟩:=zI hs
 have hlen:(qM 0 ps.length).length=ps.length:=JK _
 have hnat:∀ d ∈ qM 0 ps.length,∃ k:Nat,d= .int (k:Int):=fun d hd=>by
  obtain ⟨i,hi,e'⟩:=List.getElem_of_mem hd
  have:(qM 0 ps.length)[i]?=some d:=by rw [List.getElem?_eq_getElem hi,e']
  exact ⟨i,(JJ this).2⟩
 obtain ⟨qs,c3,ql,qp⟩:=amM hn h (qM 0 ps.length) hnat none
 rw [hlen] at ql
 have hq:okS u l qs=true:=acJ (by omega) (by omega) qp
 obtain ⟨w,d40,w0,w1⟩:=qi ns hn 40 2 (by omega) (by omega)
 have dw:=ajQ w 0
 have f3:few (qM 0 ps.length)=true:=qU (by rw [hlen]; omega)
 have tx:∀ {q:PL},okS u l q=true->dEq (.str (jZ u l ps)) (.str (jZ u l q))=some (.bool (decide (ps=q))):=fun {q} hq=>by
  rw [alH adO adO]
  have:decide (jZ u l ps=jZ u l q)=decide (ps=q):=decide_eq_decide.mpr ⟨fun z=>aiv H h hs hq z,fun z=>by rw [z]⟩
  rw [this]
 by_cases hw:w=0
 ·rw [decide_eq_true hw] at dw
  have mne:=ajX h hs
  have mlen:=aaW (jr u e l b) (ju ps) ps.length
  obtain ⟨w',d41,w0',w1'⟩:=qi ns hn 41 ((Zm (jr u e l b) (ju ps) ps.length).length:Int) (by omega) (by omega)
  obtain ⟨MV,im,mm⟩:=alF (ds:=Zm (jr u e l b) (ju ps) ps.length) w0' w1' (by omega)
  obtain ⟨r,k,c,p,p1,p2,ho,rfl⟩:=(agn hs).mp mm
  have th:=ZU (e:=e) (b:=b) hs p1 k p2
  rw [if_pos ho] at th
  have oq:=(th.bm _ rfl).2
  have mo:=ail H h hs th
  obtain ⟨hr,hre⟩:=List.getElem?_eq_some_iff.mp p1
  have hp:okP u l p=true:=List.all_eq_true.mp hk p (List.mem_of_getElem? p1)
  have c8:=aj8 hs ho p1 (alM (k:=k) p2)
  obtain ⟨A,x,y,B,hxy,e1,e2⟩:=agB hp ho p2
  have ll:=JL hp
  have ll2:=JL ho
  have g1:(jI u l ps)[r]?=some (jv u l p):=zJ p1
  have g2:(jI u l (ps.set r (shP p k c)))[r]?=some (jv u l (shP p k c)):=zJ (List.getElem?_set_self hr)
  have i0:=aak g1 (by rw [JM]; omega)
  have i1:=aak g2 (by rw [JM,List.length_set]; omega)
  have i4:dIx (mv (r:Int) k c) (.int 0)=some (.int (r:Int)):=rfl
  have c9:=ab3 (LN:= .list [.list ((jI u l ps).map .str),.list ((jI u l (ps.set r (shP p k c))).map .str)]) (L1:= .list ((jI u l (ps.set r (shP p k c))).map .str)) rfl i4 i1 (by omega) Zo (sg (jv u l p)) 0 (sg (jv u l (shP p k c))) none none (by rw [←Jq,←Jq,ll,ll2]) Zo (List.drop_zero)
  rw [e1,e2,afu hxy B A 0,←e1,Nat.zero_add] at c9
  obtain ⟨ρ',lp⟩:=adS H h hs oq (by rw [List.length_set]) (x0:=some (scr ns)) (x4:=some (mv (r:Int) k c)) (x5:=some (.list (Zm (jr u e l b) (ju ps) ps.length))) (x6:=some (.list [.str (jZ u l ps),.str (jZ u l (ps.set r (shP p k c)))])) (x7:=some (.list [.list ((jI u l ps).map .str),.list ((jI u l (ps.set r (shP p k c))).map .str)])) (x8:=some (.list [.int (r:Int)])) (x9:=some (.list [.int (A.length:Int),.int ((A.length:Int)+1)]))
  have ln:=aa1 (u:=u) (l:=l) ps
  have en:aaI [.str (jv u l p)]=some (JA 0 ((sg (jv u l p)).map mkS)):=by
   show (if aaH (jv u l p)=true then some (JA 0 (Qi (jv u l p))) else none)=_
   rw [if_pos aiz]; rfl
  have fe:few (JA 0 ((sg (jv u l p)).map mkS))=true:=qU (by rw [Zv,List.length_map,←Jq,ll]; omega)
  refine aj6 mn st (Qo ps) (aez (by omega)) f3 c3 (B0:=ju qs) rfl d40 dw (acO H h hs) (aaX _) d41 im mo rfl (nl:=((ps.length+1:Nat):Int)) (by rw [aaX,ln]) (aez (by omega)) (qU (by rw [JK]; omega)) c8 i4 ?_ i0 en fe c9 (qV H h hs) (qV H h oq) (tx oq) (afd _ _) (qW H h oq) (by rw [afe]; simp) (JZ h hs) (JZ h oq) lp
  rw [show dNe (.list [.int (r:Int)]) (.list [.int (r:Int)])=some (.bool (!decide (([(r:Int)]:List Int)=[(r:Int)]))) from aic [(r:Int)] [(r:Int)]]
  simp
 ·rw [decide_eq_false hw] at dw
  obtain ⟨ρ',lp⟩:=adS H h hs hq ql (x0:=some (scr ns)) (x4:=some .none) (x5:=none) (x6:=some (.list [.str (jZ u l ps),.str (jZ u l qs)])) (x7:=some (.list [.list ((jI u l ps).map .str),.list ((jI u l qs).map .str)])) (x8:=none) (x9:=none)
  exact alK mn st (Qo ps) (aez (by omega)) f3 c3 (B0:=ju qs) rfl d40 dw rfl (qV H h hs) (qV H h hq) (tx hq) (afd _ _) (qW H h hq) (by rw [afe]; simp) (JZ h hs) (JZ h hq) lp
end Rods
end
section
namespace BX
open PySem L2
open PyProof.Rows hiding St
end BX
namespace Rods
open PySem L2 BX
open PyProof.Rows hiding St
structure Tops (K:Fg):Prop where
 isWhole:j4 K "is_whole" Q9
 rodWorth:j4 K "rod_worth" Qt
 beads:j4 K "beads" acv
 allRods:j4 K "all_rods" Za
 hasAll:j4 K "has_all_digits" Qu
 isManner:j4 K "is_manner" Qv
 check:j4 K "check_manner" aaK
 isRod:j4 K "is_rod" acy
 isSet:j4 K "is_setting" zn
 chkSet:j4 K "check_setting" qS
 allBeads:j4 K "all_beads" JF
 cell:j4 K "_law_cell" afa
 drawn:j4 K "_law_drawn" acz
 manner:j4 K "_law_manner" aab
 setting:j4 K "_law_setting" JG
 RodText:j4 K "rod_text" Zd
 SettingText:j4 K "setting_text" zc
 RodsByLine:j4 K "rods_by_line" qZ
 CheckEnded:j4 K "check_ended" Jf
 ReadSetting:j4 K "read_setting" qH
 NamesBeads:j4 K "names_beads" Ji
 Pushed:j4 K "pushed" aad
 CanMove:j4 K "can_move" Zg
 BehindMove:j4 K "behind_move" Jk
 Moved:j4 K "moved" acD
 AllMoves:j4 K "all_moves" qu
 law:j4 K "law" Z2
structure Consts (K:Fg) (mg:SV):Prop where
 b:Bare mg
 least:GC K mg "LEAST_PARTS" (.tuple [.int 0,.int 1,.int 0,.int 2])
 most:GC K mg "MOST_PARTS" (.tuple [.int 3,.int 16,.int 12,.int 16])
 mostRods:GC K mg "MOST_RODS" (.int 4)
 decks:GC K mg "DECKS" (.tuple [.str "upper",.str "lower"])
 ways:GC K mg "WAYS" (.tuple [.int 1,.int (-1)])
theorem aeH:jx "is_whole" Q9 ["thing","least","most"]:=fun _ _ _ _ _ _ us hl=>by obtain ⟨v0,v1,v2,rfl⟩:=afF us hl; rfl
theorem adT:jx "rod_worth" Qt ["manner","rod"]:=fun _ _ _ _ _ _ us hl=>by obtain ⟨v0,v1,rfl⟩:=QP us hl; rfl
theorem aiA:jx "beads" acv ["rod"]:=fun _ _ _ _ _ _ us hl=>by obtain ⟨v0,rfl⟩:=ac0 us hl; rfl
theorem aeI:jx "all_rods" Za ["manner"]:=fun _ _ _ _ _ _ us hl=>by obtain ⟨v0,rfl⟩:=ac0 us hl; rfl
theorem agD:jx "has_all_digits" Qu ["manner"]:=fun _ _ _ _ _ _ us hl=>by obtain ⟨v0,rfl⟩:=ac0 us hl; rfl
theorem adU:jx "is_manner" Qv ["thing"]:=fun _ _ _ _ _ _ us hl=>by obtain ⟨v0,rfl⟩:=ac0 us hl; rfl
theorem aiB:jx "check_manner" aaK ["thing"]:=fun _ _ _ _ _ _ us hl=>by obtain ⟨v0,rfl⟩:=ac0 us hl; rfl
theorem aiC:jx "is_rod" acy ["manner","thing"]:=fun _ _ _ _ _ _ us hl=>by obtain ⟨v0,v1,rfl⟩:=QP us hl; rfl
theorem aiD:jx "is_setting" zn ["manner","thing"]:=fun _ _ _ _ _ _ us hl=>by obtain ⟨v0,v1,rfl⟩:=QP us hl; rfl
theorem agE:jx "check_setting" qS ["manner","thing"]:=fun _ _ _ _ _ _ us hl=>by obtain ⟨v0,v1,rfl⟩:=QP us hl; rfl
theorem adV:jx "all_beads" JF ["manner","setting"]:=fun _ _ _ _ _ _ us hl=>by obtain ⟨v0,v1,rfl⟩:=QP us hl; rfl
theorem aj9:jx "_law_cell" afa ["_law_script","_law_k"]:=fun _ _ _ _ _ _ us hl=>by obtain ⟨v0,v1,rfl⟩:=QP us hl; rfl
theorem aiE:jx "_law_drawn" acz ["_law_script","_law_k","_law_many"]:=fun _ _ _ _ _ _ us hl=>by obtain ⟨v0,v1,v2,rfl⟩:=afF us hl; rfl
theorem agF:jx "_law_manner" aab ["_law_script","_law_at"]:=fun _ _ _ _ _ _ us hl=>by obtain ⟨v0,v1,rfl⟩:=QP us hl; rfl
theorem aeJ:jx "_law_setting" JG ["_law_script","_law_at","_law_manner_here","_law_most"]:=fun _ _ _ _ _ _ us hl=>by obtain ⟨v0,v1,v2,v3,rfl⟩:=am4 us hl; rfl
theorem aeK:jx "rod_text" Zd ["manner","rod"]:=fun _ _ _ _ _ _ us hl=>by obtain ⟨v0,v1,rfl⟩:=QP us hl; rfl
theorem aa3:jx "setting_text" zc ["manner","setting"]:=fun _ _ _ _ _ _ us hl=>by obtain ⟨v0,v1,rfl⟩:=QP us hl; rfl
theorem abh:jx "rods_by_line" qZ ["manner"]:=fun _ _ _ _ _ _ us hl=>by obtain ⟨v0,rfl⟩:=ac0 us hl; rfl
theorem abi:jx "check_ended" Jf ["text"]:=fun _ _ _ _ _ _ us hl=>by obtain ⟨v0,rfl⟩:=ac0 us hl; rfl
theorem aa4:jx "read_setting" qH ["manner","text"]:=fun _ _ _ _ _ _ us hl=>by obtain ⟨v0,v1,rfl⟩:=QP us hl; rfl
theorem abj:jx "names_beads" Ji ["setting","thing"]:=fun _ _ _ _ _ _ us hl=>by obtain ⟨v0,v1,rfl⟩:=QP us hl; rfl
theorem agG:jx "pushed" aad ["rod","deck","by"]:=fun _ _ _ _ _ _ us hl=>by obtain ⟨v0,v1,v2,rfl⟩:=afF us hl; rfl
theorem aeL:jx "can_move" Zg ["manner","setting","thing"]:=fun _ _ _ _ _ _ us hl=>by obtain ⟨v0,v1,v2,rfl⟩:=afF us hl; rfl
theorem abk:jx "behind_move" Jk ["setting","move"]:=fun _ _ _ _ _ _ us hl=>by obtain ⟨v0,v1,rfl⟩:=QP us hl; rfl
theorem aiF:jx "moved" acD ["manner","setting","move"]:=fun _ _ _ _ _ _ us hl=>by obtain ⟨v0,v1,v2,rfl⟩:=afF us hl; rfl
theorem adW:jx "all_moves" qu ["manner","setting"]:=fun _ _ _ _ _ _ us hl=>by obtain ⟨v0,v1,rfl⟩:=QP us hl; rfl
theorem anz (HT:zZ=true) {P:Program}{w:World}{K:Fg}{h:Heap}{mg:SV}{base:Heap} (X:K.In h) (G:h.Ns mainGlobals mg) (T:Tops K) (C:Consts K mg):CLaw P w K mg base:=by
 have c_isWhole:jq P w K mg base "is_whole" ["thing","least","most"] 1 3 jV:=T.isWhole.callee X G aeH fun f fd F=>jN F aep fun Kc A Ko s H E hr=>Zb.2 P w K mg base f Kc A Ko s H E C.b hr
 have c_rodWorth:jq P w K mg base "rod_worth" ["manner","rod"] 1 2 JD:=T.rodWorth.callee X G adT fun f fd F=>jN F adx fun Kc A Ko s H E hr=>Zx.2 P w K mg base f Kc A Ko s H E trivial hr
 have c_beads:jq P w K mg base "beads" ["rod"] 1 1 acw:=T.beads.callee X G aiA fun f fd F=>jN F ahU fun Kc A Ko s H E hr=>aeq.2 P w K mg base f Kc A Ko s H E trivial hr
 have c_allRods:jq P w K mg base "all_rods" ["manner"] 1 1 qC:=T.allRods.callee X G aeI fun f fd F=>aer F C.b
 have c_hasAll:jq P w K mg base "has_all_digits" ["manner"] 2 1 Zc:=T.hasAll.callee X G agD fun f fd F=>jN F abR fun Kc A Ko s H E hr=>acx.2 P w K mg base f Kc A Ko s H E ⟨C.b,c_allRods,c_rodWorth⟩ hr
 have c_isManner:jq P w K mg base "is_manner" ["thing"] 3 1 qt:=T.isManner.callee X G adU fun f fd F=>jN F Jb fun Kc A Ko s H E hr=>Zy.2 P w K mg base f Kc A Ko s H E ⟨C.b,C.least,C.most,c_isWhole,c_hasAll⟩ hr
 have c_check:jq P w K mg base "check_manner" ["thing"] 4 1 Qj:=T.check.callee X G aiB fun f fd F=>jN F ahV fun Kc A Ko s H E hr=>aes.2 P w K mg base f Kc A Ko s H E ⟨c_isManner⟩ hr
 have c_isRod:jq P w K mg base "is_rod" ["manner","thing"] 2 2 Js:=T.isRod.callee X G aiC fun f fd F=>jN F ahY fun Kc A Ko s H E hr=>Zz.2 P w K mg base f Kc A Ko s H E ⟨C.b,c_isWhole⟩ hr
 have c_isSet:jq P w K mg base "is_setting" ["manner","thing"] 5 2 aaL:=T.isSet.callee X G aiD fun f fd F=>jN F ahZ fun Kc A Ko s H E hr=>ZA.2 P w K mg base f Kc A Ko s H E ⟨C.b,c_check,c_isRod,C.mostRods⟩ hr
 have c_chkSet:jq P w K mg base "check_setting" ["manner","thing"] 6 2 qG:=T.chkSet.callee X G agE fun f fd F=>jN F af9 fun Kc A Ko s H E hr=>aaa.2 P w K mg base f Kc A Ko s H E ⟨c_isSet⟩ hr
 have c_allBeads:jq P w K mg base "all_beads" ["manner","setting"] 7 2 Qx:=T.allBeads.callee X G adV fun f fd F=>jN F adB fun Kc A Ko s H E hr=>Qw.2 P w K mg base f Kc A Ko s H E ⟨C.b,c_chkSet,c_beads⟩ hr
 have c_cell:jq P w K mg base "_law_cell" ["_law_script","_law_k"] 1 2 adC:=T.cell.callee X G aj9 fun f fd F=>jN F ajK fun Kc A Ko s H E hr=>afb.2 P w K mg base f Kc A Ko s H E C.b hr
 have c_drawn:jq P w K mg base "_law_drawn" ["_law_script","_law_k","_law_many"] 2 3 JW:=T.drawn.callee X G aiE fun f fd F=>jN F aaM fun Kc A Ko s H E hr=>aet.2 P w K mg base f Kc A Ko s H E ⟨c_cell⟩ hr
 have c_manner:jq P w K mg base "_law_manner" ["_law_script","_law_at"] 3 2 JX:=T.manner.callee X G agF fun f fd F=>jN F zo fun Kc A Ko s H E hr=>aac.2 P w K mg base f Kc A Ko s H E ⟨C.b,c_drawn⟩ hr
 have c_setting:jq P w K mg base "_law_setting" ["_law_script","_law_at","_law_manner_here","_law_most"] 3 4 acB:=T.setting.callee X G aeJ fun f fd F=>jN F ZD fun Kc A Ko s H E hr=>aga.2 P w K mg base f Kc A Ko s H E ⟨C.b,c_drawn⟩ hr
 have c_RodText:jq P w K mg base "rod_text" ["manner","rod"] 1 2 JH:=T.RodText.callee X G aeK fun f fd F=>jN F aeu fun Kc A Ko s H E hr=>Ze.2 P w K mg base f Kc A Ko s H E ⟨trivial⟩ hr
 have c_SettingText:jq P w K mg base "setting_text" ["manner","setting"] 7 2 qk:=T.SettingText.callee X G aa3 fun f fd F=>jN F aaP fun Kc A Ko s H E hr=>zE.2 P w K mg base f Kc A Ko s H E ⟨c_chkSet,c_RodText⟩ hr
 have c_RodsByLine:jq P w K mg base "rods_by_line" ["manner"] 2 1 zx:=T.RodsByLine.callee X G abh fun f fd F=>jN F Jt fun Kc A Ko s H E hr=>Je.2 P w K mg base f Kc A Ko s H E ⟨c_allRods,c_RodText⟩ hr
 have c_CheckEnded:jq P w K mg base "check_ended" ["text"] 1 1 Jh:=T.CheckEnded.callee X G abi fun f fd F=>jN F abd fun Kc A Ko s H E hr=>Jg.2 P w K mg base f Kc A Ko s H E ⟨C.b⟩ hr
 have c_ReadSetting:jq P w K mg base "read_setting" ["manner","text"] 5 2 qI:=T.ReadSetting.callee X G aa4 fun f fd F=>jN F zV fun Kc A Ko s H E hr=>zF.2 P w K mg base f Kc A Ko s H E ⟨C.b,c_check,c_CheckEnded,c_RodsByLine,C.mostRods⟩ hr
 have c_NamesBeads:jq P w K mg base "names_beads" ["setting","thing"] 2 2 Jj:=T.NamesBeads.callee X G abj fun f fd F=>jN F abe fun Kc A Ko s H E hr=>qD.2 P w K mg base f Kc A Ko s H E ⟨C.b,c_isWhole,C.decks⟩ hr
 have c_Pushed:jq P w K mg base "pushed" ["rod","deck","by"] 1 3 aae:=T.Pushed.callee X G agG fun f fd F=>jN F agb fun Kc A Ko s H E hr=>Zf.2 P w K mg base f Kc A Ko s H E ⟨trivial⟩ hr
 have c_CanMove:jq P w K mg base "can_move" ["manner","setting","thing"] 3 3 zW:=T.CanMove.callee X G aeL fun f fd F=>jN F aev fun Kc A Ko s H E hr=>Zh.2 P w K mg base f Kc A Ko s H E ⟨c_NamesBeads,c_isRod,c_Pushed⟩ hr
 have c_BehindMove:jq P w K mg base "behind_move" ["setting","move"] 2 2 Jm:=T.BehindMove.callee X G abk fun f fd F=>jN F QE fun Kc A Ko s H E hr=>Jl.2 P w K mg base f Kc A Ko s H E ⟨c_Pushed⟩ hr
 have c_Moved:jq P w K mg base "moved" ["manner","setting","move"] 7 3 aaR:=T.Moved.callee X G aiF fun f fd F=>jN F ah2 fun Kc A Ko s H E hr=>acE.2 P w K mg base f Kc A Ko s H E ⟨c_chkSet,c_CanMove,c_BehindMove⟩ hr
 have c_AllMoves:jq P w K mg base "all_moves" ["manner","setting"] 7 2 JI:=T.AllMoves.callee X G adW fun f fd F=>jN F zy fun Kc A Ko s H E hr=>Qy.2 P w K mg base f Kc A Ko s H E ⟨C.b,c_chkSet,c_CanMove,C.decks,C.ways⟩ hr
 exact ⟨C.b,c_manner,c_setting,c_drawn,c_AllMoves,c_Moved,c_SettingText,c_ReadSetting,c_allBeads⟩
theorem alN (HT:zZ=true) {P:Program}{w:World}{K:Fg}{h:Heap}{mg:SV}{fa:Addr} (X:K.In h) (G:h.Ns mainGlobals mg) (hfa:mg "law"=some (.ref fa)) (T:Tops K) (C:Consts K mg):
  ∃ fd:FuncData,(∀ (s:Shared) (v:Value),BindsTo s fd ⟨[v],[]⟩ [("_law_script",v)])/\∀ base:Heap,K.In base->base.Ns mainGlobals mg->FnOk P w K mg base CX0 8 fa fd ["_law_script"] (Pur K 1 agd):=by
 have Q:∀ base:Heap,CLaw P w K mg base:=fun base=>anz HT X G T C
 obtain ⟨f,oc,od,an,kV,doc,pm,Kc,ct,osl,a,l,c,kp⟩:=T.law
 have e:=hfa.symm.trans (PySem.W.mg_of X G a)
 cases e
 have F1:=ad8 (st:=Z2) l c kp
 exact ⟨_,fun s v=> .of_eq rfl,fun base _ _=>jN F1 qm fun Kc A Ko s H E hr=>agc.2 P w K mg base fa Kc A Ko s H E (Q base) hr⟩
theorem amO (HT:zZ=true) (K:Fg) (H:Hp) (a:Addr) (ns:List Int) (hl:ns.length<=63) (hS:SqL K H a (ns.map V.int)):Pur K 1 agd [.ref a] H (fun v _=>v= .bl true) fun _ _ _=>False:=
 ⟨[scr ns],.bool true,rfl,⟨_,_,rfl,⟨a,rfl,.inl ⟨ns,hS,rfl⟩⟩,rfl⟩,agC HT ns (by omega),fun v H' _ r=>r⟩
theorem anA (HT:zZ=true) {l:PySem.W.OpenLaw}{q:Program}{loose:List Str}{XP:(SV)->Heap->Prop}{YP:World->Heap->Prop}{d:DefRec}{K:Params->Fg} (hn:l.most=some 63) (hdf:d.params.defaults=[])
  (hY:∀ (w:World) (h:Heap),YP w h->(K w.params).In h) (hnm:d.name="law")
  (F:∀ (w:World) (mg:SV) (h:Heap),(K w.params).In h->h.Ns mainGlobals mg->Tops (K w.params)/\Consts (K w.params) mg):
  PySem.W.WalkO q loose XP YP l.row.toRowW d [] (fun f vs=>PySem.call f vs):=
 L2.aiZ (n:=63) (k:=8) (x:="_law_script") (CX:=fun _=>CX0) (sp:=fun w=>Pur (K w.params) 1 agd) hn (by decide) hdf ⟨rfl,by decide,by decide⟩ hY (fun w mg fa h KX G hm=>by
  obtain ⟨T,C⟩:=F w mg h KX G
  rw [hnm] at hm
  exact alN HT KX G hm T C) (fun w H a ns hl _ hS=>amO HT (K w.params) H a ns hl hS) fun _ _ _ _ _ z=>z
theorem aka {K:Fg}{mg:SV}{h:Heap} (X:K.In h) (G:h.Ns mainGlobals mg) (z1:PySem.W.nsIn K mainGlobals "isinstance"=some none) (z2:PySem.W.nsIn K mainGlobals "bool"=some none) (z3:PySem.W.nsIn K mainGlobals "int"=some none) (z4:PySem.W.nsIn K mainGlobals "tuple"=some none) (z5:PySem.W.nsIn K mainGlobals "zip"=some none) (z6:PySem.W.nsIn K mainGlobals "range"=some none) (z7:PySem.W.nsIn K mainGlobals "all"=some none) (z8:PySem.W.nsIn K mainGlobals "len"=some none) (z9:PySem.W.nsIn K mainGlobals "max"=some none) (z10:PySem.W.nsIn K mainGlobals "min"=some none) (z11:PySem.W.nsIn K mainGlobals "sum"=some none) (z12:PySem.W.nsIn K mainGlobals "sorted"=some none) (z13:PySem.W.nsIn K mainGlobals "abs"=some none) (z14:PySem.W.nsIn K mainGlobals "list"=some none) (z15:PySem.W.nsIn K mainGlobals "enumerate"=some none) (z16:PySem.W.nsIn K mainGlobals "ValueError"=some none) (z17:PySem.W.nsIn K mainGlobals "str"=some none) (z18:PySem.W.nsIn K mainGlobals "set"=some none) (z19:PySem.W.nsIn K mainGlobals "dict"=some none):Bare mg:=
 have f:∀ {x:Str},PySem.W.nsIn K mainGlobals x=some none->mg x=none:=fun z=>PySem.W.mg_none_of X G z
 ⟨f z1,f z2,f z3,f z4,f z5,f z6,f z7,f z8,f z9,f z10,f z11,f z12,f z13,f z14,f z15,f z16,f z17,f z18,f z19⟩
theorem gc4 {K:Fg}{mg:SV}{h:Heap}{x:Str}{a:Addr}{od:Option Addr}{n:Nat}{osl:Array (Option Value)}{i1 i2 i3 i4:Int}{t1 t2 t3 t4:Tok} (X:K.In h) (G:h.Ns mainGlobals mg) (e:PySem.W.nsIn K mainGlobals x=some (some (.ref a)))
  (l:K.lookup a=some ⟨.type "tuple",od,.seq #[.int i1 t1,.int i2 t2,.int i3 t3,.int i4 t4] n,osl⟩):GC K mg x (.tuple [.int i1,.int i2,.int i3,.int i4]):=
 aav X G e l rfl ⟨_,_,[.int i1,.int i2,.int i3,.int i4],rfl,(by show 4<=sizeLine; rw [sizeLine_eq]; decide),.cons ⟨_,rfl⟩ (.cons ⟨_,rfl⟩ (.cons ⟨_,rfl⟩ (.cons ⟨_,rfl⟩ .nil))),fun H=>⟨_,_,rfl,rfl,_,_,rfl,rfl,_,_,rfl,rfl,_,_,rfl,rfl,rfl⟩⟩
theorem gcI {K:Fg}{mg:SV}{h:Heap}{x:Str}{i:Int}{t:Tok} (X:K.In h) (G:h.Ns mainGlobals mg) (e:PySem.W.nsIn K mainGlobals x=some (some (.int i t))):GC K mg x (.int i):=
 ⟨.int i,_,PySem.W.mg_of X G e,⟨t,rfl⟩,fun H=>rfl⟩
theorem aiG {K:Fg}{mg:SV}{h:Heap}{x:Str}{a:Addr}{od:Option Addr}{n:Nat}{osl:Array (Option Value)}{i1 i2:Str}{t1 t2:Tok} (X:K.In h) (G:h.Ns mainGlobals mg) (e:PySem.W.nsIn K mainGlobals x=some (some (.ref a)))
  (l:K.lookup a=some ⟨.type "tuple",od,.seq #[.str i1 t1,.str i2 t2] n,osl⟩):GC K mg x (.tuple [.str i1,.str i2]):=
 aav X G e l rfl ⟨_,_,[.str i1,.str i2],rfl,(by show 2<=sizeLine; rw [sizeLine_eq]; decide),.cons ⟨_,rfl⟩ (.cons ⟨_,rfl⟩ .nil),fun H=>⟨_,_,rfl,rfl,_,_,rfl,rfl,rfl⟩⟩
theorem akb {K:Fg}{mg:SV}{h:Heap}{x:Str}{a:Addr}{od:Option Addr}{n:Nat}{osl:Array (Option Value)}{i1 i2:Int}{t1 t2:Tok} (X:K.In h) (G:h.Ns mainGlobals mg) (e:PySem.W.nsIn K mainGlobals x=some (some (.ref a)))
  (l:K.lookup a=some ⟨.type "tuple",od,.seq #[.int i1 t1,.int i2 t2] n,osl⟩):GC K mg x (.tuple [.int i1,.int i2]):=
 aav X G e l rfl ⟨_,_,[.int i1,.int i2],rfl,(by show 2<=sizeLine; rw [sizeLine_eq]; decide),.cons ⟨_,rfl⟩ (.cons ⟨_,rfl⟩ .nil),fun H=>⟨_,_,rfl,rfl,_,_,rfl,rfl,rfl⟩⟩
end Rods
def PySem.W.Fast.tw4331252600481483392:Unit:=()
def PySem.W.Fast.tw16705208523483145062:Unit:=()
def PySem.W.Fast.tw15266258632442530795:Unit:=()
def PySem.W.Fast.tw398443478575391810:Unit:=()
def PySem.W.Fast.tw14142254438703593836:Unit:=()
def PySem.W.Fast.tw14524895589993719976:Unit:=()
def PySem.W.Fast.tw1281333326314616333:Unit:=()
open PySem PySem.W PyProof.Rows
set_option maxRecDepth 100000 in
set_option maxHeartbeats 0 in
theorem PySem.Challenge.cw_beadrods_k62_whole_unlike_drawings_holds : PySem.Challenge.rw_beadrods_k62_whole_unlike_drawings.Holds := by
  w_on; o_law; k_head; (case hw => w_witness2)
  k_fill
  refine Rods.anA Rods.allN_true (l := PySem.Challenge.rw_beadrods_k62_whole_unlike_drawings) rfl rfl (fun w h Y => PySem.W.kIn_of Y) rfl ?F
  case F =>
    intro w mg h KX G
    refine ⟨⟨?f1, ?f2, ?f3, ?f4, ?f5, ?f6, ?f7, ?f8, ?f9, ?f10, ?f11, ?f12, ?f13, ?f14, ?f15, ?f16, ?f17, ?f18, ?f19, ?f20, ?f21, ?f22, ?f23, ?f24, ?f25, ?f26, ?f27⟩, ⟨?b, ?c1, ?c2, ?c3, ?c4, ?c5⟩⟩
    case b => refine' Rods.aka KX G ?_ ?_ ?_ ?_ ?_ ?_ ?_ ?_ ?_ ?_ ?_ ?_ ?_ ?_ ?_ ?_ ?_ ?_ ?_ <;> k_is
    case c1 =>
      refine' Rods.gc4 KX G ?a ?l
      (case a => k_is); (case l => k_is)
    case c2 =>
      refine' Rods.gc4 KX G ?a ?l
      (case a => k_is); (case l => k_is)
    case c3 =>
      refine' Rods.gcI KX G ?a
      (case a => k_is)
    case c4 =>
      refine' Rods.aiG KX G ?a ?l
      (case a => k_is); (case l => k_is)
    case c5 =>
      refine' Rods.akb KX G ?a ?l
      (case a => k_is); (case l => k_is)
    all_goals
      refine' BX.ahl ?a ?l ?c ?k
      (case a => k_is); (case l => k_is); (case c => k_is); (case k => k_is)
#print axioms PySem.Challenge.cw_beadrods_k62_whole_unlike_drawings_holds
end
