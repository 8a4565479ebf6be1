import PyProof.Rows.All
import Wide.All
import OpenK.AllK
import Wide.FinOn
import Lean
import PyProof.EqAt
import PyProof.EqKinds
import PyProof.TupleCall
import PyProof.DictWalks
import PyProof.ListMulRoad
import PyProof.Rows.Range3
import PyProof.StationsW
import OpenK.KOwn
import PyProof.ExcBaseAll.ValueError
import PyProof.MaxThree
import KE.KIsAll
import KE.KIsNot
import PyProof.RulesAs
import PyProof.ExcArgsOwn
import PyProof.ExcAttrAll.ValueError
import KE.KRevSl
import PyProof.ListRange
import PyProof.StrBlock2
import PyProof.StrBlockH
import PyProof.StrBlockL
import PyProof.StrCalls2
import PyProof.SliceStr2
import PyProof.StrBlockI
import PyProof.StrLawsTight
import PyProof.StrLawsChain
import PyProof.Rows.StrItems
import PyProof.StrWalks
import PyProof.EnumMake
import PyProof.Draws
import KE.KSortAsk
import KE.KDictList
import KE.KDictSum
import KE.KDictOf
import PyProof.FString5
import PySem.Challenge.RW_beadrods_k73_whole_twins
set_option Elab.async false
set_option linter.all false
set_option maxRecDepth 100000
set_option maxHeartbeats 4000000
noncomputable section
abbrev Fg:=PySem.W.Frag
abbrev SV:=PySem.Str->Option PySem.Value
abbrev OP:=Option PySem.PyData
abbrev LP:=List PySem.PyData
abbrev SP0:=PySem.Shared->Prop
theorem zzA {α : Type _} {a : α} {l : List α} : (a :: l)[0]? = some a := rfl
theorem zzB {α : Type _} {a : α} {i : Nat} {l : List α} : (a :: l)[i + 1]? = l[i]? := rfl
theorem zzC {α : Type _} {o : Option α} : (some o).join = o := rfl
theorem zzD {α β : Type _} (a : α) (f : α → Option β) : (some a).bind f = f a := rfl
theorem zzE {α β : Type _} (a : α) (f : α → β) : Option.map f (some a) = some (f a) := rfl
theorem zzF {α : Type _} {x : α} {xs : List α} {i : Nat} {a : α} : (x :: xs).set (i + 1) a = x :: xs.set i a := rfl
theorem zzG {α : Type _} {x : α} {xs : List α} {a : α} : (x :: xs).set 0 a = a :: xs := rfl
theorem zzH {α β : Type _} (f : α → Option β) : (none : Option α).bind f = none := rfl
theorem zzI {α β : Type _} (f : α → β) : Option.map f (none : Option α) = none := rfl
theorem zzJ : (!true) = false := rfl
theorem zzK : (!false) = true := rfl
theorem zzL : (false = true) = False := Bool.false_eq_true
theorem zzM {α : Sort _} {x : Decidable True} (a b : α) : ite True a b = a := if_true a b
theorem zzN {α : Sort _} {x : Decidable False} (a b : α) : ite False a b = b := if_false a b
section
namespace L2
open PySem PySem.Spec PyProof.Rows
noncomputable abbrev Key:=Sum Int Str
def acu:Key->Value->Bool
 | .inl k,v=>Value.isInt k v
 | .inr x,v=>Value.isStrOf x v
def asU (w:World):Key->Int
 | .inl k=>hashInt k
 | .inr x=>hashStr w x
theorem qy:∀ {k:Key}{v:Value},acu k v=true->(∃ i t,k=Sum.inl i/\v=Value.int i t) ∨ (∃ x t,k=Sum.inr x/\v=Value.str x t)
 | .inl i,v,h=>by
  obtain ⟨t,e⟩:=Value.isInt_shape (k:=i) (v:=v) h
  exact .inl ⟨i,t,rfl,e⟩
 | .inr x,v,h=>by
  obtain ⟨t,e⟩:=Value.isStrOf_shape (x:=x) (v:=v) h
  exact .inr ⟨x,t,rfl,e⟩
theorem ajY (i:Int) (t:Tok):acu (.inl i) (.int i t)=true:=by simp [acu,Value.isInt]
theorem ajZ (x:Str) (t:Tok):acu (.inr x) (.str x t)=true:=by simp [acu,Value.isStrOf]
theorem ap7 (a b:Int):decide ((Sum.inl a:Key)=Sum.inl b)=(a == b):=by
 by_cases e:a=b
 ·subst e; simp
 ·have h:¬ (Sum.inl a:Key)=Sum.inl b:=fun q=>e (Sum.inl.inj q)
  rw [decide_eq_false h]
  exact (beq_eq_false_iff_ne.mpr e).symm
theorem ap8 (a b:Str):decide ((Sum.inr a:Key)=Sum.inr b)=decide (a=b):=by
 by_cases e:a=b
 ·subst e; simp
 ·have h:¬ (Sum.inr a:Key)=Sum.inr b:=fun q=>e (Sum.inr.inj q)
  rw [decide_eq_false h,decide_eq_false e]
theorem ap9 (a:Int) (b:Str):decide ((Sum.inl a:Key)=Sum.inr b)=false:=decide_eq_false (fun q=>nomatch q)
theorem aqa (a:Str) (b:Int):decide ((Sum.inr a:Key)=Sum.inl b)=false:=decide_eq_false (fun q=>nomatch q)
def qu (prog:Program) (w:World):PySem.KeyKind prog w Key where
 is:=acu
 hash:=asU w
 inj:=fun v a b ha hb=>by
  rcases qy ha with ⟨i,t,rfl,rfl⟩ | ⟨x,t,rfl,rfl⟩
  ·rcases qy hb with ⟨j,u,rfl,e⟩ | ⟨y,u,rfl,e⟩
   ·injection e with e1 _; rw [e1]
   ·exact nomatch e
  ·rcases qy hb with ⟨j,u,rfl,e⟩ | ⟨y,u,rfl,e⟩
   ·exact nomatch e
   ·injection e with e1 _; rw [e1]
 byValue:=fun k v h=>by
  rcases qy h with ⟨i,t,rfl,rfl⟩ | ⟨x,t,rfl,rfl⟩ <;> rfl
 pyHash:=fun hv h=>by
  rcases qy hv with ⟨i,t,rfl,rfl⟩ | ⟨x,t,rfl,rfl⟩
  ·exact wpAny_pyHash_int h
  ·exact wpAny_pyHash_str h
 eqBool:=fun hu hv h=>by
  rcases qy hu with ⟨i,t,rfl,rfl⟩ | ⟨x,t,rfl,rfl⟩
  ·rcases qy hv with ⟨j,u,rfl,rfl⟩ | ⟨y,u,rfl,rfl⟩
   ·rw [ap7] at h; exact wpAny_eqBool_int h
   ·rw [ap9] at h; exact SeqAt.EqAt.int_str i t y u _ _ _ _ h
  ·rcases qy hv with ⟨j,u,rfl,rfl⟩ | ⟨y,u,rfl,rfl⟩
   ·rw [aqa] at h; exact SeqAt.EqAt.str_int x t j u _ _ _ _ h
   ·rw [ap8] at h; exact wpAny_eqBool_str h
 «strs»:=fun k x t v h=>by
  rcases qy h with ⟨i,u,rfl,e⟩ | ⟨y,u,rfl,e⟩
  ·exact nomatch e
  ·injection e with e1 _
   subst e1
   cases v <;> rfl
theorem ahv (prog:Program) (w:World) (k:Key) (v:Value):(qu prog w).is k v=acu k v:=rfl
theorem aga (prog:Program) (w:World) (i:Int) (t:Tok):(qu prog w).is (.inl i) (.int i t)=true:=ajY i t
theorem agb (prog:Program) (w:World) (x:Str) (t:Tok):(qu prog w).is (.inr x) (.str x t)=true:=ajZ x t
inductive V where
 | non | bl (b:Bool) | int (i:Int) | str (x:Str) | byt (b:Array UInt8) | flt (b:UInt64) | ref (a:Addr) | ty (n:String)
 deriving DecidableEq
noncomputable def jV:V->Value->Prop
 | .non,u=>u=Value.none
 | .bl b,u=>u=Value.bool b
 | .int i,u=>∃ t,u=Value.int i t
 | .str x,u=>∃ t,u=Value.str x t
 | .byt b,u=>∃ t,u=Value.bytes b t
 | .flt b,u=>∃ t,u=Value.float b t
 | .ref a,u=>u=Value.ref a
 | .ty n,u=>u=Value.type n
abbrev jJ:List V->List Value->Prop:=Paired jV
theorem jJ.length {xs:List V}{us:List Value} (r:jJ xs us):xs.length=us.length:=Paired.length r
theorem jJ.get:∀ {xs:List V}{us:List Value}{i:Nat}{x:V},jJ xs us->xs[i]?=some x->∃ u,us[i]?=some u/\jV x u
 | _,_,_,_,.nil,e=>by simp at e
 | _,_,0,_,.cons r _,e=>by simp at e; subst e; exact ⟨_,rfl,r⟩
 | _,_,i+1,x,.cons _ t,e=>by
  obtain ⟨u,h1,h2⟩:=jJ.get (i:=i) (x:=x) t (by simpa using e)
  exact ⟨u,by simpa using h1,h2⟩
theorem jJ.set {x:V}{u:Value} (r:jV x u):∀ {xs:List V}{us:List Value} (i:Nat),jJ xs us->jJ (xs.set i x) (us.set i u)
 | _,_,_,.nil=> .nil
 | _,_,0,.cons _ t=> .cons r t
 | _,_,i+1,.cons q t=> .cons q (jJ.set r i t)
theorem jJ.append:∀ {xs ys:List V}{us ws:List Value},jJ xs us->jJ ys ws->jJ (xs++ys) (us++ws)
 | _,_,_,_,.nil,s=>s
 | _,_,_,_,.cons r t,s=> .cons r (jJ.append t s)
theorem jJ.take:∀ {xs:List V}{us:List Value} (n:Nat),jJ xs us->jJ (xs.take n) (us.take n)
 | _,_,0,_=> .nil
 | _,_,_+1,.nil=> .nil
 | _,_,n+1,.cons r t=> .cons r (jJ.take n t)
theorem jJ.drop:∀ {xs:List V}{us:List Value} (n:Nat),jJ xs us->jJ (xs.drop n) (us.drop n)
 | _,_,0,r=>r
 | _,_,_+1,.nil=> .nil
 | _,_,n+1,.cons _ t=>jJ.drop n t
theorem jJ.none_of:∀ {xs:List V}{us:List Value}{i:Nat},jJ xs us->xs[i]?=none->us[i]?=none:=fun {xs us i} r e=>by
 have h1:=r.length
 have h2:xs.length<=i:=List.getElem?_eq_none_iff.mp e
 exact List.getElem?_eq_none_iff.mpr (by omega)
def QP:Option V->Option Value->Prop
 | some v,some u=>jV v u
 | none,none=>True
 | _,_=>False
def KV {κ:Type}:List (κ × V)->List (κ × Value)->Prop:=Paired fun (p:κ × V) (q:κ × Value)=>p.1=q.1/\jV p.2 q.2
def kV:Key->V
 | .inl i=> .int i
 | .inr x=> .str x
inductive HO where
 | lst (xs:List V)
 | tup (xs:List V)
 | dK (kvs:List (Key × V)) | dT (kvs:List (List Key × V))
 | set (S:Int->Bool) (n:Nat)
 | ins (C dx:Addr) (fs:List (Str × V))
 | own (x:Addr)
 | xd (fs:List (Str × V))
 | met (f x:Addr)
 | rng (lo hi:Int)
 | frz (o:Obj) (u:HO)
 | tbl (ps:Array Value)
 | ext (φ:Heap->Prop)
noncomputable abbrev Hp:=Addr->Option HO
def upd (H:Hp) (a:Addr) (o:HO):Hp:=fun b=>if b=a then some o else H b
theorem jn {H:Hp}{a:Addr}{o:HO}:upd H a o a=some o:=by unfold upd; rw [if_pos rfl]
theorem jq {H:Hp}{a b:Addr}{o:HO} (h:b ≠ a):upd H a o b=H b:=by unfold upd; rw [if_neg h]
theorem zd {H:Hp}{a:Addr}{o u:HO}:upd (upd H a o) a u=upd H a u:=by
 funext b; unfold upd; split <;> rfl
theorem arE {H:Hp}{a b:Addr}{o u:HO} (h:H a=some o) (h':H b=some u) (d:o ≠ u):a ≠ b:=by
 intro e; subst e; rw [h] at h'; exact d (Option.some.inj h')
theorem qQ {H:Hp}{a b:Addr}{o:HO} (h:H a=some o) (h':H b=none):a ≠ b:=by
 intro e; subst e; rw [h] at h'; cases h'
section
variable (P:Program) (w:World)
def qM (H:Hp) (h:Heap) (a:Addr):HO->Prop
 | .lst xs=>xs.length<=sizeLine/\∃ (its:List Value) (n:Nat),jJ xs its/\h.get? a=some { cls:= .type "list",data:= .seq its.toArray n }
 | .tup xs=>xs.length<=sizeLine/\∃ its:List Value,jJ xs its/\IsTup h a its.toArray
 | .dK kvs=>kvs.length<=sizeLine/\(a == sysModules)=false/\∃ vs,KV kvs vs/\h.DictOf (qu P w) a vs
 | .dT kvs=>kvs.length<=sizeLine/\(a == sysModules)=false/\∃ xs:List (List Key × Addr × Value),
   Paired (fun (p:List Key × V) (q:List Key × Addr × Value)=>p.1=q.1/\H q.2.1=some (.tup (p.1.map kV))/\jV p.2 q.2.2) kvs xs/\
   ∃ o es ep,h.get? a=some o/\o.ExactDict/\o.data= .dict es ep/\es.toList=xs.map (entryOfKey (tupleKind (qu P w)))/\(xs.map (·.1)).Nodup
 | .set S n=>h.SetOf (intKind P w) a S n
 | .ins C dx fs=>H dx=some (.own a)/\fs.length<=1000/\dx ≠ a/\h.get? a=some (PySem.W.instObj C dx)/\
   ∃ mA,h.Ns1 dx mA/\(∀ f,QP (fs.lookup f) (mA f))/\PySem.Within mA (fs.map (·.1))
 | .own _=>∃ o,h.get? a=some o
 | .xd fs=>∃ mA,h.Ns1 a mA/\∀ f,QP (fs.lookup f) (mA f)
 | .rng lo hi=>∃ t u v,h.get? a=some { cls:= .type "range",data:= .fields #[.int lo t,.int hi u,.int 1 v] }
 | .frz o u=>h.get? a=some o/\qM H h a u
 | .tbl ps=>h.get? a=some { cls:= .none,data:= .fields ps }
 | .met f x=>h.get? a=some (PySem.W.methodObj (.ref f) (.ref x))
 | .ext φ=>φ h/\(∃ o,h.get? a=some o)/\∀ h1 h2:Heap,φ h1->(∀ o,h1.get? a=some o->h2.get? a=some o)->φ h2
def HOk (H:Hp) (h:Heap):Prop:=∀ a o,H a=some o->qM P w H h a o
end
section
variable {P:Program}{w:World}{H H':Hp}{h h':Heap}{a:Addr}{o:HO}
theorem qM.lt (x:qM P w H h a o):a<h.objs.size:=by
 cases o with
 | lst xs=>obtain ⟨_,_,_,_,e⟩:=x; exact Heap.lt_size e
 | tup xs=>obtain ⟨_,_,_,p⟩:=x; exact p.lt
 | dK kvs=>obtain ⟨_,_,_,_,o,_,_,e,_⟩:=x; exact Heap.lt_size e
 | dT kvs=>obtain ⟨_,_,_,_,o,_,_,e,_⟩:=x; exact Heap.lt_size e
 | set S n=>obtain ⟨o,_,_,_,e,_⟩:=x; exact Heap.lt_size e
 | ins C dx fs=>obtain ⟨_,_,_,e,_⟩:=x; exact Heap.lt_size e
 | own y=>obtain ⟨_,e⟩:=x; exact Heap.lt_size e
 | xd fs=>obtain ⟨_,⟨_,_,_,e,_⟩,_⟩:=x; exact Heap.lt_size e
 | rng lo hi=>obtain ⟨_,_,_,e⟩:=x; exact Heap.lt_size e
 | frz ob u=>obtain ⟨e,_⟩:=x; exact Heap.lt_size e
 | tbl ps=>exact Heap.lt_size (show h.get? a=some _ from x)
 | met f y=>exact Heap.lt_size (show h.get? a=some _ from x)
 | ext φ=>obtain ⟨_,⟨_,e⟩,_⟩:=x; exact Heap.lt_size e
theorem Paired.mapP {α β:Type}{F G:α->β->Prop}:∀ {l₁:List α}{l₂:List β},Paired F l₁ l₂->(∀ a b,F a b->G a b)->Paired G l₁ l₂
 | _,_,.nil,_=> .nil
 | _,_,.cons r t,f=> .cons (f _ _ r) (Paired.mapP t f)
theorem qM.stay (x:qM P w H h a o) (k:∀ b u,(b=a ∨ H b=some (.own a))->h.get? b=some u->h'.get? b=some u)
  (ho:∀ b,H b=some (.own a)->H' b=some (.own a)) (ht:∀ b xs,H b=some (.tup xs)->H' b=some (.tup xs)):qM P w H' h' a o:=by
 induction o with
 | lst xs=>obtain ⟨z,its,n,r,e⟩:=x; exact ⟨z,its,n,r,k _ _ (.inl rfl) e⟩
 | tup xs=>obtain ⟨z,its,r,ob,e,c⟩:=x; exact ⟨z,its,r,ob,k _ _ (.inl rfl) e,c⟩
 | dK kvs=>obtain ⟨z,y,vs,r,ob,es,ep,e,c⟩:=x; exact ⟨z,y,vs,r,ob,es,ep,k _ _ (.inl rfl) e,c⟩
 | dT kvs=>
  obtain ⟨z,y,xs,r,ob,es,ep,e,c⟩:=x
  exact ⟨z,y,xs,Paired.mapP r fun p q z=>⟨z.1,ht _ _ z.2.1,z.2.2⟩,ob,es,ep,k _ _ (.inl rfl) e,c⟩
 | set S n=>obtain ⟨ob,es,ep,t,e,c⟩:=x; exact ⟨ob,es,ep,t,k _ _ (.inl rfl) e,c⟩
 | ins C dx fs=>
  obtain ⟨d,z,ne,e,mA,⟨od,es,ep,e2,c⟩,r⟩:=x
  exact ⟨ho _ d,z,ne,k _ _ (.inl rfl) e,mA,⟨od,es,ep,k _ _ (.inr d) e2,c⟩,r⟩
 | own y=>obtain ⟨ob,e⟩:=x; exact ⟨ob,k _ _ (.inl rfl) e⟩
 | xd fs=>obtain ⟨mA,⟨od,es,ep,e,c⟩,r⟩:=x; exact ⟨mA,⟨od,es,ep,k _ _ (.inl rfl) e,c⟩,r⟩
 | rng lo hi=>obtain ⟨t,u,v,e⟩:=x; exact ⟨t,u,v,k _ _ (.inl rfl) e⟩
 | frz ob u ih=>obtain ⟨e,q⟩:=x; exact ⟨k _ _ (.inl rfl) e,ih q⟩
 | tbl ps=>
  have e:h.get? a=some { cls:= .none,data:= .fields ps }:=x
  show h'.get? a=some { cls:= .none,data:= .fields ps }
  exact k a _ (.inl rfl) e
 | met f y=>
  have e:h.get? a=some (PySem.W.methodObj (.ref f) (.ref y)):=x
  show h'.get? a=some (PySem.W.methodObj (.ref f) (.ref y))
  exact k a _ (.inl rfl) e
 | ext φ=>obtain ⟨p,⟨o,e⟩,st⟩:=x; exact ⟨st _ _ p fun o q=>k _ _ (.inl rfl) q,⟨o,k _ _ (.inl rfl) e⟩,st⟩
theorem HOk.lt (x:HOk P w H h) (e:H a=some o):a<h.objs.size:=(x a o e).lt
theorem HOk.fresh (x:HOk P w H h) (e:h.objs.size<=a):H a=none:=by
 cases q:H a with
 | none=>rfl
 | some u=>exact absurd (Nat.lt_of_lt_of_le (x.lt q) e) (Nat.lt_irrefl _)
theorem HOk.kept (x:HOk P w H h) (k:∀ b u,h.get? b=some u->h'.get? b=some u):HOk P w H h':=fun a o e=>
 (x a o e).stay (fun b u _ q=>k b u q) (fun _ q=>q) fun _ _ q=>q
theorem HOk.laid (x:HOk P w H h) (k:∀ b u,h.get? b=some u->h'.get? b=some u) (hp:h.objs.size<=a) (new:qM P w (upd H a o) h' a o):HOk P w (upd H a o) h':=fun b u e=>by
 have hn:=x.fresh hp
 by_cases hb:b=a
 ·subst hb; rw [jn] at e; cases e; exact new
 ·rw [jq hb] at e
  exact (x b u e).stay (fun c v _ q=>k c v q) (fun c q=>by rw [jq (qQ q hn)]; exact q) fun c xs q=>by rw [jq (qQ q hn)]; exact q
end
def Rd (H:Hp) (a:Addr) (u:HO):Prop:=H a=some u ∨ ∃ o,H a=some (.frz o u)
theorem Rd.of {H:Hp}{a:Addr}{u:HO} (h:H a=some u):Rd H a u:= .inl h
theorem Rd.ok {P:Program}{w:World}{H:Hp}{h:Heap}{a:Addr}{u:HO} (r:Rd H a u) (x:HOk P w H h):qM P w H h a u:=by
 rcases r with r | ⟨o,r⟩
 ·exact x a u r
 ·obtain ⟨_,q⟩:=x a _ r
  exact q
noncomputable def Mut:Option HO->Prop
 | some (.lst _)=>True
 | some (.dK _)=>True
 | some (.dT _)=>True
 | some (.set _ _)=>True
 | some (.ins _ _ _)=>True
 | some (.ext _)=>True
 | _=>False
section
variable {P:Program}{w:World}{H:Hp}{h h':Heap}{x e:Addr}{o':HO}
theorem HOk.write (ok:HOk P w H h) (mu:Mut (H x)) (he:e=x ∨ H e=some (.own x)) (k:∀ b u,b ≠ e->h.get? b=some u->h'.get? b=some u) (heo:∃ u,h'.get? e=some u)
  (new:qM P w (upd H x o') h' x o'):HOk P w (upd H x o') h':=fun b u q=>by
 have nown:∀ c y,H c=some (.own y)->c ≠ x:=fun c y r z=>by subst z; rw [r] at mu; exact mu
 have ntup:∀ c xs,H c=some (.tup xs)->c ≠ x:=fun c xs r z=>by subst z; rw [r] at mu; exact mu
 by_cases hb:b=x
 ·subst hb; rw [jn] at q; cases q; exact new
 ·rw [jq hb] at q
  by_cases hbe:b=e
  ·have q':H b=some (.own x):=by
    rcases he with z | z
    ·exact absurd (hbe.trans z) hb
    ·rw [hbe]; exact z
   rw [q] at q'; cases q'
   obtain ⟨v,hv⟩:=heo
   exact ⟨v,by rw [hbe]; exact hv⟩
  ·refine (ok b u q).stay (fun c v hc r=>k c v ?_ r) (fun c r=>by rw [jq (nown c b r)]; exact r) fun c xs r=>by rw [jq (ntup c xs r)]; exact r
   rcases hc with rfl | hc
   ·exact hbe
   ·rintro rfl
    rcases he with z | z
    ·exact nown c b hc z
    ·rw [hc] at z; cases z; exact hb rfl
end
structure Un (fs ex:List Addr) (H H':Hp) (h h':Heap):Prop where
 keep:∀ b o,h.get? b=some o->H b=none->b ∉ fs->b ∉ ex->h'.get? b=some o
 slot:∀ b o,h.get? b=some o->H b=none->b ∈ fs->b ∉ ex->∃ sl,h'.get? b=some { o with slots:=sl }
 free:∀ b o,h.get? b=some o->H b=none->b ∉ ex->H' b=none
 there:∀ b o,h.get? b=some o->b ∉ ex->∃ o',h'.get? b=some o'
 tups:∀ b xs,H b=some (.tup xs)->H' b=some (.tup xs)
 frzs:∀ b o u,H b=some (.frz o u)->H' b=some (.frz o u)
 tbls:∀ b ps,H b=some (.tbl ps)->∃ more,H' b=some (.tbl (ps++more))
section
variable {fs fs' ex ex':List Addr}{H H1 H2:Hp}{h h1 h2 h':Heap}{a x e:Addr}{o:HO}
theorem Un.any (u:Un fs ex H H1 h h1) {b:Addr}{ob:Obj} (q:h.get? b=some ob) (n:H b=none) (hx:b ∉ ex):∃ sl,h1.get? b=some { ob with slots:=sl }:=by
 by_cases hb:b ∈ fs
 ·exact u.slot b ob q n hb hx
 ·exact ⟨ob.slots,u.keep b ob q n hb hx⟩
theorem Un.trans (a:Un fs ex H H1 h h1) (b:Un fs ex H1 H2 h1 h2):Un fs ex H H2 h h2 where
 keep:=fun c ob q n hc hx=>b.keep c ob (a.keep c ob q n hc hx) (a.free c ob q n hx) hc hx
 slot:=fun c ob q n hc hx=>by
  obtain ⟨sl,e1⟩:=a.slot c ob q n hc hx
  obtain ⟨sl',e2⟩:=b.slot c _ e1 (a.free c ob q n hx) hc hx
  exact ⟨sl',e2⟩
 free:=fun c ob q n hx=>by
  obtain ⟨o',e1⟩:=a.there c ob q hx
  exact b.free c o' e1 (a.free c ob q n hx) hx
 there:=fun c ob q hx=>by
  obtain ⟨o',e1⟩:=a.there c ob q hx
  exact b.there c o' e1 hx
 tups:=fun c xs q=>b.tups c xs (a.tups c xs q)
 frzs:=fun c ob xs q=>b.frzs c ob xs (a.frzs c ob xs q)
 tbls:=fun c ps q=>by
  obtain ⟨m1,e1⟩:=a.tbls c ps q
  obtain ⟨m2,e2⟩:=b.tbls c _ e1
  exact ⟨m1++m2,by rw [e2,Array.append_assoc]⟩
theorem Un.kept (k:∀ b u,h.get? b=some u->h'.get? b=some u):Un fs ex H H h h':=
 ⟨fun b ob q _ _ _=>k b ob q,fun b ob q _ _ _=>⟨ob.slots,k b ob q⟩,fun _ _ _ n _=>n,fun b ob q _=>⟨ob,k b ob q⟩,fun _ _ q=>q,fun _ _ _ q=>q,fun _ ps q=>⟨#[],by rw [q]; simp⟩⟩
theorem Un.refl:Un fs ex H H h h:=Un.kept fun _ _ q=>q
theorem Un.laid (k:∀ b u,h.get? b=some u->h'.get? b=some u) (hp:h.objs.size<=a) (hn:H a=none):Un fs ex H (upd H a o) h h' where
 keep:=fun b u q _ _ _=>k b u q
 slot:=fun b u q _ _ _=>⟨u.slots,k b u q⟩
 free:=fun b u q n _=>by rw [jq (Nat.ne_of_lt (Nat.lt_of_lt_of_le (Heap.lt_size q) hp))]; exact n
 there:=fun b u q _=>⟨u,k b u q⟩
 tups:=fun b xs q=>by rw [jq (qQ q hn)]; exact q
 frzs:=fun b u xs q=>by rw [jq (qQ q hn)]; exact q
 tbls:=fun b ps q=>⟨#[],by rw [jq (qQ q hn),q]; simp⟩
theorem Un.write (mu:Mut (H x)) (he:e=x ∨ H e=some (.own x)) (k:∀ b u,b ≠ e->h.get? b=some u->h'.get? b=some u) (heo:∃ u,h'.get? e=some u):Un fs ex H (upd H x o) h h':=by
 have hx:∀ b,H b=none->b ≠ x:=fun b n z=>by subst z; rw [n] at mu; exact mu
 have hb:∀ b,H b=none->b ≠ e:=fun b n z=>by
  subst z
  rcases he with r | r
  ·exact hx b n r
  ·rw [n] at r; cases r
 have hm:∀ b u,H b=some u->¬ Mut (some u)->b ≠ x:=fun b u q nm z=>by subst z; rw [q] at mu; exact nm mu
 refine ⟨fun b u q n _ _=>k b u (hb b n) q,fun b u q n _ _=>⟨u.slots,k b u (hb b n) q⟩,fun b u q n _=>by rw [jq (hx b n)]; exact n,fun b u q _=>?_,
  fun b xs q=>by rw [jq (hm b _ q fun z=>z)]; exact q,fun b u xs q=>by rw [jq (hm b _ q fun z=>z)]; exact q,fun b ps q=>⟨#[],by rw [jq (hm b _ q fun z=>z),q]; simp⟩⟩
 by_cases hbe:b=e
 ·subst hbe; exact heo
 ·exact ⟨u,k b u hbe q⟩
theorem Un.mono (u:Un fs ex H H1 h h1) (hs:∀ b ∈ fs,b ∈ fs') (hx:∀ b ∈ ex,b ∈ ex'):Un fs' ex' H H1 h h1:=
 ⟨fun b ob q n hb he=>u.keep b ob q n (fun z=>hb (hs b z)) fun z=>he (hx b z),fun _ _ q n _ he=>u.any q n fun z=>he (hx _ z),fun b ob q n he=>u.free b ob q n fun z=>he (hx b z),fun b ob q he=>u.there b ob q fun z=>he (hx b z),u.tups,u.frzs,u.tbls⟩
end
def trk (h:Heap) (H:Hp):List Addr:=(List.range h.objs.size).filter fun a=>(H a).isSome
def aeD (h:Heap) (H:Hp):Heap:=PySem.W.hideAll h (trk h H)
theorem aj0 (h:Heap) (H:Hp):(aeD h H).objs.size=h.objs.size:=PySem.W.hideAll_size _ _
theorem ali {h:Heap}{H:Hp}{b:Addr}{o:Obj} (e:h.get? b=some o) (n:H b=none):(aeD h H).get? b=some o:=
 PySem.W.hideAll_get _ e fun hm=>by
  have q:(H b).isSome=true:=(List.mem_filter.mp hm).2
  rw [n] at q; simp at q
theorem anT {h:Heap}{H:Hp}{b:Addr}{o:Obj} (e:(aeD h H).get? b=some o):h.get? b=some o/\H b=none:=by
 have e':h.get? b=some o:=PySem.W.of_hideAll (trk h H) e
 refine ⟨e',?_⟩
 cases q:H b with
 | none=>rfl
 | some x=>
  have hm:b ∈ trk h H:=List.mem_filter.mpr ⟨List.mem_range.mpr (Heap.lt_size e'),by simp [q]⟩
  have z:(aeD h H).get? b=none:=PySem.W.hideAll_none (trk h H) hm
  rw [z] at e; cases e
noncomputable def Jt (g h:Heap) (L:Addr):List (Addr × Obj):=(List.range h.objs.size).filterMap fun a=>if a=L ∨ (g.get? a).isSome=true then none else (h.get? a).map fun o=>(a,o)
theorem agc {g h:Heap}{L a:Addr}{o:Obj} (h1:a ≠ L) (h2:g.get? a=none) (h3:h.get? a=some o):(a,o) ∈ Jt g h L:=
 List.mem_filterMap.mpr ⟨a,List.mem_range.mpr (Heap.lt_size h3),by simp [h1,h2,h3]⟩
theorem acv {g h:Heap}{L:Addr}{p:Addr × Obj} (hp:p ∈ Jt g h L):p.1 ≠ L/\g.get? p.1=none/\h.get? p.1=some p.2:=by
 obtain ⟨b,_,e⟩:=List.mem_filterMap.mp hp
 split at e
 ·cases e
 ·rename_i hn
  cases q:h.get? b with
  | none=>rw [q] at e; simp at e
  | some u=>
   rw [q] at e
   simp only [zzE,Option.some.injEq] at e
   subst e
   refine ⟨fun z=>hn (.inl z),?_,q⟩
   show g.get? b=none
   cases r:g.get? b with
   | none=>rfl
   | some v=>exact (hn (.inr (by simp [r]))).elim
def j8 (g h:Heap) (L d:Addr):List (Addr × Obj):=(Jt g h L).filter fun p=>decide (p.1 ≠ d)
theorem alj {g h:Heap}{L:Addr}:News g L h (Jt g h L):=fun p hp=>let ⟨a,b,c⟩:=acv hp; ⟨c,a,b⟩
structure Mod (K:Fg) (mg:SV) (base:Heap):Prop where
 kin:K.In base
 glob:base.Ns mainGlobals mg
 blt:∃ mb,base.Ns builtinsNs mb/\∀ x:Str,x ≠ "__name__"->mb x=bootBuiltins x
 nolimit:base.NoLimit
structure Cx where
 prog:Program
 w:World
 K:Fg
 mg:SV
 base:Heap
 A:Around
 N:List Str
 s₀:Shared
 H₀:Hp
 env:Env
 Ko:List Env
 stack:List Env
 ex:List Addr
 fn:Str->Bool
 calm:Bool
 pn:List (Addr × Obj)
 xe:Value->SP0
noncomputable def frs (l:List Env):List Addr:=l.filterMap (·.frame)
abbrev Cx.fs (X:Cx):List Addr:=frs X.Ko
def Vis (sc:Scope) (x:Str):Prop:=sc.names.lookup x=some .local ∨ sc.names.lookup x=some .cell ∨ sc.names.lookup x=some .free
def Loc (sc:Scope) (x:Str):Prop:=sc.names.lookup x=some .local ∨ sc.names.lookup x=some .cell
def asV (env:Env) (h:Heap) (m:SV) (x:Str) (u:Value):Prop:=
 (env.kindOf x=some .local/\m x=some u) ∨ ((env.kindOf x=some .cell ∨ env.kindOf x=some .free)/\∃ c,env.cells.lookup x=some c/\h.IsCell c (some u))
structure Cx.Ok (X:Cx):Prop where
 mod:Mod X.K X.mg X.base
 kind:X.env.scope.kind= .function
 glob:X.env.globals=mainGlobals
 blt:X.env.builtins=builtinsNs
 above:X.s₀.heap.objs.size<=X.env.locals
 inj:∀ x y c,X.env.cells.lookup x=some c->X.env.cells.lookup y=some c->x=y
 has:∀ x,(X.env.kindOf x=some .cell ∨ X.env.kindOf x=some .free)->∃ c,X.env.cells.lookup x=some c
 cab:∀ x c,X.fn x=true->X.env.cells.lookup x=some c->X.s₀.heap.objs.size<=c
 hd:X.calm=true->X.A.handled=none
 frames:X.A.frames=some X.stack
 stk:X.stack=X.Ko ∨ (X.stack=X.env::X.Ko/\X.env.frame=some X.env.locals)
 exf:∀ b ∈ X.ex,b ≠ X.env.locals/\∀ x c,X.env.cells.lookup x=some c->c ≠ b
 bs:∀ b o,X.base.get? b=some o->X.s₀.heap.get? b=some o/\X.H₀ b=none
 bsz:X.base.objs.size<=X.s₀.heap.objs.size
 noex:∀ b o,X.base.get? b=some o->b ∉ X.ex
 exfs:∀ b ∈ X.ex,b ∉ X.fs
 funs:X.s₀.heap.FunFrames X.base X.Ko
 frf:∀ b ∈ X.fs,X.H₀ b=none
structure Inv (X:Cx) (Kp:List (Addr × Obj)) (σ:List (Option V)) (H:Hp) (s:Shared):Prop where
 ok:X.Ok
 os:s.os=X.s₀.os
 bare:AllBare s.gens
 base:Un X.fs X.ex X.H₀ H X.s₀.heap s.heap
 loc:∃ m,s.heap.Ns X.env.locals m/\∀ (i:Nat) (x:Str) (v:V),X.N[i]?=some x->σ[i]?=some (some v)->Vis X.env.scope x->∃ u,jV v u/\asV X.env s.heap m x u
 cell:∀ x c,X.env.cells.lookup x=some c->∃ v,s.heap.IsCell c v
 free:H X.env.locals=none
 freeC:∀ x c,X.env.cells.lookup x=some c->H c=none
 pin:∀ p ∈ X.pn++Kp,s.heap.get? p.1=some p.2/\H p.1=none/\p.1 ≠ X.env.locals/\p.1 ∉ X.fs/\∀ v,p.2.data ≠ .cell v
 hok:HOk X.prog X.w H s.heap
 len:σ.length=X.N.length
section
variable {X:Cx}{Kp:List (Addr × Obj)}{σ:List (Option V)}{H H':Hp}{s:Shared}{h':Heap}
theorem Cx.Ok.nofr (ok:X.Ok) {b:Addr}{o:Obj} (e:X.base.get? b=some o):b ∉ X.fs:=fun hb=>by
 have:=(ok.funs.mem hb).1
 rw [e] at this; cases this
theorem Inv.bs (I:Inv X Kp σ H s):∀ b o,X.base.get? b=some o->s.heap.get? b=some o/\H b=none:=fun b o e=>
 ⟨I.base.keep b o (I.ok.bs b o e).1 (I.ok.bs b o e).2 (I.ok.nofr e) (I.ok.noex b o e),I.base.free b o (I.ok.bs b o e).1 (I.ok.bs b o e).2 (I.ok.noex b o e)⟩
theorem Inv.bk (I:Inv X Kp σ H s):∀ b o,X.base.get? b=some o->s.heap.get? b=some o:=fun b o e=>(I.bs b o e).1
theorem Inv.mod (I:Inv X Kp σ H s):Mod X.K X.mg X.base:=I.ok.mod
theorem Inv.kIn (I:Inv X Kp σ H s):X.K.In s.heap:=I.ok.mod.kin.keeps I.bk
theorem Inv.nolimit (I:Inv X Kp σ H s):s.heap.NoLimit:=I.ok.mod.nolimit.keeps I.bk
theorem Inv.fr (I:Inv X Kp σ H s):∃ m,Fr X.base X.env.locals s.heap m:=
 let ⟨m,hn,_⟩:=I.loc
 ⟨m,hn,I.bk,Nat.le_trans I.ok.bsz I.ok.above⟩
theorem Inv.lt (I:Inv X Kp σ H s):X.env.locals<s.heap.objs.size:=let ⟨_,hn,_⟩:=I.loc; hn.lt
theorem Inv.sz (I:Inv X Kp σ H s):X.s₀.heap.objs.size<=s.heap.objs.size:=Nat.le_trans I.ok.above (Nat.le_of_lt I.lt)
theorem Inv.nofs (I:Inv X Kp σ H s) {a:Addr} (h:s.heap.objs.size<=a):a ∉ X.fs:=fun hb=>by
 obtain ⟨_,o,ho,_⟩:=I.ok.funs.mem hb
 exact absurd (Nat.lt_of_lt_of_le (Heap.lt_size ho) (Nat.le_trans I.sz h)) (Nat.lt_irrefl _)
theorem Inv.cne (I:Inv X Kp σ H s):∀ x c,X.env.cells.lookup x=some c->c ≠ X.env.locals:=fun x c e z=>by
 obtain ⟨v,o,ho,hd⟩:=I.cell x c e
 obtain ⟨m,⟨o',es,ep,ho',hd',_⟩,_⟩:=I.loc
 rw [z,ho'] at ho; cases ho; rw [hd'] at hd; cases hd
theorem Inv.funs (I:Inv X Kp σ H s):s.heap.FunFrames X.base X.Ko:=by
 have all:∀ (l:List Env),(∀ b ∈ frs l,b ∈ X.fs)->X.s₀.heap.FunFrames X.base l->s.heap.FunFrames X.base l:=by
  intro l
  induction l with
  | nil=>intro _ _; trivial
  | cons env r ih=>
   intro hs hl
   obtain ⟨hk,⟨L,o,hf,hn,ho,hd⟩,hr⟩:=hl
   have hL:L ∈ X.fs:=hs L (by unfold frs; rw [List.filterMap_cons,hf]; exact List.mem_cons_self)
   obtain ⟨sl,e⟩:=I.base.slot L o ho (I.ok.frf L hL) hL fun z=>I.ok.exfs L z hL
   exact ⟨hk,⟨L,_,hf,hn,e,hd⟩,ih (fun b hb=>hs b (by unfold frs; rw [List.filterMap_cons,hf]; exact List.mem_cons_of_mem _ hb)) hr⟩
 exact all X.Ko (fun _ hb=>hb) I.ok.funs
theorem Inv.stack (I:Inv X Kp σ H s):s.heap.FunFrames X.base X.stack:=by
 rcases I.ok.stk with e | ⟨e,hf⟩
 ·rw [e]; exact I.funs
 ·rw [e]
  obtain ⟨m,hn,_⟩:=I.loc
  refine .cons (by rw [I.ok.kind]; decide) hf hn ?_ I.funs
  exact Heap.get?_none_of_le (Nat.le_trans I.ok.bsz I.ok.above)
theorem Inv.stkSub (I:Inv X Kp σ H s):∀ b ∈ frs X.stack,b ∈ X.env.locals::X.fs:=fun b hb=>by
 rcases I.ok.stk with e | ⟨e,hf⟩
 ·rw [e] at hb; exact List.mem_cons_of_mem _ hb
 ·rw [e] at hb
  unfold frs at hb
  rw [List.filterMap_cons,hf] at hb
  exact hb
theorem Inv.stkFree (I:Inv X Kp σ H s):∀ b ∈ frs X.stack,H b=none:=fun b hb=>by
 rcases List.mem_cons.mp (I.stkSub b hb) with e | hb
 ·rw [e]; exact I.free
 ·obtain ⟨_,o,ho,_⟩:=I.ok.funs.mem hb
  exact I.base.free b o ho (I.ok.frf b hb) fun z=>I.ok.exfs b z hb
theorem Inv.step {g':Array GenState}{t':Nat}{d':Drawn}{ch:List Addr} (I:Inv X Kp σ H s)
  (hch:∀ b ∈ ch,(b ∈ X.ex ∨ X.s₀.heap.objs.size<=b)/\b ≠ X.env.locals/\(∀ x c,X.env.cells.lookup x=some c->c ≠ b)/\∀ p ∈ X.pn++Kp,p.1 ≠ b)
  (keep:∀ b o,b ≠ X.env.locals->b ∉ X.fs->b ∉ ch->s.heap.get? b=some o->H b=none->h'.get? b=some o)
  (slot:∀ b o,b ≠ X.env.locals->b ∈ X.fs->b ∉ ch->s.heap.get? b=some o->H b=none->∃ sl,h'.get? b=some { o with slots:=sl }) (free:∀ b o,b ∉ ch->s.heap.get? b=some o->H b=none->H' b=none)
  (there:∀ b o,b ∉ ch->s.heap.get? b=some o->∃ o',h'.get? b=some o')
  (tups:∀ b xs,H b=some (.tup xs)->H' b=some (.tup xs)) (frzs:∀ b o u,H b=some (.frz o u)->H' b=some (.frz o u)) (tbls:∀ b ps,H b=some (.tbl ps)->∃ more,H' b=some (.tbl (ps++more)))
  (ns:∀ m,s.heap.Ns X.env.locals m->h'.Ns X.env.locals m) (hok:HOk X.prog X.w H' h') (hg:AllBare g'):
  Inv X Kp σ H' { s with heap:=h',gens:=g',drawn:=d',toks:=t' }:=by
 have neL:∀ b o,X.s₀.heap.get? b=some o->b ≠ X.env.locals:=fun b o e=>Nat.ne_of_lt (Nat.lt_of_lt_of_le (Heap.lt_size e) I.ok.above)
 have neC:∀ b o,X.s₀.heap.get? b=some o->b ∉ X.ex->b ∉ ch:=fun b o e hx hb=>by
  rcases (hch b hb).1 with z | z
  ·exact hx z
  ·exact absurd (Nat.lt_of_lt_of_le (Heap.lt_size e) z) (Nat.lt_irrefl _)
 have cellK:∀ x c,X.env.cells.lookup x=some c->∀ v,s.heap.IsCell c v->h'.IsCell c v:=fun x c e v ⟨o,ho,hd⟩=>by
  have nch:c ∉ ch:=fun z=>(hch c z).2.2.1 x c e rfl
  by_cases hc:c ∈ X.fs
  ·obtain ⟨sl,q⟩:=slot c o (I.cne x c e) hc nch ho (I.freeC x c e)
   exact ⟨_,q,hd⟩
  ·exact ⟨o,keep c o (I.cne x c e) hc nch ho (I.freeC x c e),hd⟩
 refine ⟨I.ok,I.os,hg,⟨fun b o e n hb hx=>?_,fun b o e n hb hx=>?_,fun b o e n hx=>?_,fun b o e hx=>?_,fun b xs e=>tups b xs (I.base.tups b xs e),fun b o xs e=>frzs b o xs (I.base.frzs b o xs e),fun b ps e=>?_⟩,?_,fun x c e=>?_,?_,fun x c e=>?_,fun p hp=>?_,hok,I.len⟩
 ·exact keep b o (neL b o e) hb (neC b o e hx) (I.base.keep b o e n hb hx) (I.base.free b o e n hx)
 ·obtain ⟨sl,e1⟩:=I.base.slot b o e n hb hx
  obtain ⟨sl',e2⟩:=slot b _ (neL b o e) hb (neC b o e hx) e1 (I.base.free b o e n hx)
  exact ⟨sl',e2⟩
 ·obtain ⟨o',e1⟩:=I.base.there b o e hx
  exact free b o' (neC b o e hx) e1 (I.base.free b o e n hx)
 ·obtain ⟨o',e1⟩:=I.base.there b o e hx
  exact there b o' (neC b o e hx) e1
 ·obtain ⟨m1,e1⟩:=I.base.tbls b ps e
  obtain ⟨m2,e2⟩:=tbls b _ e1
  exact ⟨m1++m2,by rw [e2,Array.append_assoc]⟩
 ·obtain ⟨m,hn,hl⟩:=I.loc
  refine ⟨m,ns m hn,fun i x v e1 e2 e3=>?_⟩
  obtain ⟨u,r,l⟩:=hl i x v e1 e2 e3
  refine ⟨u,r,?_⟩
  rcases l with l | ⟨k,c,e,z⟩
  ·exact .inl l
  ·exact .inr ⟨k,c,e,cellK x c e _ z⟩
 ·obtain ⟨v,z⟩:=I.cell x c e
  exact ⟨v,cellK x c e v z⟩
 ·obtain ⟨m,⟨o,_,_,ho,_⟩,_⟩:=I.loc
  exact free _ o (fun z=>(hch _ z).2.1 rfl) ho I.free
 ·obtain ⟨v,o,ho,hd⟩:=I.cell x c e
  exact free c o (fun z=>(hch c z).2.2.1 x c e rfl) ho (I.freeC x c e)
 ·obtain ⟨e,n,ne,nf,d⟩:=I.pin p hp
  have nch:p.1 ∉ ch:=fun z=>(hch p.1 z).2.2.2 p hp rfl
  exact ⟨keep p.1 p.2 ne nf nch e n,free p.1 p.2 nch e n,ne,nf,d⟩
theorem Inv.un {t':Nat} (I:Inv X Kp σ H s) (u:Un X.fs [] H H' s.heap h') (hok:HOk X.prog X.w H' h'):Inv X Kp σ H' { s with heap:=h',toks:=t' }:=by
 obtain ⟨m,⟨o,es,ep,ho,r⟩,_⟩:=id I.loc
 obtain ⟨sl,hL⟩:=u.any ho I.free (by simp)
 exact I.step (g':=s.gens) (d':=s.drawn) (ch:=[]) (fun _ z=>nomatch z) (fun b o _ hb _ e n=>u.keep b o e n hb (by simp)) (fun b o _ hb _ e n=>u.slot b o e n hb (by simp)) (fun b o _ e n=>u.free b o e n (by simp)) (fun b o _ e=>u.there b o e (by simp)) u.tups u.frzs u.tbls (fun m' hm=>by
  obtain ⟨o',es',ep',ho',r'⟩:=hm
  rw [ho] at ho'; cases ho'
  exact ⟨_,es',ep',hL,r'⟩) hok I.bare
theorem Inv.call {g':Array GenState}{t':Nat}{d':Drawn}{ch:List Addr} (I:Inv X Kp σ H s) (u:Un (frs X.stack) ch H H' s.heap h') (hok:HOk X.prog X.w H' h') (hg:AllBare g')
  (hch:∀ b ∈ ch,(b ∈ X.ex ∨ X.s₀.heap.objs.size<=b)/\b ≠ X.env.locals/\(∀ x c,X.env.cells.lookup x=some c->c ≠ b)/\∀ p ∈ X.pn++Kp,p.1 ≠ b):
  Inv X Kp σ H' { s with heap:=h',gens:=g',drawn:=d',toks:=t' }:=by
 obtain ⟨m,⟨o,es,ep,ho,r⟩,_⟩:=id I.loc
 obtain ⟨sl,hL⟩:=u.any ho I.free fun z=>(hch _ z).2.1 rfl
 exact I.step (ch:=ch) hch (fun b o hL hb hc e n=>u.keep b o e n (fun z=>(List.mem_cons.mp (I.stkSub b z)).elim hL hb) hc) (fun b o _ _ hc e n=>u.any e n hc) (fun b o hc e n=>u.free b o e n hc) (fun b o hc e=>u.there b o e hc) u.tups u.frzs u.tbls (fun m' hm=>by
  obtain ⟨o',es',ep',ho',r'⟩:=hm
  rw [ho] at ho'; cases ho'
  exact ⟨_,es',ep',hL,r'⟩) hok hg
theorem Inv.turned {t':Nat}{it:Addr} (I:Inv X Kp σ H s) (k:∀ b o,b ≠ it->s.heap.get? b=some o->h'.get? b=some o) (hn:H it=none) (hL:it ≠ X.env.locals)
  (h1:it ∈ X.ex ∨ X.s₀.heap.objs.size<=it) (h2:∀ x c,X.env.cells.lookup x=some c->c ≠ it) (h3:∀ p ∈ X.pn++Kp,p.1 ≠ it):Inv X Kp σ H { s with heap:=h',toks:=t' }:=by
 have nit:∀ b u,H b=some u->b ≠ it:=fun b u e z=>by rw [z,hn] at e; cases e
 refine I.step (g':=s.gens) (d':=s.drawn) (ch:=[it]) (fun b hb=>?_) (fun b o _ _ hc e _=>k b o (fun z=>hc (by simp [z])) e) (fun b o _ _ hc e _=>⟨o.slots,k b o (fun z=>hc (by simp [z])) e⟩) (fun _ _ _ _ n=>n)
  (fun b o hc e=>⟨o,k b o (fun z=>hc (by simp [z])) e⟩) (fun _ _ e=>e) (fun _ _ _ e=>e) (fun b ps e=>⟨#[],by rw [e]; simp⟩) (fun m hm=>?_) (fun b u e=>?_) I.bare
 ·have e:b=it:=by simpa using hb
  subst e
  exact ⟨h1,hL,h2,h3⟩
 ·obtain ⟨o,es,ep,ho,r⟩:=hm
  exact ⟨o,es,ep,k _ o (Ne.symm hL) ho,r⟩
 ·refine (I.hok b u e).stay (fun c v hc q=>k c v ?_ q) (fun _ q=>q) fun _ _ q=>q
  rcases hc with z | z
  ·rw [z]; exact nit b u e
  ·exact nit c _ z
theorem Inv.tok (I:Inv X Kp σ H s) (t:Nat):Inv X Kp σ H { s with toks:=t }:=I.un (h':=s.heap) (t':=t) Un.refl I.hok
theorem Inv.kept {t':Nat} (I:Inv X Kp σ H s) (k:∀ b u,s.heap.get? b=some u->h'.get? b=some u):Inv X Kp σ H { s with heap:=h',toks:=t' }:=I.un (Un.kept k) (I.hok.kept k)
theorem Inv.laid {a:Addr}{o:HO}{t':Nat} (I:Inv X Kp σ H s) (k:∀ b u,s.heap.get? b=some u->h'.get? b=some u) (hp:s.heap.objs.size<=a) (new:qM X.prog X.w (upd H a o) h' a o):
  Inv X Kp σ (upd H a o) { s with heap:=h',toks:=t' }:=I.un (Un.laid k hp (I.hok.fresh hp)) (I.hok.laid k hp new)
theorem Inv.write {x e:Addr}{o:HO}{t':Nat} (I:Inv X Kp σ H s) (mu:Mut (H x)) (he:e=x ∨ H e=some (.own x)) (k:∀ b u,b ≠ e->s.heap.get? b=some u->h'.get? b=some u) (heo:∃ u,h'.get? e=some u)
  (new:qM X.prog X.w (upd H x o) h' x o):Inv X Kp σ (upd H x o) { s with heap:=h',toks:=t' }:=I.un (Un.write mu he k heo) (I.hok.write mu he k heo new)
theorem Inv.pins_of {pins':List (Addr × Obj)} (I:Inv X Kp σ H s) (h:∀ p ∈ pins',s.heap.get? p.1=some p.2/\H p.1=none/\p.1 ≠ X.env.locals/\p.1 ∉ X.fs/\∀ v,p.2.data ≠ .cell v):Inv X pins' σ H s:=
 ⟨I.ok,I.os,I.bare,I.base,I.loc,I.cell,I.free,I.freeC,fun p hp=>(List.mem_append.mp hp).elim (fun z=>I.pin p (List.mem_append_left _ z)) (h p),I.hok,I.len⟩
theorem agd {N:List Str} (hN:N.Nodup) {i j:Nat}{x:Str} (a:N[i]?=some x) (b:N[j]?=some x):i=j:=by
 obtain ⟨h1,e1⟩:=List.getElem?_eq_some_iff.mp a
 obtain ⟨h2,e2⟩:=List.getElem?_eq_some_iff.mp b
 exact (List.getElem_inj hN).mp (e1.trans e2.symm)
theorem aj1 {M:Model}{A:Around}{E:Value->SP0}{i:Nat}{x:Str}{v:V}{u:Value}{Q:Unit->SP0} (I:Inv X Kp σ H s) (hN:X.N.Nodup) (hi:X.N[i]?=some x) (hx:Loc X.env.scope x) (r:jV v u)
  (h:∀ s',Inv X Kp (σ.set i (some v)) H s'->(∃ a,Heap.SameBut a s.heap s'.heap/\(a=X.env.locals ∨ X.env.cells.lookup x=some a))->Q () s') (hf:X.fn x=true ∨ X.env.scope.names.lookup x=some .local:=by first | exact .inl rfl | exact .inr rfl | assumption):wpAny M A (storeName X.env x u) Q E s:=by
 obtain ⟨m,hn,hl⟩:=id I.loc
 have hcls:(X.env.scope.kind == .class || (X.env.scope.kind == .module && X.env.locals != X.env.globals))=false:=by rw [I.ok.kind]; rfl
 have hiσ:i < σ.length:=by rw [I.len]; exact (List.getElem?_eq_some_iff.mp hi).1
 have cne:=I.cne
 have tracked:∀ {a:Addr} {h':Heap},(∃ o,s.heap.get? a=some o/\H a=none)->Heap.SameBut a s.heap h'->HOk X.prog X.w H h':=fun {a h'} ha hs b ob e=>by
  obtain ⟨_,_,hfree⟩:=ha
  refine (I.hok b ob e).stay (fun c w' hc q=>(hs.2 c ?_).trans q) (fun _ q=>q) fun _ _ q=>q
  rintro rfl
  rcases hc with rfl | hc
  ·rw [hfree] at e; cases e
  ·rw [hfree] at hc; cases hc
 rcases hx with hk | hk
 ·refine wpAny_storeName_local hk hn (fun h' hn' hs=>?_) hcls
  obtain ⟨oL,_,_,hoL,_⟩:=id hn
  refine h _ ⟨I.ok,I.os,I.bare,⟨fun b o e n hb hx=>?_,fun b o e n hb hx=>?_,I.base.free,fun b o e hx=>?_,I.base.tups,I.base.frzs,I.base.tbls⟩,⟨_,hn',fun j y v' e1 e2 e3=>?_⟩,fun y c e=>?_,I.free,I.freeC,fun p hp=>?_,tracked ⟨oL,hoL,I.free⟩ hs,by simpa using I.len⟩ ⟨_,hs,.inl rfl⟩
  ·exact (hs.2 b (Nat.ne_of_lt (Nat.lt_of_lt_of_le (Heap.lt_size e) I.ok.above))).trans (I.base.keep b o e n hb hx)
  ·obtain ⟨sl,e1⟩:=I.base.slot b o e n hb hx
   exact ⟨sl,(hs.2 b (Nat.ne_of_lt (Nat.lt_of_lt_of_le (Heap.lt_size e) I.ok.above))).trans e1⟩
  ·obtain ⟨o',e1⟩:=I.base.there b o e hx
   exact ⟨o',(hs.2 b (Nat.ne_of_lt (Nat.lt_of_lt_of_le (Heap.lt_size e) I.ok.above))).trans e1⟩
  ·by_cases hj:j=i
   ·subst hj
    rw [hi] at e1; cases e1
    rw [List.getElem?_set_self hiσ] at e2
    cases e2
    exact ⟨u,r,.inl ⟨hk,by simp⟩⟩
   ·rw [List.getElem?_set_ne (Ne.symm hj)] at e2
    obtain ⟨u',r',q⟩:=hl j y v' e1 e2 e3
    refine ⟨u',r',?_⟩
    rcases q with ⟨k,e⟩ | ⟨k,c,e,z⟩
    ·refine .inl ⟨k,?_⟩
     have:y ≠ x:=fun e=>hj (agd hN e1 (e ▸ hi))
     simp [this,e]
    ·exact .inr ⟨k,c,e,z.sameBut hs (cne y c e)⟩
  ·obtain ⟨w',z⟩:=I.cell y c e
   exact ⟨w',z.sameBut hs (cne y c e)⟩
  ·obtain ⟨e,n,ne,nf,d⟩:=I.pin p hp
   exact ⟨(hs.2 p.1 ne).trans e,n,ne,nf,d⟩
 ·have hfn:X.fn x=true:=by
   rcases hf with z | z
   ·exact z
   ·rw [z] at hk; cases hk
  obtain ⟨c,hc⟩:=I.ok.has x (.inl hk)
  obtain ⟨w',z⟩:=I.cell x c hc
  refine wpAny_storeName_cell I.ok.kind hk hc z (fun h' hc' hs=>?_)
  obtain ⟨oc,hoc,hocd⟩:=id z
  refine h { s with heap:=h' } ⟨I.ok,I.os,I.bare,⟨fun b o e n hb hx=>?_,fun b o e n hb hx=>?_,I.base.free,fun b o e hx=>?_,I.base.tups,I.base.frzs,I.base.tbls⟩,⟨m,hn.sameBut hs (Ne.symm (cne x c hc)),fun j y v' e1 e2 e3=>?_⟩,fun y c' e=>?_,I.free,I.freeC,fun p hp=>?_,tracked ⟨oc,hoc,I.freeC x c hc⟩ hs,by simpa using I.len⟩ ⟨c,hs,.inr hc⟩
  ·exact (hs.2 b (Nat.ne_of_lt (Nat.lt_of_lt_of_le (Heap.lt_size e) (I.ok.cab x c hfn hc)))).trans (I.base.keep b o e n hb hx)
  ·obtain ⟨sl,e1⟩:=I.base.slot b o e n hb hx
   exact ⟨sl,(hs.2 b (Nat.ne_of_lt (Nat.lt_of_lt_of_le (Heap.lt_size e) (I.ok.cab x c hfn hc)))).trans e1⟩
  ·obtain ⟨o',e1⟩:=I.base.there b o e hx
   exact ⟨o',(hs.2 b (Nat.ne_of_lt (Nat.lt_of_lt_of_le (Heap.lt_size e) (I.ok.cab x c hfn hc)))).trans e1⟩
  ·by_cases hj:j=i
   ·subst hj
    rw [hi] at e1; cases e1
    rw [List.getElem?_set_self hiσ] at e2
    cases e2
    exact ⟨u,r,.inr ⟨.inl hk,c,hc,hc'⟩⟩
   ·rw [List.getElem?_set_ne (Ne.symm hj)] at e2
    obtain ⟨u',r',q⟩:=hl j y v' e1 e2 e3
    refine ⟨u',r',?_⟩
    rcases q with q | ⟨k,c',e,z'⟩
    ·exact .inl q
    ·refine .inr ⟨k,c',e,z'.sameBut hs ?_⟩
     rintro rfl
     exact hj (agd hN e1 (I.ok.inj _ _ _ e hc ▸ hi))
  ·by_cases hcc:c'=c
   ·subst hcc; exact ⟨_,hc'⟩
   ·obtain ⟨w2,z2⟩:=I.cell y c' e
    exact ⟨w2,z2.sameBut hs hcc⟩
  ·obtain ⟨e,n,ne,nf,d⟩:=I.pin p hp
   refine ⟨(hs.2 p.1 ?_).trans e,n,ne,nf,d⟩
   intro q
   rw [q,hoc] at e
   have q':oc=p.2:=Option.some.inj e
   exact d w' (by rw [←q']; exact hocd)
theorem age {M:Model}{A:Around}{E:Value->SP0}{i:Nat}{x:Str}{v:V}{u:Value}{Q:Unit->SP0} (I:Inv X Kp σ H s) (hN:X.N.Nodup) (hi:X.N[i]?=some x) (hx:Loc X.env.scope x) (r:jV v u)
  (h:∀ s',Inv X Kp (σ.set i (some v)) H s'->Q () s') (hf:X.fn x=true ∨ X.env.scope.names.lookup x=some .local:=by first | exact .inl rfl | exact .inr rfl | assumption):wpAny M A (storeName X.env x u) Q E s:=
 aj1 I hN hi hx r (fun s' I' _=>h s' I') hf
theorem Inv.call' {s':Shared}{ch:List Addr} (I:Inv X Kp σ H s) (ho:s'.os=s.os) (u:Un (frs X.stack) ch H H' s.heap s'.heap) (hok:HOk X.prog X.w H' s'.heap) (hg:AllBare s'.gens)
  (hch:∀ b ∈ ch,(b ∈ X.ex ∨ X.s₀.heap.objs.size<=b)/\b ≠ X.env.locals/\(∀ x c,X.env.cells.lookup x=some c->c ≠ b)/\∀ p ∈ X.pn++Kp,p.1 ≠ b):Inv X Kp σ H' s':=by
 obtain ⟨h',g',d',t',o'⟩:=s'
 have e:o'=s.os:=ho
 subst e
 exact I.call (g':=g') (t':=t') (d':=d') u hok hg hch
end
abbrev XK:=Value->Option Addr->Hp->Prop
noncomputable abbrev St:=List (Option V)
abbrev VK:=V->Hp->Prop
abbrev TE:=St->Hp->VK->Prop
abbrev TT:=St->Hp->(Bool->Hp->Prop)->Prop
abbrev TA:=St->Hp->(List V->Hp->Prop)->Prop
structure Ends where
 nx:St->Hp->Prop
 rt:VK
 bk:St->Hp->Prop:=fun _ _=>False
 ct:St->Hp->Prop:=fun _ _=>False
abbrev TS:=Ends->St->Hp->Prop
def EP (X:Cx) (Kp:List (Addr × Obj)) (σ:St) (Q:VK) (u:Value) (s':Shared):Prop:=∃ v H',Inv X Kp σ H' s'/\jV v u/\Q v H'
def TP (X:Cx) (Kp:List (Addr × Obj)) (σ:St) (Q:Bool->Hp->Prop) (b:Bool) (s':Shared):Prop:=∃ H',Inv X Kp σ H' s'/\Q b H'
def AP (X:Cx) (Kp:List (Addr × Obj)) (σ:St) (Q:List V->Hp->Prop) (us:List Value) (s':Shared):Prop:=∃ vs H',Inv X Kp σ H' s'/\jJ vs us/\Q vs H'
def SP (X:Cx) (Kp:List (Addr × Obj)) (D:Ends) (f:Flow) (s':Shared):Prop:=
 match f with
 | .next=>∃ σ' H',Inv X Kp σ' H' s'/\D.nx σ' H'
 | .brk=>∃ σ' H',Inv X Kp σ' H' s'/\D.bk σ' H'
 | .cont=>∃ σ' H',Inv X Kp σ' H' s'/\D.ct σ' H'
 | .ret u=>∃ v σ' H',Inv X Kp σ' H' s'/\jV v u/\D.rt v H'
def PE (X:Cx) (e:Expr) (t:TE):Prop:=
 ∀ (Kp:List (Addr × Obj)) (s:Shared) (σ:St) (H:Hp) (Q:VK),Inv X Kp σ H s->t σ H Q->wpAny (model X.prog X.w) X.A (eval e X.env) (EP X Kp σ Q) X.xe s
def PT (X:Cx) (e:Expr) (t:TT):Prop:=
 ∀ (Kp:List (Addr × Obj)) (s:Shared) (σ:St) (H:Hp) (Q:Bool->Hp->Prop),Inv X Kp σ H s->t σ H Q->wpAny (model X.prog X.w) X.A (isTrue e X.env (eval e X.env)) (TP X Kp σ Q) X.xe s
def PW (X:Cx) (e:Expr) (t:TT):Prop:=
 ∀ (whole:Sem Value) (Kp:List (Addr × Obj)) (s:Shared) (σ:St) (H:Hp) (Q:Bool->Hp->Prop),Inv X Kp σ H s->t σ H Q->wpAny (model X.prog X.w) X.A (isTrue e X.env whole) (TP X Kp σ Q) X.xe s
theorem PW.pt {X:Cx}{e:Expr}{t:TT} (h:PW X e t):PT X e t:=h _
def PA (X:Cx) (es:List Expr) (t:TA):Prop:=
 ∀ (pos:Pos) (Kp:List (Addr × Obj)) (s:Shared) (σ:St) (H:Hp) (Q:List V->Hp->Prop),Inv X Kp σ H s->t σ H Q->wpAny (model X.prog X.w) X.A (spliced (backTo pos (starEach es X.env))) (AP X Kp σ Q) X.xe s
def PS (X:Cx) (st:Stmt) (t:TS):Prop:=
 ∀ (Kp:List (Addr × Obj)) (s:Shared) (σ:St) (H:Hp) (D:Ends),Inv X Kp σ H s->t D σ H->wpAny (model X.prog X.w) X.A (exec st X.env) (SP X Kp D) X.xe s
def PSs (X:Cx) (st:List Stmt) (t:TS):Prop:=
 ∀ (Kp:List (Addr × Obj)) (s:Shared) (σ:St) (H:Hp) (D:Ends),Inv X Kp σ H s->t D σ H->wpAny (model X.prog X.w) X.A (execs st X.env) (SP X Kp D) X.xe s
theorem thn {α:Type}{t:Sem α}{Q Q':α->SP0}{M:Model}{A:Around}{E:Value->SP0}{s:Shared} (h:wpAny M A t Q E s) (hQ:∀ a s,Q a s->Q' a s):wpAny M A t Q' E s:=wpAny_mono h hQ fun _ _ x=>x
section
variable {X:Cx}
def anU (i:Nat):TE:=fun σ H Q=>∃ v,σ[i]?=some (some v)/\Q v H
def tC (v:V):TE:=fun _ H Q=>Q v H
theorem JB {i:Nat}{x:Str}{pos:Pos} (hN:X.N[i]?=some x) (hv:Vis X.env.scope x) (hd:(x == ("__debug__":Str))=false:=by decide) (hcd:(x == ("__classdict__":Str))=false:=by decide):PE X (.Name x pos) (anU i):=by
 intro Kp s σ H Q I h
 obtain ⟨v,e,h⟩:=h
 obtain ⟨m,hn,hl⟩:=I.loc
 obtain ⟨u,r,l⟩:=hl i x v hN e hv
 have fin:EP X Kp σ Q u s:=⟨v,H,I,r,h⟩
 rcases l with ⟨hk,hm⟩ | ⟨hk,c,hc,hcell⟩
 ·exact wpAny_Name (wpAny_loadName_local I.ok.kind hk hn hm fin) hd
 ·rcases hk with hk | hk
  ·exact wpAny_Name (wpAny_loadName_cell I.ok.kind hk hc hcell fin) hd
  ·exact wpAny_Name (wpAny_loadName_free I.ok.kind hk hc hcell fin hcd) hd
theorem aqb {i j pos}:PE X (.Constant (.int i) j pos) (tC (.int i)):=fun _ _ _ H _ I h=>wpAny_Constant_int ⟨.int i,H,I.tok _,⟨_,rfl⟩,h⟩
theorem arF {b j pos}:PE X (.Constant (.bool b) j pos) (tC (.bl b)):=fun _ _ _ H _ I h=>Constant_bool ⟨.bl b,H,I,rfl,h⟩
theorem alk {j pos}:PE X (.Constant .none j pos) (tC .non):=fun _ _ _ H _ I h=>Constant_none ⟨.non,H,I,rfl,h⟩
theorem alm {x j pos}:PE X (.Constant (.str x) j pos) (tC (.str x)):=fun _ _ _ H _ I h=>Calls.Constant_str ⟨.str x,H,I.tok _,⟨_,rfl⟩,h⟩
def Gl (X:Cx) (x:Str):Prop:=X.env.kindOf x=some .globalImplicit
theorem Qm {E:Value->SP0}{Kp:List (Addr × Obj)}{s:Shared}{σ:St}{H:Hp}{x:Str}{u:Value}{pos:Pos}{Q:Value->SP0} (I:Inv X Kp σ H s) (hg:Gl X x) (hm:X.mg x=some u) (h:Q u s)
  (hd:(x == ("__debug__":Str))=false:=by decide):wpAny (model X.prog X.w) X.A (eval (.Name x pos) X.env) Q E s:=
 Calls.Name_function_global I.ok.kind hg (Calls.loadGlobal_global (by rw [I.ok.glob]; exact I.mod.glob.keeps I.bk) hm h) hd
theorem Qn {E:Value->SP0}{Kp:List (Addr × Obj)}{s:Shared}{σ:St}{H:Hp}{x:Str}{u:Value}{pos:Pos}{Q:Value->SP0} (I:Inv X Kp σ H s) (hg:Gl X x) (hm:X.mg x=none) (hv:bootBuiltins x=some u) (h:Q u s)
  (hn:x ≠ "__name__":=by decide) (hd:(x == ("__debug__":Str))=false:=by decide):wpAny (model X.prog X.w) X.A (eval (.Name x pos) X.env) Q E s:=by
 obtain ⟨mb,h1,h2⟩:=I.mod.blt
 exact Calls.Name_function_global I.ok.kind hg (Calls.loadGlobal_builtin (by rw [I.ok.glob]; exact I.mod.glob.keeps I.bk) hm (by rw [I.ok.blt]; exact h1.keeps I.bk) ((h2 x hn).trans hv) h) hd
theorem aeE {x:Str}{v:V}{u:Value}{pos:Pos} (hg:Gl X x) (hm:X.mg x=some u) (r:jV v u) (hd:(x == ("__debug__":Str))=false:=by decide):PE X (.Name x pos) (tC v):=
 fun _ _ _ H _ I h=>Qm I hg hm ⟨v,H,I,r,h⟩ hd
theorem aiV {x:Str}{v:V}{u:Value}{pos:Pos} (hg:Gl X x) (hm:X.mg x=none) (hv:bootBuiltins x=some u) (r:jV v u) (hn:x ≠ "__name__":=by decide) (hd:(x == ("__debug__":Str))=false:=by decide):PE X (.Name x pos) (tC v):=
 fun _ _ _ H _ I h=>Qn I hg hm hv ⟨v,H,I,r,h⟩ hn hd
variable {a b:Expr}{ta tb:TE}{pos:Pos}
def PC (X:Cx) (op:CmpOp) (a b:Expr) (t:TE):Prop:=
 ∀ (Kp:List (Addr × Obj)) (s:Shared) (σ:St) (H:Hp) (Q:VK),Inv X Kp σ H s->t σ H Q->
  wpAny (model X.prog X.w) X.A (eval a X.env) (fun v s₁=>wpAny (model X.prog X.w) X.A (eval b X.env) (fun u s₂=>wpAny (model X.prog X.w) X.A (compareOp op v u) (EP X Kp σ Q) X.xe s₂) X.xe s₁) X.xe s
theorem aln (b:Expr) {op:CmpOp} (h:op ≠ .In) (h2:op ≠ .NotIn):behindInMarks op b=false:=by
 have e1:(op == CmpOp.In)=false:=by cases op <;> first | rfl | exact absurd rfl h
 have e2:(op == CmpOp.NotIn)=false:=by cases op <;> first | rfl | exact absurd rfl h2
 cases b <;> simp [behindInMarks,e1,e2]
def tB (t:TE):TT:=fun σ H Q=>t σ H fun x H1=>∃ c,x= .bl c/\Q c H1
theorem aqc {op:CmpOp}{t:TE} (h:PC X op a b t) (h1:behindInMarks op b=false:=by first | exact aln _ (by decide) (by decide) | rfl):PT X (.Compare a [op] [b] pos) (tB t):=by
 intro Kp s σ H Q I hw
 refine wpAny_isTrue_Compare1 (thn (h Kp s σ H _ I hw) fun v s1 h1=>thn h1 fun u s2 h2=>thn h2 fun c s3 ⟨x,H1,I1,r1,q1⟩=>?_) h1
 obtain ⟨d,rfl,q⟩:=q1
 cases r1
 exact wpAny_truthy_bool ⟨H1,I1,q⟩
theorem aqd {e:Expr}{t:TE} (h:PE X e t) (he:∀ whole,isTrue e X.env whole=(do let v ←whole; standAt e.pos; holding [v] (truthy v)):=by intro _; rfl):PT X e (tB t):=by
 intro Kp s σ H Q I hw
 refine isTrue_plain (thn (h Kp s σ H _ I hw) fun v s1 ⟨x,H1,I1,r1,q1⟩=>?_) (he _)
 obtain ⟨d,rfl,q⟩:=q1
 cases r1
 exact wpAny_truthy_bool ⟨H1,I1,q⟩
variable {tA tB':TT}{j8:List Expr}
def asW (t u:TT):TT:=fun σ H Q=>t σ H fun c H1=>if c=true then u σ H1 Q else Q false H1
def tOr (t u:TT):TT:=fun σ H Q=>t σ H fun c H1=>if c=true then Q true H1 else u σ H1 Q
def asX (t:TT):TT:=fun σ H Q=>t σ H fun c H1=>Q (!c) H1
theorem anV (ha:PT X a tA):PW X (.BoolOp .And [a] pos) tA:=by
 intro wh Kp s σ H Q I h
 refine isTrue_and (thn (ha Kp s σ H Q I h) fun c s1 e=>?_)
 cases c with
 | true=>exact isTrue_and_nil e
 | false=>exact e
theorem alo (ha:PT X a tA):PW X (.BoolOp .Or [a] pos) tA:=by
 intro wh Kp s σ H Q I h
 refine isTrue_or (thn (ha Kp s σ H Q I h) fun c s1 e=>?_)
 cases c with
 | false=>exact isTrue_or_nil e
 | true=>exact e
theorem aqe (ha:PT X a tA) (hb:PW X (.BoolOp .And (b::j8) pos) tB'):PW X (.BoolOp .And (a::b::j8) pos) (asW tA tB'):=by
 intro wh Kp s σ H Q I h
 refine isTrue_and (thn (ha Kp s σ H _ I h) fun c s1 ⟨H1,I1,q1⟩=>?_)
 cases c with
 | true=>exact hb wh Kp s1 σ H1 Q I1 q1
 | false=>exact ⟨H1,I1,q1⟩
theorem apB (ha:PT X a tA) (hb:PW X (.BoolOp .Or (b::j8) pos) tB'):PW X (.BoolOp .Or (a::b::j8) pos) (tOr tA tB'):=by
 intro wh Kp s σ H Q I h
 refine isTrue_or (thn (ha Kp s σ H _ I h) fun c s1 ⟨H1,I1,q1⟩=>?_)
 cases c with
 | true=>exact ⟨H1,I1,q1⟩
 | false=>exact hb wh Kp s1 σ H1 Q I1 q1
theorem alp (ha:PT X a tA):PT X (.UnaryOp .Not a pos) (asX tA):=by
 intro Kp s σ H Q I h
 exact isTrue_not (ha Kp s σ H (fun c H1=>Q (!c) H1) I h)
def arG (ta tb:TE):TE:=fun σ H Q=>ta σ H fun x H1=>∃ c,x= .bl c/\if c=true then tb σ H1 Q else Q (.bl false) H1
theorem alq {op}{t:TE} (h:PE X a t):PE X (.BoolOp op [a] pos) t:=fun Kp s σ H Q I hw=>BoolOp_one (h Kp s σ H Q I hw)
theorem alr (ha:PE X a ta) (hb:PE X (.BoolOp .And (b::j8) pos) tb):PE X (.BoolOp .And (a::b::j8) pos) (arG ta tb):=by
 intro Kp s σ H Q I h
 refine BoolOp_and (thn (ha Kp s σ H _ I h) fun v s1 ⟨x,H1,I1,r1,q1⟩=>?_)
 obtain ⟨c,rfl,q1⟩:=q1
 cases r1
 refine wpAny_truthy_bool ?_
 cases c with
 | true=>exact hb Kp s1 σ H1 Q I1 q1
 | false=>exact ⟨.bl false,H1,I1,rfl,q1⟩
def tIf (t:TT) (ta tb:TE):TE:=fun σ H Q=>t σ H fun c H1=>if c=true then ta σ H1 Q else tb σ H1 Q
theorem als {c:Expr} (hc:PT X c tA) (ha:PE X a ta) (hb:PE X b tb):PE X (.IfExp c a b pos) (tIf tA ta tb):=by
 intro Kp s σ H Q I h
 refine wpAny_IfExp (thn (hc Kp s σ H _ I h) fun d s1 ⟨H1,I1,q1⟩=>?_)
 cases d with
 | true=>exact ha Kp s1 σ H1 Q I1 q1
 | false=>exact hb Kp s1 σ H1 Q I1 q1
end
def SqL (K:Fg) (H:Hp) (a:Addr) (xs:List V):Prop:=
 Rd H a (.lst xs) ∨
  ∃ (o:Obj) (its:Array Value) (n:Nat),K.lookup a=some o/\o.cls= .type "list"/\o.dict=none/\o.data= .seq its n/\its.size<=sizeLine/\jJ xs its.toList
def SqT (K:Fg) (H:Hp) (a:Addr) (xs:List V):Prop:=
 Rd H a (.tup xs) ∨
  ∃ (o:Obj) (its:Array Value) (n:Nat),K.lookup a=some o/\o.cls= .type "tuple"/\o.data= .seq its n/\its.size<=sizeLine/\jJ xs its.toList
noncomputable def asY:Value->Option V
 | .none=>some .non
 | .bool b=>some (.bl b)
 | .int i _=>some (.int i)
 | .str x _=>some (.str x)
 | .bytes b _=>some (.byt b)
 | .float b _=>some (.flt b)
 | .ref a=>some (.ref a)
 | .type n=>some (.ty n)
 | _=>none
theorem jV.abs {x:V}{u:Value} (r:jV x u):asY u=some x:=by
 cases x with
 | non=>cases r; rfl
 | bl _=>cases r; rfl
 | int _=>obtain ⟨t,rfl⟩:=r; rfl
 | str _=>obtain ⟨t,rfl⟩:=r; rfl
 | byt _=>obtain ⟨t,rfl⟩:=r; rfl
 | flt _=>obtain ⟨t,rfl⟩:=r; rfl
 | ref _=>cases r; rfl
 | ty _=>cases r; rfl
theorem jV.inj {x y:V}{u:Value} (r:jV x u) (q:jV y u):x=y:=Option.some.inj (r.abs.symm.trans q.abs)
theorem jJ.inj:∀ {xs ys:List V}{us:List Value},jJ xs us->jJ ys us->xs=ys
 | _,_,_,.nil,.nil=>rfl
 | _,_,_,.cons r t,.cons r' t'=>by rw [r.inj r',jJ.inj t t']
section
variable {X:Cx}{Kp:List (Addr × Obj)}{σ:St}{H:Hp}{s:Shared}{a:Addr}{xs ys:List V}
theorem SqL.of {K:Fg} (h:H a=some (.lst xs)):SqL K H a xs:= .inl (.inl h)
theorem SqT.of {K:Fg} (h:H a=some (.tup xs)):SqT K H a xs:= .inl (.inl h)
theorem Inv.list (I:Inv X Kp σ H s) (h:SqL X.K H a xs):∃ its:List Value,jJ xs its/\PlainL s.heap a its.toArray/\xs.length<=sizeLine:=by
 rcases h with h | ⟨o,its,n,hk,hc,hd,hs,hz,r⟩
 ·obtain ⟨z,its,n,r,e⟩:=h.ok I.hok
  exact ⟨its,r,⟨_,n,e,rfl,rfl,rfl⟩,z⟩
 ·refine ⟨its.toList,r,⟨o,n,I.kIn a o hk,hc,hd,by simpa using hs⟩,?_⟩
  have e:=r.length
  simp only [Array.length_toList] at e
  omega
theorem Inv.tuple (I:Inv X Kp σ H s) (h:SqT X.K H a xs):∃ its:List Value,jJ xs its/\IsTup s.heap a its.toArray/\xs.length<=sizeLine:=by
 rcases h with h | ⟨o,its,n,hk,hc,hs,hz,r⟩
 ·obtain ⟨z,its,r,p⟩:=h.ok I.hok
  exact ⟨its,r,p,z⟩
 ·refine ⟨its.toList,r,⟨o,I.kIn a o hk,hc,n,by simpa using hs⟩,?_⟩
  have e:=r.length
  simp only [Array.length_toList] at e
  omega
theorem Inv.list_inj (I:Inv X Kp σ H s) (h:SqL X.K H a xs) (h':SqL X.K H a ys):xs=ys:=by
 obtain ⟨its,r,⟨o,n,e,_,_,d⟩,_⟩:=I.list h
 obtain ⟨its',r',⟨o',n',e',_,_,d'⟩,_⟩:=I.list h'
 rw [e] at e'; cases e'
 rw [d] at d'
 injection d' with d1 _
 have:its=its':=by simpa using congrArg Array.toList d1
 subst this
 exact r.inj r'
theorem Inv.tuple_inj (I:Inv X Kp σ H s) (h:SqT X.K H a xs) (h':SqT X.K H a ys):xs=ys:=by
 obtain ⟨its,r,⟨o,e,_,n,d⟩,_⟩:=I.tuple h
 obtain ⟨its',r',⟨o',e',_,n',d'⟩,_⟩:=I.tuple h'
 rw [e] at e'; cases e'
 rw [d] at d'
 injection d' with d1 _
 have:its=its':=by simpa using congrArg Array.toList d1
 subst this
 exact r.inj r'
end
noncomputable abbrev Cx.wish (X:Cx) (E:Value->SP0):Cx:={ X with xe:=E }
abbrev Cx.nox (X:Cx):Cx:=X.wish fun _ _=>False
theorem Cx.Ok.wish {X:Cx} (ok:X.Ok) (E:Value->SP0):(X.wish E).Ok:=
 ⟨ok.mod,ok.kind,ok.glob,ok.blt,ok.above,ok.inj,ok.has,ok.cab,ok.hd,ok.frames,ok.stk,ok.exf,ok.bs,ok.bsz,ok.noex,ok.exfs,ok.funs,ok.frf⟩
theorem Cx.Ok.unwish {X:Cx}{E:Value->SP0} (ok:(X.wish E).Ok):X.Ok:=
 ⟨ok.mod,ok.kind,ok.glob,ok.blt,ok.above,ok.inj,ok.has,ok.cab,ok.hd,ok.frames,ok.stk,ok.exf,ok.bs,ok.bsz,ok.noex,ok.exfs,ok.funs,ok.frf⟩
section
variable {X:Cx}{Kp:List (Addr × Obj)}{σ:St}{H:Hp}{s:Shared}{E:Value->SP0}
theorem Inv.wish (I:Inv X Kp σ H s) (E:Value->SP0):Inv (X.wish E) Kp σ H s:=⟨I.ok.wish E,I.os,I.bare,I.base,I.loc,I.cell,I.free,I.freeC,I.pin,I.hok,I.len⟩
theorem Inv.unwish (I:Inv (X.wish E) Kp σ H s):Inv X Kp σ H s:=⟨I.ok.unwish,I.os,I.bare,I.base,I.loc,I.cell,I.free,I.freeC,I.pin,I.hok,I.len⟩
theorem SP.unwish {D:Ends}{f:Flow}{s':Shared} (h:SP (X.wish E) Kp D f s'):SP X Kp D f s':=by
 cases f with
 | next=>obtain ⟨σ',H',I,q⟩:=h; exact ⟨σ',H',I.unwish,q⟩
 | brk=>obtain ⟨σ',H',I,q⟩:=h; exact ⟨σ',H',I.unwish,q⟩
 | cont=>obtain ⟨σ',H',I,q⟩:=h; exact ⟨σ',H',I.unwish,q⟩
 | ret u=>obtain ⟨v,σ',H',I,r,q⟩:=h; exact ⟨v,σ',H',I.unwish,r,q⟩
theorem PE.nox {e:Expr}{t:TE} (h:PE X.nox e t):PE X e t:=fun Kp s σ H Q I hw=>
 wpAny_mono (h Kp s σ H Q (I.wish _) hw) (fun _ _ ⟨v,H',I',r,q⟩=>⟨v,H',I'.unwish,r,q⟩) fun _ _ z=>False.elim z
theorem PT.nox {e:Expr}{t:TT} (h:PT X.nox e t):PT X e t:=fun Kp s σ H Q I hw=>
 wpAny_mono (h Kp s σ H Q (I.wish _) hw) (fun _ _ ⟨H',I',q⟩=>⟨H',I'.unwish,q⟩) fun _ _ z=>False.elim z
theorem PSs.nox {st:List Stmt}{t:TS} (h:PSs X.nox st t):PSs X st t:=fun Kp s σ H D I hw=>
 wpAny_mono (h Kp s σ H D (I.wish _) hw) (fun _ _ q=>q.unwish) fun _ _ z=>False.elim z
end
section
variable {X:Cx}{st:Stmt}{j8:List Stmt}{t u:TS}{e:Expr}{te:TE}{pos:Pos}
def arH:TS:=fun D σ H=>D.nx σ H
def asZ (t u:TS):TS:=fun D σ H=>t { D with nx:=u D } σ H
theorem aeF:PSs X [] arH:=fun _ _ σ H _ I h=>wpAny_execs_nil ⟨σ,H,I,h⟩
theorem zU (h1:PS X st t) (h2:PSs X j8 u):PSs X (st::j8) (asZ t u):=by
 intro Kp s σ H D I h
 refine wpAny_execs_cons (thn (h1 Kp s σ H { D with nx:=u D } I h) fun f s1 q=>?_)
 cases f with
 | next=>
  obtain ⟨σ',H',I',q⟩:=q
  exact h2 Kp s1 σ' H' D I' q
 | ret v=>exact q
 | brk=>exact q
 | cont=>exact q
theorem aeG (h1:PS X st t):PSs X [st] t:=by
 intro Kp s σ H D I h
 refine wpAny_execs_cons (thn (h1 Kp s σ H D I h) fun f s1 q=>?_)
 cases f with
 | next=>exact wpAny_execs_nil q
 | ret v=>exact q
 | brk=>exact q
 | cont=>exact q
theorem Inv.quiet {Kp:List (Addr × Obj)}{σ:St}{H:Hp}{s:Shared} (I:Inv X Kp σ H s):interactive X.env=false:=by simp [interactive,I.ok.kind]
def arI (te:TE):TS:=fun D σ H=>te σ H fun _ H1=>D.nx σ H1
theorem abP (he:PE X e te) (hs:swapsWith e none pos.line X.env=pure false:=by rfl):PS X (.Expr e pos) (arI te):=by
 intro Kp s σ H D I h
 exact wpAny_Expr_any (thn (he Kp s σ H _ I h) fun v s1 ⟨x,H1,I1,r1,q1⟩=>⟨σ,H1,I1,q1⟩) I.quiet hs
def as0 (te:TE):TS:=fun D σ H=>te σ H D.rt
theorem aeH (he:PE X e te):PS X (.Return (some e) pos) (as0 te):=by
 intro Kp s σ H D I h
 exact wpAny_Return_some (thn (he Kp s σ H _ I h) fun v s1 ⟨x,H1,I1,r1,q1⟩=>⟨x,σ,H1,I1,r1,q1⟩)
def as1 (c:TT) (t u:TS):TS:=fun D σ H=>c σ H fun b H1=>if b=true then t D σ H1 else u D σ H1
theorem apC {c:Expr}{a b:List Stmt}{tc:TT} (hc:PT X c tc) (ha:PSs X a t) (hb:PSs X b u):PS X (.If c a b pos) (as1 tc t u):=by
 intro Kp s σ H D I h
 refine wpAny_If (thn (hc Kp s σ H _ I h) fun d s1 ⟨H1,I1,q1⟩=>?_)
 cases d with
 | true=>exact ha Kp s1 σ H1 D I1 q1
 | false=>exact hb Kp s1 σ H1 D I1 q1
def alu:TS:=fun _ _ _=>False
theorem alv:PS X st alu:=fun _ _ _ _ _ _ h=>h.elim
theorem aj2 {sts:List Stmt}:PSs X sts alu:=fun _ _ _ _ _ _ h=>h.elim
end
abbrev TG:=V->St->Hp->(St->Hp->Prop)->Prop
abbrev TGs:=List V->St->Hp->(St->Hp->Prop)->Prop
def PG (X:Cx) (target:Expr) (t:TG):Prop:=
 ∀ (Kp:List (Addr × Obj)) (s:Shared) (σ:St) (H:Hp) (v:V) (u:Value) (Q:St->Hp->Prop),Inv X Kp σ H s->jV v u->t v σ H Q->
  wpAny (model X.prog X.w) X.A (assign target X.env u) (fun _ s'=>∃ σ' H',Inv X Kp σ' H' s'/\Q σ' H') X.xe s
def PGs (X:Cx) (ts:List Expr) (t:TGs):Prop:=
 ∀ (Kp:List (Addr × Obj)) (s:Shared) (σ:St) (H:Hp) (vs:List V) (us:List Value) (Q:St->Hp->Prop),Inv X Kp σ H s->jJ vs us->t vs σ H Q->
  wpAny (model X.prog X.w) X.A (assignInOrder ((assignEach ts X.env).map (·.2)) us) (fun _ s'=>∃ σ' H',Inv X Kp σ' H' s'/\Q σ' H') X.xe s
abbrev aqf:=V->V->V->Hp->(Hp->Prop)->Prop
def anW (X:Cx) (t:aqf):Prop:=
 ∀ (Kp:List (Addr × Obj)) (s:Shared) (σ:St) (H:Hp) (o i v:V) (ov iv u:Value) (Q:Hp->Prop),Inv X Kp σ H s->jV o ov->jV i iv->jV v u->t o i v H Q->
  wpAny (model X.prog X.w) X.A (setItem ov iv u) (fun _ s'=>∃ H',Inv X Kp σ H' s'/\Q H') X.xe s
section
variable {X:Cx}{pos:Pos}
def apD (i:Nat):TG:=fun v σ H Q=>Q (σ.set i (some v)) H
theorem abQ {i:Nat}{x:Str} (hN:X.N.Nodup) (hi:X.N[i]?=some x) (hx:Loc X.env.scope x) (hf:X.fn x=true ∨ X.env.scope.names.lookup x=some .local:=by first | exact .inl rfl | exact .inr rfl | assumption):PG X (.Name x pos) (apD i):=by
 intro Kp s σ H v u Q I r h
 exact wpAny_assign_Name (age I hN hi hx r (fun s' I'=>⟨_,H,I',h⟩) hf)
def as2:TGs:=fun vs σ H Q=>vs=[]/\Q σ H
def arJ (t:TG) (u:TGs):TGs:=fun vs σ H Q=>∃ v r,vs=v::r/\t v σ H fun σ' H'=>u r σ' H' Q
theorem aiW:PGs X [] as2:=by
 intro Kp s σ H vs us Q I r h
 obtain ⟨e,h⟩:=h
 subst e
 cases r
 exact assignInOrder_nil ⟨σ,H,I,h⟩
theorem agf {e:Expr}{es:List Expr}{t:TG}{u:TGs} (h1:PG X e t) (h2:PGs X es u)
  (hs:(assignEach (e::es) X.env).map (·.2)=assign e X.env::(assignEach es X.env).map (·.2):=by rfl):PGs X (e::es) (arJ t u):=by
 intro Kp s σ H vs us Q I r h
 obtain ⟨v,vr,e1,h⟩:=h
 subst e1
 cases r with
 | cons r rr=>
  rw [hs]
  refine assignInOrder_cons (thn (h1 Kp s σ H _ _ _ I r h) fun _ s1 ⟨σ1,H1,I1,q1⟩=>?_)
  exact h2 Kp s1 σ1 H1 _ _ Q I1 rr q1
def as3 (K:Fg) (n:Nat) (t:TGs):TG:=fun v σ H Q=>∃ a xs,v= .ref a/\SqT K H a xs/\xs.length=n/\t xs σ H Q
theorem alw {es:List Expr}{k:Nat}{t:TGs}{n:Nat} (hc:X.calm=true) (h:PGs X es t)
  (hn:(assignEach es X.env).length=n:=by rfl) (hst:(assignEach es X.env).findIdx? (·.1)=none:=by rfl):PG X (.Tuple es k pos) (as3 X.K n t):=by
 intro Kp s σ H v u Q I r hw
 obtain ⟨a,xs,e1,hq,hl,hw⟩:=hw
 subst e1
 cases r
 obtain ⟨its,rv,ht,hz⟩:=I.tuple hq
 refine assign_Tuple_tuple (I.ok.hd hc) ht (by simp [hn,←hl,rv.length]) hst fun h' hx=>?_
 have I1:Inv X Kp σ H { s with heap:=h' }:=I.kept (t':=s.toks) fun b o e=>hx b o (Nat.ne_of_lt (Heap.lt_size e)) e
 exact h Kp _ σ H xs _ Q I1 (by simpa using rv) hw
def as4 (to ti:TE) (t:aqf):TG:=fun v σ H Q=>to σ H fun o H1=>ti σ H1 fun i H2=>t o i v H2 fun H3=>Q σ H3
theorem alx {o i:Expr}{to ti:TE}{t:aqf} (ho:PE X o to) (hi:PE X i ti) (hs:anW X t)
  (ha:∀ v,assign (.Subscript o i pos) X.env v=(do
   let ov ←holding [v] (eval o X.env)
   let iv ←holding [v,ov] (eval i X.env)
   standAt pos
   holding [v,ov,iv] (setItem ov iv v)
   release [v,ov,iv] []):=by intro _; rfl):PG X (.Subscript o i pos) (as4 to ti t):=by
 intro Kp s σ H v u Q I r h
 rw [ha]
 refine wpAny_bind (wpAny_holding (thn (ho Kp s σ H _ I h) fun ov s1 ⟨x,H1,I1,r1,q1⟩=>?_))
 refine wpAny_bind (wpAny_holding (thn (hi Kp s1 σ H1 _ I1 q1) fun iv s2 ⟨y,H2,I2,r2,q2⟩=>?_))
 refine wpAny_bind (wpAny_standAt (wpAny_bind (wpAny_holding (thn (hs Kp s2 σ H2 x y v ov iv u _ I2 r1 r2 r q2) fun _ s3 ⟨H3,I3,q3⟩=>?_))))
 exact wpAny_release ⟨σ,H3,I3,q3⟩
def arK (te:TE) (g:TG):TS:=fun D σ H=>te σ H fun x H1=>g x σ H1 D.nx
theorem ahw {tg e:Expr}{te:TE}{g:TG} (he:PE X e te) (hg:PG X tg g) (hs:swapsWithSole [tg] e pos.line X.env=pure false:=by rfl) (hw:swappedStores [tg] e X.env=pure none:=by rfl)
  (h1:(assignEach [tg] X.env).map (·.2)=[assign tg X.env]:=by rfl):PS X (.Assign [tg] e pos) (arK te g):=by
 intro Kp s σ H D I h
 refine wpAny_Assign_stores (thn (he Kp s σ H _ I h) fun v s1 ⟨x,H1,I1,r1,q1⟩=>?_) hs hw
 rw [h1]
 exact thn (hg Kp s1 σ H1 x v _ I1 r1 q1) fun _ s2 q=>q
theorem ZX {i:Nat}{x:Str}{e:Expr}{te:TE}{pos':Pos} (hN:X.N.Nodup) (hi:X.N[i]?=some x) (hx:Loc X.env.scope x) (he:PE X e te) (hs:swapsWith e (some (.Name x pos')) pos.line X.env=pure false:=by rfl) (hf:X.fn x=true ∨ X.env.scope.names.lookup x=some .local:=by first | exact .inl rfl | exact .inr rfl | assumption):
  PS X (.Assign [.Name x pos'] e pos) (arK te (apD i)):=by
 intro Kp s σ H D I h
 refine wpAny_Assign_Name (thn (he Kp s σ H _ I h) fun v s1 ⟨y,H1,I1,r1,q1⟩=>?_) hs
 exact age I1 hN hi hx r1 (fun s2 I2=>⟨_,H1,I2,q1⟩) hf
end
section
variable {X:Cx}{pos:Pos}
def aqg (c:TT) (tb:TS):TS:=fun D σ H=>∃ W:Nat->St->Hp->Prop,(∃ m,W m σ H)/\∀ m σ H,W m σ H->
 c σ H fun b H1=>if b=true then ∃ N:St->Hp->Prop,(∀ σ' H',N σ' H'->∃ m',m' < m/\W m' σ' H')/\tb { D with nx:=N,ct:=N,bk:=D.nx } σ H1 else D.nx σ H1
theorem aly {c:Expr}{body:List Stmt}{tc:TT}{tb:TS} (hp:PassesOwn (model X.prog X.w) X.A X.env X.xe) (hc:PT X c tc) (hb:PSs X body tb):PS X (.While c body [] pos) (aqg tc tb):=by
 intro Kp s σ H D I h
 obtain ⟨W,⟨m0,w0⟩,turn⟩:=h
 refine wpAny_While (codeAny_whileLoop (fun n s'=>∃ σ' H',Inv X Kp σ' H' s'/\W n σ' H') ?_ m0 ⟨σ,H,I,w0⟩)
 rintro n s1 ⟨σ1,H1,I1,w1⟩
 refine wpAny_passesOwn hp (thn (hc Kp s1 σ1 H1 _ I1 (turn n σ1 H1 w1)) fun b s2 ⟨H2,I2,q2⟩=>?_)
 cases b with
 | true=>
  obtain ⟨N,hN,q2⟩:=q2
  rw [if_pos rfl]
  refine wpAny_passesOwn hp (thn (hb Kp s2 σ1 H2 _ I2 q2) fun f s3 q3=>?_)
  cases f with
  | next=>
   obtain ⟨σ3,H3,I3,n3⟩:=q3
   obtain ⟨m',hm,w3⟩:=hN σ3 H3 n3
   exact ⟨m',hm,σ3,H3,I3,w3⟩
  | cont=>
   obtain ⟨σ3,H3,I3,n3⟩:=q3
   obtain ⟨m',hm,w3⟩:=hN σ3 H3 n3
   exact ⟨m',hm,σ3,H3,I3,w3⟩
  | brk=>exact q3
  | ret v=>exact q3
 | false=>
  rw [if_neg Bool.false_ne_true]
  exact wpAny_execs_nil ⟨σ1,H2,I2,q2⟩
end
structure It where
 go:Nat->Hp->Prop
 yld:Nat->Hp->V->Hp->Prop
 stop:Nat->Hp->Prop
def agg (X:Cx) (Kp:List (Addr × Obj)) (H:Hp) (b:Addr):Prop:=
 H b=none/\b ≠ X.env.locals/\b ∉ X.fs/\(b ∈ X.ex ∨ X.s₀.heap.objs.size<=b)/\(∀ x c,X.env.cells.lookup x=some c->c ≠ b)/\∀ p ∈ X.pn++Kp,p.1 ≠ b
theorem Inv.fpOk {X:Cx}{Kp:List (Addr × Obj)}{σ:St}{H H':Hp}{s:Shared}{b:Addr} (I:Inv X Kp σ H s) (hb:s.heap.objs.size<=b) (hn:H' b=none):agg X Kp H' b:=by
 refine ⟨hn,Nat.ne_of_gt (Nat.lt_of_lt_of_le I.lt hb),I.nofs hb,.inr (Nat.le_trans I.sz hb),fun x c e z=>?_,fun p hp z=>?_⟩
 ·obtain ⟨v,q⟩:=I.cell x c e
  exact absurd (Nat.lt_of_lt_of_le q.lt (by rw [z]; exact hb)) (Nat.lt_irrefl _)
 ·exact absurd (Nat.lt_of_lt_of_le (Heap.lt_size (I.pin p hp).1) (by rw [z]; exact hb)) (Nat.lt_irrefl _)
structure Turn (P:Program) (w:World) (K:Fg) (tg:Expr) (J:It) (fp:List Addr) (it:Addr) (tn:Nat->Heap->Prop):Prop where
 mem:it ∈ fp
 obj:∀ i h,tn i h->∀ b ∈ fp,∃ o,h.get? b=some o/\∀ v,o.data ≠ .cell v
 keep:∀ i h h',tn i h->(∀ b ∈ fp,∀ o,h.get? b=some o->h'.get? b=some o)->tn i h'
 item:∀ (X:Cx),X.prog=P->X.w=w->X.K=K->X.calm=true->∀ (i:Nat) (Kp:List (Addr × Obj)) (s:Shared) (σ:St) (H:Hp) (E:Value->SP0),Inv X Kp σ H s->(∀ b ∈ fp,agg X Kp H b)->tn i s.heap->J.go i H->
  wpAny (model P w) X.A (pyNext (.ref it)) (fun r s1=>∃ u,r=some u/\
   wpAny (model P w) X.A (letOwnedTupleGo tg (.ref it) u) (fun _ s2=>∃ x H',Inv X Kp σ H' s2/\jV x u/\J.yld i H x H'/\tn (i+1) s2.heap/\∀ b ∈ fp,H' b=none) E s1) E s
 done:∀ (X:Cx),X.prog=P->X.w=w->X.K=K->X.calm=true->∀ (i:Nat) (Kp:List (Addr × Obj)) (s:Shared) (σ:St) (H:Hp) (E:Value->SP0),Inv X Kp σ H s->(∀ b ∈ fp,agg X Kp H b)->tn i s.heap->J.stop i H->
  wpAny (model P w) X.A (pyNext (.ref it)) (fun r s1=>r=none/\Inv X Kp σ H s1) E s
 self:∀ (A:Around) (i:Nat) (s:Shared) (Q:Value->SP0) (E:Value->SP0),tn i s.heap->Q (.ref it) s->wpAny (model P w) A (pyIter (.ref it)) Q E s
abbrev TI:=St->Hp->(It->Hp->Prop)->Prop
def PIE (X:Cx) (Kp:List (Addr × Obj)) (σ:St) (tg:Expr) (R:It->Hp->Prop) (itv:Value) (s2:Shared):Prop:=
 ∃ (it:Addr) (fp:List Addr) (tn:Nat->Heap->Prop) (J:It) (H':Hp),itv= .ref it/\Inv X Kp σ H' s2/\Turn X.prog X.w X.K tg J fp it tn/\tn 0 s2.heap/\(∀ b ∈ fp,agg X Kp H' b)/\R J H'
def PI (X:Cx) (tg iter:Expr) (wi:TI):Prop:=
 ∀ (Kp:List (Addr × Obj)) (s:Shared) (σ:St) (H:Hp) (R:It->Hp->Prop),Inv X Kp σ H s->wi σ H R->
  wpAny (model X.prog X.w) X.A (eval iter X.env) (fun v s1=>wpAny (model X.prog X.w) X.A (pyIter v) (PIE X Kp σ tg R) X.xe s1) X.xe s
theorem aiX {M : Model} {A : Around} {E : Value -> Shared -> Prop} {s : Shared} {tg : Expr} {it : Addr} {u : Value} {o : Obj} {n : String} {vs : Array Value} {Q : Unit -> Shared -> Prop} (ho : s.heap.get? it = some o) (hc : o.cls = .type n) (hd : o.data = .fields vs)
    (hn : ["enumerate", "zip", "dict_itemiterator", "dict_reverseitemiterator", "odict_iterator", "itertools.zip_longest", "itertools.pairwise"].contains n = false) (hQ : Q () s) : wpAny M A (letOwnedTupleGo tg (.ref it) u) Q E s := by
  unfold letOwnedTupleGo
  cases tg <;> first
    | exact wpAny_pure hQ
    | (cases u <;> first
        | exact wpAny_pure hQ
        | (refine wpAny_bind (wpAny_load ho ?_)
           rw [hc, hd]
           show wpAny M A (if (["enumerate", "zip", "dict_itemiterator", "dict_reverseitemiterator", "odict_iterator", "itertools.zip_longest", "itertools.pairwise"].contains n && vs[0]? == some (rawInt _)) = true then _ else _) Q E s
           rw [if_neg (by intro h; rw [hn, Bool.false_and] at h; cases h)]
           exact wpAny_pure hQ))
noncomputable def Itl (K:Fg) (a:Addr):It:=
 ⟨fun i H=>∃ xs x,SqL K H a xs/\xs[i]?=some x,fun i H x H'=>H'=H/\∀ xs,SqL K H a xs->xs[i]?=some x,fun i H=>∃ xs,SqL K H a xs/\xs.length<=i⟩
noncomputable def Itt (K:Fg) (a:Addr):It:=
 ⟨fun i H=>∃ xs x,SqT K H a xs/\xs[i]?=some x,fun i H x H'=>H'=H/\∀ xs,SqT K H a xs->xs[i]?=some x,fun i H=>∃ xs,SqT K H a xs/\xs.length<=i⟩
noncomputable def Itr (lo:Int) (n:Nat):It:=⟨fun i _=>i<n,fun i H x H'=>H'=H/\x= .int (lo+i),fun i _=>n<=i⟩
theorem aj3 {P:Program}{w:World}{K:Fg}{tg:Expr} (a it:Addr):Turn P w K tg (Itl K a) [it] it (fun i h=>h.IsListIter it a i) where
 mem:=by simp
 obj:=fun i h st b hb=>by
  have e:b=it:=by simpa using hb
  subst e
  obtain ⟨o,e,c,d⟩:=st
  exact ⟨o,e,fun v z=>by rw [d] at z; cases z⟩
 keep:=fun i h h' st k=>st.at fun o e=>k it (by simp) o e
 item:=by
  intro X hP hw hK hc i Kp s σ H E I hf st hg
  subst hP hw hK
  obtain ⟨xs,x,hq,hx⟩:=hg
  obtain ⟨its,rv,p,hz⟩:=I.list hq
  obtain ⟨u,hu,ru⟩:=rv.get hx
  obtain ⟨f0,f1,f2,f3,f4,f5⟩:=hf it (by simp)
  refine wpAny_pyNext_list_item st p.isList (x:=u) (by simpa using hu) fun h' st' sb=>?_
  have I1:Inv X Kp σ H { s with heap:=h' }:=I.turned (t':=s.toks) (fun b o hb e=>(sb.2 b hb).trans e) f0 f1 f3 f4 f5
  obtain ⟨o,e,c,d⟩:=id st'
  exact ⟨u,rfl,aiX (s:={ s with heap:=h' }) e c d (by decide) ⟨x,H,I1,ru,⟨rfl,fun ys hy=>by rw [I.list_inj hy hq]; exact hx⟩,st',fun b hb=>(hf b hb).1⟩⟩
 done:=by
  intro X hP hw hK hc i Kp s σ H E I hf st hg
  subst hP hw hK
  obtain ⟨xs,hq,hx⟩:=hg
  obtain ⟨its,rv,p,hz⟩:=I.list hq
  obtain ⟨f0,f1,f2,f3,f4,f5⟩:=hf it (by simp)
  have hl:=rv.length
  exact wpAny_pyNext_list_end (I.ok.hd hc) st p.isList (by simp; omega) fun h' eb=>⟨rfl,I.turned (t':=s.toks) (fun b o hb e=>eb b o hb e) f0 f1 f3 f4 f5⟩
 self:=fun _ _ _ _ _ st h=>wpAny_pyIter_listiter st h
theorem ahx {P:Program}{w:World}{K:Fg}{tg:Expr} (a it:Addr):Turn P w K tg (Itt K a) [it] it (fun i h=>h.IsTupleIter it a i) where
 mem:=by simp
 obj:=fun i h st b hb=>by
  have e:b=it:=by simpa using hb
  subst e
  obtain ⟨o,e,c,d⟩:=st
  exact ⟨o,e,fun v z=>by rw [d] at z; cases z⟩
 keep:=fun i h h' st k=>st.at fun o e=>k it (by simp) o e
 item:=by
  intro X hP hw hK hc i Kp s σ H E I hf st hg
  subst hP hw hK
  obtain ⟨xs,x,hq,hx⟩:=hg
  obtain ⟨its,rv,p,hz⟩:=I.tuple hq
  obtain ⟨u,hu,ru⟩:=rv.get hx
  obtain ⟨f0,f1,f2,f3,f4,f5⟩:=hf it (by simp)
  refine wpAny_pyNext_tuple_item st (show s.heap.IsTuple a its.toArray from p) (x:=u) (by simpa using hu) fun h' st' sb=>?_
  have I1:Inv X Kp σ H { s with heap:=h' }:=I.turned (t':=s.toks) (fun b o hb e=>(sb.2 b hb).trans e) f0 f1 f3 f4 f5
  obtain ⟨o,e,c,d⟩:=id st'
  exact ⟨u,rfl,aiX (s:={ s with heap:=h' }) e c d (by decide) ⟨x,H,I1,ru,⟨rfl,fun ys hy=>by rw [I.tuple_inj hy hq]; exact hx⟩,st',fun b hb=>(hf b hb).1⟩⟩
 done:=by
  intro X hP hw hK hc i Kp s σ H E I hf st hg
  subst hP hw hK
  obtain ⟨xs,hq,hx⟩:=hg
  obtain ⟨its,rv,p,hz⟩:=I.tuple hq
  obtain ⟨f0,f1,f2,f3,f4,f5⟩:=hf it (by simp)
  have hl:=rv.length
  exact wpAny_pyNext_tuple_end (I.ok.hd hc) st (show s.heap.IsTuple a its.toArray from p) (by simp; omega) fun h' eb=>⟨rfl,I.turned (t':=s.toks) (fun b o hb e=>eb b o hb e) f0 f1 f3 f4 f5⟩
 self:=fun _ _ _ _ _ st h=>wpAny_pyIter_tupleiter st h
theorem ahy {P:Program}{w:World}{K:Fg}{tg:Expr} (it:Addr) (lo:Int) (n:Nat):Turn P w K tg (Itr lo n) [it] it (fun i h=>IsRangeIter h it (lo+(i:Nat)*1) ((n:Int) - (i:Nat)) 1) where
 mem:=by simp
 obj:=fun i h st b hb=>by
  have e:b=it:=by simpa using hb
  subst e
  exact ⟨_,st,fun v z=>by
   have z':Data.fields _=Data.cell v:=z
   cases z'⟩
 keep:=fun i h h' st k=>k it (by simp) _ st
 item:=by
  intro X hP hw hK hc i Kp s σ H E I hf st hg
  subst hP hw hK
  obtain ⟨f0,f1,f2,f3,f4,f5⟩:=hf it (by simp)
  have W:=Walks.range (prog:=X.prog) (w:=X.w) (I.ok.hd hc) it lo 1 n
  refine W.item i s _ _ hg st fun v h' tk hv st' kk=>?_
  obtain ⟨t,rfl⟩:=hv
  have I1:Inv X Kp σ H { s with heap:=h',toks:=tk }:=I.turned (fun b o hb e=>kk b o (by simpa using hb) e) f0 f1 f3 f4 f5
  refine ⟨_,rfl,aiX (s:={ s with heap:=h',toks:=tk }) (n:="range_iterator") st' rfl rfl (by decide) ⟨.int (lo+i),H,I1,⟨t,?_⟩,⟨rfl,rfl⟩,st',fun b hb=>(hf b hb).1⟩⟩
  rw [Int.mul_one]
 done:=by
  intro X hP hw hK hc i Kp s σ H E I hf st hg
  subst hP hw hK
  obtain ⟨f0,f1,f2,f3,f4,f5⟩:=hf it (by simp)
  exact wpAny_pyNext_range_end (I.ok.hd hc) st (by have:n<=i:=hg; omega) fun h' eb=>⟨rfl,I.turned (t':=s.toks) (fun b o hb e=>eb b o hb e) f0 f1 f3 f4 f5⟩
 self:=fun _ _ _ _ _ st h=>wpAny_pyIter_rangeiter st h
section
variable {X:Cx}{tg:Expr}
def arL (K:Fg) (tl:TE):TI:=fun σ H R=>tl σ H fun x H1=>∃ a,x= .ref a/\(∃ xs,SqL K H1 a xs)/\R (Itl K a) H1
def as5 (K:Fg) (tl:TE):TI:=fun σ H R=>tl σ H fun x H1=>∃ a,x= .ref a/\(∃ xs,SqT K H1 a xs)/\R (Itt K a) H1
theorem anX {l:Expr}{tl:TE} (hl:PE X l tl):PI X tg l (arL X.K tl):=by
 intro Kp s σ H R I h
 refine thn (hl Kp s σ H _ I h) fun v s1 ⟨x,H1,I1,r1,q1⟩=>?_
 obtain ⟨a,e,⟨xs,hq⟩,q⟩:=q1
 subst e
 cases r1
 obtain ⟨its,rv,p,hz⟩:=I1.list hq
 refine wpAny_pyIter_list p.isList ?_
 refine ⟨s1.heap.objs.size,[s1.heap.objs.size],_,_,H1,rfl,I1.kept (t':=s1.toks) fun b o e=>Heap.get?_push_of_some _ e,aj3 a _,⟨_,Heap.get?_push_size _ rfl,rfl,rfl⟩,fun b hb=>?_,q⟩
 have e:b=s1.heap.objs.size:=by simpa using hb
 subst e
 exact I1.fpOk (Nat.le_refl _) (I1.hok.fresh (Nat.le_refl _))
theorem aqh {l:Expr}{tl:TE} (hl:PE X l tl):PI X tg l (as5 X.K tl):=by
 intro Kp s σ H R I h
 refine thn (hl Kp s σ H _ I h) fun v s1 ⟨x,H1,I1,r1,q1⟩=>?_
 obtain ⟨a,e,⟨xs,hq⟩,q⟩:=q1
 subst e
 cases r1
 obtain ⟨its,rv,p,hz⟩:=I1.tuple hq
 refine wpAny_pyIter_tuple (show s1.heap.IsTuple a its.toArray from p) ?_
 refine ⟨s1.heap.objs.size,[s1.heap.objs.size],_,_,H1,rfl,I1.kept (t':=s1.toks) fun b o e=>Heap.get?_push_of_some _ e,ahx a _,⟨_,Heap.get?_push_size _ rfl,rfl,rfl⟩,fun b hb=>?_,q⟩
 have e:b=s1.heap.objs.size:=by simpa using hb
 subst e
 exact I1.fpOk (Nat.le_refl _) (I1.hok.fresh (Nat.le_refl _))
theorem alz {Kp:List (Addr × Obj)}{σ:St}{H:Hp}{s:Shared}{R:It->Hp->Prop}{E:Value->SP0}{lo hi:Int}{t u v:Tok}{tk:Nat} (I:Inv X Kp σ H s) (h1:-(2 ^ 62)<=lo) (h2:lo<2 ^ 62) (h3:-(2 ^ 62)<=hi) (h4:hi<2 ^ 62)
  (q:R (Itr lo (hi - lo).toNat) H):wpAny (model X.prog X.w) X.A (pyIter (.ref s.heap.objs.size)) (PIE X Kp σ tg R) E { s with heap:=s.heap.push { cls:= .type "range",data:= .fields #[.int lo t,.int hi u,.int 1 v] },toks:=tk }:=by
 refine wpAny_pyIter_range (IsRange.new ..) (small_one h1 h2 h3 h4) ?_
 have I1:Inv X Kp σ H { s with heap:=s.heap.push { cls:= .type "range",data:= .fields #[.int lo t,.int hi u,.int 1 v] },toks:=tk }:=I.kept fun b o e=>Heap.get?_push_of_some _ e
 refine ⟨(s.heap.push { cls:= .type "range",data:= .fields #[.int lo t,.int hi u,.int 1 v] }).objs.size,[(s.heap.push { cls:= .type "range",data:= .fields #[.int lo t,.int hi u,.int 1 v] }).objs.size],_,_,H,rfl,
  I1.kept (t':=tk) fun b o e=>Heap.get?_push_of_some _ e,ahy _ lo (hi - lo).toNat,?_,fun b hb=>?_,q⟩
 ·have e1:lo+((0:Nat):Int)*1=lo:=by simp
  have e2:(((hi - lo).toNat:Nat):Int) - ((0:Nat):Int)=Builtin.Range.rangeSize lo hi 1:=by rw [rangeSize_one]; split <;> omega
  show IsRangeIter _ _ (lo+((0:Nat):Int)*1) ((((hi - lo).toNat:Nat):Int) - ((0:Nat):Int)) 1
  rw [e1,e2]
  exact Heap.get?_push_size _ rfl
 ·have e:b=(s.heap.push { cls:= .type "range",data:= .fields #[.int lo t,.int hi u,.int 1 v] }).objs.size:=by simpa using hb
  subst e
  exact I1.fpOk (Nat.le_refl _) (I1.hok.fresh (Nat.le_refl _))
def arM (ta:TA):TI:=fun σ H R=>ta σ H fun vs H1=>∃ j:Int,vs=[.int j]/\-(2 ^ 62)<=j/\j<2 ^ 62/\R (Itr 0 j.toNat) H1
theorem Zi {a:Expr}{ta:TA}{p pos:Pos} (hg:Gl X "range") (hm:X.mg "range"=none) (ha:PA X [a] ta) (hs:starEach [a] X.env=[(false,eval a X.env)]:=by rfl):PI X tg (.Call (.Name "range" p) [a] [] pos) (arM ta):=by
 intro Kp s σ H R I h
 refine Call_ (Qn I hg hm boot_range (PyProof.Rows.callWith_type1 (thn (ha pos Kp s σ H _ I h) fun us s1 ⟨vs,H1,I1,r1,q1⟩=>?_) hs rfl))
 obtain ⟨j,e,q1,q2,q⟩:=q1
 subst e
 cases r1 with
 | cons r rr=>
  cases rr
  obtain ⟨t,rfl⟩:=r
  exact call_range_1 (alz I1 (by omega) (by omega) q1 q2 (by simpa using q))
def as6 (wi:TI) (g:TG) (tb:TS):TS:=fun D σ H=>wi σ H fun J H1=>∃ W:Nat->Nat->St->Hp->Prop,(∃ m,W 0 m σ H1)/\∀ i m σ H,W i m σ H->
 (J.stop i H/\D.nx σ H) ∨ (J.go i H/\∃ N:St->Hp->Prop,(∀ σ' H',N σ' H'->∃ m',m' < m/\W (i+1) m' σ' H')/\∀ x H',J.yld i H x H'->g x σ H' fun σ2 H2=>tb { D with nx:=N,ct:=N,bk:=D.nx } σ2 H2)
noncomputable def acw (fp:List Addr) (h:Heap):List (Addr × Obj):=fp.filterMap fun b=>(h.get? b).map fun o=>(b,o)
theorem Qo {fp:List Addr}{h:Heap}{b:Addr}{o:Obj} (hb:b ∈ fp) (e:h.get? b=some o):(b,o) ∈ acw fp h:=List.mem_filterMap.mpr ⟨b,hb,by rw [e]; rfl⟩
theorem aj4 {fp:List Addr}{h:Heap}{p:Addr × Obj} (hp:p ∈ acw fp h):p.1 ∈ fp/\h.get? p.1=some p.2:=by
 obtain ⟨b,hb,e⟩:=List.mem_filterMap.mp hp
 cases q:h.get? b with
 | none=>rw [q] at e; cases e
 | some o=>
  rw [q] at e
  have e':(b,o)=p:=Option.some.inj e
  subst e'
  exact ⟨hb,q⟩
theorem Inv.pinned {Kp:List (Addr × Obj)}{σ:St}{H:Hp}{s:Shared}{fp:List Addr} (I:Inv X Kp σ H s) (hf:∀ b ∈ fp,agg X Kp H b) (ho:∀ b ∈ fp,∃ o,s.heap.get? b=some o/\∀ v,o.data ≠ .cell v):Inv X (Kp++acw fp s.heap) σ H s:=
 I.pins_of fun p hp=>(List.mem_append.mp hp).elim (fun z=>I.pin p (List.mem_append_right _ z)) fun z=>by
  obtain ⟨hb,e⟩:=aj4 z
  obtain ⟨f0,f1,f2,_⟩:=hf p.1 hb
  obtain ⟨o,e',d⟩:=ho p.1 hb
  rw [e] at e'; cases e'
  exact ⟨e,f0,f1,f2,d⟩
theorem Inv.unpinned {Kp pl:List (Addr × Obj)}{σ:St}{H:Hp}{s:Shared} (I:Inv X (Kp++pl) σ H s):Inv X Kp σ H s:=I.pins_of fun p hp=>I.pin p (List.mem_append_right _ (List.mem_append_left _ hp))
theorem ZY {iter:Expr}{body:List Stmt}{wi:TI}{g:TG}{tb:TS}{pos:Pos} (hp:PassesOwn (model X.prog X.w) X.A X.env X.xe) (hc:X.calm=true) (hi:PI X tg iter wi) (hg:PG X tg g) (hb:PSs X body tb)
  (hs:∀ x,foldedSetIterable iter X.env x=pure x:=by intro _; rfl):PS X (.For tg iter body [] pos) (as6 wi g tb):=by
 intro Kp s σ H D I h
 refine wpAny_For (thn (hi Kp s σ H _ I h) fun v s1 h1=>thn h1 fun itv s2 h2=>?_) hs
 obtain ⟨it,fp,tn,J,H2,e,I2,T,st2,f2,W,⟨m0,w0⟩,turn⟩:=h2
 subst e
 have stat:∀ {H':Hp},(∀ b ∈ fp,H' b=none)->∀ b ∈ fp,agg X Kp H' b:=fun hn b hb=>⟨hn b hb,(f2 b hb).2⟩
 refine codeAny_forLoop_any (fun n s'=>∃ i σ' H',Inv X Kp σ' H' s'/\tn i s'.heap/\(∀ b ∈ fp,H' b=none)/\W i n σ' H') ?_ m0 ⟨0,σ,H2,I2,st2,fun b hb=>(f2 b hb).1,w0⟩
 rintro n s3 ⟨i,σ3,H3,I3,st3,fr3,w3⟩
 rcases turn i n σ3 H3 w3 with ⟨stop,qn⟩ | ⟨go,N,hN,step⟩
 ·refine wpAny_passesOwn hp (thn (T.done X rfl rfl rfl hc i Kp s3 σ3 H3 X.xe I3 (stat fr3) st3 stop) fun r s4 ⟨hr,I4⟩=>?_)
  subst hr
  exact wpAny_execs_nil ⟨σ3,H3,I4,qn⟩
 ·refine wpAny_passesOwn hp (thn (T.item X rfl rfl rfl hc i Kp s3 σ3 H3 X.xe I3 (stat fr3) st3 go) fun r s4 ⟨u,hr,h4⟩=>?_)
  subst hr
  refine wpAny_passesOwn hp (thn h4 fun _ s5 ⟨x,H5,I5,r5,y5,st5,fr5⟩=>?_)
  have I5':=I5.pinned (stat fr5) (T.obj _ _ st5)
  refine wpAny_passesOwn hp (thn (hg _ s5 σ3 H5 x u _ I5' r5 (step x H5 y5)) fun _ s6 ⟨σ6,H6,I6,q6⟩=>?_)
  refine wpAny_passesOwn hp (thn (hb _ s6 σ6 H6 _ I6 q6) fun f s7 q7=>?_)
  have again:∀ {σ7:St} {H7:Hp},Inv X (Kp++acw fp s5.heap) σ7 H7 s7->N σ7 H7->∃ m,m<n/\∃ i σ' H',Inv X Kp σ' H' s7/\tn i s7.heap/\(∀ b ∈ fp,H' b=none)/\W i m σ' H':=fun {σ7 H7} I7 n7=>by
   obtain ⟨m',hm,w7⟩:=hN σ7 H7 n7
   refine ⟨m',hm,i+1,σ7,H7,I7.unpinned,T.keep _ _ _ st5 fun b hb o e=>(I7.pin (b,o) (List.mem_append_right _ (List.mem_append_right _ (Qo hb e)))).1,fun b hb=>?_,w7⟩
   obtain ⟨o,e,d⟩:=T.obj _ _ st5 b hb
   exact (I7.pin (b,o) (List.mem_append_right _ (List.mem_append_right _ (Qo hb e)))).2.1
  cases f with
  | next=>obtain ⟨σ7,H7,I7,n7⟩:=q7; exact again I7 n7
  | cont=>obtain ⟨σ7,H7,I7,n7⟩:=q7; exact again I7 n7
  | brk=>obtain ⟨σ7,H7,I7,q7⟩:=q7; exact ⟨σ7,H7,I7.unpinned,q7⟩
  | ret v=>obtain ⟨x7,σ7,H7,I7,r7,q7⟩:=q7; exact ⟨x7,σ7,H7,I7.unpinned,r7,q7⟩
end
theorem adJ {lo:Int}{n:Nat}{g:TG}{tb:TS}{D:Ends}{σ:St}{H:Hp} (Pv:Nat->St->Hp->Prop) (h0:Pv 0 σ H)
  (hs:∀ i σ H,i<n->Pv i σ H->g (.int (lo+i)) σ H fun σ2 H2=>tb { D with nx:=Pv (i+1),ct:=Pv (i+1),bk:=D.nx } σ2 H2) (hd:∀ σ H,Pv n σ H->D.nx σ H):
  ∃ W:Nat->Nat->St->Hp->Prop,(∃ m,W 0 m σ H)/\∀ i m σ H,W i m σ H->
   ((Itr lo n).stop i H/\D.nx σ H) ∨ ((Itr lo n).go i H/\∃ N:St->Hp->Prop,(∀ σ' H',N σ' H'->∃ m',m' < m/\W (i+1) m' σ' H')/\∀ x H',(Itr lo n).yld i H x H'->g x σ H' fun σ2 H2=>tb { D with nx:=N,ct:=N,bk:=D.nx } σ2 H2):=by
 refine ⟨fun i m σ H=>m=n - i/\i<=n/\Pv i σ H,⟨n,by simp,Nat.zero_le _,h0⟩,?_⟩
 rintro i m σ H ⟨rfl,hi,p⟩
 by_cases hlt:i<n
 ·refine .inr ⟨hlt,Pv (i+1),fun σ' H' p'=>⟨n - (i+1),by omega,rfl,hlt,p'⟩,fun x H' y=>?_⟩
  obtain ⟨e,y⟩:=y
  subst e y
  exact hs i σ _ hlt p
 ·have e:i=n:=by omega
  subst e
  exact .inl ⟨Nat.le_refl _,hd σ H p⟩
abbrev R2:=V->V->Hp->VK->Prop
def OpR (X:Cx) (f:Value->Value->Sem Value) (r:R2):Prop:=
 ∀ (Kp:List (Addr × Obj)) (s:Shared) (σ:St) (H:Hp) (x y:V) (v u:Value) (Q:VK),Inv X Kp σ H s->jV x v->jV y u->r x y H Q->
  wpAny (model X.prog X.w) X.A (f v u) (EP X Kp σ Q) X.xe s
def UnR (X:Cx) (f:Value->Sem Value) (r:V->Hp->VK->Prop):Prop:=
 ∀ (Kp:List (Addr × Obj)) (s:Shared) (σ:St) (H:Hp) (x:V) (v:Value) (Q:VK),Inv X Kp σ H s->jV x v->r x H Q->
  wpAny (model X.prog X.w) X.A (f v) (EP X Kp σ Q) X.xe s
def zV (X:Cx) (f:Value) (r:List V->Hp->VK->Prop):Prop:=
 ∀ (Kp:List (Addr × Obj)) (s:Shared) (σ:St) (H:Hp) (xs:List V) (us:List Value) (Q:VK),Inv X Kp σ H s->jJ xs us->r xs H Q->
  wpAny (model X.prog X.w) X.A (call f us) (EP X Kp σ Q) X.xe s
def as7 (X:Cx) (r:V->Hp->(Bool->Hp->Prop)->Prop):Prop:=
 ∀ (Kp:List (Addr × Obj)) (s:Shared) (σ:St) (H:Hp) (x:V) (v:Value) (Q:Bool->Hp->Prop),Inv X Kp σ H s->jV x v->r x H Q->
  wpAny (model X.prog X.w) X.A (truthy v) (TP X Kp σ Q) X.xe s
def tOp (r:R2) (ta tb:TE):TE:=fun σ H Q=>ta σ H fun x H1=>tb σ H1 fun y H2=>r x y H2 Q
def tUn (r:V->Hp->VK->Prop) (ta:TE):TE:=fun σ H Q=>ta σ H fun x H1=>r x H1 Q
def rI (C:Int->Int->Prop) (g:Int->Int->V):R2:=fun x y H Q=>∃ i j,x= .int i/\y= .int j/\C i j/\Q (g i j) H
def rI0 (g:Int->Int->V):R2:=fun x y H Q=>∃ i j,x= .int i/\y= .int j/\Q (g i j) H
def rU (g:Int->V):V->Hp->VK->Prop:=fun x H Q=>∃ i,x= .int i/\Q (g i) H
section
variable {X:Cx}{a b c:Expr}{ta tb tc:TE}{pos:Pos}
theorem anY (ha:PE X a ta) (hb:PE X b tb) {Kp:List (Addr × Obj)}{s:Shared}{σ:St}{H:Hp}{R:V->V->Hp->Prop} (I:Inv X Kp σ H s)
  (h:ta σ H fun x H1=>tb σ H1 fun y H2=>R x y H2) {Q:Value->SP0} {f:Value->Value->Sem Value}
  (hf:∀ v u s2 x y H2,Inv X Kp σ H2 s2->jV x v->jV y u->R x y H2->wpAny (model X.prog X.w) X.A (f v u) Q X.xe s2):
  wpAny (model X.prog X.w) X.A (eval a X.env) (fun v s₁=>wpAny (model X.prog X.w) X.A (eval b X.env) (fun u s₂=>wpAny (model X.prog X.w) X.A (f v u) Q X.xe s₂) X.xe s₁) X.xe s:=by
 refine thn (ha Kp s σ H _ I h) fun v s1 ⟨x,H1,I1,r1,q1⟩=>?_
 refine thn (hb Kp s1 σ H1 _ I1 q1) fun u s2 ⟨y,H2,I2,r2,q2⟩=>?_
 exact hf v u s2 x y H2 I2 r1 r2 q2
theorem apE {op:Operator}{r:R2} (ho:OpR X (binaryOp op) r) (ha:PE X a ta) (hb:PE X b tb):PE X (.BinOp a op b pos) (tOp r ta tb):=by
 intro Kp s σ H Q I h
 exact wpAny_BinOp (anY ha hb I h fun v u s2 x y H2 I2 rx ry q=>ho Kp s2 σ H2 x y v u Q I2 rx ry q)
theorem arN {op:UnaryOp}{r:V->Hp->VK->Prop} (ho:UnR X (unaryOp op) r) (ha:PE X a ta):PE X (.UnaryOp op a pos) (tUn r ta):=by
 intro Kp s σ H Q I h
 exact UnaryOp_ (thn (ha Kp s σ H _ I h) fun v s1 ⟨x,H1,I1,r1,q1⟩=>ho Kp s1 σ H1 x v Q I1 r1 q1)
theorem opI {f:Value->Value->Sem Value}{C:Int->Int->Prop}{g:Int->Int->Int}
  (rule:∀ (i j:Int) (t u:Tok) (s:Shared) (Q:Value->SP0) (E:Value->SP0),C i j->Q (.int (g i j) s.toks) { s with toks:=s.toks+1 }->wpAny (model X.prog X.w) X.A (f (.int i t) (.int j u)) Q E s):
  OpR X f (rI C fun i j=> .int (g i j)):=by
 intro Kp s σ H x y v u Q I rx ry h
 obtain ⟨i,j,rfl,rfl,hc,q⟩:=h
 obtain ⟨t,rfl⟩:=rx
 obtain ⟨t',rfl⟩:=ry
 exact rule i j t t' s _ _ hc ⟨.int (g i j),H,I.tok _,⟨_,rfl⟩,q⟩
theorem arO {f:Value->Value->Sem Value}{g:Int->Int->Int}
  (rule:∀ (i j:Int) (t u:Tok) (s:Shared) (Q:Value->SP0) (E:Value->SP0),Q (.int (g i j) s.toks) { s with toks:=s.toks+1 }->wpAny (model X.prog X.w) X.A (f (.int i t) (.int j u)) Q E s):
  OpR X f (rI0 fun i j=> .int (g i j)):=by
 intro Kp s σ H x y v u Q I rx ry h
 obtain ⟨i,j,rfl,rfl,q⟩:=h
 obtain ⟨t,rfl⟩:=rx
 obtain ⟨t',rfl⟩:=ry
 exact rule i j t t' s _ _ ⟨.int (g i j),H,I.tok _,⟨_,rfl⟩,q⟩
theorem anZ {f:Value->Value->Sem Value}{g:Int->Int->Bool}
  (rule:∀ (i j:Int) (t u:Tok) (s:Shared) (Q:Value->SP0) (E:Value->SP0),Q (.bool (g i j)) s->wpAny (model X.prog X.w) X.A (f (.int i t) (.int j u)) Q E s):
  OpR X f (rI0 fun i j=> .bl (g i j)):=by
 intro Kp s σ H x y v u Q I rx ry h
 obtain ⟨i,j,rfl,rfl,q⟩:=h
 obtain ⟨t,rfl⟩:=rx
 obtain ⟨t',rfl⟩:=ry
 exact rule i j t t' s _ _ ⟨.bl (g i j),H,I,rfl,q⟩
def as8 (i j:Int):Prop:=0<j/\j<1073741824
def aqi (i j:Int):Prop:=(-(2 ^ 64)<i/\i<2 ^ 64) ∨ (-(2 ^ 64)<j/\j<2 ^ 64)
theorem aqi.ok {i j:Int} (h:aqi i j):IntMulOk i j:=by
 rcases h with ⟨h1,h2⟩ | ⟨h1,h2⟩
 ·exact .of_left (intBits_le_64 h1 h2)
 ·exact .of_right (intBits_le_64 h1 h2)
theorem aqj:OpR X (binaryOp .Add) (rI0 fun i j=> .int (i+j)):=arO fun _ _ _ _ _ _ _ q=>add_int q
theorem aqk:OpR X (binaryOp .Sub) (rI0 fun i j=> .int (i - j)):=arO fun _ _ _ _ _ _ _ q=>sub_int q
theorem aql:OpR X (binaryOp .Mult) (rI aqi fun i j=> .int (i*j)):=opI fun _ _ _ _ _ _ _ hc q=>mul_int q hc.ok
theorem an0:OpR X (binaryOp .FloorDiv) (rI as8 fun i j=> .int (i / j)):=opI fun i j _ _ _ _ _ hc q=>by
 have h1:(0:Int)<j:=hc.1
 have h2:j<1073741824:=hc.2
 exact floordiv_int (by omega) (by rw [Int.fdiv_eq_ediv_of_nonneg i (by omega)]; exact q) (.inl (PyProof.noPylong_small (by omega)))
theorem aqm:OpR X (binaryOp .Mod) (rI (fun _ j=>0<j) fun i j=> .int (i % j)):=opI fun i j _ _ _ _ _ hc q=>by
 have h1:(0:Int)<j:=hc
 exact mod_int' (by omega) (by rw [Int.fmod_eq_emod_of_nonneg i (by omega)]; exact q)
theorem unI {f:Value->Sem Value}{g:Int->Int}
  (rule:∀ (i:Int) (t:Tok) (s:Shared) (Q:Value->SP0) (E:Value->SP0),Q (.int (g i) s.toks) { s with toks:=s.toks+1 }->wpAny (model X.prog X.w) X.A (f (.int i t)) Q E s):
  UnR X f (rU fun i=> .int (g i)):=by
 intro Kp s σ H x v Q I rx h
 obtain ⟨i,rfl,q⟩:=h
 obtain ⟨t,rfl⟩:=rx
 exact rule i t s _ _ ⟨.int (g i),H,I.tok _,⟨_,rfl⟩,q⟩
theorem aqn:UnR X (unaryOp .USub) (rU fun i=> .int (-i)):=unI fun _ _ _ _ _ q=>neg_int q
end
section
variable {X:Cx}{a b c:Expr}{ta tb tc:TE}{pos:Pos}
theorem aqo {Kp:List (Addr × Obj)}{σ:St}{H:Hp}{s:Shared}{Q:VK}{k k':Bool} (I:Inv X Kp σ H s) (q:Q (.bl k) H) (e:k=k'):EP X Kp σ Q (.bool k') s:=by
 subst e
 exact ⟨.bl k,H,I,rfl,q⟩
theorem arP:OpR X (compareOp .Lt) (rI0 fun i j=> .bl (decide (i<j))):=anZ fun _ _ _ _ _ _ _ q=>lt_int q
theorem arQ:OpR X (compareOp .LtE) (rI0 fun i j=> .bl (decide (i<=j))):=anZ fun _ _ _ _ _ _ _ q=>le_int q
theorem arR:OpR X (compareOp .Gt) (rI0 fun i j=> .bl (decide (j<i))):=anZ fun _ _ _ _ _ _ _ q=>gt_int q
theorem arS:OpR X (compareOp .GtE) (rI0 fun i j=> .bl (decide (j<=i))):=anZ fun _ _ _ _ _ _ _ q=>ge_int q
theorem OpR.or {f:Value->Value->Sem Value}{r r':R2} (h:OpR X f r) (h':OpR X f r'):OpR X f (fun x y H Q=>r x y H Q ∨ r' x y H Q):=by
 intro Kp s σ H x y v u Q I rx ry q
 rcases q with q | q
 ·exact h Kp s σ H x y v u Q I rx ry q
 ·exact h' Kp s σ H x y v u Q I rx ry q
theorem acx (b:Expr) {op:CmpOp} (h:op ≠ .In:=by decide) (h2:op ≠ .NotIn:=by decide):behindInMarks op b=false:=by
 have e1:(op == CmpOp.In)=false:=by cases op <;> first | rfl | exact absurd rfl h
 have e2:(op == CmpOp.NotIn)=false:=by cases op <;> first | rfl | exact absurd rfl h2
 cases b <;> simp [behindInMarks,e1,e2]
theorem aiY {op:CmpOp}{r:R2} (ho:OpR X (compareOp op) r) (ha:PE X a ta) (hb:PE X b tb) (hm:behindInMarks op b=false):PE X (.Compare a [op] [b] pos) (tOp r ta tb):=by
 intro Kp s σ H Q I h
 exact wpAny_Compare1 (anY ha hb I h fun v u s2 x y H2 I2 rx ry q=>ho Kp s2 σ H2 x y v u Q I2 rx ry q) hm
def apF (t:TE):TT:=fun σ H Q=>t σ H fun x H'=>∃ k,x= .bl k/\Q k H'
theorem aiZ {op:CmpOp}{r:R2} (ho:OpR X (compareOp op) r) (ha:PE X a ta) (hb:PE X b tb) (hm:behindInMarks op b=false):PT X (.Compare a [op] [b] pos) (apF (tOp r ta tb)):=by
 intro Kp s σ H Q I h
 refine wpAny_isTrue_Compare1 (thn (ha Kp s σ H _ I h) fun v s1 ⟨x,H1,I1,r1,q1⟩=>thn (hb Kp s1 σ H1 _ I1 q1) fun u s2 ⟨y,H2,I2,r2,q2⟩=>
  thn (ho Kp s2 σ H2 x y v u _ I2 r1 r2 q2) fun c s3 ⟨z,H3,I3,r3,k,e,q3⟩=>?_) hm
 subst e
 cases r3
 exact wpAny_truthy_bool ⟨H3,I3,q3⟩
def ahz (r r':R2) (ta tb tc:TE):TE:=fun σ H Q=>ta σ H fun x H1=>tb σ H1 fun y H2=>r x y H2 fun z H3=>∃ k,z= .bl k/\
 (if k=true then tc σ H3 fun w' H4=>r' y w' H4 Q else Q (.bl false) H3)
theorem alA {op op':CmpOp}{r r':R2} (ho:OpR X (compareOp op) r) (ho':OpR X (compareOp op') r') (ha:PE X a ta) (hb:PE X b tb) (hc:PE X c tc)
  (hm:lastMarks [op,op'] [b,c]=false:=by with_unfolding_all rfl):PE X (.Compare a [op,op'] [b,c] pos) (ahz r r' ta tb tc):=by
 intro Kp s σ H Q I h
 refine Compare_chain (thn (ha Kp s σ H _ I h) fun v s1 ⟨x,H1,I1,r1,q1⟩=>chain_link (thn (hb Kp s1 σ H1 _ I1 q1) fun u s2 ⟨y,H2,I2,r2,q2⟩=>
  thn (ho Kp s2 σ H2 x y v u _ I2 r1 r2 q2) fun d s3 ⟨z,H3,I3,r3,k,e,q3⟩=>?_)) hm
 subst e
 cases r3
 refine wpAny_truthy_bool ?_
 cases k with
 | false=>exact ite_ff ⟨.bl false,H3,I3,rfl,q3⟩
 | true=>exact ite_tt (chain_last (thn (hc Kp s3 σ H3 _ I3 q3) fun w' s4 ⟨z',H4,I4,r4,q4⟩=>ho' Kp s4 σ H4 y z' u w' Q I4 r2 r4 q4))
theorem alB {op op':CmpOp}{r r':R2} (ho:OpR X (compareOp op) r) (ho':OpR X (compareOp op') r') (ha:PE X a ta) (hb:PE X b tb) (hc:PE X c tc)
  (hm:lastMarks [op,op'] [b,c]=false:=by with_unfolding_all rfl):PT X (.Compare a [op,op'] [b,c] pos) (apF (ahz r r' ta tb tc)):=by
 intro Kp s σ H Q I h
 refine isTrue_chain (thn (ha Kp s σ H _ I h) fun v s1 ⟨x,H1,I1,r1,q1⟩=>test_link (thn (hb Kp s1 σ H1 _ I1 q1) fun u s2 ⟨y,H2,I2,r2,q2⟩=>
  thn (ho Kp s2 σ H2 x y v u _ I2 r1 r2 q2) fun d s3 ⟨z,H3,I3,r3,k,e,q3⟩=>?_)) hm
 subst e
 cases r3
 refine wpAny_truthy_bool ?_
 cases k with
 | false=>
  obtain ⟨k',e',q'⟩:=q3
  cases e'
  exact ite_ff ⟨H3,I3,q'⟩
 | true=>
  refine ite_tt (test_last (thn (hc Kp s3 σ H3 _ I3 q3) fun w' s4 ⟨z',H4,I4,r4,q4⟩=>thn (ho' Kp s4 σ H4 y z' u w' _ I4 r2 r4 q4) fun d' s5 ⟨z2,H5,I5,r5,k2,e2,q5⟩=>?_))
  subst e2
  cases r5
  exact wpAny_truthy_bool ⟨H5,I5,q5⟩
def as9 (K:Fg) (x:V) (H:Hp) (k:Bool):Prop:=
 match x with
 | .non=>k=false
 | .bl b=>k=b
 | .int i=>k=(i != 0)
 | .str y=>y.length<=sizeLine/\k=((y.length:Int) != 0)
 | .byt y=>y.size<=sizeLine/\k=((y.size:Int) != 0)
 | .ref p=>(∃ xs,SqL K H p xs/\k=!xs.isEmpty) ∨ (∃ xs,SqT K H p xs/\k=!xs.isEmpty) ∨ ∃ kvs,H p=some (.dK kvs)/\k=!kvs.isEmpty
 | _=>False
theorem ahA {κ:Type}{kvs:List (κ × V)}{vs:List (κ × Value)} (r:KV kvs vs):(!vs.isEmpty)=!kvs.isEmpty:=by
 cases r <;> rfl
theorem acy {xs:List V}{its:List Value} (r:jJ xs its):(!its.toArray.isEmpty)=!xs.isEmpty:=by
 cases r <;> simp
theorem aaX:(sizeLine:Nat)<2 ^ 63:=by rw [sizeLine_eq]; decide
theorem aqp:as7 X (fun x H Q=>∃ k,as9 X.K x H k/\Q k H):=by
 intro Kp s σ H x v Q I rx h
 obtain ⟨k,e,q⟩:=h
 have hl:=aaX
 have hs:sizeLine=16777216:=sizeLine_eq
 cases x with
 | non=>
  cases rx
  have e':k=false:=e
  subst e'
  exact truthy_none ⟨H,I,q⟩
 | bl b=>
  cases rx
  have e':k=b:=e
  subst e'
  exact wpAny_truthy_bool ⟨H,I,q⟩
 | int i=>
  obtain ⟨t,rfl⟩:=rx
  have e':k=(i != 0):=e
  subst e'
  exact PySem.P.truthy_int ⟨H,I,q⟩
 | str y=>
  obtain ⟨t,rfl⟩:=rx
  obtain ⟨hy,e'⟩:y.length<=sizeLine/\k=((y.length:Int) != 0):=e
  subst e'
  exact PySem.P.truthy_str (by omega) ⟨H,I.tok _,q⟩
 | byt y=>
  obtain ⟨t,rfl⟩:=rx
  obtain ⟨hy,e'⟩:y.size<=sizeLine/\k=((y.size:Int) != 0):=e
  subst e'
  exact PySem.W.truthy_bytes (by omega) ⟨H,I.tok _,q⟩
 | ref p=>
  cases rx
  have e':(∃ xs,SqL X.K H p xs/\k=!xs.isEmpty) ∨ (∃ xs,SqT X.K H p xs/\k=!xs.isEmpty) ∨ ∃ kvs,H p=some (.dK kvs)/\k=!kvs.isEmpty:=e
  rcases e' with ⟨xs,hx,e'⟩ | ⟨xs,hx,e'⟩ | ⟨kvs,hx,e'⟩
  ·subst e'
   obtain ⟨its,r,pl,hz⟩:=I.list hx
   have hlen:=r.length
   exact wpAny_truthy_list pl.isList (by simp only [List.size_toArray]; omega) ⟨H,I.tok _,by rw [acy r]; exact q⟩
  ·subst e'
   obtain ⟨its,r,pl,hz⟩:=I.tuple hx
   have hlen:=r.length
   exact truthy_tuple pl (by simp only [List.size_toArray]; omega) ⟨H,I.tok _,by rw [acy r]; exact q⟩
  ·subst e'
   obtain ⟨hz,hS,vs,r,m⟩:kvs.length<=sizeLine/\(p == sysModules)=false/\∃ vs,KV kvs vs/\s.heap.DictOf (qu X.prog X.w) p vs:=I.hok p _ hx
   have hlen:kvs.length=vs.length:=Paired.length r
   exact wpAny_truthy_dict hS m (by omega) ⟨H,I.tok _,by rw [ahA r]; exact q⟩
 | _=>exact (show False from e).elim
def agh (b:Expr):Prop:=∀ o i,subscripted b false o i=operate [o,i] (getItem o i)
theorem agi (ha:PE X a ta) (hb:PE X b tb) (hs:agh b):
  PE X (.Subscript a b pos) (tOp (fun x y H Q=>∃ z i c,x= .str z/\y= .int i/\0<=i/\i<2 ^ 63/\i<z.length/\z.cps[i.toNat]?=some c/\Q (.str ⟨#[c]⟩) H) ta tb):=by
 intro Kp s σ H Q I h
 refine Subscript_ (anY ha hb I h fun v u s2 x y H2 I2 rx ry q=>?_)
 obtain ⟨z,i,c,rfl,rfl,h0,h63,h1,hc,q⟩:=q
 obtain ⟨t,rfl⟩:=rx
 obtain ⟨t',rfl⟩:=ry
 have e:seqIndex? i z.length=some i.toNat:=PySem.StrLaws.seqIndex_nonneg h0 h1
 exact tail_any (typeIs_str s2 z t) slot_str_getitem.lookup (getItem_str (c:=c) (by
  have e1:decide (i < -(2 ^ 63:Int))=false:=decide_eq_false (by omega)
  have e2:decide (i >= 2 ^ 63)=false:=decide_eq_false (by omega)
  rw [e1,e2] <;> rfl) (by rw [e]; exact hc) ⟨.str ⟨#[c]⟩,H2,I2.tok _,⟨_,rfl⟩,q⟩) (hs _ _)
theorem abw {x:V}{us:List Value} (r:jJ [x] us):∃ u,us=[u]/\jV x u:=by
 cases r with
 | cons r1 r2=>cases r2; exact ⟨_,rfl,r1⟩
theorem ai0 {x y:V}{us:List Value} (r:jJ [x,y] us):∃ u w',us=[u,w']/\jV x u/\jV y w':=by
 cases r with
 | cons r1 r2=>
  cases r2 with
  | cons r3 r4=>cases r4; exact ⟨_,_,rfl,r1,r3⟩
theorem aj5 (hc:X.calm=true):zV X (.builtin "max") (fun xs H Q=>∃ i j,xs=[.int i,.int j]/\Q (.int (if j > i then j else i)) H):=by
 intro Kp s σ H xs us Q I r h
 obtain ⟨i,j,rfl,q⟩:=h
 obtain ⟨u,w',rfl,⟨t,rfl⟩,⟨t',rfl⟩⟩:=ai0 r
 refine max_two_ints (I.ok.hd hc) fun h' tk k=>⟨_,H,I.kept k,?_,q⟩
 by_cases hj:j > i
 ·rw [if_pos hj,if_pos hj]; exact ⟨_,rfl⟩
 ·rw [if_neg hj,if_neg hj]; exact ⟨_,rfl⟩
theorem aj6 (hc:X.calm=true):zV X (.builtin "min") (fun xs H Q=>∃ i j,xs=[.int i,.int j]/\Q (.int (if j<i then j else i)) H):=by
 intro Kp s σ H xs us Q I r h
 obtain ⟨i,j,rfl,q⟩:=h
 obtain ⟨u,w',rfl,⟨t,rfl⟩,⟨t',rfl⟩⟩:=ai0 r
 refine min_two_ints (I.ok.hd hc) fun h' tk k=>⟨_,H,I.kept k,?_,q⟩
 by_cases hj:j<i
 ·rw [if_pos hj,if_pos hj]; exact ⟨_,rfl⟩
 ·rw [if_neg hj,if_neg hj]; exact ⟨_,rfl⟩
end
structure ObjM (h:Heap) (x dx C:Addr) (mA:SV):Prop where
 obj:h.get? x=some (PySem.W.instObj C dx)
 ns:h.Ns1 dx mA
 ne:dx ≠ x
theorem aj7 {h:Heap}{dx:Addr}{mA:SV} (n:h.Ns1 dx mA):∃ od,h.get? dx=some od/\∀ name,PySem.W.lookIn name od=some (mA name):=by
 obtain ⟨o,es,ep,ho,hd,hk,_,hm⟩:=n
 refine ⟨o,ho,fun name=>?_⟩
 have e:=hm name
 unfold nsFind findBy at e
 rw [←Array.find?_toList] at e
 unfold PySem.W.lookIn
 rw [hd]
 dsimp only
 split
 ·rename_i y q
  rw [q] at e
  exact congrArg some e
 ·rename_i q
  rw [q] at e
  have a:es.toList.any (·.refKey)=false:=by
   rw [List.any_eq_false]
   intro y hy
   obtain ⟨z,t,hkey⟩:=hk y (Array.mem_toList_iff.mp hy)
   simp [DictEntry.refKey,hkey]
  have a':¬ es.toList.any (·.refKey)=true:=by rw [a]; exact Bool.false_ne_true
  rw [if_neg a']
  exact congrArg some e
theorem ObjM.look {h:Heap}{x dx C:Addr}{mA:SV} (I:ObjM h x dx C mA):∃ od,PySem.W.InstAt h x (PySem.W.instObj C dx) C (some od)/\∀ name,PySem.W.lookIn name od=some (mA name):=
 let ⟨od,ho,hl⟩:=aj7 I.ns
 ⟨od,⟨I.obj,rfl,rfl,ho⟩,hl⟩
section
variable {prog:Program}{w:World}{A:Around}{E:Value->SP0}{s:Shared}{K:Fg}{x dx C f:Addr}{mA:SV}{name:Str}{v:Value}
theorem an1 {expr:Bool}{Q:Value->SP0} (X:K.In s.heap) (I:ObjM s.heap x dx C mA) (hg:PySem.W.plainGet K C name=true) (hh:PySem.W.hasDictIn K C=true)
  (ha:PySem.W.findIn K (.ref C) name=some none) (hv:mA name=some v) (hv':PySem.W.handedIn v=true) (h:Q v { s with toks:=s.toks+1 }):
  wpAny (model prog w) A (getAttr (.ref x) name expr) Q E s:=by
 obtain ⟨od,J,hl⟩:=I.look
 exact PySem.W.get_value X J (PySem.W.plainGet_of hg).1 (PySem.W.findObj_own hh ha rfl (by rw [hl,hv])) hv' h
theorem alC {pl:Sem Bool}{Q:Value × List Value->SP0} (X:K.In s.heap) (I:ObjM s.heap x dx C mA) (hg:PySem.W.plainGet K C name=true)
  (hf:PySem.W.findIn K (.ref C) name=some (some (.ref f))) (ht:PySem.W.isFn K (.ref f)=true) (hv:mA name=none) (h:Q (.ref f,[.ref x]) s):
  wpAny (model prog w) A (getMethod (.ref x) name pl) Q E s:=by
 obtain ⟨od,J,hl⟩:=I.look
 exact PySem.W.method_fn X J (PySem.W.plainGet_of hg).1 (PySem.W.plainGet_of hg).2 hf (beq_iff_eq.mp ht) (by show (PySem.W.lookIn name od).map (·.isSome)=some false; rw [hl,hv]; rfl) h
theorem an2 {ns:List Str}{Q:Unit->SP0} (X:K.In s.heap) (I:ObjM s.heap x dx C mA)
  (hs:PySem.W.findIn K (.ref C) "__setattr__"=some (some (.builtin "object.__setattr__"))) (hp:PySem.W.plainOver K C=true) (ht:PySem.W.takerIn K C name=some none) (hh:PySem.W.hasDictIn K C=true)
  (hw:PySem.Within mA ns) (hsz:ns.length<=sizeLine)
  (h:∀ h',ObjM h' x dx C (fun y=>if y=name then some v else mA y)->Heap.SameBut dx s.heap h'->Q () { s with heap:=h',toks:=s.toks+2 }):
  wpAny (model prog w) A (setAttr (.ref x) name v) Q E s:=by
 obtain ⟨od,J,hl⟩:=I.look
 refine PySem.W.set_plain X J hs (PySem.W.osa_open (s:={ s with toks:=s.toks+1 }) (r:=none) X J hp ht fun b=>?_)
 obtain ⟨cd,hc,hd'⟩:=PySem.W.any_some hh
 have hx:s.heap.get? x=some ⟨.ref C,some dx,.plain,#[]⟩:=I.obj
 refine wpAny_bind (wpAny_pure (wpAny_bind (wpAny_bind (wpAny_loadPart hx (wpAny_bind (PySem.W.Looks.here (s:={ s with toks:=s.toks+1 }) (PySem.W.looks_clsIn X hc) ?_))))))
 rw [hd']
 refine wpAny_pure (a:=some dx) (wpAny_bind (wpAny_pure (wpAny_bind ?_)))
 refine wpAny_nsSet1 (s:={ s with toks:=s.toks+1 }) I.ns fun h' hn2 hs2=>?_
 obtain ⟨oD,esD,epD,hoD,hdD,hcD⟩:=hn2.count (PySem.Within.cons name v hw)
 refine wpAny_bind (wpAny_lookBehind hoD (by rw [hdD]; exact pastItsLine_dict (Nat.le_trans hcD (by rw [List.length_cons]; omega))) ?_)
 exact wpAny_pure (h _ ⟨(hs2.2 _ (Ne.symm I.ne)).trans I.obj,hn2,I.ne⟩ hs2)
theorem alD {R:Result->SP0}{vs:List Value}{kw:List (Str × Value)} (X:K.In s.heap) (hm:PySem.W.makesIn K C=true)
  (hi:PySem.W.findIn K (.ref C) "__init__"=some (some (.ref f))) (hf:PySem.W.typeIn K (.ref f)=some (.type "function"))
  (h:codeAny (model prog w) (A.under (.builtin "type.__call__" ⟨.ref C::vs,kw⟩)) (.call (.ref f) ⟨.ref (s.heap.objs.size+1)::vs,kw⟩) (PySem.W.InitBack (s.heap.objs.size+1) R)
   { s with heap:=(s.heap.push PySem.W.emptyDict).push (PySem.W.instObj C s.heap.objs.size) }):
  codeAny (model prog w) A (.call (.ref C) ⟨vs,kw⟩) R s:=by
 obtain ⟨hh,g,d,t,os⟩:=s
 exact PySem.W.make_core (PySem.W.makes_of X hm) (PySem.W.looks_findIn X hi) (fun self=>PySem.W.bind_fn X self hf) (.inl rfl) h
end
noncomputable def Qp (f:Str) (v:V):List (Str × V)->List (Str × V)
 | []=>[(f,v)]
 | (g,x)::r=>if g=f then (g,v)::r else (g,x)::Qp f v r
theorem abx (f g:Str) (v:V):∀ fs:List (Str × V),(Qp f v fs).lookup g=if g=f then some v else fs.lookup g
 | []=>by
  show List.lookup g [(f,v)]=_
  by_cases h:g=f
  ·have hb:(g == f)=true:=beq_iff_eq.mpr h
   simp only [List.lookup,hb,if_pos h]
  ·have hb:(g == f)=false:=beq_eq_false_iff_ne.mpr h
   simp only [List.lookup,hb,if_neg h]
 | (k,x)::r=>by
  have ih:=abx f g v r
  rw [show Qp f v ((k,x)::r)=(if k=f then (k,v)::r else (k,x)::Qp f v r) from rfl]
  by_cases hk:k=f
  ·rw [if_pos hk]
   by_cases h:g=k
   ·have hb:(g == k)=true:=beq_iff_eq.mpr h
    simp only [List.lookup,hb,if_pos (h.trans hk)]
   ·have hb:(g == k)=false:=beq_eq_false_iff_ne.mpr h
    simp only [List.lookup,hb,if_neg (fun e:g=f=>h (e.trans hk.symm))]
  ·rw [if_neg hk]
   by_cases h:g=k
   ·have hb:(g == k)=true:=beq_iff_eq.mpr h
    simp only [List.lookup,hb,if_neg (fun e:g=f=>hk (h.symm.trans e))]
   ·have hb:(g == k)=false:=beq_eq_false_iff_ne.mpr h
    simp only [List.lookup,hb]
    exact ih
theorem aaY (f:Str) (v:V):∀ fs:List (Str × V),f ∈ (Qp f v fs).map (·.1)/\∀ g,g ∈ fs.map (·.1)->g ∈ (Qp f v fs).map (·.1)
 | []=>⟨by simp [Qp],fun g h=>by simp at h⟩
 | (k,x)::r=>by
  obtain ⟨i1,i2⟩:=aaY f v r
  rw [show Qp f v ((k,x)::r)=(if k=f then (k,v)::r else (k,x)::Qp f v r) from rfl]
  by_cases hk:k=f
  ·rw [if_pos hk]
   subst hk
   exact ⟨by simp,fun g h=>by simpa using h⟩
  ·rw [if_neg hk]
   refine ⟨?_,fun g h=>?_⟩
   ·rw [List.map_cons]
    exact List.mem_cons_of_mem _ i1
   ·rw [List.map_cons] at h ⊢
    rcases List.mem_cons.mp h with e | e
    ·exact List.mem_cons.mpr (.inl e)
    ·exact List.mem_cons_of_mem _ (i2 g e)
theorem aby (f:Str) (v:V):∀ fs:List (Str × V),(Qp f v fs).length<=fs.length+1
 | []=>by simp [Qp]
 | (k,x)::r=>by
  have ih:=aby f v r
  rw [show Qp f v ((k,x)::r)=(if k=f then (k,v)::r else (k,x)::Qp f v r) from rfl]
  by_cases hk:k=f
  ·rw [if_pos hk,List.length_cons,List.length_cons]; omega
  ·rw [if_neg hk,List.length_cons,List.length_cons]; omega
theorem QP.some_of {v:V}{o:Option Value} (r:QP (some v) o):∃ u,o=some u/\jV v u:=by
 cases o with
 | none=>exact (show False from r).elim
 | some u=>exact ⟨u,rfl,r⟩
theorem QP.none_of {o:Option Value} (r:QP none o):o=none:=by
 cases o with
 | none=>rfl
 | some u=>exact (show False from r).elim
theorem aj8 {v:V}{u:Value} (r:jV v u):PySem.W.handedIn u=true:=by
 cases v with
 | non=>cases (show u=Value.none from r); rfl
 | bl b=>cases (show u=Value.bool b from r); rfl
 | int i=>obtain ⟨t,e⟩:=(show ∃ t,u=Value.int i t from r); cases e; rfl
 | str x=>obtain ⟨t,e⟩:=(show ∃ t,u=Value.str x t from r); cases e; rfl
 | byt b=>obtain ⟨t,e⟩:=(show ∃ t,u=Value.bytes b t from r); cases e; rfl
 | flt b=>obtain ⟨t,e⟩:=(show ∃ t,u=Value.float b t from r); cases e; rfl
 | ref a=>cases (show u=Value.ref a from r); rfl
 | ty n=>cases (show u=Value.type n from r); rfl
section
variable {P:Program}{w:World}{H H':Hp}{h h':Heap}{a C dx:Addr}{fs fs':List (Str × V)}
theorem aeI (hok:HOk P w H h) (e:H a=some (.ins C dx fs)):∃ mA,ObjM h a dx C mA/\(∀ f,QP (fs.lookup f) (mA f))/\PySem.Within mA (fs.map (·.1))/\fs.length<=1000/\H dx=some (.own a):=by
 obtain ⟨d,z,ne,ob,mA,n,r,q⟩:=(show qM P w H h a (.ins C dx fs) from hok a _ e)
 exact ⟨mA,⟨ob,n,ne⟩,r,q,z,d⟩
end
structure Cls (K:Fg) (C:Addr):Prop where
 pg:PySem.W.plainGet K C Str.empty=true
 hd:PySem.W.hasDictIn K C=true
 po:PySem.W.plainOver K C=true
 sa:PySem.W.findIn K (.ref C) "__setattr__"=some (some (.builtin "object.__setattr__"))
theorem Cls.get {K:Fg}{C:Addr} (c:Cls K C) (f:Str):PySem.W.plainGet K C f=true:=c.pg
def ZZ (K:Fg) (C:Addr) (f:Str):Prop:=PySem.W.findIn K (.ref C) f=some none
theorem ZZ.taker {K:Fg}{C:Addr}{f:Str} (n:ZZ K C f):PySem.W.takerIn K C f=some none:=by
 unfold PySem.W.takerIn
 rw [show PySem.W.findIn K (.ref C) f=some none from n]
 rfl
structure Con (K:Fg) (C:Addr) (f:Str) (v:V) (u:Value):Prop where
 at_:PySem.W.findIn K (.ref C) f=some (some u)
 rel:jV v u
 get:PySem.W.specialIn K u "__get__"=some none
 cp:PySem.W.copiedNames.contains f=false
structure Meth (K:Fg) (C:Addr) (m:Str) (f:Addr):Prop where
 at_:PySem.W.findIn K (.ref C) m=some (some (.ref f))
 fn:PySem.W.isFn K (.ref f)=true
 kp:PySem.W.keepIn K (.ref f)=true
section
variable {X:Cx}{Kp:List (Addr × Obj)}{σ:St}{H:Hp}{s:Shared}{a C dx:Addr}{fs:List (Str × V)}{f:Str}{v:V}{A:Around}{E:Value->SP0}
theorem ahB {b:Bool}{Q:Value->SP0} (I:Inv X Kp σ H s) (e:H a=some (.ins C dx fs)) (c:Cls X.K C) (n:ZZ X.K C f) (l:fs.lookup f=some v)
  (h:∀ u s',Inv X Kp σ H s'->jV v u->Q u s'):wpAny (model X.prog X.w) A (getAttr (.ref a) f b) Q E s:=by
 obtain ⟨mA,O,r,_,_,_⟩:=aeI I.hok e
 obtain ⟨u,hu,ru⟩:=QP.some_of (v:=v) (o:=mA f) (by rw [←l]; exact r f)
 exact an1 I.kIn O (c.get f) c.hd n hu (aj8 ru) (h u _ (I.tok _) ru)
theorem acz {m:Str}{g:Addr}{pl:Sem Bool}{Q:Value × List Value->SP0} (I:Inv X Kp σ H s) (e:H a=some (.ins C dx fs)) (c:Cls X.K C) (k:Meth X.K C m g) (l:fs.lookup m=none)
  (h:Q (.ref g,[.ref a]) s):wpAny (model X.prog X.w) A (getMethod (.ref a) m pl) Q E s:=by
 obtain ⟨mA,O,r,_,_,_⟩:=aeI I.hok e
 have hn:mA m=none:=QP.none_of (by rw [←l]; exact r m)
 exact alC I.kIn O (c.get m) k.at_ k.fn hn h
theorem ahC {y:V}{u:Value}{Q:Unit->SP0} (I:Inv X Kp σ H s) (e:H a=some (.ins C dx fs)) (c:Cls X.K C) (n:ZZ X.K C f) (hl:fs.length<1000) (ry:jV y u)
  (h:∀ s',Inv X Kp σ (upd H a (.ins C dx (Qp f y fs))) s'->Q () s'):wpAny (model X.prog X.w) A (setAttr (.ref a) f u) Q E s:=by
 obtain ⟨mA,O,r,wi,_,ho⟩:=aeI I.hok e
 have hz:(fs.map (·.1)).length<=sizeLine:=by rw [List.length_map,sizeLine_eq]; omega
 refine an2 I.kIn O c.sa c.po n.taker c.hd wi hz fun h' O' sb=>h _ ?_
 have hd:∃ o,h'.get? dx=some o:=let ⟨o,_,_,e',_⟩:=O'.ns; ⟨o,e'⟩
 refine I.write (x:=a) (e:=dx) (by rw [e]; exact True.intro) (.inr ho) (fun b q hb z=>(sb.2 b hb).trans z) hd ?_
 refine ⟨by rw [jq O.ne]; exact ho,?_,O.ne,O'.obj,_,O'.ns,fun g=>?_,fun g hg=>?_⟩
 ·have:=aby f y fs; omega
 ·show QP ((Qp f y fs).lookup g) (if g=f then some u else mA g)
  rw [abx]
  by_cases q:g=f
  ·rw [if_pos q,if_pos q]; exact ry
  ·rw [if_neg q,if_neg q]; exact r g
 ·by_cases q:g=f
  ·rw [q]; exact (aaY f y fs).1
  ·refine (aaY f y fs).2 g (wi g fun z=>hg ?_)
   show (if g=f then some u else mA g)=none
   rw [if_neg q]; exact z
theorem Inv.made (I:Inv X Kp σ H s):Inv X Kp σ (upd (upd H s.heap.objs.size (.own (s.heap.objs.size+1))) (s.heap.objs.size+1) (.ins C s.heap.objs.size []))
  { s with heap:=(s.heap.push PySem.W.emptyDict).push (PySem.W.instObj C s.heap.objs.size) }:=by
 have e1:(s.heap.push PySem.W.emptyDict).get? s.heap.objs.size=some PySem.W.emptyDict:=Heap.get?_push_size s.heap rfl
 have e2:((s.heap.push PySem.W.emptyDict).push (PySem.W.instObj C s.heap.objs.size)).get? (s.heap.objs.size+1)=some (PySem.W.instObj C s.heap.objs.size):=by
  have:=Heap.get?_push_size (s.heap.push PySem.W.emptyDict) (o:=PySem.W.instObj C s.heap.objs.size) rfl
  rwa [Heap.size_push] at this
 have e3:(s.heap.push PySem.W.emptyDict).Ns s.heap.objs.size (fun _=>none):=⟨PySem.W.emptyDict,#[],_,e1,rfl,(fun e he=>absurd he (by simp)),fun _=>rfl⟩
 have I1:=I.laid (a:=s.heap.objs.size) (o:= .own (s.heap.objs.size+1)) (h':=s.heap.push PySem.W.emptyDict) (t':=s.toks) (fun b u q=>Heap.get?_push_of_some _ q) (Nat.le_refl _) ⟨_,e1⟩
 refine I1.laid (a:=s.heap.objs.size+1) (o:= .ins C s.heap.objs.size []) (t':=s.toks) (fun b u q=>Heap.get?_push_of_some _ q) (Nat.le_of_eq (Heap.size_push _ _)) ?_
 have ne:s.heap.objs.size ≠ s.heap.objs.size+1:=Nat.ne_of_lt (Nat.lt_succ_self _)
 refine ⟨by rw [jq ne,jn],Nat.zero_le _,ne,e2,fun _=>none,(Heap.Ns1.of_empty e3).at fun o q=>Heap.get?_push_of_some _ q,fun _=>True.intro,fun y hy=>absurd rfl hy⟩
theorem an3 {prog:Program}{w:World}{env:Env}{e:Expr}{f:Str}{pos:Pos}{s:Shared}{Q:Value->SP0} (hb:attributeBase e f env (eval e env)=eval e env)
  (h:wpAny (model prog w) A (eval e env) (fun o s₁=>wpAny (model prog w) A (getAttr o f true) Q E s₁) E s):wpAny (model prog w) A (eval (.Attribute e f pos) env) Q E s:=
 Attribute_any_ h (by rw [arm_eval_Attribute,hb])
end
def arT (K:Fg) (ta:TE) (f:Str):TE:=fun σ H Q=>ta σ H fun x H1=>∃ a C dx fs v,x= .ref a/\H1 a=some (.ins C dx fs)/\Cls K C/\ZZ K C f/\fs.lookup f=some v/\Q v H1
def ata (K:Fg) (ta tv:TE) (f:Str):TS:=fun D σ H=>tv σ H fun y H1=>ta σ H1 fun x H2=>∃ a C dx fs,x= .ref a/\H2 a=some (.ins C dx fs)/\Cls K C/\ZZ K C f/\fs.length<1000/\
 D.nx σ (upd H2 a (.ins C dx (Qp f y fs)))
section
variable {X:Cx}{o e value:Expr}{f:Str}{pos pos' tpos:Pos}{ta tv:TE}
theorem ahD (he:PE X e ta) (hb:attributeBase e f X.env (eval e X.env)=eval e X.env):PE X (.Attribute e f pos) (arT X.K ta f):=by
 intro Kp s σ H Q I h
 refine an3 hb (thn (he Kp s σ H _ I h) fun u s1 ⟨x,H1,I1,rx,a,C,dx,fs,v,ex,ea,c,n,l,q⟩=>?_)
 subst ex
 obtain rfl:u=Value.ref a:=rx
 exact ahB I1 ea c n l fun u' s2 I2 ru=>⟨v,H1,I2,ru,q⟩
theorem aqq (ha:PE X o ta) (hv:PE X value tv) (hs:swapsWith value (some (.Attribute o f pos')) pos.line X.env=pure false):PS X (.Assign [.Attribute o f pos'] value pos) (ata X.K ta tv f):=by
 intro Kp s σ H D I h
 refine plainObj_wpAny_Assign_Attribute (thn (hv Kp s σ H _ I h) fun u s1 ⟨y,H1,I1,ry,q⟩=>thn (ha Kp s1 σ H1 _ I1 q) fun ov s2 ⟨x,H2,I2,rx,a,C,dx,fs,ex,ea,c,n,l,q2⟩=>?_) hs
 subst ex
 obtain rfl:ov=Value.ref a:=rx
 exact ahC I2 ea c n l ry fun s3 I3=>⟨σ,_,I3,q2⟩
end
section
variable {X:Cx}{Kp:List (Addr × Obj)}{σ:St}{H:Hp}{s:Shared}{A:Around}{E:Value->SP0}{Q:Value->SP0}{c:Value}{b:Bool}
inductive TyOf (K:Fg) (H:Hp):V->Value->Prop where
 | non:TyOf K H .non (.type "NoneType")
 | bl (x:Bool):TyOf K H (.bl x) (.type "bool")
 | int (i:Int):TyOf K H (.int i) (.type "int")
 | str (x:Str):TyOf K H (.str x) (.type "str")
 | flt (x:UInt64):TyOf K H (.flt x) (.type "float")
 | lst {a:Addr} {xs:List V} (e:H a=some (.lst xs)):TyOf K H (.ref a) (.type "list")
 | frz {a:Addr} {o:Obj} {xs:List V} (e:H a=some (.frz o (.lst xs))):TyOf K H (.ref a) (.type "list")
 | tup {a:Addr} {xs:List V} (e:H a=some (.tup xs)):TyOf K H (.ref a) (.type "tuple")
 | dK {a:Addr} {kvs:List (Key × V)} (e:H a=some (.dK kvs)):TyOf K H (.ref a) (.type "dict")
 | dT {a:Addr} {kvs:List (List Key × V)} (e:H a=some (.dT kvs)):TyOf K H (.ref a) (.type "dict")
 | ins {a C dx:Addr} {fs:List (Str × V)} (e:H a=some (.ins C dx fs)) (cl:Cls K C) (ha:PySem.W.findIn K (.ref C) "__class__"=some (some (.builtin "object.__class__")))
   (hn:PySem.W.specialIn K (.builtin "object.__class__") "__get__"=some (some (.builtin "getset_descriptor.__get__"))) (htk:PySem.W.takesIn K (.builtin "object.__class__")=some true)
   (hm:PySem.W.mroIn K C (.type "object")=some true):TyOf K H (.ref a) (.ref C)
end
structure Room (k:Nat) (A:Around):Prop where
 hd:A.handled=none
 dp:A.depth+3*k+5<recursionLimit
 un:A.units+16*k+200<cLine
theorem Room.mono {j k:Nat}{A:Around} (r:Room k A) (h:j<=k):Room j A:=⟨r.hd,by have:=r.dp; omega,by have:=r.un; omega⟩
theorem Room.deeper {k:Nat}{A:Around} (r:Room (k+1) A) (env:Env):Room k (A.deeper env):=
 ⟨r.hd,by have:=r.dp; show A.depth+1+3*k+5<_; omega,by have:=r.un; show A.units+3+16*k+200<_; omega⟩
theorem Room.in1 {k:Nat}{A:Around} (r:Room (k+1) A):Room k A.in1:=
 ⟨r.hd,by have:=r.dp; show A.depth+3*k+5<_; omega,by have:=r.un; show A.units+1+16*k+200<_; omega⟩
theorem ahE {A:Around}{C:Addr}{us:List Value}{kw:List (Str × Value)}:(A.under (.builtin "type.__call__" ⟨.ref C::us,kw⟩)).depth=A.depth+1:=by
 first | rfl | simp [Around.under,Code.weight,Code.isCreation,Code.isGuard,Code.isCaller,Code.frames,Code.isFrame,guardIds]
theorem ahF {A:Around}{C:Addr}{us:List Value}{kw:List (Str × Value)}:(A.under (.builtin "type.__call__" ⟨.ref C::us,kw⟩)).units=A.units+1:=by
 first | rfl | simp [Around.under,Code.cUnits,Code.frames,Code.isFrame]
theorem Room.make {k:Nat}{A:Around} (r:Room (k+1) A) (C:Addr) (us:List Value) (kw:List (Str × Value)):Room k (A.under (.builtin "type.__call__" ⟨.ref C::us,kw⟩)):=
 ⟨r.hd,by have:=r.dp; rw [ahE]; omega,by have:=r.un; rw [ahF]; omega⟩
theorem Room.depth {k:Nat}{A:Around} (r:Room k A):A.depth<recursionLimit:=by have:=r.dp; omega
theorem Room.units {k:Nat}{A:Around} (r:Room k A):A.units+64<cLine:=by have:=r.un; omega
def an4:TA:=fun _ H Q=>Q [] H
def agj (ta:TE) (tr:TA):TA:=fun σ H Q=>ta σ H fun x H1=>tr σ H1 fun xs H2=>Q (x::xs) H2
section
variable {X:Cx}{e:Expr}{es:List Expr}{te:TE}{t:TA}{pos:Pos}
theorem adv {α:Type}:∀ (us:List α),us.length=1->∃ a,us=[a]
 | [a],_=>⟨a,rfl⟩
theorem aaZ {α:Type} (us:List α) (h:us.length=2):∃ a b,us=[a,b]:=by
 cases us with
 | nil=>cases h
 | cons a r=>obtain ⟨b,rfl⟩:=adv r (Nat.succ.inj h); exact ⟨a,b,rfl⟩
theorem ZM {α:Type} (us:List α) (h:us.length=3):∃ a b c,us=[a,b,c]:=by
 cases us with
 | nil=>cases h
 | cons a r=>obtain ⟨b,c,rfl⟩:=aaZ r (Nat.succ.inj h); exact ⟨a,b,c,rfl⟩
theorem aqr {α:Type} (us:List α) (h:us.length=4):∃ a b c d,us=[a,b,c,d]:=by
 cases us with
 | nil=>cases h
 | cons a r=>obtain ⟨b,c,d,rfl⟩:=ZM r (Nat.succ.inj h); exact ⟨a,b,c,d,rfl⟩
theorem zw:PA X [] an4:=fun _ _ _ _ H Q I h=>Calls.spliced_nil ⟨[],H,I,.nil,h⟩
theorem qD (ha:PE X e te) (hr:PA X es t) (hs:starEach (e::es) X.env=(false,eval e X.env)::starEach es X.env:=by rfl):PA X (e::es) (agj te t):=by
 intro pos Kp s σ H Q I h
 rw [hs]
 show wpAny _ _ (spliced ((false,eval e X.env)::backTo pos (starEach es X.env))) _ _ s
 refine Calls.spliced_cons (thn (ha Kp s σ H _ I h) fun u s1 ⟨x,H1,I1,r1,q1⟩=>?_)
 exact thn (hr pos Kp s1 σ H1 _ I1 q1) fun us s2 ⟨xs,H2,I2,r2,q2⟩=>⟨x::xs,H2,I2,.cons r1 r2,q2⟩
def atb (t:TA):TE:=fun σ H Q=>t σ H fun xs H1=>xs.length<=sizeLine/\∀ p,H1 p=none->Q (.ref p) (upd H1 p (.tup xs))
def atc (t:TA):TE:=fun σ H Q=>t σ H fun xs H1=>xs.length<=sizeLine/\∀ p,H1 p=none->Q (.ref p) (upd H1 p (.lst xs))
theorem ahG {x1} (h:PA X es t):PE X (.Tuple es x1 pos) (atb t):=by
 intro Kp s σ H Q I hq
 refine wpAny_Tuple_spliced (thn (h pos Kp s σ H _ I hq) fun us s1 ⟨xs,H1,I1,r,z,q⟩=>⟨by rw [←r.length]; exact z,?_⟩)
 have hf:H1 s1.heap.objs.size=none:=I1.hok.fresh (Nat.le_refl _)
 refine ⟨.ref s1.heap.objs.size,upd H1 s1.heap.objs.size (.tup xs),I1.laid (t':=s1.toks) (fun b u e=>Heap.get?_push_of_some _ e) (Nat.le_refl _) ?_,rfl,q _ hf⟩
 exact ⟨z,us,r,⟨_,Heap.get?_push_size _ rfl,rfl,_,rfl⟩⟩
theorem ahH (h:PA X es t):PE X (.List es pos) (atc t):=by
 intro Kp s σ H Q I hq
 refine wpAny_List_spliced (thn (h pos Kp s σ H _ I hq) fun us s1 ⟨xs,H1,I1,r,z,q⟩=>⟨by rw [←r.length]; exact z,?_⟩)
 have hf:H1 s1.heap.objs.size=none:=I1.hok.fresh (Nat.le_refl _)
 refine ⟨.ref s1.heap.objs.size,upd H1 s1.heap.objs.size (.lst xs),I1.laid (t':=s1.toks) (fun b u e=>Heap.get?_push_of_some _ e) (Nat.le_refl _) ?_,rfl,q _ hf⟩
 exact ⟨z,us,0,r,Heap.get?_push_size _ rfl⟩
end
abbrev Sp:=List V->Hp->VK->XK->Prop
abbrev CXT:=List Env->Hp->Shared->XK->Value->SP0
structure Env0 (P:Program) (w:World) (K:Fg) (mg:SV) (base:Heap) (A:Around) (Ko:List Env) (s:Shared) (H:Hp):Prop where
 frames:A.frames=some Ko
 mod:Mod K mg base
 bs:∀ b o,base.get? b=some o->s.heap.get? b=some o/\H b=none
 bsz:base.objs.size<=s.heap.objs.size
 funs:s.heap.FunFrames base Ko
 frf:∀ b ∈ frs Ko,H b=none
 hok:HOk P w H s.heap
 bare:AllBare s.gens
def CE (Ko:List Env) (P:Program) (w:World) (H:Hp) (s:Shared) (Q:VK) (u:Value) (s':Shared):Prop:=
 ∃ v H',s'.os=s.os/\AllBare s'.gens/\Un (frs Ko) [] H H' s.heap s'.heap/\HOk P w H' s'.heap/\jV v u/\Q v H'
def CR (CX:CXT) (Ko:List Env) (P:Program) (w:World) (H:Hp) (s:Shared) (Q:VK) (E:XK) (r:Result) (s':Shared):Prop:=
 match r with
 | .ok (.ret u)=>CE Ko P w H s Q u s'
 | .ok _=>False
 | .error e=>CX Ko H s E e s'
structure FnOk (P:Program) (w:World) (K:Fg) (mg:SV) (base:Heap) (CX:CXT) (k:Nat) (f:Addr) (fd:FuncData) (ps:List Str) (sp:Sp):Prop where
 len:∀ vs H Q E,sp vs H Q E->vs.length=ps.length
 run:∀ (A:Around) (Ko:List Env) (s:Shared) (H:Hp) (args:Args) (us:List Value) (vs:List V) (Q:VK) (E:XK),Room k A->Env0 P w K mg base A Ko s H->BindsTo s fd args (ps.zip us)->jJ vs us->sp vs H Q E->
  codeAny (model P w) A (.call (.ref f) args) (CR CX Ko P w H s Q E) s
theorem FnOk.mono {P:Program}{w:World}{K:Fg}{mg:SV}{base:Heap}{CX:CXT}{j k:Nat}{f:Addr}{fd:FuncData}{ps:List Str}{sp:Sp} (F:FnOk P w K mg base CX j f fd ps sp) (h:j<=k):
  FnOk P w K mg base CX k f fd ps sp:=⟨F.len,fun A Ko s H args us vs Q E hr=>F.run A Ko s H args us vs Q E (hr.mono h)⟩
theorem FnOk.imp {P:Program}{w:World}{K:Fg}{mg:SV}{base:Heap}{CX:CXT}{k:Nat}{f:Addr}{fd:FuncData}{ps:List Str}{sp sp':Sp} (F:FnOk P w K mg base CX k f fd ps sp)
  (h:∀ vs H Q E,sp' vs H Q E->sp vs H Q E):FnOk P w K mg base CX k f fd ps sp':=
 ⟨fun vs H Q E q=>F.len vs H Q E (h _ _ _ _ q),fun A Ko s H args us vs Q E hr he hb hv hs=>F.run A Ko s H args us vs Q E hr he hb hv (h _ _ _ _ hs)⟩
theorem Env0.make {P:Program}{w:World}{K:Fg}{mg:SV}{base:Heap}{A:Around}{Ko:List Env}{s:Shared}{H:Hp} (e:Env0 P w K mg base A Ko s H) (C:Addr) (us:List Value) (kw:List (Str × Value)):
  Env0 P w K mg base (A.under (.builtin "type.__call__" ⟨.ref C::us,kw⟩)) Ko s H:=⟨by first | exact e.frames | (simpa [Around.under,Code.envs,Code.isFrame,pushEnvs] using e.frames),e.mod,e.bs,e.bsz,e.funs,e.frf,e.hok,e.bare⟩
theorem Env0.in1 {P:Program}{w:World}{K:Fg}{mg:SV}{base:Heap}{A:Around}{Ko:List Env}{s:Shared}{H:Hp} (e:Env0 P w K mg base A Ko s H):
  Env0 P w K mg base A.in1 Ko s H:=⟨e.frames,e.mod,e.bs,e.bsz,e.funs,e.frf,e.hok,e.bare⟩
section
variable {X:Cx}{Kp:List (Addr × Obj)}{σ:St}{H:Hp}{s s':Shared}
theorem Inv.env0 (I:Inv X Kp σ H s):Env0 X.prog X.w X.K X.mg X.base X.A X.stack s H:=
 ⟨I.ok.frames,I.ok.mod,I.bs,Nat.le_trans I.ok.bsz I.sz,I.stack,I.stkFree,I.hok,I.bare⟩
theorem Inv.after {Q:VK}{u:Value} (I:Inv X Kp σ H s) (h:CE X.stack X.prog X.w H s Q u s'):EP X Kp σ Q u s':=by
 obtain ⟨v,H',os,bare,un,hok,r,q⟩:=h
 obtain ⟨hh,g,d,t,os'⟩:=s'
 obtain rfl:os'=s.os:=os
 exact ⟨v,H',I.call (h':=hh) (g':=g) (d':=d) (t':=t) (ch:=[]) un hok bare (fun b z=>absurd z (by simp)),r,q⟩
end
def apG (sp:Sp) (dvs:List V) (E:XK) (t:TA):TE:=fun σ H Q=>t σ H fun vs H1=>sp (vs++dvs) H1 Q E
def Jl (K:Fg) (fd:FuncData) (ps:List Str) (ds:List Value):Prop:=
 ∀ (s:Shared) (us:List Value),K.In s.heap->(us++ds).length=ps.length->BindsTo s fd ⟨us,[]⟩ (ps.zip (us++ds))
theorem Jl.all {K:Fg}{fd:FuncData}{ps:List Str} (h:∀ us:List Value,us.length=ps.length->bindArgs fd ⟨us,[]⟩=pure (ps.zip us)):Jl K fd ps []:=fun s us _ hl=>by
 rw [List.append_nil] at hl ⊢
 exact .of_eq (h us hl)
def aeJ (CX:CXT) (X:Cx) (E:XK):Prop:=∀ (Kp:List (Addr × Obj)) (σ:St) (H:Hp) (s:Shared) (e:Value) (s':Shared),Inv X Kp σ H s->CX X.stack H s E e s'->X.xe e s'
section
variable {X:Cx}{CX:CXT}{k:Nat}{f C:Addr}{fd:FuncData}{ps:List Str}{sp:Sp}{dvs:List V}{ds:List Value}{E:XK}{x m:Str}{p pos apos:Pos}{e o:Expr}{es:List Expr}{ta:TE}{t:TA}
theorem aeK {Kp:List (Addr × Obj)}{σ:St}{H:Hp}{s:Shared}{Q:VK}{us:List Value}{vs:List V} (F:FnOk X.prog X.w X.K X.mg X.base CX k f fd ps sp) (hr:Room k X.A) (hb:Jl X.K fd ps ds) (hd:jJ dvs ds) (hx:aeJ CX X E)
  (I:Inv X Kp σ H s) (r:jJ vs us) (h:sp (vs++dvs) H Q E):wpAny (model X.prog X.w) X.A (call (.ref f) us) (EP X Kp σ Q) X.xe s:=by
 have r2:jJ (vs++dvs) (us++ds):=r.append hd
 have hl:(us++ds).length=ps.length:=by rw [←r2.length]; exact F.len _ _ _ _ h
 refine wpAny_call (codeAny_mono (F.run X.A X.stack s H ⟨us,[]⟩ (us++ds) (vs++dvs) Q E hr I.env0 (hb s us I.kIn hl) r2 h) fun r s' hq=>?_)
 cases r with
 | error e=>exact hx Kp σ H s e s' I hq
 | ok fl=>
  cases fl with
  | ret u=>exact I.after hq
  | next=>exact False.elim hq
  | brk=>exact False.elim hq
  | cont=>exact False.elim hq
theorem aeL (F:FnOk X.prog X.w X.K X.mg X.base CX k f fd ps sp) (hr:Room k X.A) (hg:Gl X x) (hm:X.mg x=some (.ref f)) (hk:PySem.W.keepIn X.K (.ref f)=true) (hb:Jl X.K fd ps ds) (hd:jJ dvs ds) (hx:aeJ CX X E)
  (ha:PA X (e::es) t) (hdb:(x == ("__debug__":Str))=false:=by decide) (he:starEach (e::es) X.env=(false,eval e X.env)::starEach es X.env:=by rfl) (hpl:(backTo pos (starEach es X.env)).any (·.1)=false:=by rfl):
  PE X (.Call (.Name x p) (e::es) [] pos) (apG sp dvs E t):=by
 intro Kp s σ H Q I h
 refine wpAny_Call_Name_kw (Qm I hg hm ?_ hdb)
 refine PySem.W.callWith_K (h₀:=X.base) I.ok.mod.kin hk (thn (ha pos Kp s σ H _ I h) fun us s1 ⟨vs,H1,I1,r,q⟩=>⟨I1.kIn,?_⟩) he hpl
 exact aeK F hr hb hd hx I1 r q
structure Mk (K:Fg) (C f:Addr):Prop where
 makes:PySem.W.makesIn K C=true
 init:PySem.W.findIn K (.ref C) "__init__"=some (some (.ref f))
 fn:PySem.W.isFn K (.ref f)=true
 kp:PySem.W.keepIn K (.ref C)=true
end
def PK (X:Cx) (kws:List Keyword) (t:TA):Prop:=
 ∀ (pos:Pos) (Kp:List (Addr × Obj)) (s:Shared) (σ:St) (H:Hp) (Q:List V->Hp->Prop),Inv X Kp σ H s->t σ H Q->wpAny (model X.prog X.w) X.A (evalAll ((backToKw pos (keywordEach kws X.env)).map (·.2))) (AP X Kp σ Q) X.xe s
section
variable {X:Cx}{CX:CXT}{k:Nat}{f C:Addr}{fd:FuncData}{ps ks:List Str}{sp:Sp}{E:XK}{x m:Str}{p pos apos kpos:Pos}{e o:Expr}{es:List Expr}{kws:List Keyword}{te ta:TE}{t tk:TA}{nm:Option Str}
theorem aqs:PK X [] an4:=fun _ _ _ _ H Q I h=>wpAny_evalAll_nil ⟨[],H,I,.nil,h⟩
theorem ai1 (ha:PE X e te) (hr:PK X kws t):PK X (⟨nm,e,kpos⟩::kws) (agj te t):=by
 intro pos Kp s σ H Q I h
 show wpAny _ _ (evalAll ((do let v ←eval e X.env; standAt pos; pure v)::(backToKw pos (keywordEach kws X.env)).map (·.2))) _ _ s
 refine wpAny_evalAll_cons (wpAny_bind (thn (ha Kp s σ H _ I h) fun u s1 ⟨x,H1,I1,r1,q1⟩=>wpAny_bind (wpAny_standAt (wpAny_pure ?_))))
 exact thn (hr pos Kp s1 σ H1 _ I1 q1) fun us s2 ⟨xs,H2,I2,r2,q2⟩=>⟨x::xs,H2,I2,.cons r1 r2,q2⟩
structure KBinds (K:Fg) (fd:FuncData) (ps ks:List Str) (g:List Value->List Value->List Value) (gV:List V->List V->List V):Prop where
 to:∀ (s:Shared) (us ws:List Value),K.In s.heap->(g us ws).length=ps.length->BindsTo s fd ⟨us,ks.zip ws⟩ (ps.zip (g us ws))
 rel:∀ {vs:List V} {us:List Value} {zs:List V} {ws:List Value},jJ vs us->jJ zs ws->jJ (gV vs zs) (g us ws)
variable {g:List Value->List Value->List Value}{gV:List V->List V->List V}
end
structure FnScope (N P:List Str) (sc:Scope):Prop where
 kind:sc.kind= .function
 co:sc.isCoroutine=false
 gen:sc.isGenerator=false
 nd:N.Nodup
 pre:N.take P.length=P
 par:∀ x ∈ P,sc.names.lookup x=some .local ∨ sc.names.lookup x=some .cell
 nofree:∀ y ∈ sc.names,y.2 ≠ .free
theorem adK {kindOf:Str->Option NameKind}{x:Str}:∀ {binds:List (Str × Value)}{m:SV},(∀ v,(x,v) ∉ binds)->bindL kindOf binds m x=m x
 | [],_,_=>rfl
 | (n,v)::r,m,h=>by
  unfold bindL
  rw [adK fun w hw=>h w (List.mem_cons_of_mem _ hw)]
  split
  ·have:x ≠ n:=by rintro rfl; exact h v List.mem_cons_self
   simp [this]
  ·rfl
theorem adL {kindOf:Str->Option NameKind}{x:Str}:∀ {binds:List (Str × Value)}{m:SV},(∀ v,(x,v) ∉ binds)->bindC kindOf binds m x=m x
 | [],_,_=>rfl
 | (n,v)::r,m,h=>by
  unfold bindC
  rw [adL fun w hw=>h w (List.mem_cons_of_mem _ hw)]
  split
  ·rfl
  ·have:x ≠ n:=by rintro rfl; exact h v List.mem_cons_self
   simp [this]
theorem adM {kindOf:Str->Option NameKind}{x:Str}{v:Value}:∀ {P:List Str}{vs:List Value}{i:Nat}{m:SV},P.Nodup->P[i]?=some x->vs[i]?=some v->kindOf x=some .local->
  bindL kindOf (P.zip vs) m x=some v
 | [],_,_,_,_,h,_,_=>by simp at h
 | _::_,[],_,_,_,_,h,_=>by simp at h
 | p::P,w::vs,0,m,nd,h1,h2,hk=>by
  simp at h1 h2; subst h1; subst h2
  show bindL kindOf ((p,w)::P.zip vs) m p=_
  unfold bindL
  rw [adK fun v hv=>(List.nodup_cons.mp nd).1 (List.of_mem_zip hv).1,if_pos hk]
  simp
 | p::P,w::vs,i+1,m,nd,h1,h2,hk=>by
  show bindL kindOf ((p,w)::P.zip vs) m x=_
  unfold bindL
  exact adM (i:=i) (List.nodup_cons.mp nd).2 (by simpa using h1) (by simpa using h2) hk
theorem adN {kindOf:Str->Option NameKind}{x:Str}{v:Value}:∀ {P:List Str}{vs:List Value}{i:Nat}{m:SV},P.Nodup->P[i]?=some x->vs[i]?=some v->kindOf x ≠ some .local->
  bindC kindOf (P.zip vs) m x=some v
 | [],_,_,_,_,h,_,_=>by simp at h
 | _::_,[],_,_,_,_,h,_=>by simp at h
 | p::P,w::vs,0,m,nd,h1,h2,hk=>by
  simp at h1 h2; subst h1; subst h2
  show bindC kindOf ((p,w)::P.zip vs) m p=_
  unfold bindC
  rw [adL fun v hv=>(List.nodup_cons.mp nd).1 (List.of_mem_zip hv).1,if_neg hk]
  simp
 | p::P,w::vs,i+1,m,nd,h1,h2,hk=>by
  show bindC kindOf ((p,w)::P.zip vs) m x=_
  unfold bindC
  exact adN (i:=i) (List.nodup_cons.mp nd).2 (by simpa using h1) (by simpa using h2) hk
def Jm (N:List Str) (vs:List V):St:=vs.map some++List.replicate (N.length - vs.length) none
def zW (CX:CXT) (P:Program) (w:World) (K:Fg) (mg:SV) (base:Heap) (N:List Str) (qual:Str) (scope:Scope) (f:Addr) (cd:Value) (A:Around) (Ko:List Env) (s:Shared) (H:Hp) (E:XK):Cx where
 prog:=P
 w:=w
 K:=K
 mg:=mg
 base:=base
 A:=A.deeper (envOfC qual scope s.heap.objs.size f cd)
 N:=N
 s₀:=s
 H₀:=H
 env:=envOfC qual scope s.heap.objs.size f cd
 Ko:=Ko
 stack:=envOfC qual scope s.heap.objs.size f cd::Ko
 ex:=[]
 calm:=true
 fn:=fun _=>true
 pn:=[]
 xe:=fun e s'=>wpAny (model P w) (A.deeper (envOfC qual scope s.heap.objs.size f cd)) (leaving (envOfC qual scope s.heap.objs.size f cd) e) (fun _ s''=>CX Ko H s E e s'') (fun e' s''=>CX Ko H s E e' s'') s'
theorem agk {sc:Scope}{n:Nat}{x:Str} (h:sc.names.lookup x=some .cell):∃ c,(cellsFrom n sc.names []).lookup x=some c:=by
 have q:=PySem.W.cellsFrom_some sc.names n [] (.inl h)
 exact Option.isSome_iff_exists.mp q
theorem adO {CX:CXT}{P:Program}{w:World}{K:Fg}{mg:SV}{base:Heap}{N ps:List Str}{qual:Str}{scope:Scope}{f:Addr}{cd:Value}{A:Around}{Ko:List Env}{s s1:Shared}{H:Hp}{E:XK}{us:List Value}{vs:List V}
  (S:FnScope N ps scope) (hd:A.handled=none) (e0:Env0 P w K mg base A Ko s H) (hl:vs.length=ps.length) (r:jJ vs us)
  (x:InCallC s s.heap.objs.size (bindL (envOfC qual scope s.heap.objs.size f cd).kindOf (ps.zip us) fun _=>none) (cellsFrom (s.heap.objs.size+1) scope.names []) (bindC (envOfC qual scope s.heap.objs.size f cd).kindOf (ps.zip us) fun _=>none) s1):
  Inv (zW CX P w K mg base N qual scope f cd A Ko s H E) [] (Jm N vs) H s1:=by
 have hpl:ps.length<=N.length:=by have:=congrArg List.length S.pre; rw [List.length_take] at this; omega
 obtain ⟨h1,tk,rfl,hk⟩:=x.done
 have noA:∀ b:Addr,b ∉ (zW CX P w K mg base N qual scope f cd A Ko s H E).ex:=fun b z=>absurd (show b ∈ ([]:List Addr) from z) (by simp)
 refine ⟨⟨e0.mod,S.kind,rfl,rfl,Nat.le_refl _,fun y z c h1 h2=>?_,fun y hy=>?_,fun y c _ h=>?_,fun _=>hd,Around.frames_deeper e0.frames,.inr ⟨rfl,rfl⟩,fun b z=>absurd z (noA b),e0.bs,e0.bsz,fun b _ _=>noA b,fun b z=>absurd z (noA b),e0.funs,e0.frf⟩,
  rfl,e0.bare,Un.kept hk,⟨_,x.toInCall.ns,fun i y v h1 h2 h3=>?_⟩,fun y c h=>⟨_,x.cell y c h⟩,e0.hok.fresh (Nat.le_refl _),fun y c h=>?_,fun p hp=>absurd (show p ∈ ([]:List (Addr × Obj)) from hp) (by simp),e0.hok.kept hk,?_⟩
 ·exact name_of_addr x.apart (PySem.mem_of_lookup h1) (PySem.mem_of_lookup h2)
 ·have hy:scope.names.lookup y=some .cell ∨ scope.names.lookup y=some .free:=hy
  rcases hy with hy | hy
  ·exact agk hy
  ·exact absurd rfl (S.nofree _ (PySem.mem_of_lookup hy))
 ·exact Nat.le_of_lt (x.above y c (PySem.mem_of_lookup h))
 ·have hi:i<vs.length:=by
   unfold Jm at h2
   by_cases hi:i<vs.length
   ·exact hi
   ·rw [List.getElem?_append_right (by simpa using hi)] at h2
    rw [List.getElem?_replicate] at h2
    split at h2 <;> cases h2
  have ha:vs[i]?=some v:=by
   unfold Jm at h2
   rw [List.getElem?_append_left (by simpa using hi),List.getElem?_map] at h2
   cases e:vs[i]? with
   | none=>rw [e] at h2; cases h2
   | some a=>rw [e] at h2; cases h2; rfl
  obtain ⟨u,hu,rv⟩:=r.get ha
  have hp:ps[i]?=some y:=by
   rw [←S.pre,List.getElem?_take_of_lt (by omega)]; exact h1
  have ndP:ps.Nodup:=by rw [←S.pre]; exact S.nd.sublist (List.take_sublist _ _)
  refine ⟨u,rv,?_⟩
  rcases S.par y (List.mem_of_getElem? hp) with k | k
  ·exact .inl ⟨k,adM ndP hp hu k⟩
  ·obtain ⟨c,e⟩:=agk (n:=s.heap.objs.size+1) k
   refine .inr ⟨.inl k,c,e,?_⟩
   have q:=x.cell y c e
   rw [adN ndP hp hu (by show scope.names.lookup y ≠ _; rw [k]; decide)] at q
   exact q
 ·exact e0.hok.fresh (Nat.le_of_lt (x.above y c (PySem.mem_of_lookup h)))
 ·unfold Jm
  show _=N.length
  rw [List.length_append,List.length_map,List.length_replicate]
  omega
theorem arU {CX:CXT}{P:Program}{w:World}{K:Fg}{mg:SV}{base:Heap}{k:Nat}{f:Addr}{name qual:Str}{params:Arguments}{body:List Stmt}{scope:Scope}{dV kV doc pm Kc ct oc:Value}{an od:Option Addr}
  {osl:Array (Option Value)} {N ps:List Str} {sp:Sp} (lk:K.lookup f=some ⟨oc,od,.func (PySem.W.fnOf name qual params body scope dV kV doc pm an Kc ct),osl⟩) (hcd:PySem.W.codeIn K Kc qual=true) (S:FnScope N ps scope)
  (len:∀ vs H Q E,sp vs H Q E->vs.length=ps.length)
  (hbody:∀ (A:Around) (Ko:List Env) (s:Shared) (H:Hp) (vs:List V) (Q:VK) (E:XK),Room k (A.deeper (envOfC qual scope s.heap.objs.size f Kc))->sp vs H Q E->
   ∃ t,PSs (zW CX P w K mg base N qual scope f Kc A Ko s H E) body t/\t { nx:=fun _ H'=>Q .non H',rt:=Q } (Jm N vs) H):
  FnOk P w K mg base CX (k+1) f (PySem.W.fnOf name qual params body scope dV kV doc pm an Kc ct) ps sp:=by
 refine ⟨len,fun A Ko s H args us vs Q E hr e0 hb r hsp=>?_⟩
 have hl:=len _ _ _ _ hsp
 have KX:K.In s.heap:=e0.mod.kin.keeps fun b o e=>(e0.bs b o e).1
 have lim:s.heap.NoLimit:=e0.mod.nolimit.keeps fun b o e=>(e0.bs b o e).1
 have hkind:∀ y ∈ ps.zip us,scope.names.lookup y.1=some .local ∨ (scope.names.lookup y.1=some .cell/\((cellsFrom (s.heap.objs.size+1) scope.names []).lookup y.1).isSome=true):=fun ⟨n,v⟩ hy=>by
  rcases S.par n (List.of_mem_zip hy).1 with q | q
  ·exact .inl q
  ·exact .inr ⟨q,PySem.W.cellsFrom_some _ _ _ (.inl q)⟩
 refine codeAny_call_function hr.depth (KX _ _ lk) rfl S.co S.gen rfl (PySem.W.codeRec_of KX hcd) (hb _ _ _ _ ?_)
 refine wpAny_newFunctionEnv_cells S.kind hkind fun env he s1 x=>?_
 subst he
 refine ⟨lim.keeps x.toInCall.keep,codeAny_func ?_⟩
 obtain ⟨t,ht,hq⟩:=hbody A Ko s H vs Q E (hr.deeper _) hsp
 have I:Inv (zW CX P w K mg base N qual scope f Kc A Ko s H E) [] (Jm N vs) H s1:=adO S hr.hd e0 hl r x
 refine wpAny_mono (ht [] s1 (Jm N vs) H _ I hq) (fun fl s' hs=>?_) fun e s' hs=>hs
 have fin:∀ {σ':St} {H':Hp} {v:V} {u:Value},Inv (zW CX P w K mg base N qual scope f Kc A Ko s H E) [] σ' H' s'->jV v u->Q v H'->CE Ko P w H s Q u s':=
  fun {σ' H' v u} J rv q=>⟨v,H',J.os,J.bare,J.base,J.hok,rv,q⟩
 cases fl with
 | ret u=>
  obtain ⟨v,σ',H',J,rv,q⟩:=hs
  exact fin J rv q
 | next=>
  obtain ⟨σ',H',J,q⟩:=hs
  exact fin (v:=V.non) (u:=Value.none) J rfl q
 | brk=>
  obtain ⟨_,_,_,q⟩:=hs
  exact False.elim q
 | cont=>
  obtain ⟨_,_,_,q⟩:=hs
  exact False.elim q
section
variable {X:Cx}{x:Str}{p pos:Pos}{e:Expr}{es:List Expr}{t:TA}{id T:String}{r:List V->Hp->VK->Prop}
def tCB (r:List V->Hp->VK->Prop) (t:TA):TE:=fun σ H Q=>t σ H fun vs H1=>r vs H1 Q
theorem aae (hc:zV X (.builtin id) r) (hg:Gl X x) (hm:X.mg x=none) (hv:bootBuiltins x=some (.builtin id)) (ha:PA X (e::es) t) (hn:x ≠ "__name__":=by decide) (hdb:(x == ("__debug__":Str))=false:=by decide)
  (he:starEach (e::es) X.env=(false,eval e X.env)::starEach es X.env:=by rfl) (hpl:(backTo pos (starEach es X.env)).any (·.1)=false:=by rfl):PE X (.Call (.Name x p) (e::es) [] pos) (tCB r t):=by
 intro Kp s σ H Q I h
 refine wpAny_Call_Name_kw (Qn I hg hm hv ?_ hn hdb)
 exact PyProof.Rows.callWith_builtin1 (thn (ha pos Kp s σ H _ I h) fun us s1 ⟨vs,H1,I1,r1,q1⟩=>hc Kp s1 σ H1 vs us Q I1 r1 q1) he hpl
theorem aa0 (hc:zV X (.type T) r) (hg:Gl X x) (hm:X.mg x=none) (hv:bootBuiltins x=some (.type T)) (ha:PA X (e::es) t) (hn:x ≠ "__name__":=by decide) (hdb:(x == ("__debug__":Str))=false:=by decide)
  (he:starEach (e::es) X.env=(false,eval e X.env)::starEach es X.env:=by rfl) (hpl:(backTo pos (starEach es X.env)).any (·.1)=false:=by rfl):PE X (.Call (.Name x p) (e::es) [] pos) (tCB r t):=by
 intro Kp s σ H Q I h
 refine wpAny_Call_Name_kw (Qn I hg hm hv ?_ hn hdb)
 exact PyProof.Rows.callWith_type1 (thn (ha pos Kp s σ H _ I h) fun us s1 ⟨vs,H1,I1,r1,q1⟩=>hc Kp s1 σ H1 vs us Q I1 r1 q1) he hpl
end
end L2
namespace HT
open PySem PyProof.Rows
section
open PySem.SeqAt
open PySem.AutoSeq1 (wpAny_loadPart')
open PySem.MeetsSeq PySem.MeetsSeq2 PySem.MeetsSeq3
end
section
variable {prog:Program}{w:World}{A:Around}{E:Value->SP0}{s:Shared}
theorem cat_tup {t b:Addr}{vs ws:List Value}{Q:Value->SP0} (ht:IsTup s.heap t vs.toArray) (hb:IsTup s.heap b ws.toArray) (hv:vs ≠ [])
  (h1:ws=[]->Q (.ref t) s) (h2:ws ≠ []->Q (.ref s.heap.objs.size) { s with heap:=s.heap.push { cls:= .type "tuple",data:= .seq (vs++ws).toArray } })
  (hsz:vs.length+ws.length<=sizeLine):wpAny (model prog w) A (binaryOp .Add (.ref t) (.ref b)) Q E s:=by
 obtain ⟨⟨cls,dd,data,sl⟩,ho,hc,n,hd⟩:=id ht
 obtain ⟨⟨cls2,dd2,data2,sl2⟩,ho2,hc2,n2,hd2⟩:=id hb
 simp only at hc hd hc2 hd2
 subst hc hd hc2 hd2
 have e:vs.toArray++ws.toArray=(vs++ws).toArray:=by simp
 by_cases hw:ws=[]
 ·exact concat_meets ⟨_,ho,rfl⟩ ⟨_,ho2,rfl⟩ noFill_tuple_add seq_tuple_add PySem.F.slot_tuple_add PySem.F.entry_tuple_add (PySem.F.args_tuple_add_2 _ _)
   (tuple_addW1 t b vs.toArray ws.toArray n n2 dd dd2 sl sl2 (by simpa using hv) (by simp [hw])) ⟨ho,ho2,h1 hw⟩
 ·refine concat_meets ⟨_,ho,rfl⟩ ⟨_,ho2,rfl⟩ noFill_tuple_add seq_tuple_add PySem.F.slot_tuple_add PySem.F.entry_tuple_add (PySem.F.args_tuple_add_2 _ _)
   (tuple_addW2 t b vs.toArray ws.toArray n n2 dd dd2 sl sl2 (by simpa using hv) (by simpa using hw) (by rw [List.size_toArray,List.size_toArray]; exact hsz)) ⟨ho,ho2,?_⟩
  rw [e]
  exact h2 hw
noncomputable def sIx (n d:Nat):Option Int->Nat
 | none=>d
 | some v=>if v<0 then (v+(n:Int)).toNat else min v.toNat n
theorem sIx_none (n d:Nat):sIx n d none=d:=rfl
theorem sIx_nat (n d k:Nat):sIx n d (some (k:Int))=min k n:=by
 show (if (k:Int)<0 then ((k:Int)+(n:Int)).toNat else min (k:Int).toNat n)=min k n
 rw [if_neg (by omega),Int.toNat_natCast]
theorem aqt (n d:Nat) (hd:d<=n) (o:Option Int):sIx n d o<=n:=by
 cases o with
 | none=>exact hd
 | some v=>
  show (if v<0 then (v+(n:Int)).toNat else min v.toNat n)<=n
  by_cases hv:v<0
  ·rw [if_pos hv]; omega
  ·rw [if_neg hv]; exact Nat.min_le_right _ _
theorem ai2 (v:Int) (n d:Nat):(if v<0 then max (v+(n:Int)) 0 else min v (n:Int))=((sIx n d (some v):Nat):Int):=by
 show (if v<0 then max (v+(n:Int)) 0 else min v (n:Int))=(((if v<0 then (v+(n:Int)).toNat else min v.toNat n):Nat):Int)
 by_cases hv:v<0
 ·simp only [if_pos hv]; omega
 ·simp only [if_neg hv]; omega
theorem ahI (lo hi:Option Int) (n:Nat):Builtin.Slice.sliceAdjust lo hi 1 (n:Int)=(((sIx n 0 lo:Nat):Int),((sIx n n hi:Nat):Int)):=by
 have h1:¬ ((1:Int)<0):=by omega
 unfold Builtin.Slice.sliceAdjust
 simp only [h1,zzN]
 refine Prod.ext ?_ ?_
 ·cases lo with
  | none=>rfl
  | some v=>exact ai2 v n 0
 ·cases hi with
  | none=>rfl
  | some v=>exact ai2 v n n
theorem ahJ (i j:Nat):Builtin.Slice.slicePlaces (i:Int) (j:Int) 1=j - i:=by
 unfold Builtin.Slice.slicePlaces
 have h1:(1:Int) > 0:=by omega
 simp only [h1,zzM,Int.ediv_one]
 split <;> omega
theorem acA {v:Value}{o:Option Int}{Q:Option Int->SP0} (p:IsPart v o) (h:Q o s):wpAny (model prog w) A (Builtin.Slice.slicePartIndex v) Q E s:=by
 cases p with
 | none=>exact slicePart_none h
 | int i t=>exact slicePart_int h
theorem sliceApplied_gen {sl:Addr}{vl vu:Value}{lo hi:Option Int}{n:Nat}{Q:Int × Int × Nat->SP0} (hs:s.heap.IsSliceOf sl vl vu .none) (pl:IsPart vl lo) (pu:IsPart vu hi)
  (h:Q (((sIx n 0 lo:Nat):Int),1,sIx n n hi - sIx n 0 lo) s):wpAny (model prog w) A (Builtin.Slice.sliceApplied (.ref sl) (pure (n:Int))) Q E s:=by
 obtain ⟨os,hos,hcs,hds⟩:=id hs
 unfold Builtin.Slice.sliceApplied Builtin.Slice.sliceFields
 refine wpAny_bind (wpAny_bind (wpAny_field hos hds (x:=vl) rfl (wpAny_bind (wpAny_field hos hds (x:=vu) rfl (wpAny_bind (wpAny_field hos hds (x:= .none) rfl (wpAny_pure ?_)))))))
 refine wpAny_bind (slicePart_none ?_)
 show wpAny _ _ (if ((1:Int) == 0)=true then _ else _) _ _ s
 rw [if_neg (by decide)]
 refine wpAny_bind (acA pl (wpAny_bind (acA pu (wpAny_bind (wpAny_pure ?_)))))
 show wpAny _ _ (match Builtin.Slice.sliceAdjust lo hi 1 (n:Int) with | (lo,hi)=>pure (lo,(1:Int),Builtin.Slice.slicePlaces lo hi 1)) _ _ s
 rw [ahI lo hi n]
 show wpAny _ _ (pure (((sIx n 0 lo:Nat):Int),(1:Int),Builtin.Slice.slicePlaces ((sIx n 0 lo:Nat):Int) ((sIx n n hi:Nat):Int) 1)) _ _ s
 rw [ahJ]
 exact wpAny_pure h
theorem alE (xs:Array Value) (i k:Nat):((List.range k).filterMap fun (m:Nat)=>xs[((i:Int)+(m:Int)*1).toNat]?).toArray=((xs.toList.drop i).take k).toArray:=by
 have e:(fun (m:Nat)=>xs[((i:Int)+(m:Int)*1).toNat]?)=fun m=>xs[i+m]?:=by
  funext m
  have:((i:Int)+(m:Int)*1).toNat=i+m:=by omega
  rw [this]
 rw [e]
 have:=pick_run xs i k
 rw [List.filterMap_map] at this
 have e2:((fun x=>xs[x]?) ∘ fun x=>i+x)=fun m=>xs[i+m]?:=rfl
 rw [e2] at this
 rw [this]
theorem getItem_tuple_cut {t sl:Addr}{items:Array Value}{vl vu:Value}{lo hi:Option Int}{Q:Value->SP0} (ht:IsTup s.heap t items) (hs:s.heap.IsSliceOf sl vl vu .none) (pl:IsPart vl lo) (pu:IsPart vu hi)
  (hw:¬ (sIx items.size 0 lo=0/\sIx items.size items.size hi=items.size))
  (h:Q (.ref s.heap.objs.size) { s with heap:=s.heap.push { cls:= .type "tuple",data:= .seq ((items.toList.drop (sIx items.size 0 lo)).take (sIx items.size items.size hi - sIx items.size 0 lo)).toArray } })
  (hsz:items.size<=sizeLine):wpAny (model prog w) A (getItem (.ref t) (.ref sl)) Q E s:=by
 have htake:sizeOk (.seq ((items.toList.drop (sIx items.size 0 lo)).take (sIx items.size items.size hi - sIx items.size 0 lo)).toArray):=by
  show ((items.toList.drop (sIx items.size 0 lo)).take (sIx items.size items.size hi - sIx items.size 0 lo)).toArray.size<=sizeLine
  rw [List.size_toArray,List.length_take,List.length_drop,Array.length_toList]
  omega
 have hj:sIx items.size items.size hi<=items.size:=aqt _ _ (Nat.le_refl _) hi
 obtain ⟨os,hos,hcs,hds⟩:=id hs
 have hTs:s.TypeIs (.ref sl) "slice":=⟨os,hos,hcs⟩
 unfold getItem
 try with_reducible refine wpAny_holding ?_
 first | refine wpAny_bind (wpAny_pure ?_) | skip
 refine wpAny_bind (wpAny_sequenceKey ht.typeIs (by decide) ?_)
 refine wpAny_bind (wpAny_callSpecial?_slot (name:=Str.ofString "__getitem__") ht.typeIs PyProof.Rows.slot_tuple_getitem
  (wpAny_call_entry PyProof.Rows.slot_tuple_getitem ht.typeIs entry_tuple_getitem ?_ (args_tuple_getitem _ _)))
 show wpAny _ _ (Builtin.Tuple.tupleItemsOf (.ref t) >>= _) _ _ s
 refine wpAny_bind (tupleItemsOf_ ht ?_)
 refine wpAny_bind (wpAny_typeOf hTs ?_)
 rw [if_pos (by decide)]
 refine wpAny_bind (sliceApplied_gen hs pl pu ?_)
 have hno:¬ ((((sIx items.size 0 lo:Nat):Int) == 0 && (1:Int) == 1 && (sIx items.size items.size hi - sIx items.size 0 lo) == items.size)=true):=by
  intro q
  rw [Bool.and_eq_true,Bool.and_eq_true] at q
  have q1:((sIx items.size 0 lo:Nat):Int)=0:=eq_of_beq q.1.1
  have q2:sIx items.size items.size hi - sIx items.size 0 lo=items.size:=eq_of_beq q.2
  exact hw ⟨by omega,by omega⟩
 show wpAny _ _ (if (((sIx items.size 0 lo:Nat):Int) == 0 && (1:Int) == 1 && (sIx items.size items.size hi - sIx items.size 0 lo) == items.size)=true then _ else _) _ _ s
 rw [if_neg hno,alE]
 first
  | exact wpAny_bind (m:=Builtin.Tuple.tupleExact _) (wpAny_newObj_type (wpAny_pure ⟨_,rfl,wpAny_pure h⟩) htake)
  | exact wpAny_bind (m:=Builtin.Tuple.tupleExact _) (wpAny_newObj_type (wpAny_bind (wpAny_pure (wpAny_pure ⟨_,rfl,wpAny_pure h⟩))) htake)
  | exact wpAny_bind (wpAny_bind (m:=Builtin.Tuple.tupleExact _) (wpAny_newObj_type (wpAny_pure (wpAny_pure ⟨_,rfl,wpAny_pure h⟩)) htake))
  | exact wpAny_bind (wpAny_bind (m:=Builtin.Tuple.tupleExact _) (wpAny_newObj_type (wpAny_pure ⟨_,rfl,wpAny_pure h⟩) htake))
end
end HT
namespace L2
open PySem PySem.Spec PyProof.Rows
abbrev TO:=St->Hp->(Option Int->Hp->Prop)->Prop
def PO (X:Cx) (e:Option Expr) (t:TO):Prop:=
 ∀ (Kp:List (Addr × Obj)) (s:Shared) (σ:St) (H:Hp) (Q:Option Int->Hp->Prop),Inv X Kp σ H s->t σ H Q->
  wpAny (model X.prog X.w) X.A (evalPart e X.env) (fun u s'=>∃ o H',Inv X Kp σ H' s'/\IsPart u o/\Q o H') X.xe s
def an5:TO:=fun _ H Q=>Q none H
def arV (t:TE):TO:=fun σ H Q=>t σ H fun x H1=>∃ i,x= .int i/\Q (some i) H1
section
variable {X:Cx}{e:Expr}{te:TE}{lo hi:Option Expr}{tl th:TO}{pos p2:Pos}
theorem ai3:PO X none an5:=by
 intro Kp s σ H Q I h
 rw [evalPart_none]
 exact wpAny_pure ⟨none,H,I,.none,h⟩
theorem ai4 (h:PE X e te):PO X (some e) (arV te):=by
 intro Kp s σ H Q I hw
 rw [evalPart_some]
 refine thn (h Kp s σ H _ I hw) fun u s1 ⟨x,H1,I1,r1,q1⟩=>?_
 obtain ⟨i,rfl,q⟩:=q1
 obtain ⟨t,rfl⟩:=r1
 exact ⟨some i,H1,I1,.int i t,q⟩
def SlR (X:Cx) (r:V->Option Int->Option Int->Hp->VK->Prop):Prop:=
 ∀ (Kp:List (Addr × Obj)) (s:Shared) (σ:St) (H:Hp) (x:V) (v vl vu:Value) (lo hi:Option Int) (sl:Addr) (Q:VK),Inv X Kp σ H s->jV x v->s.heap.IsSliceOf sl vl vu .none->IsPart vl lo->IsPart vu hi->r x lo hi H Q->
  ∃ T id,typeLookup (.type T) "__getitem__"=pure (some (.builtin id))/\s.TypeIs v T/\wpAny (model X.prog X.w) X.A (getItem v (.ref sl)) (EP X Kp σ Q) X.xe s
theorem SlR.or {r r':V->Option Int->Option Int->Hp->VK->Prop} (h:SlR X r) (h':SlR X r'):SlR X (fun x lo hi H Q=>r x lo hi H Q ∨ r' x lo hi H Q):=by
 intro Kp s σ H x v vl vu lo hi sl Q I rx hs pl pu q
 rcases q with q | q
 ·exact h Kp s σ H x v vl vu lo hi sl Q I rx hs pl pu q
 ·exact h' Kp s σ H x v vl vu lo hi sl Q I rx hs pl pu q
def tSl (r:V->Option Int->Option Int->Hp->VK->Prop) (te:TE) (tl th:TO):TE:=fun σ H Q=>te σ H fun x H1=>tl σ H1 fun l H2=>th σ H2 fun u H3=>r x l u H3 Q
theorem agl {r:V->Option Int->Option Int->Hp->VK->Prop} (hr:SlR X r) (he:PE X e te) (hl:PO X lo tl) (hu:PO X hi th):PE X (.Subscript e (.Slice lo hi none p2) pos) (tSl r te tl th):=by
 intro Kp s σ H Q I h
 refine Subscript_ (thn (he Kp s σ H _ I h) fun v s1 ⟨x,H1,I1,r1,q1⟩=>?_)
 refine wpAny_Slice (thn (hl Kp s1 σ H1 _ I1 q1) fun vl s2 ⟨l,H2,I2,pl,q2⟩=>thn (hu Kp s2 σ H2 _ I2 q2) fun vu s3 ⟨u,H3,I3,pu,q3⟩=>?_)
 rw [evalPart_none]
 refine wpAny_pure ?_
 have I4:Inv X Kp σ H3 { s3 with heap:=s3.heap.push { cls:= .type "slice",data:= .fields #[vl,vu,.none] } }:=I3.kept (t':=s3.toks) fun b ob q=>Heap.get?_push_of_some _ q
 obtain ⟨T,id,hT,ht,hg⟩:=hr Kp { s3 with heap:=s3.heap.push { cls:= .type "slice",data:= .fields #[vl,vu,.none] } } σ H3 x v vl vu l u s3.heap.objs.size Q I4 r1 (Heap.IsSliceOf.new ..) pl pu q3
 show wpAny (model X.prog X.w) X.A (subscriptTail e (.Slice lo hi none p2) v (.ref s3.heap.objs.size)) (EP X Kp σ Q) X.xe { s3 with heap:=s3.heap.push { cls:= .type "slice",data:= .fields #[vl,vu,.none] } }
 exact tail_any (ops:=[.ref s3.heap.objs.size,v]) ht hT hg (by with_unfolding_all rfl)
def aeM (xs:List V) (lo hi:Option Int):List V:=(xs.drop (HT.sIx xs.length 0 lo)).take (HT.sIx xs.length xs.length hi - HT.sIx xs.length 0 lo)
theorem agm (xs:List V) (lo hi:Option Int):(aeM xs lo hi).length<=xs.length:=by
 unfold aeM
 rw [List.length_take,List.length_drop]
 omega
def arW (K:Fg):V->Option Int->Option Int->Hp->VK->Prop:=fun x lo hi H Q=>∃ a xs,x= .ref a/\SqT K H a xs/\
 ¬ (HT.sIx xs.length 0 lo=0/\HT.sIx xs.length xs.length hi=xs.length)/\∀ p,H p=none->Q (.ref p) (upd H p (.tup (aeM xs lo hi)))
theorem alF:SlR X (arW X.K):=by
 intro Kp s σ H x v vl vu lo hi sl Q I rx hs pl pu h
 obtain ⟨a,xs,rfl,hx,hw,q⟩:=h
 cases rx
 obtain ⟨its,r,ht,hz⟩:=I.tuple hx
 have hlen:its.toArray.size=xs.length:=by rw [List.size_toArray]; exact r.length.symm
 refine ⟨"tuple",_,PyProof.Rows.slot_tuple_getitem.lookup,ht.typeIs,?_⟩
 refine HT.getItem_tuple_cut ht hs pl pu (by rw [hlen]; exact hw) ?_ (by rw [hlen]; exact hz)
 rw [hlen]
 refine ⟨.ref s.heap.objs.size,_,I.laid (t':=s.toks) (o:= .tup (aeM xs lo hi)) (fun b ob q=>Heap.get?_push_of_some _ q) (Nat.le_refl _) ?_,rfl,q _ (I.hok.fresh (Nat.le_refl _))⟩
 exact ⟨Nat.le_trans (agm xs lo hi) hz,_,(r.drop (HT.sIx xs.length 0 lo)).take (HT.sIx xs.length xs.length hi - HT.sIx xs.length 0 lo),IsTup.new _ _⟩
def arX (K:Fg):R2:=fun x y H Q=>∃ a b xs ys,x= .ref a/\y= .ref b/\SqT K H a xs/\SqT K H b ys/\xs ≠ []/\xs.length+ys.length<=sizeLine/\
 (ys=[]->Q (.ref a) H)/\(ys ≠ []->∀ p,H p=none->Q (.ref p) (upd H p (.tup (xs++ys))))
theorem jJ.nil_iff {xs:List V}{us:List Value} (r:jJ xs us):us=[] ↔ xs=[]:=by
 cases r with
 | nil=>simp
 | cons _ _=>simp
theorem an6:OpR X (binaryOp .Add) (arX X.K):=by
 intro Kp s σ H x y v u Q I rx ry h
 obtain ⟨a,b,xs,ys,rfl,rfl,ha,hb,hx,hz,q1,q2⟩:=h
 cases rx
 cases ry
 obtain ⟨its,r1,p1,_⟩:=I.tuple ha
 obtain ⟨its2,r2,p2,_⟩:=I.tuple hb
 refine HT.cat_tup p1 p2 (fun z=>hx (r1.nil_iff.mp z)) (fun z=>⟨.ref a,H,I,rfl,q1 (r2.nil_iff.mp z)⟩) (fun z=>?_) (by rw [←r1.length,←r2.length]; exact hz)
 refine ⟨.ref s.heap.objs.size,_,I.laid (t':=s.toks) (o:= .tup (xs++ys)) (fun b ob q=>Heap.get?_push_of_some _ q) (Nat.le_refl _) ?_,rfl,q2 (fun w=>z (r2.nil_iff.mpr w)) _ (I.hok.fresh (Nat.le_refl _))⟩
 exact ⟨by rw [List.length_append]; exact hz,_,r1.append r2,IsTup.new _ _⟩
end
noncomputable def ixN (n:Nat) (i:Int):Option Nat:=if 0<=i then (if i<n then some i.toNat else none) else if -(n:Int)<=i then some (i+n).toNat else none
def atI {α:Type} (xs:List α) (i:Int):Option α:=(ixN xs.length i).bind fun j=>xs[j]?
theorem ai5 {n:Nat}{i:Int}{j:Nat} (h:ixN n i=some j):seqIndex? i n=some j/\j<n/\-(n:Int)<=i/\i<n:=by
 unfold ixN at h
 by_cases h0:0<=i
 ·rw [if_pos h0] at h
  by_cases h1:i<n
  ·rw [if_pos h1] at h
   have e:i.toNat=j:=Option.some.inj h
   exact ⟨by rw [seqIndex_of h0 h1,e],by omega,by omega,h1⟩
  ·rw [if_neg h1] at h; cases h
 ·rw [if_neg h0] at h
  by_cases h1:-(n:Int)<=i
  ·rw [if_pos h1] at h
   have e:(i+n).toNat=j:=Option.some.inj h
   exact ⟨by rw [seqIndex_neg (by omega) h1,e],by omega,h1,by omega⟩
  ·rw [if_neg h1] at h; cases h
theorem ai6 {α:Type}{xs:List α}{i:Int}{v:α} (h:atI xs i=some v):∃ j,seqIndex? i xs.length=some j/\xs[j]?=some v/\j<xs.length/\-(xs.length:Int)<=i/\i<xs.length:=by
 unfold atI at h
 cases e:ixN xs.length i with
 | none=>rw [e] at h; cases h
 | some j=>
  rw [e] at h
  obtain ⟨h1,h2,h3,h4⟩:=ai5 e
  exact ⟨j,h1,h,h2,h3,h4⟩
def aeN (b:Expr):Prop:=∀ o i,subscripted b false o i=operate [o,i] (getItem o i)
def IxR (X:Cx) (r:R2):Prop:=
 ∀ (value slice:Expr) (Kp:List (Addr × Obj)) (s:Shared) (σ:St) (H:Hp) (x y:V) (v u:Value) (Q:VK),Inv X Kp σ H s->jV x v->jV y u->r x y H Q->
  subscripted slice false v u=operate [v,u] (getItem v u)->wpAny (model X.prog X.w) X.A (subscriptTail value slice v u) (EP X Kp σ Q) X.xe s
def MtR (X:Cx) (id:String) (r:V->List V->Hp->VK->Prop):Prop:=
 ∀ (Kp:List (Addr × Obj)) (s:Shared) (σ:St) (H:Hp) (x:V) (xs:List V) (v:Value) (us:List Value) (Q:VK),Inv X Kp σ H s->jV x v->jJ xs us->r x xs H Q->
  wpAny (model X.prog X.w) X.A (call (.builtin id) (v::us)) (EP X Kp σ Q) X.xe s
section
variable {X:Cx}{a b:Expr}{ta tb:TE}{pos:Pos}
theorem IxR.or {r r':R2} (h:IxR X r) (h':IxR X r'):IxR X (fun x y H Q=>r x y H Q ∨ r' x y H Q):=by
 intro value slice Kp s σ H x y v u Q I rx ry q hs
 rcases q with q | q
 ·exact h value slice Kp s σ H x y v u Q I rx ry q hs
 ·exact h' value slice Kp s σ H x y v u Q I rx ry q hs
theorem MtR.or {id:String}{r r':V->List V->Hp->VK->Prop} (h:MtR X id r) (h':MtR X id r'):MtR X id (fun x xs H Q=>r x xs H Q ∨ r' x xs H Q):=by
 intro Kp s σ H x xs v us Q I rx rs q
 rcases q with q | q
 ·exact h Kp s σ H x xs v us Q I rx rs q
 ·exact h' Kp s σ H x xs v us Q I rx rs q
theorem apH {r:R2} (hr:IxR X r) (ha:PE X a ta) (hb:PE X b tb) (hs:aeN b):PE X (.Subscript a b pos) (tOp r ta tb):=by
 intro Kp s σ H Q I h
 exact Subscript_ (anY ha hb I h fun v u s2 x y H2 I2 rx ry q=>hr a b Kp s2 σ H2 x y v u Q I2 rx ry q (hs _ _))
def atd (K:Fg):R2:=fun x y H Q=>∃ p xs i v,x= .ref p/\y= .int i/\SqL K H p xs/\atI xs i=some v/\Q v H
def ate (K:Fg):R2:=fun x y H Q=>∃ p xs i v,x= .ref p/\y= .int i/\SqT K H p xs/\atI xs i=some v/\Q v H
theorem an7:IxR X (atd X.K):=by
 intro value slice Kp s σ H x y v u Q I rx ry h hs
 obtain ⟨p,xs,i,z,rfl,rfl,hq,he,q⟩:=h
 cases rx
 obtain ⟨t,rfl⟩:=ry
 obtain ⟨its,r,pl,hz⟩:=I.list hq
 obtain ⟨j,h1,h2,h3,h4,h5⟩:=ai6 he
 obtain ⟨w,ew,rw'⟩:=r.get h2
 have hl:=r.length
 have hn:=aaX
 have fin:EP X Kp σ Q w s:=⟨z,H,I,rw',q⟩
 by_cases h0:0<=i
 ·have hj:i.toNat=j:=by
   rw [seqIndex_of h0 h5] at h1
   exact Option.some.inj h1
  exact item_listR pl.isList h0 (by omega) (by rw [hj]; simpa using ew) fin hs
 ·have hj:(i+(its.toArray.size:Int)).toNat=j:=by
   rw [seqIndex_neg (by omega) h4] at h1
   rw [List.size_toArray,←hl]
   exact Option.some.inj h1
  exact subscriptTail_builtinR (x:=w) pl.isList.typeIs slot_list_getitem.lookup
   (wpAny_getItem_list_neg (Q:=fun r s'=>r=w/\EP X Kp σ Q r s') pl.isList (by omega) (by rw [List.size_toArray] <;> omega) (by omega) (by rw [hj]; simpa using ew) ⟨rfl,fin⟩) hs
theorem aqu:IxR X (ate X.K):=by
 intro value slice Kp s σ H x y v u Q I rx ry h hs
 obtain ⟨p,xs,i,z,rfl,rfl,hq,he,q⟩:=h
 cases rx
 obtain ⟨t,rfl⟩:=ry
 obtain ⟨its,r,pl,hz⟩:=I.tuple hq
 obtain ⟨j,h1,h2,h3,h4,h5⟩:=ai6 he
 obtain ⟨w,ew,rw'⟩:=r.get h2
 have hl:=r.length
 have hn:=aaX
 have fin:EP X Kp σ Q w s:=⟨z,H,I,rw',q⟩
 exact subscriptTail_builtinR (x:=w) pl.typeIs slot_tuple_getitem.lookup
  (getItem_tuple (j:=j) (Q:=fun r s'=>r=w/\EP X Kp σ Q r s') pl (by omega) (by omega) (by rw [List.size_toArray,←hl]; exact h1) (by simpa using ew) ⟨rfl,fin⟩) hs
theorem ahK (its:List Value) (n j:Nat) (u:Value):Obj.mapSeq (·.setIfInBounds j u) { cls:= .type "list",data:= .seq its.toArray n }={ cls:= .type "list",data:= .seq (its.set j u).toArray n }:=by
 simp [Obj.mapSeq]
theorem Inv.lst {Kp:List (Addr × Obj)}{σ:St}{H:Hp}{s:Shared}{p:Addr}{xs:List V} (I:Inv X Kp σ H s) (h:H p=some (.lst xs)):
  ∃ (its:List Value) (n:Nat),jJ xs its/\s.heap.get? p=some { cls:= .type "list",data:= .seq its.toArray n }/\xs.length<=sizeLine:=by
 obtain ⟨z,its,n,r,e⟩:=I.hok p _ h
 exact ⟨its,n,r,e,z⟩
theorem Inv.lstUpd {Kp:List (Addr × Obj)}{σ:St}{H:Hp}{s:Shared}{p:Addr}{xs ys:List V}{its its':List Value}{n n':Nat}{f:Obj->Obj} (I:Inv X Kp σ H s) (h:H p=some (.lst xs))
  (ho:s.heap.get? p=some { cls:= .type "list",data:= .seq its.toArray n }) (hf:f { cls:= .type "list",data:= .seq its.toArray n }={ cls:= .type "list",data:= .seq its'.toArray n' }) (r:jJ ys its') (hz:ys.length<=sizeLine) (t:Nat):
  Inv X Kp σ (upd H p (.lst ys)) { s with heap:=s.heap.update p f,toks:=t }:=by
 have e:(s.heap.update p f).get? p=some { cls:= .type "list",data:= .seq its'.toArray n' }:=by
  rw [Heap.get?_update_self f ho (by rw [hf] <;> rfl),hf]
 refine I.write (x:=p) (e:=p) (by rw [h]; trivial) (.inl rfl) (fun b u hb q=>(Heap.get?_update_other _ _ (Ne.symm hb)).trans q) ⟨_,e⟩ ?_
 exact ⟨hz,its',n',r,e⟩
def arY:V->V->V->Hp->(Hp->Prop)->Prop:=fun o i v H Q=>∃ p xs k j,o= .ref p/\i= .int k/\H p=some (.lst xs)/\ixN xs.length k=some j/\Q (upd H p (.lst (xs.set j v)))
theorem alG:anW X arY:=by
 intro Kp s σ H o i v ov iv u Q I ro ri rv h
 obtain ⟨p,xs,k,j,rfl,rfl,hp,hj,q⟩:=h
 cases ro
 obtain ⟨t,rfl⟩:=ri
 obtain ⟨its,n,r,ho,hz⟩:=I.lst hp
 obtain ⟨h1,h2,h3,h4⟩:=ai5 hj
 have hl:=r.length
 have hn:=aaX
 have I':Inv X Kp σ (upd H p (.lst (xs.set j v))) { s with heap:=s.heap.update p (Obj.mapSeq (·.setIfInBounds j u)) }:=
  I.lstUpd hp ho (ahK its n j u) (r.set rv j) (by rw [List.length_set]; exact hz) s.toks
 by_cases h0:0<=k
 ·have hk:k.toNat=j:=by
   rw [seqIndex_of h0 h4] at h1
   exact Option.some.inj h1
  exact PySem.W.ki_setAt ho h0 (by omega) (by rw [List.size_toArray,←hl]; exact h4) (by rw [hk]; exact ⟨_,I',q⟩)
 ·have hk:(k+(its.toArray.size:Int)).toNat=j:=by
   rw [seqIndex_neg (by omega) h3] at h1
   rw [List.size_toArray,←hl]
   exact Option.some.inj h1
  exact PySem.W.ki_setBack ho (by omega) (by rw [List.size_toArray,←hl]; exact h3) (by omega) (by rw [hk]; exact ⟨_,I',q⟩)
theorem aeO:zV X (.builtin "len") (fun xs H Q=>∃ p ys,xs=[.ref p]/\(SqL X.K H p ys ∨ SqT X.K H p ys)/\Q (.int ys.length) H):=by
 intro Kp s σ H xs us Q I r h
 obtain ⟨p,ys,rfl,hq,q⟩:=h
 obtain ⟨u,rfl,rx⟩:=abw r
 cases rx
 have hn:=aaX
 rcases hq with hq | hq
 ·obtain ⟨its,r',pl,hz⟩:=I.list hq
  have hlen:=r'.length
  exact Calls.call_len_list pl.isList (by simp only [List.size_toArray] <;> omega) ⟨.int ys.length,H,I.tok _,⟨s.toks+1,by rw [List.size_toArray,hlen]⟩,q⟩
 ·obtain ⟨its,r',pl,hz⟩:=I.tuple hq
  have hlen:=r'.length
  exact len_tuple pl (by simp only [List.size_toArray] <;> omega) ⟨.int ys.length,H,I.tok _,⟨s.toks+1,by rw [List.size_toArray,hlen]⟩,q⟩
theorem aeP:zV X (.builtin "len") (fun xs H Q=>∃ z,xs=[.str z]/\z.length<=sizeLine/\Q (.int z.length) H):=by
 intro Kp s σ H xs us Q I r h
 obtain ⟨z,rfl,hz,q⟩:=h
 obtain ⟨u,rfl,t,rfl⟩:=abw r
 have hn:=aaX
 exact len_str (by omega) ⟨.int z.length,H,I.tok _,⟨_,rfl⟩,q⟩
theorem zV.or {f:Value}{r r':List V->Hp->VK->Prop} (h:zV X f r) (h':zV X f r'):zV X f (fun xs H Q=>r xs H Q ∨ r' xs H Q):=by
 intro Kp s σ H xs us Q I rs q
 rcases q with q | q
 ·exact h Kp s σ H xs us Q I rs q
 ·exact h' Kp s σ H xs us Q I rs q
theorem aaf:zV X (.type "list") (fun xs H Q=>∃ p ys,xs=[.ref p]/\(SqL X.K H p ys ∨ SqT X.K H p ys)/\∀ l,H l=none->Q (.ref l) (upd H l (.lst ys))):=by
 intro Kp s σ H xs us Q I r h
 obtain ⟨p,ys,rfl,hq,q⟩:=h
 obtain ⟨u,rfl,rx⟩:=abw r
 cases rx
 have fin:∀ (its:List Value),jJ ys its->ys.length<=sizeLine->∀ (h':Heap) (c':Nat),(∀ b o',s.heap.get? b=some o'->h'.get? b=some o')->
   h'.get? s.heap.objs.size=some { cls:= .type "list",dict:=none,data:= .seq its.toArray c',slots:=#[] }->EP X Kp σ Q (.ref s.heap.objs.size) { s with heap:=h' }:=fun its r' hz h' c' kp e=>
  ⟨.ref s.heap.objs.size,_,I.laid (t':=s.toks) kp (Nat.le_refl _) (show qM X.prog X.w _ h' _ (.lst ys) from ⟨hz,its,c',r',e⟩),rfl,q _ (I.hok.fresh (Nat.le_refl _))⟩
 rcases hq with hq | hq
 ·obtain ⟨its,r',pl,hz⟩:=I.list hq
  have hlen:=r'.length
  obtain ⟨o,ho,hc,n,hd⟩:=pl.isList
  exact call_list_seq p (.inl rfl) ho hc hd (fun h' c' kp e=>fin its r' hz h' c' kp e) (by simp only [List.size_toArray] <;> omega)
 ·obtain ⟨its,r',pl,hz⟩:=I.tuple hq
  have hlen:=r'.length
  obtain ⟨o,ho,hc,n,hd⟩:=pl
  exact call_list_seq p (.inr rfl) ho hc hd (fun h' c' kp e=>fin its r' hz h' c' kp e) (by simp only [List.size_toArray] <;> omega)
theorem adw:zV X (.type "tuple") (fun xs H Q=>∃ p ys,xs=[.ref p]/\((SqL X.K H p ys/\∀ l,H l=none->Q (.ref l) (upd H l (.tup ys))) ∨ (SqT X.K H p ys/\Q (.ref p) H))):=by
 intro Kp s σ H xs us Q I r h
 obtain ⟨p,ys,rfl,h⟩:=h
 obtain ⟨u,rfl,rx⟩:=abw r
 cases rx
 rcases h with ⟨hq,q⟩ | ⟨hq,q⟩
 ·obtain ⟨its,r',pl,hz⟩:=I.list hq
  have hlen:=r'.length
  refine call_tuple_list pl.isList (fun h' kp=>?_) (by simp only [List.size_toArray] <;> omega)
  have I1:Inv X Kp σ H { s with heap:=h' }:=I.kept (t':=s.toks) kp
  have I2:Inv X Kp σ (upd H h'.objs.size (.tup ys)) { s with heap:=h'.push { cls:= .type "tuple",data:= .seq its.toArray } }:=
   I1.laid (t':=s.toks) (fun b o e=>Heap.get?_push_of_some _ e) (Nat.le_refl _) (show qM X.prog X.w _ _ _ (.tup ys) from ⟨hz,its,r',IsTup.new _ _⟩)
  exact ⟨.ref h'.objs.size,_,I2,rfl,q _ (I1.hok.fresh (Nat.le_refl _))⟩
 ·obtain ⟨its,r',pl,hz⟩:=I.tuple hq
  exact call_tuple_same pl ⟨.ref p,H,I,rfl,q⟩
def tyV (K:Fg) (T:String) (x:V) (H:Hp):Prop:=match x with
 | .str _=>T="str"
 | .int _=>T="int"
 | .ref p=>(T="list"/\∃ xs,SqL K H p xs) ∨ (T="tuple"/\∃ o,K.lookup p=some o/\o.cls= .type "tuple"/\o.dict=none) ∨
   (T="dict"/\((∃ kvs,H p=some (.dK kvs)) ∨ ∃ kvs,H p=some (.dT kvs))) ∨ (T="set"/\∃ S n,H p=some (.set S n))
 | _=>False
theorem alH {Kp:List (Addr × Obj)}{σ:St}{H:Hp}{s:Shared}{T:String}{x:V}{v:Value} (I:Inv X Kp σ H s) (r:jV x v) (ty:tyV X.K T x H):
  s.TypeIs v T/\∀ a,v= .ref a->∃ ob,s.heap.get? a=some ob/\ob.dict=none:=by
 cases x with
 | str z=>
  obtain ⟨t,rfl⟩:=r
  cases (show T="str" from ty)
  exact ⟨typeIs_str s z t,fun _ e=>nomatch e⟩
 | int i=>
  obtain ⟨t,rfl⟩:=r
  cases (show T="int" from ty)
  exact ⟨typeIs_int s i t,fun _ e=>nomatch e⟩
 | ref p=>
  cases r
  rcases ty with ⟨rfl,xs,hq⟩ | ⟨rfl,o,hk,hc,hd⟩ | ⟨rfl,hk⟩ | ⟨rfl,S,n,hk⟩
  ·obtain ⟨its,_,pl,_⟩:=I.list hq
   refine ⟨pl.isList.typeIs,fun a e=>?_⟩
   cases e
   obtain ⟨o,n,e,c,hd,_⟩:=pl
   exact ⟨o,e,hd⟩
  ·refine ⟨⟨o,I.kIn p o hk,hc⟩,fun a e=>?_⟩
   cases e
   exact ⟨o,I.kIn _ o hk,hd⟩
  ·have z:∃ o,s.heap.get? p=some o/\o.ExactDict:=by
    rcases hk with ⟨kvs,hk⟩ | ⟨kvs,hk⟩
    ·obtain ⟨_,_,_,_,o,_,_,e,ex,_⟩:=I.hok p _ hk
     exact ⟨o,e,ex⟩
    ·obtain ⟨_,_,_,_,o,_,_,e,ex,_⟩:=I.hok p _ hk
     exact ⟨o,e,ex⟩
   obtain ⟨o,e,ex⟩:=z
   refine ⟨⟨o,e,ex.1⟩,fun a e2=>?_⟩
   cases e2
   exact ⟨o,e,ex.2.1⟩
  ·obtain ⟨o,_,_,_,e,ex,_⟩:=I.hok p _ hk
   refine ⟨⟨o,e,ex.1⟩,fun a e2=>?_⟩
   cases e2
   exact ⟨o,e,ex.2.1⟩
 | _=>exact False.elim ty
def tBM (K:Fg) (T:String) (r:V->List V->Hp->VK->Prop) (to:TE) (t:TA):TE:=fun σ H Q=>to σ H fun x H1=>tyV K T x H1/\t σ H1 fun xs H2=>r x xs H2 Q
variable {o e:Expr}{es:List Expr}{to:TE}{t:TA}{name:Str}{apos cpos:Pos}{T id:String}{r:V->List V->Hp->VK->Prop}
theorem alI (pa:PlainAttrs T) (slot:Slot T name id) (hty:typeOf (.builtin id)=pure (.type "method_descriptor")) (hm:MtR X id r) (ho:PE X o to) (ha:PA X (e::es) t)
  (hbase:attributeBase o name X.env (eval o X.env)=eval o X.env:=by rfl)
  (hfew:((backTo cpos (starEach (e::es) X.env)).all (fun x=>!x.1) && (backToKw cpos (keywordEach [] X.env)).all (fun x=>x.1.isSome)
   && decide ((e::es).length+([]:List Keyword).length+(if ([]:List Keyword).isEmpty then 0 else 1)<30))=true:=by rfl)
  (hline:(apos.endLine == cpos.line)=true:=by rfl) (hs:starEach (e::es) X.env=(false,eval e X.env)::starEach es X.env:=by rfl) (hplain:(backTo cpos (starEach es X.env)).any (·.1)=false:=by rfl):
  PE X (.Call (.Attribute o name apos) (e::es) [] cpos) (tBM X.K T r to t):=by
 intro Kp s σ H Q I h
 refine wpAny_Call_method_late hbase hfew hline rfl (thn (ho Kp s σ H _ I h) fun v s1 ⟨x,H1,I1,r1,ty,q1⟩=>?_)
 obtain ⟨h1,h2⟩:=alH I1 r1 ty
 refine ⟨T,id,pa,slot,hty,h1,h2,?_⟩
 have hA:=ha cpos Kp s1 σ H1 _ I1 q1
 rw [hs] at hA ⊢
 refine Calls.callWith_builtin (by show (false || (backTo cpos (starEach es X.env)).any (·.1))=false; rw [hplain] <;> rfl) (Calls.evalArgs_plain ?_)
 exact thn hA fun us s2 ⟨vs,H2,I2,r2,q2⟩=>hm Kp s2 σ H2 x vs v us Q I2 r1 r2 q2
end
def MtM (X:Cx) (id:String) (r:V->List V->Hp->VK->Prop):Prop:=
 ∀ (Kp:List (Addr × Obj)) (s:Shared) (σ:St) (H:Hp) (x:V) (xs:List V) (v:Value) (us:List Value) (Q:VK),Inv X Kp σ H s->jV x v->jJ xs us->r x xs H Q->
  wpAny (model X.prog X.w) X.A (call (.builtin id) (v::us)) (EP X Kp σ Q) X.xe s
theorem jJ.one:∀ {x:V}{us:List Value},jJ [x] us->∃ u,us=[u]/\jV x u
 | _,_,.cons r .nil=>⟨_,rfl,r⟩
theorem jJ.zero:∀ {us:List Value},jJ [] us->us=[]
 | _,.nil=>rfl
theorem jJ.dropLast {xs:List V}{us:List Value} (h:jJ xs us):jJ xs.dropLast us.dropLast:=by
 induction h with
 | nil=>exact .nil
 | cons r t ih=>
  cases t with
  | nil=>exact .nil
  | cons q t'=>exact .cons r ih
theorem jJ.eraseIdx:∀ {xs:List V}{us:List Value} (i:Nat),jJ xs us->jJ (xs.eraseIdx i) (us.eraseIdx i)
 | _,_,_,.nil=> .nil
 | _,_,0,.cons _ t=>t
 | _,_,i+1,.cons r t=> .cons r (jJ.eraseIdx i t)
theorem jJ.reverse {xs:List V}{us:List Value} (h:jJ xs us):jJ xs.reverse us.reverse:=by
 induction h with
 | nil=>exact .nil
 | cons r t ih=>rw [List.reverse_cons,List.reverse_cons]; exact jJ.append ih (.cons r .nil)
theorem jJ.rep {xs:List V}{us:List Value} (h:jJ xs us):∀ k:Nat,jJ (List.replicate k xs).flatten (List.replicate k us).flatten
 | 0=> .nil
 | k+1=>by
  rw [List.replicate_succ,List.replicate_succ,List.flatten_cons,List.flatten_cons]
  exact jJ.append h (jJ.rep h k)
theorem ahL {α:Type} (l:List α):l.eraseIdx (l.length - 1)=l.dropLast:=by
 induction l with
 | nil=>rfl
 | cons a r ih=>
  cases r with
  | nil=>rfl
  | cons b r=>
   have e:(a::b::r).length - 1=((b::r).length - 1)+1:=by
    have h1:(a::b::r).length=r.length+2:=rfl
    have h2:(b::r).length=r.length+1:=rfl
    omega
   rw [e,List.eraseIdx_cons_succ,ih]
   all_goals rfl
theorem adP (its:List Value):∀ (k:Nat) (acc:List Value),
  List.foldl (fun x1 x2=>x1++x2) acc.toArray (List.replicate k its.toArray)=(acc++(List.replicate k its).flatten).toArray
 | 0,acc=>by simp
 | k+1,acc=>by
  have e:acc.toArray++its.toArray=(acc++its).toArray:=by simp
  have e2:(acc++its)++(List.replicate k its).flatten=acc++(List.replicate (k+1) its).flatten:=by
   rw [List.replicate_succ,List.flatten_cons,List.append_assoc]
  rw [←e2,←adP its k (acc++its),←e,List.replicate_succ,List.foldl_cons]
section
variable {X:Cx}{Kp:List (Addr × Obj)}{σ:St}{H:Hp}{s:Shared}{l b:Addr}{xs ys zs:List V}
theorem Inv.lset {its its':List Value}{n:Nat}{f:Array Value->Array Value}{t':Nat} (I:Inv X Kp σ H s) (hH:H l=some (.lst xs))
  (e:s.heap.get? l=some { cls:= .type "list",data:= .seq its.toArray n }) (hf:f its.toArray=its'.toArray) (hv:jJ ys its') (hz:ys.length<=sizeLine):
  Inv X Kp σ (upd H l (.lst ys)) { s with heap:=s.heap.update l (Obj.mapSeq f),toks:=t' }:=by
 have q:=PySem.IsL.update e f
 rw [hf] at q
 refine I.write (x:=l) (e:=l) (by rw [hH]; exact trivial) (.inl rfl) (fun b' u hb hu=>(Heap.get?_update_other s.heap (Obj.mapSeq f) (Ne.symm hb)).trans hu) ⟨_,q⟩ ?_
 exact ⟨hz,its',_,hv,q⟩
theorem Inv.lnew {its:List Value}{t':Nat} (I:Inv X Kp σ H s) (hv:jJ ys its) (hz:ys.length<=sizeLine):
  Inv X Kp σ (upd H s.heap.objs.size (.lst ys)) { s with heap:=s.heap.push { cls:= .type "list",data:= .seq its.toArray },toks:=t' }:=
 I.laid (fun _ _ q=>Heap.get?_push_of_some _ q) (Nat.le_refl _) ⟨hz,its,0,hv,Heap.get?_push_size _ rfl⟩
theorem Inv.fresh (I:Inv X Kp σ H s):H s.heap.objs.size=none:=I.hok.fresh (Nat.le_refl _)
theorem Inv.lstM (I:Inv X Kp σ H s) (hH:H l=some (.lst xs)):xs.length<=sizeLine/\∃ (its:List Value) (n:Nat),jJ xs its/\xs.length=its.length/\s.heap.get? l=some { cls:= .type "list",data:= .seq its.toArray n }:=by
 obtain ⟨z,its,n,r,e⟩:=I.hok l _ hH
 exact ⟨z,its,n,r,r.length,e⟩
theorem agn {n:Nat} (h:n<=sizeLine):Builtin.List.listTooLong n=false:=by
 unfold Builtin.List.listTooLong
 exact decide_eq_false (by omega)
end
section
variable {X:Cx}
def an8:V->List V->Hp->VK->Prop:=fun x vs H Q=>∃ l xs y,x= .ref l/\vs=[y]/\H l=some (.lst xs)/\xs.length<sizeLine/\Q .non (upd H l (.lst (xs++[y])))
theorem adQ:MtM X "list.append" an8:=by
 intro Kp s σ H x vs v us Q I rx rv h
 obtain ⟨l,xs,y,rfl,rfl,hH,hz,q⟩:=h
 cases rx
 obtain ⟨u,rfl,ru⟩:=rv.one
 obtain ⟨z,its,n,r,hl,e⟩:=I.lstM hH
 refine call_meets F.slot_list_append ⟨_,e,rfl⟩ F.entry_list_append (F.args_list_append_2 _ _) (PySem.list_append l its.toArray n u (by rw [List.size_toArray]; omega)) ⟨e,?_⟩
 refine ⟨.non,_,I.lset (its':=its++[u]) hH e (by simp) (r.append (.cons ru .nil)) ?_,rfl,q⟩
 rw [List.length_append,List.length_singleton]
 omega
def an9:V->List V->Hp->VK->Prop:=fun x vs H Q=>∃ l b xs zs,x= .ref l/\vs=[.ref b]/\H l=some (.lst xs)/\H b=some (.lst zs)/\xs.length+zs.length<=sizeLine/\Q .non (upd H l (.lst (xs++zs)))
theorem aj9:MtM X "list.extend" an9:=by
 intro Kp s σ H x vs v us Q I rx rv h
 obtain ⟨l,b,xs,zs,rfl,rfl,hH,hB,hz,q⟩:=h
 cases rx
 obtain ⟨u,rfl,ru⟩:=rv.one
 cases ru
 obtain ⟨z,its,n,r,hl,e⟩:=I.lstM hH
 obtain ⟨z2,its2,n2,r2,hl2,e2⟩:=I.lstM hB
 have hsz:its.toArray.size+its2.toArray.size<=sizeLine:=by rw [List.size_toArray,List.size_toArray]; omega
 have hlong:¬ (!its.toArray.isEmpty && Builtin.List.listTooLong (its.toArray.size+its2.toArray.size))=true:=by
  rw [agn hsz,Bool.and_false]
  exact Bool.false_ne_true
 refine call_meets F.slot_list_extend ⟨_,e,rfl⟩ F.entry_list_extend (F.args_list_extend_2 _ _)
  (AutoSeq1.list_extend_list_list_0 l its.toArray n b its2.toArray n2 hlong (by rw [List.size_toArray]; omega) (by omega)) ⟨e,e2,?_⟩
 refine ⟨.non,_,I.lset (its':=its++its2) hH e (by simp) (r.append r2) ?_,rfl,q⟩
 rw [List.length_append]
 omega
def atf:V->List V->Hp->VK->Prop:=fun x vs H Q=>∃ l xs y,x= .ref l/\vs=[]/\H l=some (.lst xs)/\xs[xs.length - 1]?=some y/\Q y (upd H l (.lst xs.dropLast))
theorem aqv:MtM X "list.pop" atf:=by
 intro Kp s σ H x vs v us Q I rx rv h
 obtain ⟨l,xs,y,rfl,rfl,hH,hy,q⟩:=h
 cases rx
 have hus:=rv.zero
 subst hus
 obtain ⟨z,its,n,r,hl,e⟩:=I.lstM hH
 obtain ⟨u,hu,ru⟩:=r.get hy
 have hy':its.toArray[its.toArray.size - 1]?=some u:=by
  show its.toArray[its.length - 1]?=some u
  rw [←Array.getElem?_toList,←hl]
  exact hu
 refine call_meets F.slot_list_pop ⟨_,e,rfl⟩ F.entry_list_pop (F.args_list_pop_1 _) (MeetsSeq.list_pop_last l its.toArray n u hy' (by rw [List.size_toArray]; omega)) ⟨e,?_⟩
 refine ⟨y,_,I.lset (its':=its.dropLast) hH e ?_ r.dropLast ?_,ru,q⟩
 ·show its.toArray.eraseIdxIfInBounds (its.toArray.size - 1)=its.dropLast.toArray
  rw [List.size_toArray,List.eraseIdxIfInBounds_toArray,ahL]
 ·rw [List.length_dropLast]
  omega
def aqw:V->List V->Hp->VK->Prop:=fun x vs H Q=>∃ l xs,x= .ref l/\vs=[]/\H l=some (.lst xs)/\Q .non (upd H l (.lst []))
theorem alJ:MtM X "list.clear" aqw:=by
 intro Kp s σ H x vs v us Q I rx rv h
 obtain ⟨l,xs,rfl,rfl,hH,q⟩:=h
 cases rx
 have hus:=rv.zero
 subst hus
 obtain ⟨z,its,n,r,hl,e⟩:=I.lstM hH
 refine call_meets F.slot_list_clear ⟨_,e,rfl⟩ F.entry_list_clear (F.args_list_clear_1 _) (AutoSeq1.list_clear_list_0 l its.toArray n (by rw [List.size_toArray]; omega)) ⟨e,?_⟩
 exact ⟨.non,_,I.lset (its':=[]) (ys:=[]) hH e rfl .nil (Nat.zero_le _),rfl,q⟩
def atg:R2:=fun x y H Q=>∃ l b xs zs,x= .ref l/\y= .ref b/\H l=some (.lst xs)/\H b=some (.lst zs)/\xs.length+zs.length<=sizeLine/\∀ p,H p=none->Q (.ref p) (upd H p (.lst (xs++zs)))
theorem aqx:OpR X (binaryOp .Add) atg:=by
 intro Kp s σ H x y v u Q I rx ry h
 obtain ⟨l,b,xs,zs,rfl,rfl,hH,hB,hz,q⟩:=h
 cases rx
 cases ry
 obtain ⟨z,its,n,r,hl,e⟩:=I.lstM hH
 obtain ⟨z2,its2,n2,r2,hl2,e2⟩:=I.lstM hB
 refine PySem.P.add_list e e2 ?_ (by rw [List.size_toArray,List.size_toArray]; omega)
 have ea:its.toArray++its2.toArray=(its++its2).toArray:=by simp
 rw [ea]
 exact ⟨.ref _,_,I.lnew (t':=s.toks) (r.append r2) (by rw [List.length_append]; omega),rfl,q _ I.fresh⟩
def ath:R2:=fun x y H Q=>∃ l k xs,x= .ref l/\y= .int k/\H l=some (.lst xs)/\-(2 ^ 63)<=k/\k<2 ^ 63/\xs.length*k.toNat<=sizeLine/\
 ∀ p,H p=none->Q (.ref p) (upd H p (.lst (List.replicate k.toNat xs).flatten))
theorem aoa {α:Type} (xs:List α) (k:Nat):(List.replicate k xs).flatten.length=k*xs.length:=by
 induction k with
 | zero=>simp
 | succ k ih=>rw [List.replicate_succ,List.flatten_cons,List.length_append,ih,Nat.succ_mul,Nat.add_comm]
theorem alK:OpR X (binaryOp .Mult) ath:=by
 intro Kp s σ H x y v u Q I rx ry h
 obtain ⟨l,k,xs,rfl,rfl,hH,h1,h2,hz,q⟩:=h
 cases rx
 obtain ⟨t,rfl⟩:=ry
 obtain ⟨z,its,n,r,hl,e⟩:=I.lstM hH
 have hlen:its.toArray.size*k.toNat<=sizeLine:=by rw [List.size_toArray,←hl]; exact hz
 have hcap:¬ its.toArray.size*k.toNat > (2 ^ 63 - 1) / 8:=by
  have:(sizeLine:Nat)<=(2 ^ 63 - 1) / 8:=by decide
  omega
 have hfit:¬ (!Builtin.List.listFitsIndex k)=true:=by
  rw [fitsIndex_both h1 h2]
  exact Bool.false_ne_true
 have hlong:¬ Builtin.List.listTooLong (its.toArray.size*k.toNat)=true:=by
  rw [agn hlen]
  exact Bool.false_ne_true
 have hnew:List.foldl (fun x1 x2=>x1++x2) #[] (List.replicate (if its.toArray.isEmpty=true then 0 else k.toNat) its.toArray)=(List.replicate k.toNat its).flatten.toArray:=by
  have f0:∀ m:Nat,List.foldl (fun x1 x2=>x1++x2) #[] (List.replicate m its.toArray)=(List.replicate m its).flatten.toArray:=fun m=>by
   have:=adP its m []
   rw [List.nil_append] at this
   exact this
  rw [f0]
  cases its with
  | nil=>simp
  | cons a r'=>rw [if_neg (by simp)]
 refine wpAny_binaryOp_repeat_ref (T:="list") (U:="int") (by decide) ⟨_,e,rfl⟩ (fun s'=>typeIs_int s' k t) noFill_list_mul F.fills_int_mul F.slot_int_rmul repeat_list F.slot_int_index.lookup
  (call_meets F.slot_int_rmul (typeIs_int s k t) F.entry_int_rmul (F.args_int_rmul_2 _ _) (int___rmul___int_list k t l its.toArray n)
   ⟨e,rfl,⟨_,e,rfl⟩,call_meets F.slot_list_mul ⟨_,e,rfl⟩ F.entry_list_mul (F.args_list_mul_2 _ _) (AutoListH.list___mul___list_int_3 l its.toArray n k t hfit hcap hlong) ⟨e,?_⟩⟩)
 rw [hnew]
 exact ⟨.ref _,_,I.lnew (t':=s.toks) (r.rep k.toNat) (by rw [aoa,Nat.mul_comm]; exact hz),rfl,q _ I.fresh⟩
end
section
variable {prog:Program}{w:World}{A:Around}{E:Value->SP0}{s:Shared}
set_option maxRecDepth 100000 in
end
section
variable {X:Cx}
end
end L2
namespace Att
open PySem PySem.W PySem.Calls PyProof.Rows
theorem abK {P:Params}{h:Heap}:∀ (ns:List Int) (vs:List Value),WellAll P h vs (ns.map WData.int)->IntsAre vs ns:=by
 intro ns
 induction ns with
 | nil=>
  intro vs w
  rw [List.map_nil] at w
  cases w
  exact .nil
 | cons n ns ih=>
  intro vs w
  rw [List.map_cons] at w
  cases w with
  | cons a b=>
   cases a
   exact .cons _ _ (ih _ b)
theorem aka {l:OpenLaw}{n:Nat} (hn:l.most=some n) {P:Params}{h:Heap}{args:List WData}{vals:List Value}
  (hpre:l.row.toRowW.claim.pre args=true) (hwl:WellAll P h vals args):
  ∃ a vs ns,vals=[Value.ref a]/\args=[WData.list (ns.map WData.int)]/\h.get? a=some { cls:= .type "list",data:= .seq vs.toArray }/\IntsAre vs ns/\ns.length<=n:=by
 have hsh:WShape.hasAll [] args [.list .int]=true:=(pre_splitW hpre).1
 have hc:l.pre.holds [] { args:=args }=true:=(pre_splitW hpre).2
 obtain ⟨d,r,rfl,h1,h2⟩:=hasAllW_cons hsh
 obtain rfl:=hasAllW_nil h2
 obtain ⟨xs,rfl,h3⟩:=hasW_list h1
 obtain ⟨ns,rfl⟩:=items_int h3
 have hlen:ns.length<=n:=by
  unfold OpenLaw.pre at hc
  have h4:(WTm.not (.lt (.lit (.int (n:Int))) (.len (.arg 0)))).holds [] { args:=[.list (ns.map .int)] }=true:=by
   have h4:=(holds_andW hc).1
   rw [hn] at h4
   exact h4
  have h5:=condW_of h4 (w_not (w_lt w_lit (w_len_list (w_arg rfl))))
  rw [List.length_map] at h5
  refine Nat.le_of_not_lt fun q=>?_
  have q':(n:Int)<((ns.length:Nat):Int):=by omega
  first
   | (rw [decide_eq_true q'] at h5; exact absurd h5 (by decide))
   | (simp at h5; omega)
 cases hwl with
 | cons w1 w2=>
  cases w2
  cases w1 with
  | list ho hall=>exact ⟨_,_,ns,rfl,rfl,ho,abK ns _ hall,hlen⟩
theorem akb (l:OpenLaw) (args:List WData):l.row.toRowW.claim.post args (.bool true) args=true:=
 postW_of (r:=l.row.toRowW) (X:=(true == true))
  (show WShape.has [] (.bool true) .bool=true by first | rfl | decide | simp [WShape.has,WShape.arms,WShape.armsAll])
  (show (WTm.eq .res (.lit (.bool true))).value [] { args:=args,res:=some (.bool true),after:=args }=some (.bool (true == true)) from w_eq_bool (w_res rfl) w_lit) rfl
theorem attach_call {l:OpenLaw}{n:Nat}{q:Program}{loose:List Str}{XP:(SV)->Heap->Prop}{YP:World->Heap->Prop}{d:DefRec}
  (hn:l.most=some n) (hdf:d.params.defaults=[])
  (call:∀ (w:World) (s₀ s₁:Shared) (mg mb:SV) (fa:Addr) (o:Obj) (pm cd doc:Value) (a:Addr) (vs:List Value) (ns:List Int),
   Ground q loose [] XP w s₀ mg mb s₁.heap->YP w s₁.heap->
   s₁.heap.get? fa=some o->o.data= .func (docDef d.name d.params d.body d.scope pm cd doc)->s₁.heap.CodeRec cd d.name->mg d.name=some (.ref fa)->
   s₁.heap.get? a=some { cls:= .type "list",data:= .seq vs.toArray }->IntsAre vs ns->ns.length<=n->s₁.gens=#[]->
   codeAny (model l.prog w) callerA (.call (.ref fa) ⟨[.ref a],[]⟩) (fun r s'=>r= .ok (.ret (.bool true))/\OldK s₁.heap s'.heap/\s'.os=s₁.os/\AllBare s'.gens) s₁):
  WalkO q loose XP YP l.row.toRowW d [] (fun f vs=>PySem.call f vs):=by
 intro w s₀ s₁ mg mb G Y fa o pm cd doc dV kV ho hd hcd hD hmg hg args vals as hpre hlay hrd hwl hlo
 obtain rfl:dV= .none:=Dflts.none hD hdf
 obtain rfl:kV= .none:=Dflts.noKw hD
 obtain ⟨a,vs,ns,rfl,rfl,hobj,hints,hlen⟩:=aka hn hpre hwl
 refine enter_call (codeAny_mono (call w s₀ s₁ mg mb fa o pm cd doc a vs ns G Y ho (fd_plain hd) hcd hmg hobj hints hlen hg) fun r s' hq=>?_)
 obtain ⟨rfl,h2,h3,h4⟩:=hq
 exact ⟨.inl ⟨.bool true,.bool true,[],rfl,fun _=>rfl,.bool true,akb l _,fun _=>⟨List.Pairwise.nil,fun _ hm=>(nomatch hm)⟩⟩,h2,h3,h4⟩
section
variable {prog:Program}{w:World}{A:Around}{E:Value->SP0}{s:Shared}{K:Frag}
noncomputable def ati (h:Heap) (L d:Addr):List (Addr × Obj):=(List.range h.objs.size).filterMap fun a=>if a=L ∨ a=d then none else (h.get? a).map fun o=>(a,o)
end
end Att
namespace L2
open PySem PySem.Spec PyProof.Rows
theorem Zj:∀ {vs:List Value}{ns:List Int},IntsAre vs ns->jJ (ns.map V.int) vs
 | _,_,.nil=> .nil
 | _,_,.cons n t h=> .cons ⟨t,rfl⟩ (Zj h)
def aqy (H:Hp):Prop:=∀ b,H b=none ∨ ∃ o xs,H b=some (.frz o (.lst xs))
theorem alL {P:Program}{w:World}{K:Fg}{mg mb:SV}{CX:CXT}{k:Nat}{fa a:Addr}{fd:FuncData}{x:Str}{sp:Sp}{s₁:Shared}{vs:List Value}{ns:List Int}
  (KX:K.In s₁.heap) (hns:s₁.heap.Ns mainGlobals mg) (hb:s₁.heap.Ns builtinsNs mb) (hbb:∀ x:Str,x ≠ "__name__"->mb x=bootBuiltins x) (hlim:s₁.heap.NoLimit) (hg:s₁.gens=#[])
  (ha:s₁.heap.get? a=some { cls:= .type "list",data:= .seq vs.toArray }) (hi:IntsAre vs ns) (hl:ns.length<=sizeLine) (hr:Room k callerA)
  (F:∀ base:Heap,K.In base->base.Ns mainGlobals mg->FnOk P w K mg base CX k fa fd [x] sp) (hbind:∀ (s:Shared) (u:Value),BindsTo s fd ⟨[u],[]⟩ [(x,u)])
  (hsp:∀ H:Hp,aqy H->SqL K H a (ns.map V.int)->sp [.ref a] H (fun v _=>v= .bl true) fun _ _ _=>False)
  (hCX:∀ H e s',CX [] H s₁ (fun _ _ _=>False) e s'->False):
  codeAny (model P w) callerA (.call (.ref fa) ⟨[.ref a],[]⟩) (fun r s'=>r= .ok (.ret (.bool true))/\OldK s₁.heap s'.heap/\s'.os=s₁.os/\AllBare s'.gens) s₁:=by
 have rv:=Zj hi
 have lenV:=hi.length
 have core:∀ H:Hp,aqy H->SqL K H a (ns.map V.int)->HOk P w H s₁.heap->(∀ b,H b ≠ none->b=a)->(H a ≠ none->K.lookup a=none)->
   codeAny (model P w) callerA (.call (.ref fa) ⟨[.ref a],[]⟩) (fun r s'=>r= .ok (.ret (.bool true))/\OldK s₁.heap s'.heap/\s'.os=s₁.os/\AllBare s'.gens) s₁:=by
  intro H hO hS hok hA hK
  have base_of:∀ {b:Addr} {o:Obj},s₁.heap.get? b=some o->H b=none->(aeD s₁.heap H).get? b=some o:=fun e n=>ali e n
  have noA:∀ {b:Addr} {o:Obj} {es:Array DictEntry} {ep:Nat},s₁.heap.get? b=some o->o.data= .dict es ep->H b=none:=fun {b o es ep} e d=>by
   cases q:H b with
   | none=>rfl
   | some u=>
    have e':b=a:=hA b (by rw [q]; simp)
    subst e'
    rw [ha] at e; cases e
    have d':Data.seq vs.toArray _=Data.dict es ep:=d
    cases d'
  have nsK:∀ {b:Addr} {m:SV},s₁.heap.Ns b m->(aeD s₁.heap H).Ns b m:=fun {b m} ⟨o,es,ep,e,d,r⟩=>⟨o,es,ep,base_of e (noA e d),d,r⟩
  have hKb:K.In (aeD s₁.heap H):=fun b o e=>base_of (KX b o e) (by
   cases q:H b with
   | none=>rfl
   | some u=>
    have e':b=a:=hA b (by rw [q]; simp)
    subst e'
    rw [hK (by rw [q]; simp)] at e; cases e)
  have hM:Mod K mg (aeD s₁.heap H):=⟨hKb,nsK hns,⟨mb,nsK hb,hbb⟩,let ⟨mc,h1,h2⟩:=hlim; ⟨mc,nsK h1,h2⟩⟩
  have e0:Env0 P w K mg (aeD s₁.heap H) callerA [] s₁ H:=⟨rfl,hM,fun b o e=>anT e,Nat.le_of_eq (aj0 _ _),trivial,fun b hb=>absurd (show b ∈ ([]:List Addr) from hb) (by simp),hok,.of_eq hg⟩
  refine codeAny_mono ((F _ hKb (nsK hns)).run callerA [] s₁ H ⟨[.ref a],[]⟩ [.ref a] [.ref a] _ _ hr e0 (hbind s₁ (.ref a)) (.cons rfl .nil) (hsp H hO hS)) fun r s' h=>?_
  cases r with
  | error e=>exact (hCX H e s' h).elim
  | ok fl=>
   cases fl with
   | next=>exact False.elim h
   | brk=>exact False.elim h
   | cont=>exact False.elim h
   | ret u=>
    obtain ⟨v,H',os,bare,un,hok',r',q⟩:=h
    have q':v= .bl true:=q
    subst q'
    obtain rfl:u=Value.bool true:=r'
    refine ⟨rfl,OldK.of_keep fun b o e=>?_,os,bare⟩
    cases q:H b with
    | none=>exact un.keep b o e q (by intro z; exact absurd (show b ∈ ([]:List Addr) from z) (by simp)) (by simp)
    | some u=>
     rcases hO b with z | ⟨ob,xs,z⟩
     ·rw [q] at z; cases z
     ·have z2:=un.frzs b ob _ z
      obtain ⟨e1,_⟩:=hok b _ z
      obtain ⟨e2,_⟩:=hok' b _ z2
      rw [e] at e1; cases e1
      exact e2
 cases hk:K.lookup a with
 | some o=>
  have e:=KX a o hk
  rw [ha] at e
  cases e
  refine core (fun _=>none) (fun _=> .inl rfl) (.inr ⟨_,vs.toArray,_,hk,rfl,rfl,rfl,by rw [List.size_toArray,lenV]; exact hl,by simpa using rv⟩) (fun b u z=>by have z':(none:Option HO)=some u:=z; cases z') (fun b z=>absurd rfl z) fun z=>absurd rfl z
 | none=>
  refine core (fun b=>if b=a then some (.frz { cls:= .type "list",data:= .seq vs.toArray } (.lst (ns.map V.int))) else none) (fun b=>?_) (.inl (.inr ⟨{ cls:= .type "list",data:= .seq vs.toArray },if_pos rfl⟩)) (fun b u z=>?_) (fun b z=>?_) fun _=>hk
  ·by_cases hb:b=a
   ·exact .inr ⟨_,_,if_pos hb⟩
   ·exact .inl (if_neg hb)
  ·by_cases hb:b=a
   ·have z':=(if_pos hb).symm.trans z
    cases z'
    subst hb
    exact ⟨ha,by rw [List.length_map]; exact hl,vs,_,rv,ha⟩
   ·have z':=(if_neg hb).symm.trans z
    cases z'
  ·by_cases hb:b=a
   ·exact hb
   ·exact absurd (if_neg hb) z
theorem aob {l:PySem.W.OpenLaw}{n k:Nat}{q:Program}{loose:List Str}{XP:(SV)->Heap->Prop}{YP:World->Heap->Prop}{d:DefRec}{K:Params->Fg}{CX:World->CXT}{sp:World->Sp}{x:Str}
  (hn:l.most=some n) (hn2:n<=sizeLine) (hdf:d.params.defaults=[]) (hr:Room k callerA)
  (hY:∀ (w:World) (h:Heap),YP w h->(K w.params).In h)
  (F:∀ (w:World) (mg:SV) (fa:Addr) (h:Heap),(K w.params).In h->h.Ns mainGlobals mg->mg d.name=some (.ref fa)->
   ∃ fd:FuncData,(∀ (s:Shared) (u:Value),BindsTo s fd ⟨[u],[]⟩ [(x,u)])/\
    ∀ base:Heap,(K w.params).In base->base.Ns mainGlobals mg->FnOk l.prog w (K w.params) mg base (CX w) k fa fd [x] (sp w))
  (hsp:∀ (w:World) (H:Hp) (a:Addr) (ns:List Int),ns.length<=n->aqy H->SqL (K w.params) H a (ns.map V.int)->sp w [.ref a] H (fun v _=>v= .bl true) fun _ _ _=>False)
  (hCX:∀ (w:World) (H:Hp) (s:Shared) (e:Value) (s':Shared),CX w [] H s (fun _ _ _=>False) e s'->False):
  PySem.W.WalkO q loose XP YP l.row.toRowW d [] (fun f vs=>PySem.call f vs):=by
 refine Att.attach_call hn hdf fun w s₀ s₁ mg mb fa o pm cd doc a vs ns G Y ho hd hcd hmg hobj hints hlen hg=>?_
 have KX:=hY w _ Y
 obtain ⟨fd,hb,hF⟩:=F w mg fa _ KX G.T.g hmg
 exact alL KX G.T.g G.T.b G.T.builtins G.T.nolimit hg hobj hints (Nat.le_trans hlen hn2) hr hF hb (fun H hO hS=>hsp w H a ns hlen hO hS) fun H e s'=>hCX w H s₁ e s'
noncomputable def qR (s:Stmt) (j:Nat):Stmt:=match s with
 | .ClassDef _ _ _ body _ _ _ _ _ _ _=>body.getD j (.Pass ⟨0,0,0,0⟩)
 | _=> .Pass ⟨0,0,0,0⟩
noncomputable def zR (s:Stmt):Arguments:=match s with
 | .FunctionDef _ a _ _ _ _ _ _ _ _=>a
 | _=>{ posonlyargs:=[],args:=[],vararg:=none,kwonlyargs:=[],kw_defaults:=[],kwarg:=none,defaults:=[] }
noncomputable def jR (s:Stmt):List Stmt:=match s with
 | .FunctionDef _ _ b _ _ _ _ _ _ _=>b
 | _=>[]
noncomputable def je (s:Stmt):Scope:=match s with
 | .FunctionDef _ _ _ _ _ _ sc _ _ _=>sc
 | _=>{ kind:= .function,names:=[],isGenerator:=false,isCoroutine:=false }
abbrev CX0:CXT:=fun _ _ _ _ _ _=>False
abbrev E0:XK:=fun _ _ _=>False
theorem adR {X:Cx}:aeJ CX0 X E0:=fun _ _ _ _ _ _ _ h=>h.elim
structure Fun (K:Fg) (x qual:Str) (st:Stmt) (f:Addr) (fd:FuncData):Prop where
 ex:∃ (oc:Value) (od:Option Addr) (kV doc pm:Value) (an:Option Addr) (Kc ct:Value) (osl:Array (Option Value)),
  fd=PySem.W.fnOf x qual (zR st) (jR st) (je st) .none kV doc pm an Kc ct/\K.lookup f=some ⟨oc,od,.func fd,osl⟩/\PySem.W.codeIn K Kc qual=true
 kp:PySem.W.keepIn K (.ref f)=true
section
variable {P:Program}{w:World}{K:Fg}{mg:SV}{base:Heap}
theorem Fun.ok {x qual:Str}{st:Stmt}{f:Addr}{fd:FuncData}{N ps:List Str}{k:Nat}{sp:Sp} (F:Fun K x qual st f fd) (S:FnScope N ps (je st)) (len:∀ vs H Q E,sp vs H Q E->vs.length=ps.length)
  (hbody:∀ (Kc:Value) (A:Around) (Ko:List Env) (s:Shared) (H:Hp) (vs:List V) (Q:VK) (E:XK),Room k (A.deeper (envOfC qual (je st) s.heap.objs.size f Kc))->sp vs H Q E->
   ∃ t,PSs (zW CX0 P w K mg base N qual (je st) f Kc A Ko s H E).nox (jR st) t/\t { nx:=fun _ H'=>Q .non H',rt:=Q } (Jm N vs) H):FnOk P w K mg base CX0 (k+1) f fd ps sp:=by
 obtain ⟨oc,od,kV,doc,pm,an,Kc,ct,osl,rfl,lk,hcd⟩:=F.ex
 refine arU lk hcd S len fun A Ko s H vs Q E hr hsp=>?_
 obtain ⟨t,h,q⟩:=hbody Kc A Ko s H vs Q E hr hsp
 exact ⟨t,h.nox,q⟩
theorem Fun.binds {x qual:Str}{st:Stmt}{f:Addr}{fd:FuncData}{ps:List Str} (F:Fun K x qual st f fd)
  (h:∀ (kV doc pm:Value) (an:Option Addr) (Kc ct:Value) (us:List Value),us.length=ps.length->bindArgs (PySem.W.fnOf x qual (zR st) (jR st) (je st) .none kV doc pm an Kc ct) ⟨us,[]⟩=pure (ps.zip us)):Jl K fd ps []:=by
 obtain ⟨oc,od,kV,doc,pm,an,Kc,ct,osl,rfl,lk,hcd⟩:=F.ex
 exact .all (h kV doc pm an Kc ct)
theorem aa1 {x qual:Str}{st:Stmt}{f:Addr}{oc:Value}{od an:Option Addr}{osl:Array (Option Value)}{kV doc pm Kc ct:Value} (l:K.lookup f=some ⟨oc,od,.func (PySem.W.fnOf x qual (zR st) (jR st) (je st) .none kV doc pm an Kc ct),osl⟩)
  (c:PySem.W.codeIn K Kc qual=true) (k:PySem.W.keepIn K (.ref f)=true):Fun K x qual st f (PySem.W.fnOf x qual (zR st) (jR st) (je st) .none kV doc pm an Kc ct):=⟨⟨oc,od,kV,doc,pm,an,Kc,ct,osl,rfl,l,c⟩,k⟩
end
section
variable {X:Cx}
theorem pv (i:Nat) {x:Str}{pos:Pos} (hN:X.N[i]?=some x:=by rfl) (hv:Vis X.env.scope x:=by first | exact Or.inl rfl | exact Or.inr (Or.inl rfl) | exact Or.inr (Or.inr rfl)) (hd:(x == ("__debug__":Str))=false:=by decide)
  (hcd:(x == ("__classdict__":Str))=false:=by decide):PE X (.Name x pos) (anU i):=JB hN hv hd hcd
end
theorem atj {A B:Prop} (h:B):if false=true then A else B:=by
 rw [if_neg Bool.false_ne_true]
 exact h
theorem atk {A B:Prop} (h:A):if true=true then A else B:=by
 rw [if_pos rfl]
 exact h
def jr (H H':Hp):Prop:=∀ b o,H b=some o->H' b=some o
theorem jr.refl (H:Hp):jr H H:=fun _ _ h=>h
theorem jr.trans {H H1 H2:Hp} (a:jr H H1) (b:jr H1 H2):jr H H2:=fun c o h=>b c o (a c o h)
theorem jr.free {H H':Hp} (e:jr H H') {l:Addr} (h:H' l=Option.none):H l=Option.none:=by
 cases q:H l with
 | none=>rfl
 | some o=>
  rw [e l o q] at h
  cases h
theorem jr.seq {K:Fg}{H H':Hp}{a:Addr}{xs:List V} (e:jr H H') (h:SqL K H a xs):SqL K H' a xs:=by
 rcases h with (h | ⟨o,h⟩) | h
 ·exact .inl (.inl (e _ _ h))
 ·exact .inl (.inr ⟨o,e _ _ h⟩)
 ·exact .inr h
section
variable {κ:Type} [DecidableEq κ]
noncomputable def Qq (kvs:List (κ × V)) (k:κ):Option V:=(kvs.find? fun kv=>decide (kv.1=k)).map (·.2)
noncomputable def putK (kvs:List (κ × V)) (k:κ) (v:V):List (κ × V):=
 if (kvs.any fun kv=>decide (kv.1=k))=true then kvs.map (fun kv=>if kv.1=k then (kv.1,v) else kv) else kvs++[(k,v)]
noncomputable def apI (kvs:List (κ × V)) (k:κ):List (κ × V):=kvs.filter fun kv=>decide (kv.1 ≠ k)
theorem acB {p:κ × V}{r:List (κ × V)}{k:κ} (e:p.1=k):Qq (p::r) k=some p.2:=by simp [Qq,List.find?_cons,e]
theorem acC {p:κ × V}{r:List (κ × V)}{k:κ} (e:¬ p.1=k):Qq (p::r) k=Qq r k:=by simp [Qq,List.find?_cons,e]
theorem ago (k:κ):∀ kvs:List (κ × V),(kvs.any fun kv=>decide (kv.1=k))=(Qq kvs k).isSome
 | []=>rfl
 | p::r=>by
  rw [List.any_cons]
  by_cases e:p.1=k
  ·simp only [acB e,decide_eq_true e,Bool.true_or,Option.isSome_some]
  ·rw [acC e,decide_eq_false e,Bool.false_or]; exact ago k r
theorem abz (kvs:List (κ × V)) (k:κ) (v:V):(putK kvs k v).length<=kvs.length+1:=by
 unfold putK
 split
 ·rw [List.length_map]; omega
 ·rw [List.length_append,List.length_cons,List.length_nil]; omega
theorem QP.isSome_eq {o:Option V}{u:Option Value} (r:QP o u):o.isSome=u.isSome:=by
 cases o with
 | none=>cases u with
  | none=>rfl
  | some _=>exact (show False from r).elim
 | some _=>cases u with
  | none=>exact (show False from r).elim
  | some _=>rfl
theorem QP.getD {o:Option V}{u:Option Value}{d:V}{d':Value} (r:QP o u) (rd:jV d d'):jV (o.getD d) (u.getD d'):=by
 cases o with
 | none=>cases u with
  | none=>exact rd
  | some _=>exact (show False from r).elim
 | some _=>cases u with
  | none=>exact (show False from r).elim
  | some _=>exact r
theorem KV.val {kvs:List (κ × V)}{vs:List (κ × Value)} (r:KV kvs vs) (k:κ):QP (Qq kvs k) (valueAt vs k):=by
 unfold KV at r
 induction r with
 | nil=>exact True.intro
 | @cons p q ps qs h t ih=>
  obtain ⟨h1,h2⟩:=h
  by_cases e:p.1=k
  ·have e':q.1=k:=h1.symm.trans e
   have b:valueAt (q::qs) k=some q.2:=by simp [valueAt,List.find?_cons,e']
   rw [acB e,b]; exact h2
  ·have e':¬ q.1=k:=fun z=>e (h1.trans z)
   have b:valueAt (q::qs) k=valueAt qs k:=by simp [valueAt,List.find?_cons,e']
   rw [acC e,b]; exact ih
theorem KV.any {kvs:List (κ × V)}{vs:List (κ × Value)} (r:KV kvs vs) (k:κ):(kvs.any fun kv=>decide (kv.1=k))=vs.any fun kv=>decide (kv.1=k):=by
 unfold KV at r
 induction r with
 | nil=>rfl
 | cons h t ih=>rw [List.any_cons,List.any_cons,ih,h.1]
theorem KV.repl {kvs:List (κ × V)}{vs:List (κ × Value)} (r:KV kvs vs) (k:κ) {y:V}{u:Value} (ry:jV y u):
  KV (kvs.map fun kv=>if kv.1=k then (kv.1,y) else kv) (vs.map fun kv=>if kv.1=k then (kv.1,u) else kv):=by
 unfold KV at r ⊢
 induction r with
 | nil=>exact .nil
 | @cons p q ps qs h t ih=>
  rw [List.map_cons,List.map_cons]
  refine .cons ?_ ih
  obtain ⟨h1,h2⟩:=h
  by_cases e:p.1=k
  ·rw [if_pos e,if_pos (h1.symm.trans e)]; exact ⟨h1,ry⟩
  ·rw [if_neg e,if_neg (fun z=>e (h1.trans z))]; exact ⟨h1,h2⟩
theorem KV.put {kvs:List (κ × V)}{vs:List (κ × Value)} (r:KV kvs vs) (k:κ) {y:V}{u:Value} (ry:jV y u):KV (putK kvs k y) (stored vs k u):=by
 unfold putK stored
 rw [r.any k]
 by_cases e:(vs.any fun kv=>decide (kv.1=k))=true
 ·rw [if_pos e,if_pos e]; exact r.repl k ry
 ·rw [if_neg e,if_neg e]; exact Paired.snoc r ⟨rfl,ry⟩
theorem KV.drop {kvs:List (κ × V)}{vs:List (κ × Value)} (r:KV kvs vs) (k:κ):KV (apI kvs k) (without vs k):=by
 unfold KV at r ⊢
 unfold apI without
 induction r with
 | nil=>exact .nil
 | @cons p q ps qs h t ih=>
  obtain ⟨h1,h2⟩:=h
  rw [List.filter_cons,List.filter_cons]
  by_cases e:p.1=k
  ·have a:¬ decide (p.1 ≠ k)=true:=by simp [e]
   have b:¬ decide (q.1 ≠ k)=true:=by simp [h1.symm.trans e]
   rw [if_neg a,if_neg b]; exact ih
  ·have e':¬ q.1=k:=fun z=>e (h1.trans z)
   have a:decide (p.1 ≠ k)=true:=by simp [e]
   have b:decide (q.1 ≠ k)=true:=by simp [e']
   rw [if_pos a,if_pos b]; exact .cons ⟨h1,h2⟩ ih
theorem KV.length {kvs:List (κ × V)}{vs:List (κ × Value)} (r:KV kvs vs):kvs.length=vs.length:=Paired.length r
end
theorem ai7 {P:Program}{w:World}{k:Key}{u:Value} (r:jV (kV k) u):(qu P w).is k u=true:=by
 cases k with
 | inl i=>obtain ⟨t,e⟩:=(show ∃ t,u=Value.int i t from r); subst e; exact aga P w i t
 | inr x=>obtain ⟨t,e⟩:=(show ∃ t,u=Value.str x t from r); subst e; exact agb P w x t
theorem adS {P:Program}{w:World}:∀ {ks:List Key}{us:List Value},jJ (ks.map kV) us->ItemsAre (qu P w) ks us
 | [],_,r=>by rw [List.map_nil] at r; cases r; exact .nil
 | k::ks,_,r=>by
  rw [List.map_cons] at r
  cases r with
  | cons h t=>exact .cons (ai7 h) (adS t)
abbrev KT (H:Hp):List (List Key × V)->List (List Key × Addr × Value)->Prop:=Paired fun p q=>p.1=q.1/\H q.2.1=some (.tup (p.1.map kV))/\jV p.2 q.2.2
theorem KT.val {H:Hp}{kvs:List (List Key × V)}{xs:List (List Key × Addr × Value)} (r:KT H kvs xs) (k:List Key):QP (Qq kvs k) ((atKey xs k).map (·.2)):=by
 induction r with
 | nil=>exact True.intro
 | @cons p q ps qs h t ih=>
  obtain ⟨h1,_,h2⟩:=h
  by_cases e:p.1=k
  ·have e':q.1=k:=h1.symm.trans e
   have b:atKey (q::qs) k=some q.2:=by simp [atKey,List.find?_cons,e']
   rw [acB e,b]; exact h2
  ·have e':¬ q.1=k:=fun z=>e (h1.trans z)
   have b:atKey (q::qs) k=atKey qs k:=by simp [atKey,List.find?_cons,e']
   rw [acC e,b]; exact ih
theorem KT.repl {H:Hp}{kvs:List (List Key × V)}{xs:List (List Key × Addr × Value)} (r:KT H kvs xs) (k:List Key) {y:V}{u:Value} (ry:jV y u):
  KT H (kvs.map fun kv=>if kv.1=k then (kv.1,y) else kv) (xs.map (putAt k u)):=by
 induction r with
 | nil=>exact .nil
 | @cons p q ps qs h t ih=>
  rw [List.map_cons,List.map_cons]
  refine .cons ?_ ih
  obtain ⟨h1,h2,h3⟩:=h
  unfold putAt
  by_cases e:p.1=k
  ·rw [if_pos e,if_pos (h1.symm.trans e)]; exact ⟨h1,h2,ry⟩
  ·rw [if_neg e,if_neg (fun z=>e (h1.trans z))]; exact ⟨h1,h2,h3⟩
theorem KT.put {H:Hp}{kvs:List (List Key × V)}{xs:List (List Key × Addr × Value)} (r:KT H kvs xs) (k:List Key) {b:Addr}{y:V}{u:Value} (hb:H b=some (.tup (k.map kV))) (ry:jV y u):
  KT H (putK kvs k y) (storedH xs k b u):=by
 have e:(kvs.any fun kv=>decide (kv.1=k))=(atKey xs k).isSome:=by
  rw [ago,(r.val k).isSome_eq,Option.isSome_map]
 unfold putK storedH
 rw [e]
 by_cases q:(atKey xs k).isSome=true
 ·rw [if_pos q,if_pos q]; exact r.repl k ry
 ·rw [if_neg q,if_neg q]; exact Paired.snoc r ⟨rfl,hb,ry⟩
theorem KT.keeps {H H':Hp}{kvs:List (List Key × V)}{xs:List (List Key × Addr × Value)} (r:KT H kvs xs) (ht:∀ b ys,H b=some (.tup ys)->H' b=some (.tup ys)):KT H' kvs xs:=
 Paired.mapP r fun _ _ z=>⟨z.1,ht _ _ z.2.1,z.2.2⟩
section
variable {P:Program}{w:World}{H:Hp}{h:Heap}{a:Addr}
theorem apJ {u:HO} (ok:HOk P w H h) (e:Rd H a u):qM P w H h a u:=e.ok ok
theorem agp {kvs:List (Key × V)} (ok:HOk P w H h) (e:Rd H a (.dK kvs)):kvs.length<=sizeLine/\(a == sysModules)=false/\∃ vs,KV kvs vs/\h.DictOf (qu P w) a vs:=
 show qM P w H h a (.dK kvs) from apJ ok e
theorem arZ {kvs:List (Key × V)} (ok:HOk P w H h) (e:H a=some (.dK kvs)):kvs.length<=sizeLine/\(a == sysModules)=false/\∃ vs,KV kvs vs/\h.DictOf (qu P w) a vs:=agp ok (.inl e)
theorem aeQ {ks:List Key} (ok:HOk P w H h) (e:H a=some (.tup (ks.map kV))):(tupleKind (qu P w)).is h ks a:=by
 obtain ⟨_,its,r,o,h1,h2,n,h3⟩:=(show qM P w H h a (.tup (ks.map kV)) from ok a _ e)
 exact ⟨o,its.toArray,n,h1,h2,h3,by simpa using adS r⟩
theorem ai8 {kvs:List (List Key × V)} (ok:HOk P w H h) (e:Rd H a (.dT kvs)):kvs.length<=sizeLine/\(a == sysModules)=false/\
  ∃ xs,KT H kvs xs/\h.DictOfH (tupleKind (qu P w)) a xs:=by
 obtain ⟨z,y,xs,r,o,es,ep,h1,h2,h3,h4,h5⟩:=(show qM P w H h a (.dT kvs) from apJ ok e)
 refine ⟨z,y,xs,r,o,es,ep,h1,h2,h3,h4,fun x hx=>?_,h5⟩
 have all:∀ {l:List (List Key × V)} {m:List (List Key × Addr × Value)},KT H l m->∀ x ∈ m,(tupleKind (qu P w)).is h x.1 x.2.1:=by
  intro l m q
  induction q with
  | nil=>intro x hx; exact nomatch hx
  | @cons p q ps qs hq t ih=>
   intro x hx
   rcases List.mem_cons.mp hx with e | hx
   ·subst e
    exact aeQ ok (by rw [←hq.1]; exact hq.2.1)
   ·exact ih x hx
 exact all r x hx
theorem ar0 {kvs:List (List Key × V)} (ok:HOk P w H h) (e:H a=some (.dT kvs)):kvs.length<=sizeLine/\(a == sysModules)=false/\
  ∃ xs,KT H kvs xs/\h.DictOfH (tupleKind (qu P w)) a xs:=ai8 ok (.inl e)
end
def aa2 (H:Hp) (a:Addr) (y:V) (r:Option V):Prop:=
 (∃ kvs k,Rd H a (.dK kvs)/\y=kV k/\r=Qq kvs k) ∨ ∃ kvs k b,Rd H a (.dT kvs)/\y= .ref b/\H b=some (.tup (k.map kV))/\r=Qq kvs k
def akc (H:Hp) (a:Addr) (y v:V) (H':Hp):Prop:=
 (∃ kvs k,H a=some (.dK kvs)/\y=kV k/\kvs.length<sizeLine/\H'=upd H a (.dK (putK kvs k v))) ∨
 ∃ kvs k b,H a=some (.dT kvs)/\y= .ref b/\H b=some (.tup (k.map kV))/\kvs.length<sizeLine/\H'=upd H a (.dT (putK kvs k v))
theorem aa2.k {H:Hp}{a:Addr}{kvs:List (Key × V)}{k:Key} (e:H a=some (.dK kvs)):aa2 H a (kV k) (Qq kvs k):= .inl ⟨kvs,k,.inl e,rfl,rfl⟩
theorem aa2.t {H:Hp}{a b:Addr}{kvs:List (List Key × V)}{k:List Key} (e:H a=some (.dT kvs)) (eb:H b=some (.tup (k.map kV))):aa2 H a (.ref b) (Qq kvs k):= .inr ⟨kvs,k,b,.inl e,rfl,eb,rfl⟩
theorem akc.k {H:Hp}{a:Addr}{kvs:List (Key × V)}{k:Key}{v:V} (e:H a=some (.dK kvs)) (hl:kvs.length<sizeLine):akc H a (kV k) v (upd H a (.dK (putK kvs k v))):= .inl ⟨kvs,k,e,rfl,hl,rfl⟩
theorem akc.t {H:Hp}{a b:Addr}{kvs:List (List Key × V)}{k:List Key}{v:V} (e:H a=some (.dT kvs)) (eb:H b=some (.tup (k.map kV))) (hl:kvs.length<sizeLine):
  akc H a (.ref b) v (upd H a (.dT (putK kvs k v))):= .inr ⟨kvs,k,b,e,rfl,eb,hl,rfl⟩
section
variable {X:Cx}{Kp:List (Addr × Obj)}{σ:St}{H:Hp}{s:Shared}{a:Addr}{y v:V}{u r:Value}{o:Option V}{A:Around}{E:Value->SP0}
theorem Inv.big (I:Inv X Kp σ H s):sysModules<s.heap.objs.size:=by
 have h:mainGlobals<s.heap.objs.size:=(I.mod.glob.keeps I.bk).lt
 exact Nat.lt_trans (by decide) h
theorem akd {Q:Value->SP0} (hu:A.units+1<cLine) (I:Inv X Kp σ H s) (g:aa2 H a y (some v)) (ry:jV y u) (h:∀ w' s',Inv X Kp σ H s'->jV v w'->Q w' s'):
  wpAny (model X.prog X.w) A (getItem (.ref a) u) Q E s:=by
 rcases g with ⟨kvs,k,e,ey,l⟩ | ⟨kvs,k,b,e,ey,eb,l⟩
 ·subst ey
  obtain ⟨z,hd,vs,rel,dd⟩:=agp I.hok e
  obtain ⟨w',hw,rw'⟩:=QP.some_of (v:=v) (o:=valueAt vs k) (by rw [l]; exact rel.val k)
  exact wpAny_getItem_of (ai7 ry) dd.mapOf hw (h w' _ (I.tok _) rw')
 ·subst ey
  cases (show u=Value.ref b from ry)
  obtain ⟨z,hd,xs,rel,dd⟩:=ai8 I.hok e
  obtain ⟨w',hw,rw'⟩:=QP.some_of (v:=v) (o:=(atKey xs k).map (·.2)) (by rw [l]; exact rel.val k)
  obtain ⟨p,hp,hp2⟩:=Option.map_eq_some_iff.mp hw
  refine wpAny_getItem_heap (tupleKind_room_in1 hu) (aeQ I.hok eb) dd hp ?_
  rw [hp2]
  exact h w' _ (I.tok _) rw'
theorem aoc {Q:Value->SP0} (hu:A.units+1<cLine) (I:Inv X Kp σ H s) (g:aa2 H a y o) (ry:jV y u) (h:∀ s',Inv X Kp σ H s'->Q (.bool (!o.isSome)) s'):
  wpAny (model X.prog X.w) A (compareOp .NotIn u (.ref a)) Q E s:=by
 rcases g with ⟨kvs,k,e,ey,l⟩ | ⟨kvs,k,b,e,ey,eb,l⟩
 ·subst ey
  obtain ⟨z,hd,vs,rel,dd⟩:=agp I.hok e
  refine wpAny_notIn_of (ai7 ry) hd dd.mapOf ?_
  rw [←(rel.val k).isSome_eq,←l]
  exact h _ (I.tok _)
 ·subst ey
  cases (show u=Value.ref b from ry)
  obtain ⟨z,hd,xs,rel,dd⟩:=ai8 I.hok e
  refine wpAny_notIn_heap (tupleKind_room_in1 hu) (aeQ I.hok eb) hd dd ?_
  have q:=(rel.val k).isSome_eq
  rw [Option.isSome_map] at q
  rw [←q,←l]
  exact h _ (I.tok _)
theorem ai9 {h':Heap}{t':Nat}{ob:HO} (I:Inv X Kp σ H s) (mu:Mut (H a)) (hs:Heap.SameBut a s.heap h') (he:∃ q,h'.get? a=some q) (new:qM X.prog X.w (upd H a ob) h' a ob):
  Inv X Kp σ (upd H a ob) { s with heap:=h',toks:=t' }:=
 I.write (x:=a) (e:=a) mu (.inl rfl) (fun b q hb z=>(hs.2 b hb).trans z) he new
theorem aqz {P:Program}{w:World}{H':Hp}{h':Heap}{kvs:List (Key × V)}{vs:List (Key × Value)} (z:kvs.length<=sizeLine) (hd:(a == sysModules)=false) (rel:KV kvs vs) (dd:h'.DictOf (qu P w) a vs):
  qM P w H' h' a (.dK kvs):=⟨z,hd,vs,rel,dd⟩
theorem ake {H':Hp}{Q:Unit->SP0} (hu:A.units+1<cLine) (I:Inv X Kp σ H s) (g:akc H a y v H') (ry:jV y u) (rv:jV v r) (h:∀ s',Inv X Kp σ H' s'->Q () s'):
  wpAny (model X.prog X.w) A (setItem (.ref a) u r) Q E s:=by
 rcases g with ⟨kvs,k,e,ey,l,eH⟩ | ⟨kvs,k,b,e,ey,eb,l,eH⟩
 ·subst ey eH
  obtain ⟨z,hd,vs,rel,dd⟩:=arZ I.hok e
  have hz:vs.length<=sizeLine:=by rw [←rel.length]; exact z
  have hl:(putK kvs k v).length<=sizeLine:=by have:=abz kvs k v; omega
  refine wpAny_setItem_pairs (hsz:=hz) (ai7 ry) dd fun h' dd' hs=>h _ ?_
  have he:∃ q,h'.get? a=some q:=let ⟨q,_,_,hq,_⟩:=dd'; ⟨q,hq⟩
  exact ai9 I (by rw [e]; exact True.intro) hs he (aqz hl hd (rel.put k rv) dd')
 ·subst ey eH
  cases (show u=Value.ref b from ry)
  obtain ⟨z,hd,xs,rel,dd⟩:=ar0 I.hok e
  have hz:xs.length<=sizeLine:=by rw [←Paired.length rel]; exact z
  have hl:(putK kvs k v).length<=sizeLine:=by have:=abz kvs k v; omega
  refine wpAny_setItem_heap (hsz:=hz) (tupleKind_room_in1 hu) (aeQ I.hok eb) dd fun h' dd' hs=>h _ ?_
  obtain ⟨q,es,ep,hq,h2,h3,h4,_,h5⟩:=dd'
  refine ai9 I (by rw [e]; exact True.intro) hs ⟨q,hq⟩ ⟨hl,hd,_,(rel.put k eb rv).keeps fun c ys ec=>?_,q,es,ep,hq,h2,h3,h4,h5⟩
  rw [jq (arE ec e (fun z=>nomatch z))]
  exact ec
end
section
variable {X:Cx}{Kp:List (Addr × Obj)}{σ:St}{H:Hp}{s:Shared}{a:Addr}{kvs:List (Key × V)}{k:Key}{u:Value}{A:Around}{E:Value->SP0}
end
def aqA (i:Expr):Prop:=∀ ov iv,subscripted i false ov iv=operate [ov,iv] (getItem ov iv)
theorem aod {prog:Program}{w:World}{A:Around}{E:Value->SP0}{s:Shared}{env:Env}{value slice:Expr}{pos:Pos}{T id:String}{Q:Value->SP0}
  (hl:typeLookup (.type T) "__getitem__"=pure (some (.builtin id))) (hs:aqA slice)
  (h:wpAny (model prog w) A (eval value env) (fun o s₁=>wpAny (model prog w) A (eval slice env) (fun i s₂=>s₂.TypeIs o T/\wpAny (model prog w) A (getItem o i) Q E s₂) E s₁) E s):
  wpAny (model prog w) A (eval (.Subscript value slice pos) env) Q E s:=by
 refine Subscript_ (wpAny_mono h (fun o s₁ h₁=>wpAny_mono h₁ (fun i s₂ h₂=>?_) fun _ _ x=>x) fun _ _ x=>x)
 obtain ⟨hT,h₂⟩:=h₂
 unfold subscriptTail
 refine wpAny_bind ?_
 rw [getitemInPython_of_ne hT.not_modules]
 refine wpAny_bind (wpAny_specialOf hT hl ?_)
 have fin:wpAny (model prog w) A (subscripted slice false o i) (fun r s₃=>wpAny (model prog w) A (letTemporaryGo value o r >>= fun _=>pure r) Q E s₃) E s₂:=by
  rw [hs o i]
  exact wpAny_operating (wpAny_mono h₂ (fun r s₃ h₃=>wpAny_bind (wpAny_letTemporaryGo (wpAny_pure h₃))) fun _ _ x=>x)
 first
  | exact wpAny_pure (wpAny_bind fin)
  | exact wpAny_bind (wpAny_pure (wpAny_bind fin))
  | exact wpAny_bind fin
theorem agq {X:Cx}{Kp:List (Addr × Obj)}{σ:St}{H:Hp}{s:Shared}{a:Addr}{y:V}{o:Option V} (I:Inv X Kp σ H s) (g:aa2 H a y o):s.TypeIs (.ref a) "dict":=by
 rcases g with ⟨kvs,k,e,_,_⟩ | ⟨kvs,k,b,e,_,_,_⟩
 ·obtain ⟨_,_,vs,_,dd⟩:=agp I.hok e
  exact dd.typeIs
 ·obtain ⟨_,_,xs,_,dd⟩:=ai8 I.hok e
  exact dd.typeIs
def ar1 (td ty:TE):TE:=fun σ H Q=>td σ H fun x H1=>ty σ H1 fun y H2=>∃ a v,x= .ref a/\aa2 H2 a y (some v)/\Q v H2
def aoe (ty td:TE):TE:=fun σ H Q=>ty σ H fun y H1=>td σ H1 fun x H2=>∃ a o,x= .ref a/\aa2 H2 a y o/\Q (.bl (!o.isSome)) H2
section
variable {X:Cx}{o i e value:Expr}{pos pos' tpos:Pos}{td ty tv:TE}
theorem aof (hu:X.A.units+1<cLine) (ho:PE X o td) (hi:PE X i ty) (hs:aqA i):PE X (.Subscript o i pos) (ar1 td ty):=by
 intro Kp s σ H Q I h
 refine aod PySem.F.slot_dict_getitem.lookup hs (thn (ho Kp s σ H _ I h) fun u s1 ⟨x,H1,I1,rx,q1⟩=>thn (hi Kp s1 σ H1 _ I1 q1) fun iv s2 ⟨y,H2,I2,ry,a,v,ex,g,q2⟩=>?_)
 subst ex
 obtain rfl:u=Value.ref a:=rx
 exact ⟨agq I2 g,akd hu I2 g ry fun w' s3 I3 rw'=>⟨v,H2,I3,rw',q2⟩⟩
theorem akf (hu:X.A.units+1<cLine) (hi:PE X i ty) (ho:PE X o td):PC X .NotIn i o (aoe ty td):=by
 intro Kp s σ H Q I h
 refine thn (hi Kp s σ H _ I h) fun iv s1 ⟨y,H1,I1,ry,q1⟩=>thn (ho Kp s1 σ H1 _ I1 q1) fun u s2 ⟨x,H2,I2,rx,a,ov,ex,g,q2⟩=>?_
 subst ex
 obtain rfl:u=Value.ref a:=rx
 exact aoc hu I2 g ry fun s3 I3=>⟨.bl (!ov.isSome),H2,I3,rfl,q2⟩
end
theorem alM {P:Program}{w:World}{H:Hp} (h:Heap) (hb:sysModules<h.objs.size):qM P w H (h.push { cls:= .type "dict",data:= .dict #[] }) h.objs.size (.dK []):=
 ⟨Nat.zero_le _,beq_eq_false_iff_ne.mpr (Ne.symm (Nat.ne_of_lt hb)),[],.nil,Heap.DictOf.new h⟩
def aqB:TE:=fun _ H Q=>∀ p,H p=none->Q (.ref p) (upd H p (.dK []))
section
variable {X:Cx}{pos:Pos}
theorem alN:PE X (.Dict [] [] pos) aqB:=fun Kp s σ H Q I h=>
 wpAny_Dict_empty ⟨.ref s.heap.objs.size,_,I.laid (a:=s.heap.objs.size) (o:= .dK []) (t':=s.toks) (fun _ _ q=>Heap.get?_push_of_some _ q) (Nat.le_refl _) (alM s.heap I.big),rfl,h _ (I.hok.fresh (Nat.le_refl _))⟩
end
structure M1 (X:Cx) (o:Expr) (m:Str) (apos:Pos) (e:Expr) (cpos:Pos):Prop where
 base:attributeBase o m X.env (eval o X.env)=eval o X.env
 few:((backTo cpos (starEach [e] X.env)).all (fun x=>!x.1) && (backToKw cpos (keywordEach [] X.env)).all (fun x=>x.1.isSome)
  && decide (([e]:List Expr).length+([]:List Keyword).length+(if ([]:List Keyword).isEmpty then 0 else 1)<30))=true
 line:(apos.endLine == cpos.line)=true
 trees:backTo cpos (starEach [e] X.env)=[(false,eval e X.env)]
structure M2 (X:Cx) (o:Expr) (m:Str) (apos:Pos) (e f:Expr) (cpos:Pos):Prop where
 base:attributeBase o m X.env (eval o X.env)=eval o X.env
 few:((backTo cpos (starEach [e,f] X.env)).all (fun x=>!x.1) && (backToKw cpos (keywordEach [] X.env)).all (fun x=>x.1.isSome)
  && decide (([e,f]:List Expr).length+([]:List Keyword).length+(if ([]:List Keyword).isEmpty then 0 else 1)<30))=true
 line:(apos.endLine == cpos.line)=true
 trees:backTo cpos (starEach [e,f] X.env)=[(false,eval e X.env),(false,eval f X.env)]
section
variable {X:Cx}{Kp:List (Addr × Obj)}{σ:St}{H:Hp}{s:Shared}{a:Addr}{y d:V}{u r:Value}{o:Option V}{A:Around}{E:Value->SP0}
end
section
variable {X:Cx}{o e f:Expr}{apos cpos:Pos}{td ty tx:TE}
end
section
variable {X:Cx}{Kp:List (Addr × Obj)}{σ:St}{H:Hp}{s:Shared}{a:Addr}{kvs:List (Key × V)}{A:Around}{E:Value->SP0}
end
section
variable {X:Cx}{Kp:List (Addr × Obj)}{σ:St}{H:Hp}{s:Shared}{a:Addr}{y:V}{u:Value}{A:Around}{E:Value->SP0}
end
section
variable {X:Cx}
end
section
variable {κ:Type} [DecidableEq κ]
end
end L2
end
section
namespace BX
open PySem PySem.Spec L2
open PyProof.Rows hiding St
noncomputable abbrev NoX:Value->SP0:=fun _ _=>False
noncomputable def aja (ts:List Expr) (en:Env):Sem Bool:=
 forIn ts true fun c r=>if r=true then do let ok ←isTrue c en (eval c en); pure (ForInStep.yield ok) else pure (ForInStep.yield r)
section
variable {prog:Program}{w:World}{A:Around}{s:Shared}{R:Result->SP0}
theorem akg {el tg src:Expr}{ts:List Expr}{sc:Scope}{ps:Pos}{it acc:Value}{en:Env} (J:Nat->SP0)
  (turn:∀ n s,J n s->wpAny (model prog w) A (pyNext it) (fun r s1=>match r with
   | none=>R (.ok .next) s1
   | some v=>wpAny (model prog w) A (letOwnedTupleGo tg it v) (fun _ sg=>wpAny (model prog w) A (assign tg en v) (fun _ s2=>
     wpAny (model prog w) A (aja ts en) (fun ok s3=>
      if ok=true then wpAny (model prog w) A (eval el en) (fun y s4=>
       wpAny (model prog w) A (call (.builtin "list.append") [acc,y]) (fun _ s5=>∃ m,m<n/\J m s5) NoX s4) NoX s3
      else ∃ m,m<n/\J m s3) NoX s2) NoX sg) NoX s1) NoX s)
  (n:Nat) (h:J n s):
  codeAny (model prog w) A (.compLoop (.ListComp el [⟨tg,src,ts,0⟩] sc ps) 0 it acc en) R s:=by
 refine codeAny_loop rfl J (fun n s hJ=>?_) n h
 show wpAny _ A
  ((compTurn (.ListComp el [⟨tg,src,ts,0⟩] sc ps) 0 it acc en).onRaise
   (fun x=>do noteFrame x en; theTreesLotGoes x)) _ _ s
 refine wpAny_noted ?_
 rw [compTurn_list]
 have no:∀ {E:Value->SP0} (e:Value) (s':Shared),NoX e s'->E e s':=fun _ _ z=>z.elim
 refine wpAny_bind (wpAny_standAt (wpAny_bind (wpAny_mono (turn n s hJ) (fun r s1 h1=>?_) no)))
 cases r with
 | none=>exact wpAny_pure h1
 | some v=>
  refine wpAny_bind (wpAny_mono h1 (fun _ sg hg=>?_) no)
  refine wpAny_bind (wpAny_mono hg (fun _ s2 h2=>?_) no)
  refine wpAny_bind (wpAny_mono h2 (fun ok s3 h3=>?_) no)
  cases ok with
  | false=>exact wpAny_pure ⟨rfl,h3⟩
  | true=>
   refine wpAny_bind (wpAny_bind (wpAny_mono h3 (fun y s4 h4=>?_) no))
   exact wpAny_bind (wpAny_mono h4 (fun _ s5 h5=>wpAny_pure (wpAny_pure ⟨rfl,h5⟩)) no)
end
noncomputable def ZQ (en:Env):List (Str × NameKind)->List (Str × Addr)->List (Str × Addr)
 | [],cs=>cs
 | (n,k)::r,cs=>ZQ en r (if k == .free then (n,(en.cells.lookup n).getD 0)::cs else cs)
theorem aog (sc:Scope) (en:Env) (h:∀ x ∈ sc.names,x.2= .free->∃ c,en.cells.lookup x.1=some c):closureFor sc en=pure (ZQ en sc.names []):=by
 have go:∀ (l:List (Str × NameKind)) (cs:List (Str × Addr)),(∀ x ∈ l,x.2= .free->∃ c,en.cells.lookup x.1=some c)->
   (forIn l cs (fun (x:Str × NameKind) (r:List (Str × Addr))=>(do
    if x.2 == .free then do
     let c ←cellOf en x.1
     pure (ForInStep.yield ((x.1,c)::r))
    else pure (ForInStep.yield r):Sem (ForInStep (List (Str × Addr))))):Sem _)=pure (ZQ en l cs):=by
  intro l
  induction l with
  | nil=>intro cs _; rfl
  | cons x l ih=>
   intro cs hl
   obtain ⟨n,k⟩:=x
   rw [List.forIn_cons]
   by_cases hk:(k == NameKind.free)=true
   ·obtain ⟨c,e⟩:=hl (n,k) List.mem_cons_self (by simpa using hk)
    have e':en.cells.lookup n=some c:=e
    simp only [hk,zzM,cellOf,e',pure_bind,ZQ,Option.getD_some]
    exact ih _ fun y hy=>hl y (List.mem_cons_of_mem _ hy)
   ·simp only [hk,pure_bind,ZQ,zzL,zzN]
    exact ih _ fun y hy=>hl y (List.mem_cons_of_mem _ hy)
 have:=go sc.names [] h
 unfold closureFor
 rw [←this]
 first
  | (simp only [bind_pure_comp,id_map',map_pure]; done)
  | (simp only [bind_pure_comp,id_map',map_pure]; exact bind_pure _)
theorem adT (en:Env):∀ (l:List (Str × NameKind)) (cs:List (Str × Addr)),(∀ x ∈ l,x.2= .free->∃ c,en.cells.lookup x.1=some c)->(∀ p ∈ cs,en.cells.lookup p.1=some p.2)->
  ∀ p ∈ ZQ en l cs,en.cells.lookup p.1=some p.2
 | [],_,_,h,p,hp=>h p hp
 | (n,k)::r,cs,hl,h,p,hp=>by
  refine adT en r _ (fun y hy=>hl y (List.mem_cons_of_mem _ hy)) (fun q hq=>?_) p hp
  by_cases hk:(k == NameKind.free)=true
  ·rw [if_pos hk] at hq
   rcases List.mem_cons.mp hq with rfl | hq
   ·obtain ⟨c,e⟩:=hl (n,k) List.mem_cons_self (by simpa using hk)
    have e':en.cells.lookup n=some c:=e
    show en.cells.lookup n=some ((en.cells.lookup n).getD 0)
    rw [e']; rfl
   ·exact h q hq
  ·rw [if_neg hk] at hq
   exact h q hq
theorem abA (en:Env):∀ (l:List (Str × NameKind)) (cs:List (Str × Addr)) (x:Str),(∃ c,(x,c) ∈ cs)->∃ c,(x,c) ∈ ZQ en l cs
 | [],_,_,h=>h
 | (n,k)::r,cs,x,⟨c,h⟩=>by
  refine abA en r _ x ?_
  by_cases hk:(k == NameKind.free)=true
  ·rw [if_pos hk]; exact ⟨c,List.mem_cons_of_mem _ h⟩
  ·rw [if_neg hk]; exact ⟨c,h⟩
theorem aa3 (en:Env):∀ (l:List (Str × NameKind)) (cs:List (Str × Addr)) (x:Str),(x,NameKind.free) ∈ l->∃ c,(x,c) ∈ ZQ en l cs
 | (n,k)::r,cs,x,h=>by
  rcases List.mem_cons.mp h with e | h
  ·obtain ⟨e1,e2⟩:=Prod.mk.inj e
   subst e1; subst e2
   exact abA en r _ _ ⟨_,by rw [if_pos (by rfl)]; exact List.mem_cons_self⟩
  ·exact aa3 en r _ x h
theorem J1 {β:Type}:∀ {l:List (Str × β)}{x:Str}{c:β},(x,c) ∈ l->∃ d,l.lookup x=some d
 | (n,k)::r,x,c,h=>by
  by_cases e:x=n
  ·subst e; exact ⟨k,by simp [List.lookup_cons]⟩
  ·have eb:(x == n)=false:=by simpa using e
   rcases List.mem_cons.mp h with z | h
   ·cases z; exact absurd rfl e
   ·obtain ⟨d,hd⟩:=J1 h
    exact ⟨d,by simp only [List.lookup_cons,eb]; exact hd⟩
theorem abB {sc:Scope}{en:Env}{x:Str}{k:NameKind} (h:(x,k) ∈ (relabel sc en).names) (hc:∀ y ∈ sc.names,y.2 ≠ .cell) (hk:k= .cell ∨ k= .free):(x,NameKind.free) ∈ sc.names:=by
 obtain ⟨⟨n,j⟩,hm,e⟩:=List.mem_map.mp h
 by_cases q:(j == NameKind.free && en.scope.kind == .function && en.kindOf n == some .cell)=true
 ·have e1:(n,NameKind.cell)=(x,k):=by simpa only [q,zzM] using e
  cases e1
  have hj:j= .free:=by
   simp only [Bool.and_eq_true] at q
   simpa using q.1.1
  rw [←hj]; exact hm
 ·have e1:(n,j)=(x,k):=by simpa only [q,zzL,zzN] using e
  cases e1
  rcases hk with rfl | rfl
  ·exact absurd rfl (hc _ hm)
  ·exact hm
theorem aag {en:Env}:∀ {l:List (Str × NameKind)}{x:Str},l.lookup x=some .free->
  (l.map fun (n,k)=>if (k == NameKind.free && en.scope.kind == .function && en.kindOf n == some .cell) then (n,NameKind.cell) else (n,k)).lookup x=some .cell ∨
  (l.map fun (n,k)=>if (k == NameKind.free && en.scope.kind == .function && en.kindOf n == some .cell) then (n,NameKind.cell) else (n,k)).lookup x=some .free
 | (n,k)::r,x,h=>by
  rw [List.map_cons]
  cases hx:x == n with
  | true=>
   simp only [List.lookup_cons,hx] at h
   cases h
   by_cases q:(NameKind.free == NameKind.free && en.scope.kind == .function && en.kindOf n == some .cell)=true
   ·left; simp only [q,zzM,List.lookup_cons,hx]
   ·right; simp only [q,zzL,zzN,List.lookup_cons,hx]
  | false=>
   simp only [List.lookup_cons,hx] at h
   rcases aag (en:=en) h with g | g
   ·left
    by_cases q:(k == NameKind.free && en.scope.kind == .function && en.kindOf n == some .cell)=true
    ·simp only [q,zzM,List.lookup_cons,hx]; exact g
    ·simp only [q,zzL,zzN,List.lookup_cons,hx]; exact g
   ·right
    by_cases q:(k == NameKind.free && en.scope.kind == .function && en.kindOf n == some .cell)=true
    ·simp only [q,zzM,List.lookup_cons,hx]; exact g
    ·simp only [q,zzL,zzN,List.lookup_cons,hx]; exact g
def blk (X:Cx) (N':List Str) (sc:Scope) (cl:List (Str × Addr)) (C:Addr) (s0:Shared) (H0:Hp) (fp:List Addr) (pn:List (Addr × Obj)):Cx:=
 { X with N:=N',s₀:=s0,H₀:=H0,env:=compEnvC sc cl C X.env,Ko:=X.stack,ex:=fp,fn:=fun _=>false,pn:=pn,xe:=NoX }
def agr (cap:List (Option Nat)) (σ:St):St:=cap.map fun o=>o.bind fun i=>(σ[i]?).join
def PTs (X:Cx) (ts:List Expr) (t:TT):Prop:=
 ∀ (Kp:List (Addr × Obj)) (s:Shared) (σ:St) (H:Hp) (Q:Bool->Hp->Prop),Inv X Kp σ H s->t σ H Q->wpAny (model X.prog X.w) X.A (aja ts X.env) (TP X Kp σ Q) X.xe s
def apK:TT:=fun _ H Q=>Q true H
theorem ajb {X:Cx}:PTs X [] apK:=fun _ _ _ H _ I h=>wpAny_pure ⟨H,I,h⟩
theorem aoh {X:Cx}{c:Expr}{t:TT} (h:PT X c t):PTs X [c] t:=fun Kp s σ H Q I hq=>wpAny_tests_one (h Kp s σ H Q I hq)
structure CompOk (X:Cx) (sc:Scope) (N':List Str) (cap:List (Option Nat)):Prop where
 fr:∀ x ∈ sc.names,x.2= .free->X.env.kindOf x.1=some .cell ∨ X.env.kindOf x.1=some .free
 nc:∀ x ∈ sc.names,x.2 ≠ .cell
 kind:sc.kind= .function
 nm:∀ x ∈ sc.names,x.2= .local->sc.names.lookup x.1=some .local
 len:cap.length=N'.length
 cp:∀ (j i:Nat) (x:Str),N'[j]?=some x->cap[j]?=some (some i)->X.N[i]?=some x/\sc.names.lookup x=some .free
def ar2 (wi:TI) (cap:List (Option Nat)) (g:TG) (tt:TT) (te:TE):TE:=fun σ H Q=>wi σ H fun J H1=>
 ∃ W:Nat->Nat->St->List V->Hp->Prop,(∃ m,W 0 m (agr cap σ) [] H1)/\∀ i m τ ys H,W i m τ ys H->ys.length<sizeLine/\
  ((J.stop i H/\∀ l,H l=none->Q (.ref l) (upd H l (.lst ys))) ∨
   (J.go i H/\∀ x H',J.yld i H x H'->g x τ H' fun τ2 H2=>tt τ2 H2 fun b H3=>if b=true then te τ2 H3 fun y H4=>∃ m',m' < m/\W (i+1) m' τ2 (ys++[y]) H4 else ∃ m',m' < m/\W (i+1) m' τ2 ys H3))
theorem Inv.track {X:Cx}{Kp:List (Addr × Obj)}{σ:St}{H:Hp}{s:Shared}{D:Addr}{o:HO} (I:Inv X Kp σ H s) (hn:H D=none) (h1:X.s₀.heap.objs.size<=D) (h2:D ≠ X.env.locals) (h3:∀ x c,X.env.cells.lookup x=some c->c ≠ D)
  (h4:∀ p ∈ X.pn++Kp,p.1 ≠ D) (new:qM X.prog X.w (upd H D o) s.heap D o):Inv X Kp σ (upd H D o) s:=by
 have nd:∀ b u,H b=some u->b ≠ D:=fun b u e z=>by rw [z,hn] at e; cases e
 have hok:HOk X.prog X.w (upd H D o) s.heap:=fun b u e=>by
  by_cases hb:b=D
  ·subst hb; rw [jn] at e; cases e; exact new
  ·rw [jq hb] at e
   exact (I.hok b u e).stay (fun _ _ _ q=>q) (fun c q=>by rw [jq (nd c _ q)]; exact q) fun c xs q=>by rw [jq (nd c _ q)]; exact q
 refine I.step (h':=s.heap) (g':=s.gens) (d':=s.drawn) (t':=s.toks) (ch:=[D]) (fun b hb=>?_) (fun b o _ _ _ e _=>e) (fun b o _ _ _ e _=>⟨o.slots,e⟩) (fun b o hc _ n=>?_) (fun b o _ e=>⟨o,e⟩) (fun b xs e=>by rw [jq (nd b _ e)]; exact e)
  (fun b ob u e=>by rw [jq (nd b _ e)]; exact e) (fun b ps e=>⟨#[],by rw [jq (nd b _ e),e]; simp⟩) (fun m hm=>hm) hok I.bare
 ·have e:b=D:=by simpa using hb
  subst e
  exact ⟨.inr h1,h2,h3,h4⟩
 ·have e:b ≠ D:=by simpa using hc
  rw [jq e]; exact n
theorem ajc {X : Cx} {el tg src : Expr} {ts : List Expr} {sc : Scope} {ps : Pos} {wi : TI} {g : TG} {tt : TT} {te : TE} {N' : List Str} {cap : List (Option Nat)} (hc : X.calm = true) (hi : PI X tg src wi) (ok : CompOk X sc N' cap)
    (body : ∀ cl C s0 H0 fp pn, PG (blk X N' sc cl C s0 H0 fp pn) tg g /\ PTs (blk X N' sc cl C s0 H0 fp pn) ts tt /\ PE (blk X N' sc cl C s0 H0 fp pn) el te)
    (hs : ∀ x, foldedSetIterable src X.env x = pure x := by intro _; rfl) : PE X (.ListComp el [⟨tg, src, ts, 0⟩] sc ps) (ar2 wi cap g tt te) := by
  intro Kp s σ H Q I h
  have hfr : ∀ x ∈ sc.names, x.2 = .free -> ∃ c, X.env.cells.lookup x.1 = some c := fun x hx e => I.ok.has x.1 (ok.fr x hx e)
  have hcl := aog sc X.env hfr
  have clm : ∀ x c, (ZQ X.env sc.names []).lookup x = some c -> X.env.cells.lookup x = some c := fun x c e =>
    adT X.env sc.names [] hfr (fun _ z => nomatch z) (x, c) (PySem.mem_of_lookup e)
  generalize hgl : ZQ X.env sc.names [] = cl at hcl clm
  rw [eval_ListComp]
  refine wpAny_comprehension_free (use := none) rfl hs hcl ok.kind ok.nm ?_
  refine thn (hi Kp s σ H _ I h) fun v s1 h1 => thn h1 fun itv s2 h2 => ?_
  obtain ⟨it, fp, tn, J, H2, e, I2, T, st2, f2, W, ⟨m0, w0⟩, turn⟩ := h2
  subst e
  refine wpAny_newObj_type (wpAny_newFunctionEnv ok.nc (by intro y hy; simp at hy) (fun h4 hns hsb => ?_) ok.kind)
  dsimp only at hns hsb ⊢
  generalize hH3 : s2.heap.push { cls := .type "list", dict := none, data := .seq ([] : List Value).toArray } = h3 at hns hsb ⊢
  have hC : h3.objs.size = s2.heap.objs.size + 1 := by rw [← hH3, Heap.size_push]
  generalize hCC : h3.objs.size = C at hns hsb hC ⊢
  generalize hDD : s2.heap.objs.size = D at hC ⊢
  have hDC : D ≠ C := by rw [hC]; exact Nat.ne_of_lt (Nat.lt_succ_self _)
  have old : ∀ b o, s2.heap.get? b = some o -> h4.get? b = some o := fun b o e => hsb.extBut b o (by have := Heap.lt_size e; rw [hDD] at this; rw [hC]; exact Nat.ne_of_lt (Nat.lt_succ_of_lt this)) (Heap.get?_push_of_some _ (hH3 ▸ Heap.get?_push_of_some _ e))
  have accO : h4.get? D = some { cls := .type "list", data := .seq ([] : List Value).toArray 0 } := hsb.extBut _ _ hDC (Heap.get?_push_of_some _ (by rw [← hH3, ← hDD]; exact Heap.get?_push_size _ rfl))
  have H2D : H2 D = none := I2.hok.fresh (by rw [hDD]; exact Nat.le_refl _)
  have H2C : H2 C = none := I2.hok.fresh (by rw [hDD, hC]; exact Nat.le_succ _)
  have cellsLt : ∀ x c, X.env.cells.lookup x = some c -> c<D := fun x c e => by
    obtain ⟨v, q⟩ := I2.cell x c e
    rw [← hDD]; exact q.lt
  have pinLt : ∀ p ∈ X.pn ++ Kp, p.1<D := fun p hp => by rw [← hDD]; exact Heap.lt_size (I2.pin p hp).1
  have stkLt : ∀ b ∈ frs X.stack, b<D := fun b hb => by
    obtain ⟨_, o, ho, _⟩ := I2.stack.mem hb
    rw [← hDD]; exact Heap.lt_size ho
  have fpLt : ∀ b ∈ fp, b<D := fun b hb => by
    obtain ⟨o, ho, _⟩ := T.obj _ _ st2 b hb
    rw [← hDD]; exact Heap.lt_size ho
  have ltC : ∀ {b : Addr}, b<D -> b ≠ C := fun hb => by rw [hC]; exact Nat.ne_of_lt (Nat.lt_succ_of_lt hb)
  have locLt : X.env.locals<D := by rw [← hDD]; exact I2.lt
  have hDge : s2.heap.objs.size <= D := by rw [hDD]; exact Nat.le_refl _
  have hCge : s2.heap.objs.size <= C := by rw [hDD, hC]; exact Nat.le_succ _
  have bok : (blk X N' sc cl C s2 H2 fp (X.pn ++ Kp)).Ok := by
    refine ⟨I2.ok.mod, ok.kind, I2.ok.glob, I2.ok.blt, hCge, fun x y c e1 e2 => I2.ok.inj x y c (clm x c e1) (clm y c e2), fun x hx => ?_, fun x c z _ => ?_, I2.ok.hd, I2.ok.frames, .inl rfl, fun b hb => ?_, I2.bs, Nat.le_trans I2.ok.bsz I2.sz, fun b o e hb => ?_, fun b hb z => ?_, I2.stack, I2.stkFree⟩
    · have hx' : (relabel sc X.env).names.lookup x = some .cell ∨ (relabel sc X.env).names.lookup x = some .free := hx
      have hm : (x, NameKind.free) ∈ sc.names := by
        rcases hx' with z | z
        · exact abB (PySem.mem_of_lookup z) ok.nc (.inl rfl)
        · exact abB (PySem.mem_of_lookup z) ok.nc (.inr rfl)
      obtain ⟨c, hc⟩ := aa3 X.env sc.names [] x hm
      rw [hgl] at hc
      exact J1 hc
    · exact absurd (show false = true from z) Bool.false_ne_true
    · exact ⟨ltC (fpLt b hb), fun x c e => (f2 b hb).2.2.2.2.1 x c (clm x c e)⟩
    · rcases (f2 b hb).2.2.2.1 with z | z
      · exact I2.ok.noex b o e z
      · have := Heap.lt_size e
        exact absurd (Nat.lt_of_lt_of_le this (Nat.le_trans I2.ok.bsz z)) (Nat.lt_irrefl _)
    · rcases List.mem_cons.mp (I2.stkSub b z) with q | q
      · exact (f2 b hb).2.1 q
      · exact (f2 b hb).2.2.1 q
  have pinB : ∀ p ∈ X.pn ++ Kp, p.1 ≠ C /\ p.1 ∉ frs X.stack := fun p hp => ⟨ltC (pinLt p hp), fun z => by
    rcases List.mem_cons.mp (I2.stkSub p.1 z) with q | q
    · exact (I2.pin p hp).2.2.1 q
    · exact (I2.pin p hp).2.2.2.1 q⟩
  have I4 : Inv (blk X N' sc cl C s2 H2 fp (X.pn ++ Kp)) [] (agr cap σ) H2 { s2 with heap := h4, toks := s2.toks + ([] : List (Str × Value)).length } := by
    refine ⟨bok, rfl, I2.bare, Un.kept old, ⟨_, hns, fun j x v e1 e2 e3 => ?_⟩, fun x c e => ?_, H2C, fun x c e => I2.freeC x c (clm x c e), fun p hp => ?_, I2.hok.kept old, ?_⟩
    · unfold agr at e2
      rw [List.getElem?_map] at e2
      cases e4 : cap[j]? with
      | none => rw [e4] at e2; cases e2
      | some o =>
        rw [e4] at e2
        cases o with
        | none => cases e2
        | some i =>
          obtain ⟨hNi, hf⟩ := ok.cp j i x e1 e4
          have e5 : (σ[i]?).join = some v := by
            have := Option.some.inj e2
            simpa using this
          have e6 : σ[i]? = some (some v) := by
            cases e7 : σ[i]? with
            | none => rw [e7] at e5; cases e5
            | some z => rw [e7] at e5; cases z with
              | none => cases e5
              | some z => cases e5; rfl
          have hk := ok.fr (x, .free) (PySem.mem_of_lookup hf) rfl
          obtain ⟨m, hn, hl⟩ := I2.loc
          have hv : Vis X.env.scope x := by
            rcases hk with z | z
            · exact .inr (.inl z)
            · exact .inr (.inr z)
          obtain ⟨u, r, lk⟩ := hl i x v hNi e6 hv
          have cellX : ∃ c, X.env.cells.lookup x = some c /\ s2.heap.IsCell c (some u) := by
            rcases lk with ⟨k1, _⟩ | ⟨_, c, e, z⟩
            · rcases hk with z | z
              · have z' : X.env.kindOf x = some .cell := z
                rw [k1] at z'; cases z'
              · have z' : X.env.kindOf x = some .free := z
                rw [k1] at z'; cases z'
            · exact ⟨c, e, z⟩
          obtain ⟨c, hc1, ob, hc2, hc3⟩ := cellX
          obtain ⟨c', hc'⟩ := aa3 X.env sc.names [] x (PySem.mem_of_lookup hf)
          rw [hgl] at hc'
          obtain ⟨d, hd⟩ := J1 hc'
          have ed : d = c := by
            have := clm x d hd
            rw [hc1] at this; cases this; rfl
          subst ed
          refine ⟨u, r, .inr ⟨?_, d, hd, ob, old _ _ hc2, hc3⟩⟩
          exact aag hf
    · obtain ⟨v, ob, ho, hd⟩ := I2.cell x c (clm x c e)
      exact ⟨v, ob, old _ _ ho, hd⟩
    · have hp' : p ∈ X.pn ++ Kp := by simpa [blk] using hp
      obtain ⟨e1, e2, e3, e4, e5⟩ := I2.pin p hp'
      exact ⟨old _ _ e1, e2, (pinB p hp').1, (pinB p hp').2, e5⟩
    · show (agr cap σ).length = N'.length
      unfold agr
      rw [List.length_map]; exact ok.len
  have fpB : ∀ {H' : Hp} {pl : List (Addr × Obj)}, (∀ b ∈ fp, H' b = none) -> (∀ p ∈ pl, p.1 ∉ fp) -> ∀ b ∈ fp, agg (blk X N' sc cl C s2 H2 fp (X.pn ++ Kp)) pl H' b := fun {H' pl} hn hpl b hb =>
    ⟨hn b hb, ltC (fpLt b hb), bok.exfs b hb, .inl hb, fun x c e => (f2 b hb).2.2.2.2.1 x c (clm x c e), fun p hp z => by
      rcases List.mem_append.mp (show p ∈ (X.pn ++ Kp) ++ pl from hp) with q | q
      · exact (f2 b hb).2.2.2.2.2 p q z
      · exact hpl p q (by rw [z]; exact hb)⟩
  have Dfp : ∀ (o : Obj), ∀ p ∈ [(D, o)], p.1 ∉ fp := fun o p hp z => by
    have e : p = (D, o) := by simpa using hp
    subst e
    exact Nat.lt_irrefl _ (fpLt D z)
  have Dfs : D ∉ frs X.stack := fun z => Nat.lt_irrefl _ (stkLt D z)
  obtain ⟨bG, bT, bE⟩ := body cl C s2 H2 fp (X.pn ++ Kp)
  have loop : codeAny (model X.prog X.w) X.A (.compLoop (.ListComp el [⟨tg, src, ts, 0⟩] sc ps) 0 (.ref it) (.ref D) (compEnvC sc cl C X.env)) (compPost (model X.prog X.w) X.A X.xe none (EP X Kp σ Q) (.ref D) C)
      { s2 with heap := h4, toks := s2.toks + ([] : List (Str × Value)).length } := by
    refine akg (fun n s' => ∃ i τ ys us k H', Inv (blk X N' sc cl C s2 H2 fp (X.pn ++ Kp)) [] τ H' s' /\ tn i s'.heap /\ (∀ b ∈ fp, H' b = none) /\ jJ ys us /\ s'.heap.get? D = some { cls := .type "list", data := .seq us.toArray k } /\ H' D = none /\ W i n τ ys H') ?_ m0
      ⟨0, _, [], [], 0, H2, I4, T.keep _ _ _ st2 (fun b _ o e => old b o e), fun b hb => (f2 b hb).1, .nil, accO, H2D, w0⟩
    rintro n s5 ⟨i, τ, ys, us, k, H5, I5, st5, fr5, rv5, ho5, hD5, w5⟩
    obtain ⟨hsz, alt⟩ := turn i n τ ys H5 w5
    have I5p : Inv (blk X N' sc cl C s2 H2 fp (X.pn ++ Kp)) [(D, { cls := .type "list", data := .seq us.toArray k })] τ H5 s5 := I5.pins_of fun p hp => by
      have e : p = (D, { cls := .type "list", data := .seq us.toArray k }) := by simpa using hp
      subst e
      exact ⟨ho5, hD5, hDC, Dfs, fun v z => by cases z⟩
    rcases alt with ⟨stop, fin⟩ | ⟨go, step⟩
    · refine thn (T.done (blk X N' sc cl C s2 H2 fp (X.pn ++ Kp)) rfl rfl rfl hc i _ s5 τ H5 NoX I5p (fpB fr5 (Dfp _)) st5 stop) fun r s6 ⟨hr, I6⟩ => ?_
      subst hr
      have ho6 := (I6.pin (D, _) (List.mem_append_right _ (List.mem_singleton.mpr rfl))).1
      obtain ⟨m6, hn6, _⟩ := I6.loc
      refine ⟨m6, hn6, fun h7 hs7 => ?_⟩
      have J6 : Inv X Kp σ H5 s6 := I2.call' (ch := fp) I6.os I6.base I6.hok I6.bare fun b hb => ⟨(f2 b hb).2.2.2.1, (f2 b hb).2.1, (f2 b hb).2.2.2.2.1, (f2 b hb).2.2.2.2.2⟩
      have H5C : H5 C = none := I6.free
      have cne : ∀ {b : Addr}, b<D -> b ≠ C := ltC
      have J7 : Inv X Kp σ H5 { s6 with heap := h7, toks := s6.toks } := J6.turned (it := C) (fun b o hb e => hs7.extBut b o hb e) H5C (Ne.symm (ltC locLt)) (.inr (Nat.le_trans I2.sz hCge)) (fun x c e => ltC (cellsLt x c e)) (fun p hp => ltC (pinLt p hp))
      have ho7 : h7.get? D = some { cls := .type "list", data := .seq us.toArray k } := hs7.extBut D _ hDC ho6
      refine ⟨.ref D, upd H5 D (.lst ys), ?_, rfl, fin D hD5⟩
      exact Inv.track J7 hD5 (Nat.le_trans I2.sz hDge) (Ne.symm (Nat.ne_of_lt locLt)) (fun x c e => Nat.ne_of_lt (cellsLt x c e)) (fun p hp => Nat.ne_of_lt (pinLt p hp)) ⟨Nat.le_of_lt hsz, us, k, rv5, ho7⟩
    · refine thn (T.item (blk X N' sc cl C s2 H2 fp (X.pn ++ Kp)) rfl rfl rfl hc i _ s5 τ H5 NoX I5p (fpB fr5 (Dfp _)) st5 go) fun r s6 ⟨u, hr, h6⟩ => ?_
      subst hr
      refine thn h6 fun _ s7 ⟨x, H7, I7, r7, y7, st7, fr7⟩ => ?_
      have I7p := I7.pinned (fpB fr7 (Dfp _)) (T.obj _ _ st7)
      refine thn (bG _ s7 τ H7 x u _ I7p r7 (step x H7 y7)) fun _ s8 ⟨τ8, H8, I8, q8⟩ => ?_
      have back : ∀ {τ9 : St} {H9 : Hp} {s9 : Shared}, Inv (blk X N' sc cl C s2 H2 fp (X.pn ++ Kp)) ([(D, { cls := .type "list", data := .seq us.toArray k })] ++ acw fp s7.heap) τ9 H9 s9 ->
          tn (i + 1) s9.heap /\ (∀ b ∈ fp, H9 b = none) /\ s9.heap.get? D = some { cls := .type "list", data := .seq us.toArray k } /\ H9 D = none := fun {τ9 H9 s9} I9 => by
        have pD := I9.pin (D, { cls := .type "list", data := .seq us.toArray k }) (List.mem_append_right _ (List.mem_append_left _ (List.mem_singleton.mpr rfl)))
        refine ⟨T.keep _ _ _ st7 fun b hb o e => (I9.pin (b, o) (List.mem_append_right _ (List.mem_append_right _ (Qo hb e)))).1, fun b hb => ?_, pD.1, pD.2.1⟩
        obtain ⟨o, e, _⟩ := T.obj _ _ st7 b hb
        exact (I9.pin (b, o) (List.mem_append_right _ (List.mem_append_right _ (Qo hb e)))).2.1
      have drop : ∀ {τ9 : St} {H9 : Hp} {s9 : Shared} {pl : List (Addr × Obj)}, Inv (blk X N' sc cl C s2 H2 fp (X.pn ++ Kp)) pl τ9 H9 s9 -> Inv (blk X N' sc cl C s2 H2 fp (X.pn ++ Kp)) [] τ9 H9 s9 := fun I9 => I9.pins_of fun p hp => nomatch hp
      refine thn (bT _ s8 τ8 H8 _ I8 q8) fun b s9 ⟨H9, I9, q9⟩ => ?_
      cases b with
      | false =>
        rw [if_neg Bool.false_ne_true] at q9 ⊢
        obtain ⟨m', hm, w9⟩ := q9
        obtain ⟨t9, f9, o9, d9⟩ := back I9
        exact ⟨m', hm, i + 1, τ8, ys, us, k, H9, drop I9, t9, f9, rv5, o9, d9, w9⟩
      | true =>
        rw [if_pos rfl] at q9 ⊢
        refine thn (bE _ s9 τ8 H9 _ I9 q9) fun y s10 ⟨z, H10, I10, r10, q10⟩ => ?_
        obtain ⟨m', hm, w10⟩ := q10
        obtain ⟨t10, f10, o10, d10⟩ := back I10
        have hl := rv5.length
        refine append_at (hsz := by show us.toArray.size <= sizeLine; rw [List.size_toArray, ← hl]; exact Nat.le_of_lt hsz) o10 fun h11 hs11 hD11 => ?_
        have I11 : Inv (blk X N' sc cl C s2 H2 fp (X.pn ++ Kp)) [] τ8 H10 { s10 with heap := h11, toks := s10.toks } := (drop I10).turned (it := D) (fun b o hb e => hs11.extBut b o hb e) d10 hDC (.inr hDge) (fun x c e => Nat.ne_of_lt (cellsLt x c (clm x c e)))
          (fun p hp => by have hp' : p ∈ X.pn ++ Kp := by simpa [blk] using hp
                          exact Nat.ne_of_lt (pinLt p hp'))
        refine ⟨m', hm, i + 1, τ8, ys ++ [z], us ++ [y], k + 1, H10, I11, T.keep _ _ _ t10 (fun b hb o e => hs11.extBut b o (Nat.ne_of_lt (fpLt b hb)) e), f10, rv5.append (.cons r10 .nil), ?_, d10, w10⟩
        rw [hD11]
        simp
  refine codeAny_compStart_list loop ?_
  exact T.self _ 0 _ _ _ (T.keep _ _ _ st2 (fun b _ o e => old b o e)) loop
theorem jr.tup {K:Fg}{H H':Hp}{a:Addr}{xs:List V} (e:jr H H') (h:SqT K H a xs):SqT K H' a xs:=by
 rcases h with (h | ⟨o,h⟩) | h
 ·exact .inl (.inl (e _ _ h))
 ·exact .inl (.inr ⟨o,e _ _ h⟩)
 ·exact .inr h
noncomputable def scr (ns:List Int):PyData:= .dict (ns.map fun n=>(.int n,.none))
def acD:Key->PyData
 | .inl i=> .int i
 | .inr t=> .str t
mutual
noncomputable def Rep (K:Fg) (H:Hp):PyData->V->Prop
 | .none,v=>v= .non
 | .bool b,v=>v= .bl b
 | .int i,v=>v= .int i
 | .str x,v=>v= .str x
 | .tuple ds,v=>∃ a xs,v= .ref a/\SqT K H a xs/\Reps K H ds xs
 | .list ds,v=>∃ a xs,v= .ref a/\H a=some (.lst xs)/\Reps K H ds xs
 | .dict kvs,v=>∃ a,v= .ref a/\((∃ ns:List Int,SqL K H a (List.map V.int ns)/\kvs=ns.map (fun n=>(PyData.int n,PyData.none))) ∨ (∃ ks ob,H a=some (.frz ob (.dK ks))/\RepD K H kvs ks) ∨ (∃ x:Str,kvs=[(.str x,.none)]/\PySem.W.nsIn K mainGlobals x=some (some (.ref a))) ∨ (∃ (x:Str) (C:Addr) (oe:Obj),kvs=[(.str x,.bool true)]/\H a=some (.frz oe (.own a))/\PySem.W.nsIn K mainGlobals x=some (some (.ref C))/\oe.cls= .ref C/\oe.dict=none/\∃ vs,oe.data= .fields vs) ∨ kvs=[(.bool true,.int (a:Int))])
noncomputable def Reps (K:Fg) (H:Hp):LP->List V->Prop
 | [],xs=>xs=[]
 | d::ds,xs=>∃ x r,xs=x::r/\Rep K H d x/\Reps K H ds r
noncomputable def RepD (K:Fg) (H:Hp):List (PyData × PyData)->List (Key × V)->Prop
 | [],_=>False
 | (.none,_)::r,ks=>RepM K H r ks
 | _::_,_=>False
noncomputable def RepM (K:Fg) (H:Hp):List (PyData × PyData)->List (Key × V)->Prop
 | [],ks=>ks=[]
 | (k,d)::r,ks=>∃ i x s,k=acD i/\ks=(i,x)::s/\Rep K H d x/\RepM K H r s
end
noncomputable def zH (kvs:List (PyData × PyData)):Bool:=kvs.all fun p=>match p with
 | (.int _,.none)=>true
 | _=>false
theorem adU (ns:List Int):zH (ns.map fun n=>(PyData.int n,PyData.none))=true:=by
 simp [zH]
theorem RepD.out {K:Fg}{H:Hp}:∀ {kvs:List (PyData × PyData)}{ks:List (Key × V)},RepD K H kvs ks->∃ c r,kvs=(.none,c)::r/\RepM K H r ks
 | [],_,h=>h.elim
 | (.none,c)::r,ks,h=>⟨c,r,rfl,h⟩
 | (.bool _,_)::_,_,h=>h.elim
 | (.int _,_)::_,_,h=>h.elim
 | (.str _,_)::_,_,h=>h.elim
 | (.list _,_)::_,_,h=>h.elim
 | (.tuple _,_)::_,_,h=>h.elim
 | (.dict _,_)::_,_,h=>h.elim
theorem Rep.scrOut {K:Fg}{H:Hp}{kvs:List (PyData × PyData)}{v:V} (h:Rep K H (.dict kvs) v) (hs:zH kvs=true):∃ a ns,v= .ref a/\SqL K H a (List.map V.int ns)/\kvs=ns.map (fun n=>(PyData.int n,PyData.none)):=by
 obtain ⟨a,h1,h2 | ⟨ks,ob,h2,h3⟩ | ⟨x,h2,_⟩ | ⟨x,_,_,h2,_⟩ | h2⟩:=h
 ·obtain ⟨ns,q1,q2⟩:=h2; exact ⟨a,ns,h1,q1,q2⟩
 ·obtain ⟨c,r,rfl,_⟩:=h3.out
  simp [zH] at hs
 ·subst h2; simp [zH] at hs
 ·subst h2; simp [zH] at hs
 ·subst h2; simp [zH] at hs
noncomputable def js (a:Addr):PyData:= .dict [(.bool true,.int (a:Int))]
noncomputable def atl (x:Str):PyData:= .dict [(.str x,.bool true)]
noncomputable def fnD (x:Str):PyData:= .dict [(.str x,.none)]
def j0 (H H':Hp):Prop:=∀ b o,H b=some o->(∀ φ,o ≠ .ext φ)->H' b=some o
theorem jr.e {H H':Hp} (s:jr H H'):j0 H H':=fun b o h _=>s b o h
theorem j0.refl (H:Hp):j0 H H:=fun _ _ h _=>h
theorem j0.trans {H H1 H2:Hp} (a:j0 H H1) (b:j0 H1 H2):j0 H H2:=fun c o h n=>b c o (a c o h n) n
theorem j0.tup {K:Fg}{H H':Hp}{a:Addr}{xs:List V} (e:j0 H H') (h:SqT K H a xs):SqT K H' a xs:=by
 rcases h with (h | ⟨o,h⟩) | h
 ·exact .inl (.inl (e _ _ h fun _ z=>nomatch z))
 ·exact .inl (.inr ⟨o,e _ _ h fun _ z=>nomatch z⟩)
 ·exact .inr h
theorem j0.sql {K:Fg}{H H':Hp}{a:Addr}{xs:List V} (e:j0 H H') (h:SqL K H a xs):SqL K H' a xs:=by
 rcases h with (h | ⟨o,h⟩) | h
 ·exact .inl (.inl (e _ _ h fun _ z=>nomatch z))
 ·exact .inl (.inr ⟨o,e _ _ h fun _ z=>nomatch z⟩)
 ·exact .inr h
section
variable {K:Fg}{H H':Hp}
mutual
theorem Rep.mono (e:jr H H'):∀ (d:PyData) (v:V),Rep K H d v->Rep K H' d v
 | .none,v,h=>h
 | .bool _,v,h=>h
 | .int _,v,h=>h
 | .str _,v,h=>h
 | .tuple ds,v,⟨a,xs,h1,h2,h3⟩=>⟨a,xs,h1,jr.tup e h2,Reps.mono e ds xs h3⟩
 | .list ds,v,⟨a,xs,h1,h2,h3⟩=>⟨a,xs,h1,e _ _ h2,Reps.mono e ds xs h3⟩
 | .dict kvs,v,⟨a,h1,h2⟩=>⟨a,h1,h2.imp (fun ⟨ns,q1,q2⟩=>⟨ns,e.seq q1,q2⟩) fun z=>z.imp (fun ⟨ks,ob,q1,q2⟩=>⟨ks,ob,e _ _ q1,RepD.mono e kvs ks q2⟩) fun y=>y.imp id fun z=>z.imp (fun ⟨x,C,oe,q1,q2,q3⟩=>⟨x,C,oe,q1,e _ _ q2,q3⟩) id⟩
theorem Reps.mono (e:jr H H'):∀ (ds:LP) (xs:List V),Reps K H ds xs->Reps K H' ds xs
 | [],xs,h=>h
 | d::ds,xs,⟨x,r,h1,h2,h3⟩=>⟨x,r,h1,Rep.mono e d x h2,Reps.mono e ds r h3⟩
theorem RepD.mono (e:jr H H'):∀ (kvs:List (PyData × PyData)) (ks:List (Key × V)),RepD K H kvs ks->RepD K H' kvs ks
 | [],_,h=>h
 | (.none,c)::r,ks,h=>RepM.mono e r ks h
 | (.bool _,_)::_,_,h=>h
 | (.int _,_)::_,_,h=>h
 | (.str _,_)::_,_,h=>h
 | (.list _,_)::_,_,h=>h
 | (.tuple _,_)::_,_,h=>h
 | (.dict _,_)::_,_,h=>h
theorem RepM.mono (e:jr H H'):∀ (kvs:List (PyData × PyData)) (ks:List (Key × V)),RepM K H kvs ks->RepM K H' kvs ks
 | [],_,h=>h
 | (k,d)::r,ks,⟨i,x,s,h1,h2,h3,h4⟩=>⟨i,x,s,h1,h2,Rep.mono e d x h3,RepM.mono e r s h4⟩
end
mutual
theorem Rep.monoE (e:j0 H H'):∀ (d:PyData) (v:V),Rep K H d v->Rep K H' d v
 | .none,v,h=>h
 | .bool _,v,h=>h
 | .int _,v,h=>h
 | .str _,v,h=>h
 | .tuple ds,v,⟨a,xs,h1,h2,h3⟩=>⟨a,xs,h1,j0.tup e h2,Reps.monoE e ds xs h3⟩
 | .list ds,v,⟨a,xs,h1,h2,h3⟩=>⟨a,xs,h1,e _ _ h2 (fun _ z=>nomatch z),Reps.monoE e ds xs h3⟩
 | .dict kvs,v,⟨a,h1,h2⟩=>⟨a,h1,h2.imp (fun ⟨ns,q1,q2⟩=>⟨ns,j0.sql e q1,q2⟩) fun z=>z.imp (fun ⟨ks,ob,q1,q2⟩=>⟨ks,ob,e _ _ q1 (fun _ z=>nomatch z),RepD.monoE e kvs ks q2⟩) fun y=>y.imp id fun z=>z.imp (fun ⟨x,C,oe,q1,q2,q3⟩=>⟨x,C,oe,q1,e _ _ q2 (fun _ z=>nomatch z),q3⟩) id⟩
theorem Reps.monoE (e:j0 H H'):∀ (ds:LP) (xs:List V),Reps K H ds xs->Reps K H' ds xs
 | [],xs,h=>h
 | d::ds,xs,⟨x,r,h1,h2,h3⟩=>⟨x,r,h1,Rep.monoE e d x h2,Reps.monoE e ds r h3⟩
theorem RepD.monoE (e:j0 H H'):∀ (kvs:List (PyData × PyData)) (ks:List (Key × V)),RepD K H kvs ks->RepD K H' kvs ks
 | [],_,h=>h
 | (.none,c)::r,ks,h=>RepM.monoE e r ks h
 | (.bool _,_)::_,_,h=>h
 | (.int _,_)::_,_,h=>h
 | (.str _,_)::_,_,h=>h
 | (.list _,_)::_,_,h=>h
 | (.tuple _,_)::_,_,h=>h
 | (.dict _,_)::_,_,h=>h
theorem RepM.monoE (e:j0 H H'):∀ (kvs:List (PyData × PyData)) (ks:List (Key × V)),RepM K H kvs ks->RepM K H' kvs ks
 | [],_,h=>h
 | (k,d)::r,ks,⟨i,x,s,h1,h2,h3,h4⟩=>⟨i,x,s,h1,h2,Rep.monoE e d x h3,RepM.monoE e r s h4⟩
end
end
noncomputable def alO:HO->Bool
 | .lst _=>true
 | .tup _=>true
 | .frz _ _=>true
 | _=>false
def jy (H H':Hp):Prop:=∀ b o,H b=some o->alO o=true->H' b=some o
section
variable {K:Fg}{H H':Hp}
theorem jy.tup {a:Addr}{xs:List V} (e:jy H H') (h:SqT K H a xs):SqT K H' a xs:=by
 rcases h with (h | ⟨o,h⟩) | h
 ·exact .inl (.inl (e _ _ h rfl))
 ·exact .inl (.inr ⟨o,e _ _ h rfl⟩)
 ·exact .inr h
theorem jy.sql {a:Addr}{xs:List V} (e:jy H H') (h:SqL K H a xs):SqL K H' a xs:=by
 rcases h with (h | ⟨o,h⟩) | h
 ·exact .inl (.inl (e _ _ h rfl))
 ·exact .inl (.inr ⟨o,e _ _ h rfl⟩)
 ·exact .inr h
mutual
theorem Rep.monoA (e:jy H H'):∀ (d:PyData) (v:V),Rep K H d v->Rep K H' d v
 | .none,v,h=>h
 | .bool _,v,h=>h
 | .int _,v,h=>h
 | .str _,v,h=>h
 | .tuple ds,v,⟨a,xs,h1,h2,h3⟩=>⟨a,xs,h1,jy.tup e h2,Reps.monoA e ds xs h3⟩
 | .list ds,v,⟨a,xs,h1,h2,h3⟩=>⟨a,xs,h1,e _ _ h2 rfl,Reps.monoA e ds xs h3⟩
 | .dict kvs,v,⟨a,h1,h2⟩=>⟨a,h1,h2.imp (fun ⟨ns,q1,q2⟩=>⟨ns,jy.sql e q1,q2⟩) fun z=>z.imp (fun ⟨ks,ob,q1,q2⟩=>⟨ks,ob,e _ _ q1 rfl,RepD.monoA e kvs ks q2⟩) fun y=>y.imp id fun z=>z.imp (fun ⟨x,C,oe,q1,q2,q3⟩=>⟨x,C,oe,q1,e _ _ q2 rfl,q3⟩) id⟩
theorem Reps.monoA (e:jy H H'):∀ (ds:LP) (xs:List V),Reps K H ds xs->Reps K H' ds xs
 | [],xs,h=>h
 | d::ds,xs,⟨x,r,h1,h2,h3⟩=>⟨x,r,h1,Rep.monoA e d x h2,Reps.monoA e ds r h3⟩
theorem RepD.monoA (e:jy H H'):∀ (kvs:List (PyData × PyData)) (ks:List (Key × V)),RepD K H kvs ks->RepD K H' kvs ks
 | [],_,h=>h
 | (.none,c)::r,ks,h=>RepM.monoA e r ks h
 | (.bool _,_)::_,_,h=>h
 | (.int _,_)::_,_,h=>h
 | (.str _,_)::_,_,h=>h
 | (.list _,_)::_,_,h=>h
 | (.tuple _,_)::_,_,h=>h
 | (.dict _,_)::_,_,h=>h
theorem RepM.monoA (e:jy H H'):∀ (kvs:List (PyData × PyData)) (ks:List (Key × V)),RepM K H kvs ks->RepM K H' kvs ks
 | [],_,h=>h
 | (k,d)::r,ks,⟨i,x,s,h1,h2,h3,h4⟩=>⟨i,x,s,h1,h2,Rep.monoA e d x h3,RepM.monoA e r s h4⟩
end
end
theorem jr.a {H H':Hp} (s:jr H H'):jy H H':=fun b o h _=>s b o h
theorem j0.a {H H':Hp} (s:j0 H H'):jy H H':=fun b o h q=>s b o h fun φ z=>by subst z; cases q
theorem jy.refl (H:Hp):jy H H:=fun _ _ h _=>h
theorem jy.trans {H H1 H2:Hp} (a:jy H H1) (b:jy H1 H2):jy H H2:=fun c o h n=>b c o (a c o h n) n
section
variable {K:Fg}{H H':Hp}
theorem Rep.cel (a:Addr):Rep K H (js a) (.ref a):=⟨a,rfl,.inr (.inr (.inr (.inr rfl)))⟩
theorem Rep.celOut {a:Addr}{v:V} (h:Rep K H (js a) v):v= .ref a:=by
 obtain ⟨b,h1,⟨ns,_,h2⟩ | ⟨ks,ob,h2,h3⟩ | ⟨x,h2,_⟩ | ⟨x,_,_,h2,_⟩ | h2⟩:=h
 ·cases ns with
  | nil=>cases h2
  | cons n ns=>simp at h2
 ·exact h3.elim
 ·simp at h2
 ·simp at h2
 ·have z:(a:Int)=(b:Int):=by simpa using h2
  rw [h1,Int.ofNat.inj z]
theorem Reps.length:∀ {ds:LP}{xs:List V},Reps K H ds xs->xs.length=ds.length
 | [],xs,h=>by cases h; rfl
 | d::ds,xs,⟨x,r,h1,h2,h3⟩=>by subst h1; simp [Reps.length h3]
theorem Reps.get:∀ {ds:LP}{xs:List V}{i:Nat}{d:PyData},Reps K H ds xs->ds[i]?=some d->∃ x,xs[i]?=some x/\Rep K H d x
 | [],xs,i,d,h,e=>by simp at e
 | c::ds,xs,0,d,⟨x,r,h1,h2,h3⟩,e=>by subst h1; simp at e; subst e; exact ⟨x,rfl,h2⟩
 | c::ds,xs,i+1,d,⟨x,r,h1,h2,h3⟩,e=>by
  subst h1
  obtain ⟨y,e1,e2⟩:=Reps.get (i:=i) h3 (by simpa using e)
  exact ⟨y,by simpa using e1,e2⟩
theorem Reps.append:∀ {ds es:LP}{xs ys:List V},Reps K H ds xs->Reps K H es ys->Reps K H (ds++es) (xs++ys)
 | [],es,xs,ys,h,g=>by cases h; exact g
 | d::ds,es,xs,ys,⟨x,r,h1,h2,h3⟩,g=>by subst h1; exact ⟨x,r++ys,rfl,h2,Reps.append h3 g⟩
theorem Reps.take:∀ {ds:LP}{xs:List V} (n:Nat),Reps K H ds xs->Reps K H (ds.take n) (xs.take n)
 | ds,xs,0,h=>by simp; rfl
 | [],xs,n+1,h=>by cases h; rfl
 | d::ds,xs,n+1,⟨x,r,h1,h2,h3⟩=>by subst h1; exact ⟨x,_,rfl,h2,Reps.take n h3⟩
theorem Reps.drop:∀ {ds:LP}{xs:List V} (n:Nat),Reps K H ds xs->Reps K H (ds.drop n) (xs.drop n)
 | ds,xs,0,h=>by simpa using h
 | [],xs,n+1,h=>by cases h; rfl
 | d::ds,xs,n+1,⟨x,r,h1,h2,h3⟩=>by subst h1; simpa using Reps.drop n h3
end
section
variable {X:Cx}{Kp:List (Addr × Obj)}{σ:St}{H:Hp}{s:Shared}
mutual
theorem qY (I:Inv X Kp σ H s):∀ (d:PyData) (v:V) (u:Value),Rep X.K H d v->jV v u->d.canLay0=true->∃ as,Reads s.heap u d as
 | .none,v,u,h,r,_=>by cases h; cases r; exact ⟨_,.none⟩
 | .bool b,v,u,h,r,_=>by cases h; cases r; exact ⟨_,.bool b⟩
 | .int i,v,u,h,r,_=>by cases h; obtain ⟨t,rfl⟩:=r; exact ⟨_,.int i t⟩
 | .str x,v,u,h,r,_=>by cases h; obtain ⟨t,rfl⟩:=r; exact ⟨_,.str x t⟩
 | .tuple ds,v,u,⟨a,xs,h1,h2,h3⟩,r,hc=>by
  subst h1; cases r
  obtain ⟨its,rv,⟨o,e1,e2,n,e3⟩,_⟩:=I.tuple h2
  obtain ⟨as,ra⟩:=readsAll_of I ds xs its h3 rv (by simpa [PyData.canLay0] using hc)
  exact ⟨as,.tuple e1 e2 e3 (by simpa using ra)⟩
 | .list ds,v,u,⟨a,xs,h1,h2,h3⟩,r,hc=>by
  subst h1; cases r
  obtain ⟨its,rv,⟨o,n,e1,e2,e3,e4⟩,_⟩:=I.list (SqL.of h2)
  obtain ⟨as,ra⟩:=readsAll_of I ds xs its h3 rv (by simpa [PyData.canLay0] using hc)
  exact ⟨a::as,.list e1 e2 e4 (by simpa using ra)⟩
 | .dict kvs,v,u,h,r,hc=>by simp [PyData.canLay0] at hc
theorem readsAll_of (I:Inv X Kp σ H s):∀ (ds:LP) (xs:List V) (us:List Value),Reps X.K H ds xs->jJ xs us->PyData.canLayAll0 ds=true->∃ as,ReadsAll s.heap us ds as
 | [],xs,us,h,r,_=>by cases h; cases r; exact ⟨_,.nil⟩
 | d::ds,xs,us,⟨x,q,h1,h2,h3⟩,r,hc=>by
  subst h1
  cases r with
  | cons r1 r2=>
   have hc':d.canLay0=true/\PyData.canLayAll0 ds=true:=by simpa [PyData.canLayAll0] using hc
   obtain ⟨as,ra⟩:=qY I d x _ h2 r1 hc'.1
   obtain ⟨bs,rb⟩:=readsAll_of I ds q _ h3 r2 hc'.2
   exact ⟨_,.cons ra rb⟩
end
end
noncomputable abbrev Rho:=List (OP)
abbrev RP:=Rho->OP
structure EnvR (K:Fg) (H:Hp) (ρ:Rho) (σ:St):Prop where
 len:ρ.length=σ.length
 at':∀ (i:Nat) (d:PyData),ρ[i]?=some (some d)->∃ v,σ[i]?=some (some v)/\Rep K H d v
theorem EnvR.mono {K:Fg}{H H':Hp}{ρ:Rho}{σ:St} (e:EnvR K H ρ σ) (h:jr H H'):EnvR K H' ρ σ:=
 ⟨e.len,fun i d q=>let ⟨v,e1,e2⟩:=e.at' i d q; ⟨v,e1,Rep.mono h d v e2⟩⟩
theorem EnvR.set {K:Fg}{H:Hp}{ρ:Rho}{σ:St} (e:EnvR K H ρ σ) {i:Nat}{d:PyData}{v:V} (r:Rep K H d v):EnvR K H (ρ.set i (some d)) (σ.set i (some v)):=by
 refine ⟨by simp [e.len],fun j c q=>?_⟩
 by_cases hj:i=j
 ·subst hj
  rw [List.getElem?_set] at q ⊢
  simp only [zzM] at q ⊢
  by_cases hl:i < ρ.length
  ·rw [if_pos hl] at q
   rw [if_pos (by rw [←e.len]; exact hl)]
   cases q
   exact ⟨v,rfl,r⟩
  ·rw [if_neg hl] at q; cases q
 ·rw [List.getElem?_set_ne hj] at q ⊢
  exact e.at' j c q
def lkp (i:Nat) (ρ:Rho):OP:=(ρ[i]?).join
theorem qJ {i:Nat}{ρ:Rho}{d:PyData} (h:lkp i ρ=some d):ρ[i]?=some (some d):=by
 unfold lkp at h
 cases e:ρ[i]? with
 | none=>rw [e] at h; cases h
 | some o=>rw [e] at h; cases o with
  | none=>cases h
  | some c=>cases h; rfl
def tD (K:Fg) (f:RP):TE:=fun σ H Q=>∃ ρ d,EnvR K H ρ σ/\f ρ=some d/\∀ v H',jr H H'->Rep K H' d v->Q v H'
@[irreducible] def PD (X:Cx) (e:Expr) (f:RP):Prop:=PE X e (tD X.K f)
def tDT (K:Fg) (f:Rho->Option Bool):TT:=fun σ H Q=>∃ ρ b,EnvR K H ρ σ/\f ρ=some b/\∀ H',jr H H'->Q b H'
@[irreducible] def PTD (X:Cx) (e:Expr) (f:Rho->Option Bool):Prop:=PT X e (tDT X.K f)
def tDA (K:Fg) (f:Rho->Option (LP)):TA:=fun σ H Q=>∃ ρ ds,EnvR K H ρ σ/\f ρ=some ds/\∀ vs H',jr H H'->Reps K H' ds vs->Q vs H'
@[irreducible] def PAD (X:Cx) (es:List Expr) (f:Rho->Option (LP)):Prop:=PA X es (tDA X.K f)
inductive Out where
 | nx (ρ:Rho) | rt (d:PyData) | bk (ρ:Rho) | ct (ρ:Rho)
abbrev RO:=Rho->Option Out
def ags (K:Fg) (D:Ends) (H:Hp):Out->Prop
 | .nx ρ=>∀ σ H',jr H H'->EnvR K H' ρ σ->D.nx σ H'
 | .rt d=>∀ v H',jr H H'->Rep K H' d v->D.rt v H'
 | .bk ρ=>∀ σ H',jr H H'->EnvR K H' ρ σ->D.bk σ H'
 | .ct ρ=>∀ σ H',jr H H'->EnvR K H' ρ σ->D.ct σ H'
theorem ags.mono {K:Fg}{D:Ends}{H H':Hp}{o:Out} (h:ags K D H o) (e:jr H H'):ags K D H' o:=by
 cases o with
 | nx ρ=>exact fun σ H2 e2 r=>h σ H2 (e.trans e2) r
 | rt d=>exact fun v H2 e2 r=>h v H2 (e.trans e2) r
 | bk ρ=>exact fun σ H2 e2 r=>h σ H2 (e.trans e2) r
 | ct ρ=>exact fun σ H2 e2 r=>h σ H2 (e.trans e2) r
def tDS (K:Fg) (F:RO):TS:=fun D σ H=>∃ ρ o,EnvR K H ρ σ/\F ρ=some o/\ags K D H o
@[irreducible] def PSD (X:Cx) (st:Stmt) (F:RO):Prop:=PS X st (tDS X.K F)
@[irreducible] def abL (X:Cx) (st:List Stmt) (F:RO):Prop:=PSs X st (tDS X.K F)
def tDG (K:Fg) (ga:PyData->Rho->Option Rho):TG:=fun v σ H Q=>∃ ρ d ρ',EnvR K H ρ σ/\Rep K H d v/\ga d ρ=some ρ'/\∀ σ' H',jr H H'->EnvR K H' ρ' σ'->Q σ' H'
@[irreducible] def PGD (X:Cx) (tg:Expr) (ga:PyData->Rho->Option Rho):Prop:=PG X tg (tDG X.K ga)
section
variable {X:Cx}{e a b c:Expr}{es:List Expr}{fa fb fc:RP}{pos:Pos}
theorem PE.imp {t t':TE} (h:PE X e t) (hi:∀ σ H Q,t' σ H Q->t σ H Q):PE X e t':=fun Kp s σ H Q I q=>h Kp s σ H Q I (hi σ H Q q)
theorem PT.imp {t t':TT} (h:PT X e t) (hi:∀ σ H Q,t' σ H Q->t σ H Q):PT X e t':=fun Kp s σ H Q I q=>h Kp s σ H Q I (hi σ H Q q)
theorem PA.imp {t t':TA} (h:PA X es t) (hi:∀ σ H Q,t' σ H Q->t σ H Q):PA X es t':=fun pos Kp s σ H Q I q=>h pos Kp s σ H Q I (hi σ H Q q)
theorem PS.imp {st:Stmt}{t t':TS} (h:PS X st t) (hi:∀ D σ H,t' D σ H->t D σ H):PS X st t':=fun Kp s σ H D I q=>h Kp s σ H D I (hi D σ H q)
theorem PSs.imp {st:List Stmt}{t t':TS} (h:PSs X st t) (hi:∀ D σ H,t' D σ H->t D σ H):PSs X st t':=fun Kp s σ H D I q=>h Kp s σ H D I (hi D σ H q)
theorem PG.imp {t t':TG} (h:PG X e t) (hi:∀ v σ H Q,t' v σ H Q->t v σ H Q):PG X e t':=fun Kp s σ H v u Q I r q=>h Kp s σ H v u Q I r (hi v σ H Q q)
theorem ja (i:Nat) {x:Str}{pos:Pos} (hN:X.N[i]?=some x:=by rfl) (hv:Vis X.env.scope x:=by first | exact Or.inl rfl | exact Or.inr (Or.inl rfl) | exact Or.inr (Or.inr rfl)) (hd:(x == ("__debug__":Str))=false:=by decide)
  (hcd:(x == ("__classdict__":Str))=false:=by decide):PD X (.Name x pos) (lkp i):=by
 with_unfolding_all exact (PE.imp (JB hN hv hd hcd) fun σ H Q ⟨ρ,d,e,h,k⟩=>let ⟨v,e1,e2⟩:=e.at' i d (qJ h); ⟨v,e1,k v H (jr.refl H) e2⟩)
def cst (d:PyData) (_:Rho):OP:=some d
theorem jh {i j pos}:PD X (.Constant (.int i) j pos) (cst (.int i)):=by
 with_unfolding_all exact (PE.imp aqb fun σ H Q ⟨ρ,d,e,h,k⟩=>by cases h; exact k _ H (jr.refl H) rfl)
theorem Jn {i j pos}:PD X (.Constant (.bool i) j pos) (cst (.bool i)):=by
 with_unfolding_all exact (PE.imp arF fun σ H Q ⟨ρ,d,e,h,k⟩=>by cases h; exact k _ H (jr.refl H) rfl)
theorem aqC {j pos}:PD X (.Constant .none j pos) (cst .none):=by
 with_unfolding_all exact (PE.imp alk fun σ H Q ⟨ρ,d,e,h,k⟩=>by cases h; exact k _ H (jr.refl H) rfl)
theorem zM {i j pos}:PD X (.Constant (.str i) j pos) (cst (.str i)):=by
 with_unfolding_all exact (PE.imp alm fun σ H Q ⟨ρ,d,e,h,k⟩=>by cases h; exact k _ H (jr.refl H) rfl)
theorem aoi {x:Str}{v:V}{u:Value}{d:PyData} (hg:Gl X x) (hm:X.mg x=some u) (r:jV v u) (hr:∀ H,Rep X.K H d v) (hd:(x == ("__debug__":Str))=false:=by decide):PD X (.Name x pos) (cst d):=by
 with_unfolding_all exact (PE.imp (aeE hg hm r hd) fun σ H Q ⟨ρ,d',e,h,k⟩=>by cases h; exact k _ H (jr.refl H) (hr H))
noncomputable def op2 (g:PyData->PyData->OP) (fa fb:RP):RP:=fun ρ=>(fa ρ).bind fun x=>(fb ρ).bind fun y=>g x y
def OpD (X:Cx) (f:Value->Value->Sem Value) (g:PyData->PyData->OP):Prop:=
 ∃ r,OpR X f r/\∀ p q d x y H Q,g p q=some d->Rep X.K H p x->Rep X.K H q y->(∀ v H',jr H H'->Rep X.K H' d v->Q v H')->r x y H Q
theorem alP {g:PyData->PyData->OP}{K:Fg}{r:R2} (hr:∀ p q d x y H Q,g p q=some d->Rep K H p x->Rep K H q y->(∀ v H',jr H H'->Rep K H' d v->Q v H')->r x y H Q)
  {σ:St} {H:Hp} {Q:VK} (h:tD K (op2 g fa fb) σ H Q):tOp r (tD K fa) (tD K fb) σ H Q:=by
 obtain ⟨ρ,d,e,h,k⟩:=h
 unfold op2 at h
 cases ha:fa ρ with
 | none=>rw [ha] at h; cases h
 | some p=>
  rw [ha] at h
  cases hb:fb ρ with
  | none=>rw [hb] at h; cases h
  | some q=>
   rw [hb] at h
   refine ⟨ρ,p,e,ha,fun x H1 s1 r1=>⟨ρ,q,e.mono s1,hb,fun y H2 s2 r2=>?_⟩⟩
   exact hr p q d x y H2 Q h (Rep.mono s2 p x r1) r2 fun v H' s3 r3=>k v H' (s1.trans (s2.trans s3)) r3
theorem jw {op:Operator}{g:PyData->PyData->OP} (ho:OpD X (binaryOp op) g) (ha:PD X a fa) (hb:PD X b fb):PD X (.BinOp a op b pos) (op2 g fa fb):=by
 with_unfolding_all
  obtain ⟨r,h1,h2⟩:=ho
  exact PE.imp (apE h1 ha hb) fun σ H Q h=>alP h2 h
theorem alQ {op:CmpOp}{g:PyData->PyData->OP} (ho:OpD X (compareOp op) g) (ha:PD X a fa) (hb:PD X b fb) (hm:behindInMarks op b=false:=by first | exact acx _ | with_unfolding_all rfl):PD X (.Compare a [op] [b] pos) (op2 g fa fb):=by
 with_unfolding_all
  obtain ⟨r,h1,h2⟩:=ho
  exact PE.imp (aiY h1 ha hb hm) fun σ H Q h=>alP h2 h
noncomputable def asB:PyData->Option Bool
 | .bool b=>some b
 | _=>none
def tst (f:RP):Rho->Option Bool:=fun ρ=>(f ρ).bind asB
theorem zX {d:PyData}{b:Bool} (h:asB d=some b):d= .bool b:=by
 cases d <;> simp [asB] at h
 rw [h]
theorem jY {op:CmpOp}{g:PyData->PyData->OP} (ho:OpD X (compareOp op) g) (ha:PD X a fa) (hb:PD X b fb) (hm:behindInMarks op b=false:=by first | exact acx _ | with_unfolding_all rfl):PTD X (.Compare a [op] [b] pos) (tst (op2 g fa fb)):=by
 with_unfolding_all
  obtain ⟨r,h1,h2⟩:=ho
  refine PT.imp (aiZ h1 ha hb hm) fun σ H Q ⟨ρ,t,e,h,k⟩=>?_
  cases hd:op2 g fa fb ρ with
  | none=>simp [tst,hd] at h
  | some d=>
   have ht:d= .bool t:=zX (by simpa [tst,hd] using h)
   subst ht
   exact alP h2 ⟨ρ,_,e,hd,fun v H' s r=>⟨t,r,k H' s⟩⟩
theorem qh (h:PD X e fa) (he:∀ whole,isTrue e X.env whole=(do let v ←whole; standAt e.pos; holding [v] (truthy v)):=by intro _; rfl):PTD X e (tst fa):=by
 with_unfolding_all
  refine PT.imp (aqd h he) fun σ H Q ⟨ρ,t,e,h,k⟩=>?_
  cases hd:fa ρ with
  | none=>simp [tst,hd] at h
  | some d=>
   have ht:d= .bool t:=zX (by simpa [tst,hd] using h)
   subst ht
   exact ⟨ρ,_,e,hd,fun v H' s r=>⟨t,r,k H' s⟩⟩
variable {ta tb:Rho->Option Bool}{j8:List Expr}
@[irreducible] def PWD (X:Cx) (e:Expr) (f:Rho->Option Bool):Prop:=PW X e (tDT X.K f)
theorem PW.imp {t t':TT} (h:PW X e t) (hi:∀ σ H Q,t' σ H Q->t σ H Q):PW X e t':=fun wh Kp s σ H Q I q=>h wh Kp s σ H Q I (hi σ H Q q)
def adx (ta tb:Rho->Option Bool):Rho->Option Bool:=fun ρ=>(ta ρ).bind fun x=>if x=true then tb ρ else some false
def orB (ta tb:Rho->Option Bool):Rho->Option Bool:=fun ρ=>(ta ρ).bind fun x=>if x=true then some true else tb ρ
def zA (ta:Rho->Option Bool):Rho->Option Bool:=fun ρ=>(ta ρ).map (!·)
theorem alR (ha:PTD X a ta):PWD X (.BoolOp .And [a] pos) ta:=by
 with_unfolding_all exact (anV ha)
theorem Qr (ha:PTD X a ta):PWD X (.BoolOp .Or [a] pos) ta:=by
 with_unfolding_all exact (alo ha)
theorem aoj (ha:PTD X a ta) (hb:PWD X (.BoolOp .And (b::j8) pos) tb):PWD X (.BoolOp .And (a::b::j8) pos) (adx ta tb):=by
 with_unfolding_all
  refine PW.imp (aqe ha hb) fun σ H Q ⟨ρ,t,e,h,k⟩=>?_
  cases h1:ta ρ with
  | none=>simp [adx,h1] at h
  | some x=>
   refine ⟨ρ,x,e,h1,fun H' s=>?_⟩
   cases x with
   | true=>rw [if_pos rfl]; exact ⟨ρ,t,e.mono s,by simpa [adx,h1] using h,fun H2 s2=>k H2 (s.trans s2)⟩
   | false=>
    rw [if_neg Bool.false_ne_true]
    have:t=false:=by simpa [adx,h1] using h.symm
    subst this
    exact k H' s
theorem Z0 (ha:PTD X a ta) (hb:PWD X (.BoolOp .Or (b::j8) pos) tb):PWD X (.BoolOp .Or (a::b::j8) pos) (orB ta tb):=by
 with_unfolding_all
  refine PW.imp (apB ha hb) fun σ H Q ⟨ρ,t,e,h,k⟩=>?_
  cases h1:ta ρ with
  | none=>simp [orB,h1] at h
  | some x=>
   refine ⟨ρ,x,e,h1,fun H' s=>?_⟩
   cases x with
   | false=>rw [if_neg Bool.false_ne_true]; exact ⟨ρ,t,e.mono s,by simpa [orB,h1] using h,fun H2 s2=>k H2 (s.trans s2)⟩
   | true=>
    rw [if_pos rfl]
    have:t=true:=by simpa [orB,h1] using h.symm
    subst this
    exact k H' s
theorem zY {op:BoolOp}{l:List Expr} (h:PWD X (.BoolOp op l pos) ta):PTD X (.BoolOp op l pos) ta:=by
 with_unfolding_all exact (h.pt)
theorem j9 (ha:PTD X a ta):PTD X (.UnaryOp .Not a pos) (zA ta):=by
 with_unfolding_all
  refine PT.imp (alp ha) fun σ H Q ⟨ρ,t,e,h,k⟩=>?_
  cases h1:ta ρ with
  | none=>simp [zA,h1] at h
  | some x=>
   have:(!x)=t:=by simpa [zA,h1] using h
   subst this
   exact ⟨ρ,x,e,h1,fun H' s=>k H' s⟩
def ifD (tc:Rho->Option Bool) (fa fb:RP):RP:=fun ρ=>(tc ρ).bind fun x=>if x=true then fa ρ else fb ρ
theorem apL {tc:Rho->Option Bool} (hc:PTD X c tc) (ha:PD X a fa) (hb:PD X b fb):PD X (.IfExp c a b pos) (ifD tc fa fb):=by
 with_unfolding_all
  refine PE.imp (als hc ha hb) fun σ H Q ⟨ρ,d,e,h,k⟩=>?_
  cases h1:tc ρ with
  | none=>simp [ifD,h1] at h
  | some x=>
   refine ⟨ρ,x,e,h1,fun H' s=>?_⟩
   cases x with
   | true=>rw [if_pos rfl]; exact ⟨ρ,d,e.mono s,by simpa [ifD,h1] using h,fun v H2 s2=>k v H2 (s.trans s2)⟩
   | false=>rw [if_neg Bool.false_ne_true]; exact ⟨ρ,d,e.mono s,by simpa [ifD,h1] using h,fun v H2 s2=>k v H2 (s.trans s2)⟩
def jH (_:Rho):Option (LP):=some []
def jt (fa:RP) (fr:Rho->Option (LP)):Rho->Option (LP):=fun ρ=>(fa ρ).bind fun x=>(fr ρ).map fun r=>x::r
theorem jd:PAD X [] jH:=by
 with_unfolding_all exact (PA.imp zw fun σ H Q ⟨ρ,d,e,h,k⟩=>by cases h; exact k [] H (jr.refl H) rfl)
theorem jb {fr:Rho->Option (LP)} (ha:PD X e fa) (hr:PAD X es fr) (hs:starEach (e::es) X.env=(false,eval e X.env)::starEach es X.env:=by rfl):PAD X (e::es) (jt fa fr):=by
 with_unfolding_all
  refine PA.imp (qD ha hr hs) fun σ H Q ⟨ρ,ds,en,h,k⟩=>?_
  cases h1:fa ρ with
  | none=>simp [jt,h1] at h
  | some x=>
   cases h2:fr ρ with
   | none=>simp [jt,h1,h2] at h
   | some r=>
    have:x::r=ds:=by simpa [jt,h1,h2] using h
    subst this
    exact ⟨ρ,x,en,h1,fun v H1 s1 r1=>⟨ρ,r,en.mono s1,h2,fun vs H2 s2 r2=>k _ H2 (s1.trans s2) ⟨v,vs,rfl,Rep.mono s2 x v r1,r2⟩⟩⟩
noncomputable def few (ds:LP):Bool:=decide (ds.length<1000000)
theorem aa4 {n:Nat} (h:n<1000000):n<=sizeLine:=Nat.le_of_lt (Nat.lt_of_lt_of_le h (by rw [sizeLine_eq]; decide))
theorem jM {H:Hp}{p:Addr}{o:HO} (hp:H p=none):jr H (upd H p o):=fun b u h=>by rw [jq (qQ h hp)]; exact h
def Z1 (fr:Rho->Option (LP)):RP:=fun ρ=>(fr ρ).bind fun ds=>if few ds=true then some (.tuple ds) else none
def Je (fr:Rho->Option (LP)):RP:=fun ρ=>(fr ρ).bind fun ds=>if few ds=true then some (.list ds) else none
theorem Qs {x1}{fr:Rho->Option (LP)} (h:PAD X es fr):PD X (.Tuple es x1 pos) (Z1 fr):=by
 with_unfolding_all
  refine PE.imp (ahG h) fun σ H Q ⟨ρ,d,e,h,k⟩=>?_
  cases h1:fr ρ with
  | none=>simp [Z1,h1] at h
  | some ds=>
   by_cases hf:few ds=true
   ·have:PyData.tuple ds=d:=by simpa [Z1,h1,hf] using h
    subst this
    refine ⟨ρ,ds,e,h1,fun vs H1 s1 r1=>⟨aa4 (by rw [r1.length]; simpa [few] using hf),fun p hp=>k _ _ (s1.trans (jM hp)) ⟨p,vs,rfl,SqT.of jn,Reps.mono (jM hp) _ _ r1⟩⟩⟩
   ·simp [Z1,h1,hf] at h
theorem Qt {fr:Rho->Option (LP)} (h:PAD X es fr):PD X (.List es pos) (Je fr):=by
 with_unfolding_all
  refine PE.imp (ahH h) fun σ H Q ⟨ρ,d,e,h,k⟩=>?_
  cases h1:fr ρ with
  | none=>simp [Je,h1] at h
  | some ds=>
   by_cases hf:few ds=true
   ·have:PyData.list ds=d:=by simpa [Je,h1,hf] using h
    subst this
    refine ⟨ρ,ds,e,h1,fun vs H1 s1 r1=>⟨aa4 (by rw [r1.length]; simpa [few] using hf),fun p hp=>k _ _ (s1.trans (jM hp)) ⟨p,vs,rfl,jn,Reps.mono (jM hp) _ _ r1⟩⟩⟩
   ·simp [Je,h1,hf] at h
end
end BX
end
section
namespace BX
open PySem PySem.Spec L2
open PyProof.Rows hiding St
section
variable {X:Cx}{e a b c tg src:Expr}{es:List Expr}{st:Stmt}{sts j8:List Stmt}{fa fb fc:RP}{F G:RO}{pos:Pos}
noncomputable def qG (fa:RP):RO:=fun ρ=>(fa ρ).map Out.rt
theorem jz (h:PD X e fa):PSD X (.Return (some e) pos) (qG fa):=by
 with_unfolding_all
  refine PS.imp (aeH h) fun D σ H ⟨ρ,o,en,q,k⟩=>?_
  cases h1:fa ρ with
  | none=>simp [qG,h1] at q
  | some d=>
   have:Out.rt d=o:=by simpa [qG,h1] using q
   subst this
   exact ⟨ρ,d,en,h1,k⟩
def ifS (tc:Rho->Option Bool) (F G:RO):RO:=fun ρ=>(tc ρ).bind fun x=>if x=true then F ρ else G ρ
theorem qt {l r:List Stmt}{tc:Rho->Option Bool} (hc:PTD X c tc) (hl:abL X l F) (hr:abL X r G):PSD X (.If c l r pos) (ifS tc F G):=by
 with_unfolding_all
  refine PS.imp (apC hc hl hr) fun D σ H ⟨ρ,o,en,q,k⟩=>?_
  cases h1:tc ρ with
  | none=>simp [ifS,h1] at q
  | some x=>
   refine ⟨ρ,x,en,h1,fun H1 s1=>?_⟩
   cases x with
   | true=>rw [if_pos rfl]; exact ⟨ρ,o,en.mono s1,by simpa [ifS,h1] using q,k.mono s1⟩
   | false=>rw [if_neg Bool.false_ne_true]; exact ⟨ρ,o,en.mono s1,by simpa [ifS,h1] using q,k.mono s1⟩
noncomputable def qz:RO:=fun ρ=>some (.nx ρ)
noncomputable def jT (F G:RO):RO:=fun ρ=>(F ρ).bind fun o=>match o with
 | .nx ρ'=>G ρ'
 | o=>some o
theorem jo:abL X [] qz:=by
 with_unfolding_all
  refine PSs.imp aeF fun D σ H ⟨ρ,o,en,q,k⟩=>?_
  cases q
  exact k σ H (jr.refl H) en
theorem jf (h1 : PSD X st F) (h2 : abL X j8 G) : abL X (st :: j8) (jT F G) := by
  with_unfolding_all
   refine PSs.imp (zU h1 h2) fun D σ H ⟨ρ, o, en, q, k⟩ => ?_
   cases hf : F ρ with
   | none => simp [jT, hf] at q
   | some p =>
     refine ⟨ρ, p, en, hf, ?_⟩
     cases p with
     | nx ρ' => exact fun σ' H' s' r' => ⟨ρ', o, r', by simpa [jT, hf] using q, k.mono s'⟩
     | rt d => have : Out.rt d = o := by simpa [jT, hf] using q
               subst this; exact k
     | bk d => have : Out.bk d = o := by simpa [jT, hf] using q
               subst this; exact k
     | ct d => have : Out.ct d = o := by simpa [jT, hf] using q
               subst this; exact k
noncomputable def aok:RO:=fun _=>none
theorem akh:PSD X st aok:=by
 with_unfolding_all exact (PS.imp alv fun D σ H ⟨ρ,o,en,q,k⟩=>by cases q)
theorem zf:abL X sts aok:=by
 with_unfolding_all exact (PSs.imp aj2 fun D σ H ⟨ρ,o,en,q,k⟩=>by cases q)
noncomputable def abM (fa:RP):RO:=fun ρ=>(fa ρ).map fun _=> .nx ρ
theorem j6 (h:PD X e fa) (hs:swapsWith e none pos.line X.env=pure false:=by rfl):PSD X (.Expr e pos) (abM fa):=by
 with_unfolding_all
  refine PS.imp (abP h hs) fun D σ H ⟨ρ,o,en,q,k⟩=>?_
  cases h1:fa ρ with
  | none=>simp [abM,h1] at q
  | some d=>
   have:Out.nx ρ=o:=by simpa [abM,h1] using q
   subst this
   exact ⟨ρ,d,en,h1,fun v H' s r=>k σ H' s (en.mono s)⟩
def jQ (i:Nat) (d:PyData) (ρ:Rho):Option Rho:=some (ρ.set i (some d))
theorem qd (i:Nat) {x:Str} (hN:X.N.Nodup) (hi:X.N[i]?=some x:=by rfl) (hx:Loc X.env.scope x:=by first | exact Or.inl rfl | exact Or.inr rfl)
  (hf:X.fn x=true ∨ X.env.scope.names.lookup x=some .local:=by first | exact .inl rfl | exact .inr rfl | assumption):PGD X (.Name x pos) (jQ i):=by
 with_unfolding_all
  refine PG.imp (abQ hN hi hx hf) fun v σ H Q ⟨ρ,d,ρ',en,r,q,k⟩=>?_
  cases q
  exact k _ H (jr.refl H) (en.set r)
@[irreducible] def aol (X:Cx) (ts:List Expr) (ga:LP->Rho->Option Rho):Prop:=PGs X ts fun vs σ H Q=>∃ ρ ds ρ',EnvR X.K H ρ σ/\Reps X.K H ds vs/\ga ds ρ=some ρ'/\∀ σ' H',jr H H'->EnvR X.K H' ρ' σ'->Q σ' H'
def qv (ds:LP) (ρ:Rho):Option Rho:=match ds with
 | []=>some ρ
 | _=>none
def jG (ga:PyData->Rho->Option Rho) (gr:LP->Rho->Option Rho) (ds:LP) (ρ:Rho):Option Rho:=match ds with
 | d::r=>(ga d ρ).bind fun ρ1=>gr r ρ1
 | []=>none
theorem PGs.imp {ts:List Expr}{t t':TGs} (h:PGs X ts t) (hi:∀ v σ H Q,t' v σ H Q->t v σ H Q):PGs X ts t':=fun Kp s σ H v u Q I r q=>h Kp s σ H v u Q I r (hi v σ H Q q)
theorem agt:aol X [] qv:=by
 with_unfolding_all
  refine PGs.imp aiW fun vs σ H Q ⟨ρ,ds,ρ',en,r,q,k⟩=>?_
  cases ds with
  | nil=>cases r; cases q; exact ⟨rfl,k σ H (jr.refl H) en⟩
  | cons d ds=>cases q
theorem Qc {ga:PyData->Rho->Option Rho}{gr:LP->Rho->Option Rho} (h1:PGD X e ga) (h2:aol X es gr)
  (hs:(assignEach (e::es) X.env).map (·.2)=assign e X.env::(assignEach es X.env).map (·.2):=by rfl):aol X (e::es) (jG ga gr):=by
 with_unfolding_all
  refine PGs.imp (agf h1 h2 hs) fun vs σ H Q ⟨ρ,ds,ρ',en,r,q,k⟩=>?_
  cases ds with
  | nil=>cases q
  | cons d ds=>
   obtain ⟨x,rr,e1,r1,r2⟩:=r
   subst e1
   cases h3:ga d ρ with
   | none=>simp [jG,h3] at q
   | some ρ1=>
    refine ⟨x,rr,rfl,ρ,d,ρ1,en,r1,h3,fun σ1 H1 s1 e1=>⟨ρ1,ds,ρ',e1,Reps.mono s1 ds rr r2,by simpa [jG,h3] using q,fun σ2 H2 s2 e2=>k σ2 H2 (s1.trans s2) e2⟩⟩
def zz (n:Nat) (gr:LP->Rho->Option Rho) (d:PyData) (ρ:Rho):Option Rho:=match d with
 | .tuple ds=>if ds.length=n then gr ds ρ else none
 | _=>none
theorem ajd {k n:Nat}{gr:LP->Rho->Option Rho} (hc:X.calm=true) (h:aol X es gr) (hn:(assignEach es X.env).length=n:=by rfl) (hst:(assignEach es X.env).findIdx? (·.1)=none:=by rfl):
  PGD X (.Tuple es k pos) (zz n gr):=by
 with_unfolding_all
  refine PG.imp (alw hc h hn hst) fun v σ H Q ⟨ρ,d,ρ',en,r,q,k⟩=>?_
  cases d with
  | tuple ds=>
   obtain ⟨a,xs,e1,e2,e3⟩:=r
   by_cases hl:ds.length=n
   ·exact ⟨a,xs,e1,e2,by rw [e3.length]; exact hl,ρ,ds,ρ',en,e3,by simpa [zz,hl] using q,k⟩
   ·simp [zz,hl] at q
  | _=>simp [zz] at q
def qS (fa:RP) (ga:PyData->Rho->Option Rho):RO:=fun ρ=>(fa ρ).bind fun d=>(ga d ρ).map Out.nx
theorem qe (i:Nat) {x:Str}{pos':Pos} (hN:X.N.Nodup) (he:PD X e fa) (hi:X.N[i]?=some x:=by rfl) (hx:Loc X.env.scope x:=by first | exact Or.inl rfl | exact Or.inr rfl) (hs:swapsWith e (some (.Name x pos')) pos.line X.env=pure false:=by rfl)
  (hf:X.fn x=true ∨ X.env.scope.names.lookup x=some .local:=by first | exact .inl rfl | exact .inr rfl | assumption):PSD X (.Assign [.Name x pos'] e pos) (qS fa (jQ i)):=by
 with_unfolding_all
  refine PS.imp (ZX hN hi hx he hs hf) fun D σ H ⟨ρ,o,en,q,k⟩=>?_
  cases h1:fa ρ with
  | none=>simp [qS,h1] at q
  | some d=>
   have:Out.nx (ρ.set i (some d))=o:=by simpa [qS,h1,jQ] using q
   subst this
   exact ⟨ρ,d,en,h1,fun v H1 s1 r1=>k _ H1 s1 ((en.mono s1).set r1)⟩
def ahM (K:Fg) (J:It) (ds:LP) (H0:Hp):Prop:=∀ i H,jy H0 H->(i<ds.length->J.go i H)/\(ds.length<=i->J.stop i H)/\∀ x H',J.yld i H x H'->jr H H'/\∀ d,ds[i]?=some d->Rep K H' d x
def tDI (K:Fg) (fi:Rho->Option (LP)):TI:=fun σ H R=>∃ ρ ds,EnvR K H ρ σ/\fi ρ=some ds/\∀ J H',jr H H'->ahM K J ds H'->R J H'
@[irreducible] def PID (X:Cx) (tg src:Expr) (fi:Rho->Option (LP)):Prop:=PI X tg src (tDI X.K fi)
theorem PI.imp {t t':TI} (h:PI X tg src t) (hi:∀ σ H R,t' σ H R->t σ H R):PI X tg src t':=fun Kp s σ H R I q=>h Kp s σ H R I (hi σ H R q)
noncomputable def QS:PyData->Option (LP)
 | .list ds=>some ds
 | _=>none
noncomputable def aa5:PyData->Option (LP)
 | .tuple ds=>some ds
 | _=>none
def itL (fa:RP):Rho->Option (LP):=fun ρ=>(fa ρ).bind QS
def itT (fa:RP):Rho->Option (LP):=fun ρ=>(fa ρ).bind aa5
theorem QT (h:PD X e fa):PID X tg e (itL fa):=by
 with_unfolding_all
  refine PI.imp (anX h) fun σ H R ⟨ρ,ds,en,q,k⟩=>?_
  cases h1:fa ρ with
  | none=>simp [itL,h1] at q
  | some d=>
   cases d with
   | list es=>
    have:es=ds:=by simpa [itL,h1,QS] using q
    subst this
    refine ⟨ρ,_,en,h1,fun v H1 s1 r1=>?_⟩
    obtain ⟨a,xs,e1,e2,e3⟩:=r1
    refine ⟨a,e1,⟨xs,SqL.of e2⟩,k _ H1 s1 fun i H2 s2=>⟨fun hi=>?_,fun hi=>?_,fun x H' y=>?_⟩⟩
    ·exact ⟨xs,xs[i]'(by rw [e3.length]; exact hi),SqL.of (s2 _ _ e2 rfl),by simp [e3.length,hi]⟩
    ·exact ⟨xs,SqL.of (s2 _ _ e2 rfl),by rw [e3.length]; exact hi⟩
    ·obtain ⟨z1,z2⟩:=y
     subst z1
     refine ⟨jr.refl _,fun d hd=>?_⟩
     obtain ⟨y,e4,e5⟩:=(Reps.monoA s2 _ _ e3).get hd
     have:=z2 xs (SqL.of (s2 _ _ e2 rfl))
     rw [e4] at this; cases this
     exact e5
   | _=>simp [itL,h1,QS] at q
theorem aeR (h:PD X e fa):PID X tg e (itT fa):=by
 with_unfolding_all
  refine PI.imp (aqh h) fun σ H R ⟨ρ,ds,en,q,k⟩=>?_
  cases h1:fa ρ with
  | none=>simp [itT,h1] at q
  | some d=>
   cases d with
   | tuple es=>
    have:es=ds:=by simpa [itT,h1,aa5] using q
    subst this
    refine ⟨ρ,_,en,h1,fun v H1 s1 r1=>?_⟩
    obtain ⟨a,xs,e1,e2,e3⟩:=r1
    refine ⟨a,e1,⟨xs,e2⟩,k _ H1 s1 fun i H2 s2=>⟨fun hi=>?_,fun hi=>?_,fun x H' y=>?_⟩⟩
    ·exact ⟨xs,xs[i]'(by rw [e3.length]; exact hi),jy.tup s2 e2,by simp [e3.length,hi]⟩
    ·exact ⟨xs,jy.tup s2 e2,by rw [e3.length]; exact hi⟩
    ·obtain ⟨z1,z2⟩:=y
     subst z1
     refine ⟨jr.refl _,fun d hd=>?_⟩
     obtain ⟨y,e4,e5⟩:=(Reps.monoA s2 _ _ e3).get hd
     have:=z2 xs (jy.tup s2 e2)
     rw [e4] at this; cases this
     exact e5
   | _=>simp [itT,h1,aa5] at q
noncomputable def Jf (lo:Int) (n:Nat):LP:=(List.range n).map fun (k:Nat)=>PyData.int (lo+(k:Int))
def aeS (ds:LP):Option (LP):=match ds with
 | [.int j]=>if -(2 ^ 62)<=j/\j<2 ^ 62 then some (Jf 0 j.toNat) else none
 | _=>none
theorem aah {K:Fg}{H:Hp} (lo:Int) (n:Nat):ahM K (Itr lo n) (Jf lo n) H:=fun i H2 s2=>by
 have hl:(Jf lo n).length=n:=by simp [Jf]
 refine ⟨fun hi=>by rw [hl] at hi; exact hi,fun hi=>by rw [hl] at hi; exact hi,fun x H' y=>?_⟩
 obtain ⟨z1,z2⟩:=y
 subst z1
 refine ⟨jr.refl _,fun d hd=>?_⟩
 have hi:i<n:=by
  have:=(List.getElem?_eq_some_iff.mp hd).1
  rw [hl] at this; exact this
 have:d= .int (lo+i):=by
  simp [Jf,hi] at hd
  exact hd.symm
 subst this
 exact z2
theorem Z2 {p pos:Pos}{fr:Rho->Option (LP)} (hg:Gl X "range") (hm:X.mg "range"=none) (ha:PAD X [a] fr) (hs:starEach [a] X.env=[(false,eval a X.env)]:=by rfl):PID X tg (.Call (.Name "range" p) [a] [] pos) (fun ρ=>(fr ρ).bind aeS):=by
 with_unfolding_all
  refine PI.imp (Zi hg hm ha hs) fun σ H R ⟨ρ,ds,en,q,k⟩=>?_
  cases h1:fr ρ with
  | none=>simp [h1] at q
  | some as=>
   have q':aeS as=some ds:=by simpa [h1] using q
   refine ⟨ρ,as,en,h1,fun vs H1 s1 r1=>?_⟩
   unfold aeS at q'
   split at q'
   ·rename_i j
    split at q'
    ·rename_i hj
     cases q'
     obtain ⟨x,r,e1,e2,e3⟩:=r1
     cases (show x=V.int j from e2)
     cases (show r=[] from e3)
     exact ⟨j,e1,hj.1,hj.2,k _ H1 s1 (aah 0 j.toNat)⟩
    ·cases q'
   ·cases q'
def ql (ga:PyData->Rho->Option Rho) (F:RO):LP->RO
 | [],ρ=>some (.nx ρ)
 | d::r,ρ=>(ga d ρ).bind fun ρ1=>(F ρ1).bind fun o=>match o with
  | .nx ρ2=>ql ga F r ρ2
  | .ct ρ2=>ql ga F r ρ2
  | .bk ρ2=>some (.nx ρ2)
  | .rt d=>some (.rt d)
def aa6 (fi:Rho->Option (LP)) (ga:PyData->Rho->Option Rho) (F:RO):RO:=fun ρ=>(fi ρ).bind fun ds=>ql ga F ds ρ
theorem aje {body:List Stmt}{fi:Rho->Option (LP)}{ga:PyData->Rho->Option Rho} (hp:PassesOwn (model X.prog X.w) X.A X.env X.xe) (hc:X.calm=true) (hi:PID X tg src fi) (hg:PGD X tg ga) (hb:abL X body F)
  (hs:∀ x,foldedSetIterable src X.env x=pure x:=by intro _; rfl):PSD X (.For tg src body [] pos) (aa6 fi ga F):=by
 with_unfolding_all
  refine PS.imp (ZY hp hc hi hg hb hs) fun D σ H ⟨ρ,o,en,q,k⟩=>?_
  cases h1:fi ρ with
  | none=>simp [aa6,h1] at q
  | some ds=>
   have q':ql ga F ds ρ=some o:=by simpa [aa6,h1] using q
   refine ⟨ρ,ds,en,h1,fun J H1 s1 Y=>?_⟩
   refine ⟨fun i m σ H2=>m=ds.length - i/\i<=ds.length/\jr H1 H2/\∃ ρ2,EnvR X.K H2 ρ2 σ/\ql ga F (ds.drop i) ρ2=some o,⟨ds.length,by simp,Nat.zero_le _,jr.refl _,ρ,en.mono s1,by simpa using q'⟩,?_⟩
   rintro i m σ2 H2 ⟨rfl,hi,s2,ρ2,en2,q2⟩
   obtain ⟨g1,g2,g3⟩:=Y i H2 (jr.a s2)
   by_cases hlt:i<ds.length
   ·right
    have hd:ds.drop i=ds[i]::ds.drop (i+1):=List.drop_eq_getElem_cons hlt
    rw [hd] at q2
    refine ⟨g1 hlt,fun σ3 H3=>jr H1 H3/\∃ ρ3,EnvR X.K H3 ρ3 σ3/\ql ga F (ds.drop (i+1)) ρ3=some o,fun σ3 H3 ⟨a1,ρ3,a2,a3⟩=>⟨ds.length - (i+1),by omega,rfl,hlt,a1,ρ3,a2,a3⟩,fun x H3 y=>?_⟩
    obtain ⟨s3,r3⟩:=g3 x H3 y
    have r3':=r3 ds[i] (by simp [hlt])
    cases h4:ga ds[i] ρ2 with
    | none=>simp [ql,h4] at q2
    | some ρ4=>
     refine ⟨ρ2,ds[i],ρ4,en2.mono s3,r3',h4,fun σ5 H5 s5 en5=>?_⟩
     cases h5:F ρ4 with
     | none=>simp [ql,h4,h5] at q2
     | some p=>
      refine ⟨ρ4,p,en5,h5,?_⟩
      have s15:=s2.trans (s3.trans s5)
      cases p with
      | nx ρ6=>exact fun σ6 H6 s6 en6=>⟨s15.trans s6,ρ6,en6,by simpa [ql,h4,h5] using q2⟩
      | ct ρ6=>exact fun σ6 H6 s6 en6=>⟨s15.trans s6,ρ6,en6,by simpa [ql,h4,h5] using q2⟩
      | bk ρ6=>
       have:Out.nx ρ6=o:=by simpa [ql,h4,h5] using q2
       subst this
       exact fun σ6 H6 s6 en6=>k σ6 H6 (s1.trans (s15.trans s6)) en6
      | rt d=>
       have:Out.rt d=o:=by simpa [ql,h4,h5] using q2
       subst this
       exact fun v H6 s6 r6=>k v H6 (s1.trans (s15.trans s6)) r6
   ·left
    have he:i=ds.length:=by omega
    have hn:ds.drop i=[]:=by rw [he]; simp
    rw [hn] at q2
    have:Out.nx ρ2=o:=by simpa [ql] using q2
    subst this
    exact ⟨g2 (by omega),k σ2 H2 (s1.trans s2) en2⟩
def aa7 (cap:List (Option Nat)) (ρ:Rho):Rho:=cap.map fun o=>o.bind fun i=>(ρ[i]?).join
theorem EnvR.cap {K:Fg}{H:Hp}{ρ:Rho}{σ:St} (e:EnvR K H ρ σ) (cap:List (Option Nat)):EnvR K H (aa7 cap ρ) (agr cap σ):=by
 refine ⟨by simp [aa7,agr],fun j d q=>?_⟩
 unfold aa7 at q
 unfold agr
 rw [List.getElem?_map] at q ⊢
 cases h1:cap[j]? with
 | none=>rw [h1] at q; cases q
 | some o=>
  rw [h1] at q
  cases o with
  | none=>cases q
  | some i=>
   have q':lkp i ρ=some d:=by simpa [lkp] using q
   obtain ⟨v,e1,e2⟩:=e.at' i d (qJ q')
   exact ⟨v,by simp [e1],e2⟩
def Jo (ga:PyData->Rho->Option Rho) (ft:Rho->Option Bool) (fe:RP):LP->Rho->Option (LP)
 | [],_=>some []
 | d::r,τ=>(ga d τ).bind fun τ2=>(ft τ2).bind fun b=>if b=true then (fe τ2).bind fun y=>(Jo ga ft fe r τ2).map fun ys=>y::ys else Jo ga ft fe r τ2
def ZR (fi:Rho->Option (LP)) (cap:List (Option Nat)) (ga:PyData->Rho->Option Rho) (ft:Rho->Option Bool) (fe:RP):RP:=fun ρ=>(fi ρ).bind fun ds=>
 if few ds=true then (Jo ga ft fe ds (aa7 cap ρ)).map PyData.list else none
@[irreducible] def aqD (X:Cx) (ts:List Expr) (f:Rho->Option Bool):Prop:=PTs X ts (tDT X.K f)
def ar3 (_:Rho):Option Bool:=some true
theorem QU:aqD X [] ar3:=by
 with_unfolding_all exact (fun Kp s σ H Q I ⟨ρ,b,en,q,k⟩=>by cases q; exact ajb Kp s σ H Q I (k H (jr.refl H)))
theorem alS {ft:Rho->Option Bool} (h:PTD X c ft):aqD X [c] ft:=by
 with_unfolding_all exact (aoh h)
theorem Zk {el:Expr}{ts:List Expr}{sc:Scope}{ps:Pos}{fi:Rho->Option (LP)}{ga:PyData->Rho->Option Rho}{ft:Rho->Option Bool}{fe:RP} (N':List Str) (cap:List (Option Nat)) (hc:X.calm=true) (hi:PID X tg src fi) (ok:CompOk X sc N' cap)
  (body:∀ cl C s0 H0 fp pn,PGD (blk X N' sc cl C s0 H0 fp pn) tg ga/\aqD (blk X N' sc cl C s0 H0 fp pn) ts ft/\PD (blk X N' sc cl C s0 H0 fp pn) el fe)
  (hs:∀ x,foldedSetIterable src X.env x=pure x:=by intro _; rfl):PD X (.ListComp el [⟨tg,src,ts,0⟩] sc ps) (ZR fi cap ga ft fe):=by
 with_unfolding_all
  refine PE.imp (ajc (g:=tDG X.K ga) (tt:=tDT X.K ft) (te:=tD X.K fe) hc hi ok (fun cl C s0 H0 fp pn=>body cl C s0 H0 fp pn) hs) fun σ H Q ⟨ρ,d,en,q,k⟩=>?_
  cases h1:fi ρ with
  | none=>simp [ZR,h1] at q
  | some ds=>
   by_cases hf:few ds=true
   ·cases h2:Jo ga ft fe ds (aa7 cap ρ) with
    | none=>simp [ZR,h1,hf,h2] at q
    | some ys=>
     have:PyData.list ys=d:=by simpa [ZR,h1,hf,h2] using q
     subst this
     refine ⟨ρ,ds,en,h1,fun J H1 s1 Y=>?_⟩
     refine ⟨fun i m τ us H2=>m=ds.length - i/\i<=ds.length/\jr H1 H2/\us.length<=i/\∃ ρ2 zs ws,EnvR X.K H2 ρ2 τ/\Reps X.K H2 zs us/\Jo ga ft fe (ds.drop i) ρ2=some ws/\ys=zs++ws,
      ⟨ds.length,by simp,Nat.zero_le _,jr.refl _,Nat.le_refl _,aa7 cap ρ,[],ys,(en.mono s1).cap cap,rfl,by simpa using h2,rfl⟩,?_⟩
     rintro i m τ us H2 ⟨rfl,hi',s2,hu,ρ2,zs,ws,en2,r2,q2,ey⟩
     have hsm:us.length<sizeLine:=Nat.lt_of_le_of_lt (Nat.le_trans hu hi') (Nat.lt_of_lt_of_le (by simpa [few] using hf) (by rw [sizeLine_eq]; decide:1000000<=sizeLine))
     obtain ⟨g1,g2,g3⟩:=Y i H2 (jr.a s2)
     refine ⟨hsm,?_⟩
     by_cases hlt:i<ds.length
     ·right
      have hd:ds.drop i=ds[i]::ds.drop (i+1):=List.drop_eq_getElem_cons hlt
      rw [hd] at q2
      refine ⟨g1 hlt,fun x H3 y=>?_⟩
      obtain ⟨s3,r3⟩:=g3 x H3 y
      have r3':=r3 ds[i] (by simp [hlt])
      cases h4:ga ds[i] ρ2 with
      | none=>simp [Jo,h4] at q2
      | some ρ4=>
       refine ⟨ρ2,ds[i],ρ4,en2.mono s3,r3',h4,fun σ5 H5 s5 en5=>?_⟩
       cases h5:ft ρ4 with
       | none=>simp [Jo,h4,h5] at q2
       | some b=>
        refine ⟨ρ4,b,en5,h5,fun H6 s6=>?_⟩
        have s26:=s3.trans (s5.trans s6)
        cases b with
        | false=>
         refine atj ?_
         exact ⟨ds.length - (i+1),by omega,rfl,hlt,s2.trans s26,by omega,ρ4,zs,ws,en5.mono s6,Reps.mono s26 _ _ r2,by simpa [Jo,h4,h5] using q2,ey⟩
        | true=>
         refine atk ?_
         cases h6:fe ρ4 with
         | none=>simp [Jo,h4,h5,h6] at q2
         | some y=>
          cases h7:Jo ga ft fe (ds.drop (i+1)) ρ4 with
          | none=>simp [Jo,h4,h5,h6,h7] at q2
          | some ws'=>
           have hw:y::ws'=ws:=by simpa [Jo,h4,h5,h6,h7] using q2
           refine ⟨ρ4,y,en5.mono s6,h6,fun v H7 s7 r7=>?_⟩
           refine ⟨ds.length - (i+1),by omega,rfl,hlt,s2.trans (s26.trans s7),by rw [List.length_append]; simp; omega,ρ4,zs++[y],ws',(en5.mono s6).mono s7,(Reps.mono (s26.trans s7) _ _ r2).append ⟨v,[],rfl,r7,rfl⟩,h7,?_⟩
           rw [ey,←hw]; simp
     ·left
      have he:i=ds.length:=by omega
      have hn:ds.drop i=[]:=by rw [he]; simp
      rw [hn] at q2
      have hw:[]=ws:=by simpa [Jo] using q2
      subst hw
      have ey':ys=zs:=by simpa using ey
      subst ey'
      exact ⟨g2 (by omega),fun l hl=>k _ _ (s1.trans (s2.trans (jM hl))) ⟨l,us,rfl,jn,Reps.mono (jM hl) _ _ r2⟩⟩
   ·simp [ZR,h1,hf] at q
def Pur (K:Fg) (n:Nat) (g:LP->OP):Sp:=fun vs H Q _=>∃ ds d,ds.length=n/\Reps K H ds vs/\g ds=some d/\∀ v H',jr H H'->Rep K H' d v->Q v H'
def jN (g:LP->OP) (fr:Rho->Option (LP)):RP:=fun ρ=>(fr ρ).bind g
theorem aom {k n:Nat}{f:Addr}{fd:FuncData}{ps:List Str}{g:LP->OP}{x:Str}{p:Pos}{fr:Rho->Option (LP)} (FO:FnOk X.prog X.w X.K X.mg X.base CX0 k f fd ps (Pur X.K n g)) (hr:Room k X.A) (hm:X.mg x=some (.ref f)) (hk:PySem.W.keepIn X.K (.ref f)=true)
  (hb:Jl X.K fd ps []) (hn:(e::es).length=n) (ha:PAD X (e::es) fr) (hl:∀ ρ ds,fr ρ=some ds->ds.length=(e::es).length) (hg:Gl X x:=by rfl) (hdb:(x == ("__debug__":Str))=false:=by decide) (he:starEach (e::es) X.env=(false,eval e X.env)::starEach es X.env:=by rfl)
  (hpl:(backTo pos (starEach es X.env)).any (·.1)=false:=by rfl):PD X (.Call (.Name x p) (e::es) [] pos) (jN g fr):=by
 with_unfolding_all
  refine PE.imp (aeL FO hr hg hm hk hb .nil adR ha hdb he hpl) fun σ H Q ⟨ρ,d,en,q,k⟩=>?_
  cases h1:fr ρ with
  | none=>simp [jN,h1] at q
  | some ds=>
   refine ⟨ρ,ds,en,h1,fun vs H1 s1 r1=>?_⟩
   refine ⟨ds,d,by rw [hl ρ ds h1,hn],by rw [List.append_nil]; exact r1,by simpa [jN,h1] using q,fun v H' s r=>k v H' (s1.trans s) r⟩
def QV (X:Cx) (f:Value) (g:LP->OP):Prop:=∃ r,zV X f r/\∀ ds d xs H Q,g ds=some d->Reps X.K H ds xs->(∀ v H',jr H H'->Rep X.K H' d v->Q v H')->r xs H Q
theorem j4 {id:String}{g:LP->OP}{x:Str}{p:Pos}{fr:Rho->Option (LP)} (hc:QV X (.builtin id) g) (hm:X.mg x=none) (hv:bootBuiltins x=some (.builtin id)) (ha:PAD X (e::es) fr) (hg:Gl X x:=by rfl) (hn:x ≠ "__name__":=by decide) (hdb:(x == ("__debug__":Str))=false:=by decide)
  (he:starEach (e::es) X.env=(false,eval e X.env)::starEach es X.env:=by rfl) (hpl:(backTo pos (starEach es X.env)).any (·.1)=false:=by rfl):PD X (.Call (.Name x p) (e::es) [] pos) (jN g fr):=by
 with_unfolding_all
  obtain ⟨r,h1,h2⟩:=hc
  refine PE.imp (aae h1 hg hm hv ha hn hdb he hpl) fun σ H Q ⟨ρ,d,en,q,k⟩=>?_
  cases h3:fr ρ with
  | none=>simp [jN,h3] at q
  | some ds=>exact ⟨ρ,ds,en,h3,fun vs H1 s1 r1=>h2 ds d vs H1 Q (by simpa [jN,h3] using q) r1 fun v H' s r=>k v H' (s1.trans s) r⟩
theorem adV {T:String}{g:LP->OP}{x:Str}{p:Pos}{fr:Rho->Option (LP)} (hc:QV X (.type T) g) (hm:X.mg x=none) (hv:bootBuiltins x=some (.type T)) (ha:PAD X (e::es) fr) (hg:Gl X x:=by rfl) (hn:x ≠ "__name__":=by decide) (hdb:(x == ("__debug__":Str))=false:=by decide)
  (he:starEach (e::es) X.env=(false,eval e X.env)::starEach es X.env:=by rfl) (hpl:(backTo pos (starEach es X.env)).any (·.1)=false:=by rfl):PD X (.Call (.Name x p) (e::es) [] pos) (jN g fr):=by
 with_unfolding_all
  obtain ⟨r,h1,h2⟩:=hc
  refine PE.imp (aa0 h1 hg hm hv ha hn hdb he hpl) fun σ H Q ⟨ρ,d,en,q,k⟩=>?_
  cases h3:fr ρ with
  | none=>simp [jN,h3] at q
  | some ds=>exact ⟨ρ,ds,en,h3,fun vs H1 s1 r1=>h2 ds d vs H1 Q (by simpa [jN,h3] using q) r1 fun v H' s r=>k v H' (s1.trans s) r⟩
end
def jK (N:List Str) (ds:LP):Rho:=ds.map some++List.replicate (N.length - ds.length) none
theorem Qd {K:Fg}{H:Hp}{N:List Str}{ds:LP}{vs:List V} (r:Reps K H ds vs):EnvR K H (jK N ds) (L2.Jm N vs):=by
 have hl:=r.length
 refine ⟨by simp [jK,L2.Jm,hl],fun i d q=>?_⟩
 unfold jK at q
 by_cases hi:i<ds.length
 ·rw [List.getElem?_append_left (by simpa using hi),List.getElem?_map] at q
  cases e:ds[i]? with
  | none=>rw [e] at q; cases q
  | some c=>
   rw [e] at q; cases q
   obtain ⟨x,e1,e2⟩:=r.get e
   refine ⟨x,?_,e2⟩
   unfold L2.Jm
   rw [List.getElem?_append_left (by simp; omega),List.getElem?_map,e1]; rfl
 ·rw [List.getElem?_append_right (by simpa using hi),List.getElem?_replicate] at q
  split at q <;> cases q
def jC (N:List Str) (n:Nat) (B:RO) (ds:LP):OP:=if ds.length=n then match B (jK N ds) with
 | some (.rt d)=>some d
 | some (.nx _)=>some .none
 | _=>none else none
section
variable {P:Program}{w:World}{K:Fg}{mg:SV}{base:Heap}
theorem jO {x qual:Str}{st:Stmt}{f:Addr}{fd:FuncData}{N ps:List Str}{k:Nat}{B:RO} (F:Fun K x qual st f fd) (S:FnScope N ps (je st))
  (body:∀ (Kc:Value) (A:Around) (Ko:List Env) (s:Shared) (H:Hp) (E:XK),Room k (A.deeper (envOfC qual (je st) s.heap.objs.size f Kc))->
   abL (zW CX0 P w K mg base N qual (je st) f Kc A Ko s H E).nox (jR st) B):FnOk P w K mg base CX0 (k+1) f fd ps (Pur K ps.length (jC N ps.length B)):=by
 with_unfolding_all
  refine F.ok S (fun vs H Q E h=>?_) (fun Kc A Ko s H vs Q E hr h=>?_)
  ·obtain ⟨ds,d,h1,h2,_⟩:=h
   rw [h2.length]; exact h1
  ·obtain ⟨ds,d,h1,h2,h3,h4⟩:=h
   refine ⟨_,body Kc A Ko s H E hr,?_⟩
   unfold jC at h3
   rw [if_pos h1] at h3
   cases hB:B (jK N ds) with
   | none=>rw [hB] at h3; cases h3
   | some o=>
    refine ⟨jK N ds,o,Qd h2,hB,?_⟩
    rw [hB] at h3
    cases o with
    | rt c=>cases h3; exact fun v H' s r=>h4 v H' s r
    | nx ρ=>cases h3; exact fun σ H' s r=>h4 .non H' s rfl
    | bk ρ=>cases h3
    | ct ρ=>cases h3
theorem ar4 {k n:Nat}{f:Addr}{fd:FuncData}{ps:List Str}{g g':LP->OP} (F:FnOk P w K mg base CX0 k f fd ps (Pur K n g)) (h:∀ ds d,ds.length=n->g' ds=some d->g ds=some d):FnOk P w K mg base CX0 k f fd ps (Pur K n g'):=
 F.imp fun vs H Q E ⟨ds,d,h1,h2,h3,h4⟩=>⟨ds,d,h1,h2,h ds d h1 h3,h4⟩
end
section
variable {X:Cx}
def ar5 (K:Fg):R2:=fun x y H Q=>∃ a b ys,x= .ref a/\y= .ref b/\SqT K H a []/\SqT K H b ys/\Q (.ref b) H
theorem aon:OpR X (binaryOp .Add) (ar5 X.K):=by
 intro Kp s σ H x y v u Q I rx ry h
 obtain ⟨a,b,ys,rfl,rfl,ha,hb,q⟩:=h
 cases rx
 cases ry
 obtain ⟨its,r1,p1,_⟩:=I.tuple ha
 obtain ⟨its2,r2,p2,_⟩:=I.tuple hb
 cases r1
 obtain ⟨⟨c1,d1,t1,l1⟩,ho,hc,n,hd⟩:=id p1
 obtain ⟨⟨c2,d2,t2,l2⟩,ho2,hc2,n2,hd2⟩:=id p2
 simp only at hc hd hc2 hd2
 subst hc hd hc2 hd2
 exact concat_meets ⟨_,ho,rfl⟩ ⟨_,ho2,rfl⟩ noFill_tuple_add seq_tuple_add PySem.F.slot_tuple_add PySem.F.entry_tuple_add (PySem.F.args_tuple_add_2 _ _)
  (tuple_addW0 a b _ _ n n2 d1 d2 l1 l2 (by simp)) ⟨ho,ho2,⟨.ref b,H,I,rfl,q⟩⟩
def Jg:PyData->PyData->OP
 | .int i,.int j=>some (.int (i+j))
 | .list xs,.list ys=>if few (xs++ys)=true then some (.list (xs++ys)) else none
 | .tuple [],.tuple ys=>some (.tuple ys)
 | .tuple (x::xs),.tuple ys=>if few ((x::xs)++ys)=true then some (.tuple ((x::xs)++ys)) else none
 | _,_=>none
theorem jL:OpD X (binaryOp .Add) Jg:=by
 refine ⟨_,aqj.or (aqx.or (aon.or an6)),fun p q d x y H Q h rx ry k=>?_⟩
 unfold Jg at h
 split at h
 ·cases h
  cases (show x=_ from rx)
  cases (show y=_ from ry)
  exact .inl ⟨_,_,rfl,rfl,k _ H (jr.refl H) rfl⟩
 ·rename_i xs ys
  split at h
  ·rename_i hf
   cases h
   obtain ⟨a,us,e1,e2,e3⟩:=rx
   obtain ⟨b,ws,e4,e5,e6⟩:=ry
   have hl:us.length+ws.length<1000000:=by
    rw [e3.length,e6.length]
    simp [few] at hf
    try simp only [List.length_cons]
    omega
   exact .inr (.inl ⟨a,b,us,ws,e1,e4,e2,e5,aa4 hl,fun p hp=>k _ _ (jM hp) ⟨p,_,rfl,jn,Reps.mono (jM hp) _ _ (e3.append e6)⟩⟩)
  ·cases h
 ·rename_i ys
  cases h
  obtain ⟨a,us,e1,e2,e3⟩:=rx
  cases (show us=[] from e3)
  obtain ⟨b,ws,e4,e5,e6⟩:=ry
  exact .inr (.inr (.inl ⟨a,b,ws,e1,e4,e2,e5,k _ H (jr.refl H) ⟨b,ws,rfl,e5,e6⟩⟩))
 ·rename_i z xs ys
  split at h
  ·rename_i hf
   cases h
   obtain ⟨a,us,e1,e2,e3⟩:=rx
   obtain ⟨b,ws,e4,e5,e6⟩:=ry
   have hl:us.length+ws.length<1000000:=by
    rw [e3.length,e6.length]
    simp [few] at hf
    try simp only [List.length_cons]
    omega
   refine .inr (.inr (.inr ⟨a,b,us,ws,e1,e4,e2,e5,fun z=>?_,aa4 hl,fun z=>?_,fun _ p hp=>?_⟩))
   ·have:=e3.length; rw [z] at this; simp at this
   ·subst z
    have:=e6.length
    have hy:ys=[]:=List.length_eq_zero_iff.mp (by simpa using this.symm)
    subst hy
    exact k _ H (jr.refl H) ⟨a,us,rfl,e2,by simpa using e3⟩
   ·exact k _ _ (jM hp) ⟨p,_,rfl,SqT.of jn,Reps.mono (jM hp) _ _ (e3.append e6)⟩
  ·cases h
 ·cases h
noncomputable def ady:PyData->PyData->OP
 | .int i,.int j=>some (.int (i - j))
 | _,_=>none
theorem Qu:OpD X (binaryOp .Sub) ady:=by
 refine ⟨_,aqk,fun p q d x y H Q h rx ry k=>?_⟩
 unfold ady at h
 split at h
 ·cases h; cases (show x=_ from rx); cases (show y=_ from ry); exact ⟨_,_,rfl,rfl,k _ H (jr.refl H) rfl⟩
 ·cases h
theorem Reps.rep {K:Fg}{H:Hp}{ds:LP}{xs:List V} (h:Reps K H ds xs):∀ (n:Nat),Reps K H (List.replicate n ds).flatten (List.replicate n xs).flatten
 | 0=>rfl
 | n+1=>by rw [List.replicate_succ,List.replicate_succ,List.flatten_cons,List.flatten_cons]; exact h.append (Reps.rep h n)
noncomputable def aai:PyData->PyData->OP
 | .int i,.int j=>if (-(2 ^ 64)<i/\i<2 ^ 64) ∨ (-(2 ^ 64)<j/\j<2 ^ 64) then some (.int (i*j)) else none
 | .list xs,.int k=>if k<1000/\xs.length<1000/\-1000<k then some (.list (List.replicate k.toNat xs).flatten) else none
 | _,_=>none
theorem zv:OpD X (binaryOp .Mult) aai:=by
 refine ⟨_,aql.or alK,fun p q d x y H Q h rx ry k=>?_⟩
 unfold aai at h
 split at h
 ·split at h
  ·rename_i hc
   cases h; cases (show x=_ from rx); cases (show y=_ from ry); exact .inl ⟨_,_,rfl,rfl,hc,k _ H (jr.refl H) rfl⟩
  ·cases h
 ·rename_i xs n
  split at h
  ·rename_i hc
   cases h
   obtain ⟨a,us,e1,e2,e3⟩:=rx
   cases (show y=_ from ry)
   have hl:=e3.length
   have hs:us.length*n.toNat<=sizeLine:=by
    rw [sizeLine_eq]
    have h1:us.length<=1000:=by omega
    have h2:n.toNat<=1000:=by omega
    exact Nat.le_trans (Nat.mul_le_mul h1 h2) (by decide)
   exact .inr ⟨a,n,us,e1,rfl,e2,by omega,by omega,hs,fun p hp=>k _ _ (jM hp) ⟨p,_,rfl,jn,Reps.mono (jM hp) _ _ (Reps.rep e3 n.toNat)⟩⟩
  ·cases h
 ·cases h
noncomputable def acE:PyData->PyData->OP
 | .int i,.int j=>if 0<j/\j<1073741824 then some (.int (i / j)) else none
 | _,_=>none
theorem JC:OpD X (binaryOp .FloorDiv) acE:=by
 refine ⟨_,an0,fun p q d x y H Q h rx ry k=>?_⟩
 unfold acE at h
 split at h
 ·split at h
  ·rename_i hc
   cases h; cases (show x=_ from rx); cases (show y=_ from ry); exact ⟨_,_,rfl,rfl,hc,k _ H (jr.refl H) rfl⟩
  ·cases h
 ·cases h
noncomputable def aki:PyData->PyData->OP
 | .int i,.int j=>if 0<j then some (.int (i % j)) else none
 | _,_=>none
theorem JJ:OpD X (binaryOp .Mod) aki:=by
 refine ⟨_,aqm,fun p q d x y H Q h rx ry k=>?_⟩
 unfold aki at h
 split at h
 ·split at h
  ·rename_i hc
   cases h; cases (show x=_ from rx); cases (show y=_ from ry); exact ⟨_,_,rfl,rfl,hc,k _ H (jr.refl H) rfl⟩
  ·cases h
 ·cases h
noncomputable def okD (d:PyData):Bool:=d.canLay0 && decide (d.depth<30)
def ar6 (K:Fg) (neg:Bool):R2:=fun x y H Q=>∃ p q,Rep K H p x/\Rep K H q y/\okD p=true/\okD q=true/\Q (.bl (if neg then !PyData.eqv p q else PyData.eqv p q)) H
theorem qE {d:PyData} (h:okD d=true):d.canLay0=true:=by simp [okD] at h; exact h.1
theorem abR {d:PyData} (h:okD d=true):d.depth<30:=by simp [okD] at h; exact h.2
theorem aqE (hu:X.A.units+64<cLine):OpR X (compareOp .Eq) (ar6 X.K false):=by
 intro Kp s σ H x y v u Q I rx ry ⟨p,q,h1,h2,h3,h4,k⟩
 obtain ⟨as,ra⟩:=qY I p x v h1 rx (qE h3)
 obtain ⟨bs,rb⟩:=qY I q y u h2 ry (qE h4)
 have d1:=abR h3
 exact SeqAt.compareEq_reads ra rb (qE h3) (qE h4) (by omega) ⟨.bl _,H,I,rfl,k⟩
theorem aqF (hu:X.A.units+64<cLine):OpR X (compareOp .NotEq) (ar6 X.K true):=by
 intro Kp s σ H x y v u Q I rx ry ⟨p,q,h1,h2,h3,h4,k⟩
 obtain ⟨as,ra⟩:=qY I p x v h1 rx (qE h3)
 obtain ⟨bs,rb⟩:=qY I q y u h2 ry (qE h4)
 have d1:=abR h3
 exact SeqAt.compareNe_reads ra rb (qE h3) (qE h4) (by omega) ⟨.bl _,H,I,rfl,k⟩
def ar7 (K:Fg):R2:=fun x y H Q=>∃ a b ns,x= .ref a/\y= .ref b/\SqL K H a (List.map V.int ns)/\H b=some (.lst [])/\Q (.bl ns.isEmpty) H
theorem ZS (h:Heap):∀ (ns:List Int) (us:List Value),jJ (List.map V.int ns) us->∃ as,ReadsAll h us (ns.map PyData.int) as
 | [],us,r=>by cases r; exact ⟨_,.nil⟩
 | n::ns,us,r=>by
  cases r with
  | cons r1 r2=>
   obtain ⟨t,rfl⟩:=r1
   obtain ⟨as,ra⟩:=ZS h ns _ r2
   exact ⟨_,.cons (.int n t) ra⟩
theorem agu:∀ ns:List Int,PyData.canLayAll0 (ns.map PyData.int)=true
 | []=>rfl
 | n::ns=>by simp [PyData.canLayAll0,PyData.canLay0,agu ns]
theorem aoo (hu:X.A.units+64<cLine):OpR X (compareOp .Eq) (ar7 X.K):=by
 intro Kp s σ H x y v u Q I rx ry ⟨a,b,ns,e1,e2,h1,h2,k⟩
 subst e1; subst e2
 cases rx; cases ry
 obtain ⟨its,rv,⟨o,n,g1,g2,g3,g4⟩,_⟩:=I.list h1
 obtain ⟨as,ra⟩:=ZS s.heap ns its rv
 obtain ⟨bs,rb⟩:=qY I (.list []) (.ref b) (.ref b) ⟨b,[],rfl,h2,rfl⟩ rfl rfl
 have ra':Reads s.heap (.ref a) (.list (ns.map PyData.int)) (a::as):= .list g1 g2 g4 (by simpa using ra)
 refine SeqAt.compareEq_reads ra' rb (by simpa [PyData.canLay0] using agu ns) rfl ?_ ⟨.bl _,H,I,rfl,?_⟩
 ·have:(PyData.list []).depth=1:=rfl
  rw [this]; omega
 ·have:PyData.eqv (.list (ns.map PyData.int)) (.list [])=ns.isEmpty:=by cases ns <;> simp [PyData.eqv,PyData.eqvAll]
  rw [this]; exact k
def dEq:PyData->PyData->OP
 | .dict kvs,.list []=>if zH kvs=true then some (.bool kvs.isEmpty) else none
 | p,q=>if okD p=true/\okD q=true then some (.bool (PyData.eqv p q)) else none
theorem qT (hu:X.A.units+64<cLine):OpD X (compareOp .Eq) dEq:=by
 refine ⟨_,(aoo hu).or (aqE hu),fun p q d x y H Q h rx ry k=>?_⟩
 unfold dEq at h
 split at h
 ·split at h
  ·rename_i hs
   cases h
   obtain ⟨a,ns,e1,e2,e3⟩:=rx.scrOut hs
   obtain ⟨b,ws,e4,e5,e6⟩:=ry
   cases (show ws=[] from e6)
   refine .inl ⟨a,b,ns,e1,e4,e2,e5,?_⟩
   have:ns.isEmpty=(ns.map fun n=>(PyData.int n,PyData.none)).isEmpty:=by simp
   subst e3
   rw [this]
   exact k _ H (jr.refl H) rfl
  ·cases h
 ·split at h
  ·rename_i hc
   cases h
   exact .inr ⟨p,q,rx,ry,hc.1,hc.2,k _ H (jr.refl H) rfl⟩
  ·cases h
def dNe:PyData->PyData->OP:=fun p q=>if okD p=true/\okD q=true then some (.bool (!PyData.eqv p q)) else none
theorem J8 (hu:X.A.units+64<cLine):OpD X (compareOp .NotEq) dNe:=by
 refine ⟨_,aqF hu,fun p q d x y H Q h rx ry k=>?_⟩
 unfold dNe at h
 split at h
 ·rename_i hc
  cases h
  exact ⟨p,q,rx,ry,hc.1,hc.2,k _ H (jr.refl H) rfl⟩
 ·cases h
def aqG (K:Fg) (neg:Bool):R2:=fun x y H Q=>∃ p ds,Rep K H p x/\(Rep K H (.list ds) y ∨ Rep K H (.tuple ds) y)/\okD p=true/\okD (.list ds)=true/\Q (.bl (if neg then !(ds.any fun z=>PyData.eqv z p) else ds.any fun z=>PyData.eqv z p)) H
theorem aqH (hu:X.A.units+64<cLine):OpR X (compareOp .In) (aqG X.K false):=by
 intro Kp s σ H x y v u Q I rx ry ⟨p,ds,h1,h2,h3,h4,k⟩
 obtain ⟨as,ra⟩:=qY I p x v h1 rx (qE h3)
 have d1:=abR h3
 have hc:PyData.canLayAll0 ds=true:=by simpa [PyData.canLay0] using qE h4
 rcases h2 with h2 | h2
 ·obtain ⟨bs,rb⟩:=qY I (.list ds) y u h2 ry (qE h4)
  exact SeqAt.in_list_reads rb ra hc (qE h3) (by omega) ⟨.bl _,H,I,rfl,k⟩
 ·obtain ⟨bs,rb⟩:=qY I (.tuple ds) y u h2 ry (by simpa [PyData.canLay0] using hc)
  exact SeqAt.in_tuple_reads rb ra hc (qE h3) (by omega) ⟨.bl _,H,I,rfl,k⟩
theorem akj (hu:X.A.units+64<cLine):OpR X (compareOp .NotIn) (aqG X.K true):=by
 intro Kp s σ H x y v u Q I rx ry ⟨p,ds,h1,h2,h3,h4,k⟩
 obtain ⟨as,ra⟩:=qY I p x v h1 rx (qE h3)
 have d1:=abR h3
 have hc:PyData.canLayAll0 ds=true:=by simpa [PyData.canLay0] using qE h4
 rcases h2 with h2 | h2
 ·obtain ⟨bs,rb⟩:=qY I (.list ds) y u h2 ry (qE h4)
  exact SeqAt.notIn_list_reads rb ra hc (qE h3) (by omega) ⟨.bl _,H,I,rfl,k⟩
 ·obtain ⟨bs,rb⟩:=qY I (.tuple ds) y u h2 ry (by simpa [PyData.canLay0] using hc)
  exact SeqAt.notIn_tuple_reads rb ra hc (qE h3) (by omega) ⟨.bl _,H,I,rfl,k⟩
def dIn (neg:Bool):PyData->PyData->OP:=fun p q=>match q with
 | .list ds=>if okD p=true/\okD (.list ds)=true then some (.bool (if neg then !(ds.any fun z=>PyData.eqv z p) else ds.any fun z=>PyData.eqv z p)) else none
 | .tuple ds=>if okD p=true/\okD (.list ds)=true then some (.bool (if neg then !(ds.any fun z=>PyData.eqv z p) else ds.any fun z=>PyData.eqv z p)) else none
 | _=>none
theorem apM {neg:Bool}{p q d:PyData}{x y:V}{H:Hp}{Q:VK}{K:Fg} (h:dIn neg p q=some d) (rx:Rep K H p x) (ry:Rep K H q y) (k:∀ v H',jr H H'->Rep K H' d v->Q v H'):aqG K neg x y H Q:=by
 unfold dIn at h
 split at h
 ·split at h
  ·rename_i ds hc
   cases h
   exact ⟨p,ds,rx,.inl ry,hc.1,hc.2,k _ H (jr.refl H) rfl⟩
  ·cases h
 ·split at h
  ·rename_i ds hc
   cases h
   exact ⟨p,ds,rx,.inr ry,hc.1,hc.2,k _ H (jr.refl H) rfl⟩
  ·cases h
 ·cases h
theorem alT (hu:X.A.units+64<cLine):OpD X (compareOp .In) (dIn false):=⟨_,aqH hu,fun p q d x y H Q h rx ry k=>apM h rx ry k⟩
theorem adW (hu:X.A.units+64<cLine):OpD X (compareOp .NotIn) (dIn true):=⟨_,akj hu,fun p q d x y H Q h rx ry k=>apM h rx ry k⟩
noncomputable def zp (f:Int->Int->Bool):PyData->PyData->OP
 | .int i,.int j=>some (.bool (f i j))
 | _,_=>none
theorem aeT {f:Int->Int->Bool}{p q d:PyData}{x y:V}{H:Hp}{Q:VK}{K:Fg} (h:zp f p q=some d) (rx:Rep K H p x) (ry:Rep K H q y) (k:∀ v H',jr H H'->Rep K H' d v->Q v H'):rI0 (fun i j=> .bl (f i j)) x y H Q:=by
 unfold zp at h
 split at h
 ·cases h; cases (show x=_ from rx); cases (show y=_ from ry); exact ⟨_,_,rfl,rfl,k _ H (jr.refl H) rfl⟩
 ·cases h
theorem QW:OpD X (compareOp .Lt) (zp fun i j=>decide (i<j)):=⟨_,arP,fun p q d x y H Q h rx ry k=>aeT h rx ry k⟩
theorem aa8:OpD X (compareOp .LtE) (zp fun i j=>decide (i<=j)):=⟨_,arQ,fun p q d x y H Q h rx ry k=>aeT h rx ry k⟩
theorem ahN:OpD X (compareOp .Gt) (zp fun i j=>decide (j<i)):=⟨_,arR,fun p q d x y H Q h rx ry k=>aeT h rx ry k⟩
theorem alU:OpD X (compareOp .GtE) (zp fun i j=>decide (j<=i)):=⟨_,arS,fun p q d x y H Q h rx ry k=>aeT h rx ry k⟩
def chn (g g':PyData->PyData->OP) (fa fb fc:RP):RP:=fun ρ=>(fa ρ).bind fun x=>(fb ρ).bind fun y=>(g x y).bind fun z=>(asB z).bind fun t=>if t=true then (fc ρ).bind fun w=>g' y w else some (.bool false)
variable {a b c e:Expr}{fa fb fc:RP}{pos:Pos}
theorem apN {g g':PyData->PyData->OP}{K:Fg}{r r':R2} (hr:∀ p q d x y H Q,g p q=some d->Rep K H p x->Rep K H q y->(∀ v H',jr H H'->Rep K H' d v->Q v H')->r x y H Q)
  (hr':∀ p q d x y H Q,g' p q=some d->Rep K H p x->Rep K H q y->(∀ v H',jr H H'->Rep K H' d v->Q v H')->r' x y H Q) {σ:St} {H:Hp} {Q:VK} (h:tD K (chn g g' fa fb fc) σ H Q):ahz r r' (tD K fa) (tD K fb) (tD K fc) σ H Q:=by
 obtain ⟨ρ,d,en,h,k⟩:=h
 unfold chn at h
 cases ha:fa ρ with
 | none=>rw [ha] at h; cases h
 | some p=>
  cases hb:fb ρ with
  | none=>rw [ha,hb] at h; cases h
  | some q=>
   rw [ha,hb] at h
   cases hg:g p q with
   | none=>simp [hg] at h
   | some z=>
    cases ht:asB z with
    | none=>simp [hg,ht] at h
    | some t=>
     have hz:=zX ht
     subst hz
     refine ⟨ρ,p,en,ha,fun x H1 s1 r1=>⟨ρ,q,en.mono s1,hb,fun y H2 s2 r2=>?_⟩⟩
     refine hr p q _ x y H2 _ hg (Rep.mono s2 p x r1) r2 fun v H3 s3 r3=>⟨t,r3,?_⟩
     have s13:=s1.trans (s2.trans s3)
     cases t with
     | false=>
      rw [if_neg Bool.false_ne_true]
      have hd:PyData.bool false=d:=by simpa [hg,asB] using h
      subst hd
      exact k _ H3 s13 rfl
     | true=>
      rw [if_pos rfl]
      cases hc:fc ρ with
      | none=>simp [hg,asB,hc] at h
      | some w=>
       refine ⟨ρ,w,en.mono s13,hc,fun z H4 s4 r4=>?_⟩
       exact hr' q w d y z H4 Q (by simpa [hg,asB,hc] using h) (Rep.mono (s3.trans s4) q y r2) r4 fun v H5 s5 r5=>k v H5 (s13.trans (s4.trans s5)) r5
theorem agv {op op':CmpOp}{g g':PyData->PyData->OP} (ho:OpD X (compareOp op) g) (ho':OpD X (compareOp op') g') (ha:PD X a fa) (hb:PD X b fb) (hc:PD X c fc)
  (hm:lastMarks [op,op'] [b,c]=false:=by with_unfolding_all rfl):PD X (.Compare a [op,op'] [b,c] pos) (chn g g' fa fb fc):=by
 with_unfolding_all
  obtain ⟨r,h1,h2⟩:=ho
  obtain ⟨r',h3,h4⟩:=ho'
  exact PE.imp (alA h1 h3 ha hb hc hm) fun σ H Q h=>apN h2 h4 h
theorem adX {op op':CmpOp}{g g':PyData->PyData->OP} (ho:OpD X (compareOp op) g) (ho':OpD X (compareOp op') g') (ha:PD X a fa) (hb:PD X b fb) (hc:PD X c fc)
  (hm:lastMarks [op,op'] [b,c]=false:=by with_unfolding_all rfl):PTD X (.Compare a [op,op'] [b,c] pos) (tst (chn g g' fa fb fc)):=by
 with_unfolding_all
  obtain ⟨r,h1,h2⟩:=ho
  obtain ⟨r',h3,h4⟩:=ho'
  refine PT.imp (alB h1 h3 ha hb hc hm) fun σ H Q ⟨ρ,t,en,h,k⟩=>?_
  cases hd:chn g g' fa fb fc ρ with
  | none=>simp [tst,hd] at h
  | some d=>
   have ht:d= .bool t:=zX (by simpa [tst,hd] using h)
   subst ht
   exact apN h2 h4 ⟨ρ,_,en,hd,fun v H' s r=>⟨t,r,k H' s⟩⟩
def dIx:PyData->PyData->OP
 | .list ds,.int i=>if ds.length<1000000 then atI ds i else none
 | .tuple ds,.int i=>if ds.length<1000000 then atI ds i else none
 | .dict kvs,.int i=>if kvs.length<1000000/\zH kvs=true then (atI kvs i).map (·.1) else none
 | _,_=>none
theorem ajf {K:Fg}{H:Hp}{ds:LP}{xs:List V}{i:Int}{d:PyData} (r:Reps K H ds xs) (h:atI ds i=some d):∃ x,atI xs i=some x/\Rep K H d x:=by
 have hl:=r.length
 unfold atI at h ⊢
 rw [hl]
 cases e:ixN ds.length i with
 | none=>rw [e] at h; cases h
 | some j=>
  rw [e] at h
  obtain ⟨x,e1,e2⟩:=r.get (show ds[j]?=some d from h)
  exact ⟨x,e1,e2⟩
def IxD (X:Cx) (g:PyData->PyData->OP):Prop:=∃ r,IxR X r/\∀ p q d x y H Q,g p q=some d->Rep X.K H p x->Rep X.K H q y->(∀ v H',jr H H'->Rep X.K H' d v->Q v H')->r x y H Q
theorem ixd:IxD X dIx:=by
 refine ⟨_,an7.or aqu,fun p q d x y H Q h rx ry k=>?_⟩
 unfold dIx at h
 split at h
 ·split at h
  ·obtain ⟨a,us,e1,e2,e3⟩:=rx
   cases (show y=_ from ry)
   obtain ⟨z,g1,g2⟩:=ajf e3 h
   exact .inl ⟨a,us,_,z,e1,rfl,SqL.of e2,g1,k z H (jr.refl H) g2⟩
  ·cases h
 ·split at h
  ·obtain ⟨a,us,e1,e2,e3⟩:=rx
   cases (show y=_ from ry)
   obtain ⟨z,g1,g2⟩:=ajf e3 h
   exact .inr ⟨a,us,_,z,e1,rfl,e2,g1,k z H (jr.refl H) g2⟩
  ·cases h
 ·split at h
  ·rename_i hs
   obtain ⟨a,ns,e1,e2,e3⟩:=rx.scrOut hs.2
   cases (show y=_ from ry)
   subst e3
   rename_i i
   unfold atI at h
   rw [List.length_map] at h
   cases e:ixN ns.length i with
   | none=>rw [e] at h; cases h
   | some j=>
    rw [e] at h
    have h':((ns.map fun n=>(PyData.int n,PyData.none))[j]?).map (·.1)=some d:=h
    rw [List.getElem?_map] at h'
    cases e4:ns[j]? with
    | none=>rw [e4] at h'; cases h'
    | some n=>
     rw [e4] at h'
     cases h'
     refine .inl ⟨a,List.map V.int ns,i,.int n,e1,rfl,e2,?_,k _ H (jr.refl H) rfl⟩
     unfold atI
     rw [List.length_map,e]
     show (List.map V.int ns)[j]?=_
     rw [List.getElem?_map,e4]; rfl
  ·cases h
 ·cases h
theorem jS (ha:PD X a fa) (hb:PD X b fb) (hs:aeN b:=by intro _ _; rfl):PD X (.Subscript a b pos) (op2 dIx fa fb):=by
 with_unfolding_all
  obtain ⟨r,h1,h2⟩:=ixd (X:=X)
  exact PE.imp (apH h1 ha hb hs) fun σ H Q h=>alP h2 h
def zB (ds:LP):OP:=match ds with
 | [.list xs]=>some (.int xs.length)
 | [.tuple xs]=>some (.int xs.length)
 | [.dict xs]=>if zH xs=true then some (.int xs.length) else none
 | _=>none
theorem zb:QV X (.builtin "len") zB:=by
 refine ⟨_,aeO,fun ds d xs H Q h r k=>?_⟩
 unfold zB at h
 split at h
 ·cases h
  obtain ⟨x,q,e1,e2,e3⟩:=r
  cases (show q=[] from e3)
  obtain ⟨a,us,g1,g2,g3⟩:=e2
  subst g1
  exact ⟨a,us,e1,.inl (SqL.of g2),k _ H (jr.refl H) (by show _=_; rw [g3.length])⟩
 ·cases h
  obtain ⟨x,q,e1,e2,e3⟩:=r
  cases (show q=[] from e3)
  obtain ⟨a,us,g1,g2,g3⟩:=e2
  subst g1
  exact ⟨a,us,e1,.inr g2,k _ H (jr.refl H) (by show _=_; rw [g3.length])⟩
 ·split at h
  ·rename_i hs
   cases h
   obtain ⟨x,q,e1,e2,e3⟩:=r
   cases (show q=[] from e3)
   obtain ⟨a,ns,g1,g2,g3⟩:=e2.scrOut hs
   subst g1; subst g3
   exact ⟨a,_,e1,.inl g2,k _ H (jr.refl H) (by show _=_; simp)⟩
  ·cases h
 ·cases h
noncomputable def alV (ds:LP):OP:=match ds with
 | [.int i,.int j]=>some (.int (if j > i then j else i))
 | _=>none
noncomputable def agw (ds:LP):OP:=match ds with
 | [.int i,.int j]=>some (.int (if j<i then j else i))
 | _=>none
theorem aop (hc:X.calm=true):QV X (.builtin "max") alV:=by
 refine ⟨_,aj5 hc,fun ds d xs H Q h r k=>?_⟩
 unfold alV at h
 split at h
 ·cases h
  obtain ⟨x,q,e1,e2,y,q',e3,e4,e5⟩:=r
  cases (show x=_ from e2); cases (show y=_ from e4); cases (show q'=[] from e5); subst e3
  exact ⟨_,_,e1,k _ H (jr.refl H) rfl⟩
 ·cases h
theorem aeU (hc:X.calm=true):QV X (.builtin "min") agw:=by
 refine ⟨_,aj6 hc,fun ds d xs H Q h r k=>?_⟩
 unfold agw at h
 split at h
 ·cases h
  obtain ⟨x,q,e1,e2,y,q',e3,e4,e5⟩:=r
  cases (show x=_ from e2); cases (show y=_ from e4); cases (show q'=[] from e5); subst e3
  exact ⟨_,_,e1,k _ H (jr.refl H) rfl⟩
 ·cases h
end
section
variable {X:Cx}{Kp:List (Addr × Obj)}{σ:St}{H:Hp}{s:Shared}
theorem akk {prog:Program}{w:World}{A:Around}{E:Value->SP0}{l:Addr}{its:Array Value}{Q:Value->SP0} (hl:s.heap.IsList l its)
  (h:∀ (h2:Heap) (it:Addr),(h2.IsListIter it l 0/\h2.IsList l its)->(∀ b ∈ [it,l],b<h2.objs.size)->l ≠ it->(∀ b o,s.heap.get? b=some o->h2.get? b=some o)->s.heap.get? it=none->Q (.ref it) { s with heap:=h2 }):
  wpAny (model prog w) A (pyIter (.ref l)) Q E s:=by
 have hlt:l<s.heap.objs.size:=by
  obtain ⟨_,e,_⟩:=hl
  exact Heap.lt_size e
 refine wpAny_pyIter_list hl (h _ _ ⟨⟨_,Heap.get?_push_size _ rfl,rfl,rfl⟩,hl.push _⟩ (fun b hb=>?_) (Nat.ne_of_lt hlt) (fun b o e=>Heap.get?_push_of_some _ e) (Heap.get?_none_of_le (Nat.le_refl _)))
 rw [Heap.size_push]
 rcases List.mem_cons.mp hb with e | hb
 ·rw [e]; exact Nat.lt_succ_self _
 ·have e:b=l:=by simpa using hb
  rw [e]; exact Nat.lt_succ_of_lt hlt
theorem aoq {h h2 h3 : Heap} {it : Addr} (k1 : ∀ b o, h.get? b = some o -> h2.get? b = some o) (hn : h.get? it = none) (k2 : ∀ b o, b ∉ [it] -> h2.get? b = some o -> h3.get? b = some o) : ∀ b o, h.get? b = some o -> h3.get? b = some o := fun b o e =>
  k2 b o (fun z => by have e1 : b = it := by simpa using z
                      rw [e1, hn] at e; cases e) (k1 b o e)
theorem ajg:∀ {bs:List Bool}{us:List Value},jJ (bs.map V.bl) us->us=bs.map Value.bool
 | [],us,r=>by cases r; rfl
 | b::bs,us,r=>by
  cases r with
  | cons r1 r2=>cases (show _=_ from r1); rw [ajg r2]; rfl
theorem akl (bs:List Bool):(List.range bs.length).all (fun i=>bs.getD i false)=bs.all id:=by
 have:bs=(List.range bs.length).map (fun i=>bs.getD i false):=by
  apply List.ext_getElem?
  intro i
  rw [List.getElem?_map]
  by_cases h:i<bs.length
  ·rw [List.getElem?_range h]; simp [List.getD,h]
  ·simp [h]
 conv=>rhs; rw [this]
 rw [List.all_map]; rfl
def atm (K:Fg):List V->Hp->VK->Prop:=fun xs H Q=>∃ a bs,xs=[.ref a]/\SqL K H a (List.map V.bl bs)/\Q (.bl (bs.all id)) H
theorem akm (hc:X.calm=true):zV X (.builtin "all") (atm X.K):=by
 intro Kp s σ H xs us Q I r ⟨a,bs,e,hq,q⟩
 subst e
 obtain ⟨u,rfl,rx⟩:=abw r
 cases rx
 obtain ⟨its,rv,pl,hz⟩:=I.list hq
 have ei:=ajg rv
 have hh:=I.ok.hd hc
 refine call_all_walk (akk pl.isList fun h2 it st hlt hne k1 hn=>?_)
 refine ⟨it,[it,a],[it],its.toArray.size,(fun i v=>its.toArray[i]?=some v),_,fun i=>bs.getD i false,rfl,Walks.list (A:=X.A.in1) hh it a hne its.toArray,st,?_,fun h3 tk k2=>?_⟩
 ·intro i v s' Q' E' hP hq'
  have:v= .bool (bs.getD i false):=by
   have hP':its[i]?=some v:=by simpa using hP
   rw [ei,List.getElem?_map] at hP'
   cases hb:bs[i]? with
   | none=>rw [hb] at hP'; cases hP'
   | some b=>rw [hb] at hP'; cases hP'; simp [List.getD,hb]
  subst this
  exact wpAny_truthy_bool hq'
 ·have I3:=I.kept (t':=tk) (aoq k1 hn k2)
  have hl:its.toArray.size=bs.length:=by rw [ei]; simp
  refine ⟨.bl (bs.all id),H,I3,?_,q⟩
  show _=_
  rw [hl,akl]
def bls:LP->Option (List Bool)
 | []=>some []
 | d::r=>(asB d).bind fun b=>(bls r).map fun q=>b::q
theorem Reps.bls {K:Fg}{H:Hp}:∀ {ds:LP}{bs:List Bool}{xs:List V},BX.bls ds=some bs->Reps K H ds xs->xs=bs.map V.bl
 | [],bs,xs,h,r=>by simp [BX.bls] at h; subst h; exact r
 | d::ds,bs,xs,h,⟨x,q,e1,e2,e3⟩=>by
  subst e1
  cases h1:asB d with
  | none=>simp [BX.bls,h1] at h
  | some b=>
   cases h2:BX.bls ds with
   | none=>simp [BX.bls,h1,h2] at h
   | some r=>
    have:b::r=bs:=by simpa [BX.bls,h1,h2] using h
    subst this
    have hd:=zX h1
    subst hd
    cases (show x=_ from e2)
    rw [Reps.bls h2 e3]; rfl
def alW (ds:LP):OP:=match ds with
 | [.list xs]=>(bls xs).map fun bs=> .bool (bs.all id)
 | _=>none
theorem ahO (hc:X.calm=true):QV X (.builtin "all") alW:=by
 refine ⟨_,akm hc,fun ds d xs H Q h r k=>?_⟩
 unfold alW at h
 split at h
 ·rename_i ys
  cases hb:bls ys with
  | none=>simp [hb] at h
  | some bs=>
   have:PyData.bool (bs.all id)=d:=by simpa [hb] using h
   subst this
   obtain ⟨x,q,e1,e2,e3⟩:=r
   cases (show q=[] from e3)
   obtain ⟨a,us,g1,g2,g3⟩:=e2
   subst g1
   have:=Reps.bls hb g3
   subst this
   exact ⟨a,bs,e1,SqL.of g2,k _ H (jr.refl H) rfl⟩
 ·cases h
noncomputable def aaj:PyData->Option Int
 | .int i=>some i
 | _=>none
def ar8:LP->Option (List Int)
 | []=>some []
 | d::r=>(aaj d).bind fun b=>(ar8 r).map fun q=>b::q
end
section
variable {prog:Program}{w:World}{A:Around}{E:Value->SP0}{s:Shared}
theorem Z3 {it t:Addr}{i:Nat}{ys:Array Value}{x:Value}{Q:Value->SP0} (hit:s.heap.IsTupleIter it t i) (ht:s.heap.IsTuple t ys) (hx:ys[i]?=some x)
  (hQ:∀ h',h'.IsTupleIter it t (i+1)->Heap.SameBut it s.heap h'->Q x { s with heap:=h' }):wpAny (model prog w) A (Builtin.SmallTypes.nextOf (.ref it)) Q E s:=by
 obtain ⟨o,ho,hc,hd⟩:=id hit
 obtain ⟨ot,hot,_,nt,hdt⟩:=ht
 unfold Builtin.SmallTypes.nextOf
 refine wpAny_bind (wpAny_callSpecial?_slot (name:=Str.ofString "__next__") hit.typeIs F.slot_tuple_iterator_next
  (wpAny_call_entry F.slot_tuple_iterator_next hit.typeIs F.entry_tuple_iterator_next ?_
   (F.args_tuple_iterator_next_1 _)))
 refine wpAny_bind (m:=field (.ref it) 0) (wpAny_field ho hd (x:= .ref t) rfl ?_)
 have no:¬ ((Value.ref t == Value.none)=true):=Bool.false_ne_true
 show wpAny _ _ (if (Value.ref t == Value.none)=true then _ else
  _) _ _ s
 rw [if_neg no]
 refine wpAny_bind (m:=field (.ref it) 1) (wpAny_field ho hd (x:= .int i 0) rfl ?_)
 refine wpAny_bind (m:=seqItems? (.ref t)) (wpAny_seqItems hot hdt ?_)
 simp only [Int.toNat_natCast,hx]
 refine wpAny_bind (wpAny_setField ho hd (by simp) (wpAny_pure ⟨x,rfl,wpAny_pure (hQ _ ?_ (Heap.SameBut.update ..))⟩))
 refine ⟨_,Heap.get?_update_self _ ho (Obj.isFreed_of_fields (Obj.data_mapFields hd _)),(Obj.cls_mapFields ..).trans hc,?_⟩
 rw [Obj.data_mapFields hd]
 simp [rawInt]
theorem akn {it t:Addr}{i:Nat}{ys:Array Value}{Q:Value->SP0} (hh:A.handled=none) (hit:s.heap.IsTupleIter it t i) (ht:s.heap.IsTuple t ys) (hx:ys[i]?=none)
  (hE:∀ h' e,Heap.ExtBut it s.heap h'->(∃ o,h'.get? e=some o/\o.cls= .type "StopIteration")->E (.ref e) { s with heap:=h' }):wpAny (model prog w) A (Builtin.SmallTypes.nextOf (.ref it)) Q E s:=by
 obtain ⟨o,ho,hc,hd⟩:=id hit
 obtain ⟨ot,hot,_,nt,hdt⟩:=ht
 unfold Builtin.SmallTypes.nextOf
 refine wpAny_bind (wpAny_callSpecial?_slot (name:=Str.ofString "__next__") hit.typeIs F.slot_tuple_iterator_next
  (wpAny_call_entry F.slot_tuple_iterator_next hit.typeIs F.entry_tuple_iterator_next ?_
   (F.args_tuple_iterator_next_1 _)))
 refine wpAny_bind (m:=field (.ref it) 0) (wpAny_field ho hd (x:= .ref t) rfl ?_)
 have no:¬ ((Value.ref t == Value.none)=true):=Bool.false_ne_true
 show wpAny _ _ (if (Value.ref t == Value.none)=true then _ else
  _) _ _ s
 rw [if_neg no]
 refine wpAny_bind (m:=field (.ref it) 1) (wpAny_field ho hd (x:= .int i 0) rfl ?_)
 refine wpAny_bind (m:=seqItems? (.ref t)) (wpAny_seqItems hot hdt ?_)
 simp only [Int.toNat_natCast,hx]
 refine wpAny_bind (wpAny_rule (wpAny_bind (wpAny_setField ho hd (by simp) ?_)))
 refine wpAny_bind (m:=newExc (.type "StopIteration") []) ?_
 simp only [newExc,newTuple]
 refine wpAny_bind (wpAny_newObj_type ?_ (by size_fits))
 refine wpAny_bind (m:=firstArgMember _ _) (wpAny_of_eq (a:=Value.none)
  (by first | rfl | (simp only [firstArgMember]; rfl)) ?_)
 refine wpAny_newObj_type ?_ (by size_fits)
 simp only [raiseNew]
 refine wpAny_bind (wpAny_handled ?_)
 rw [show A.in1.handled=none from hh]
 refine wpAny_bind (wpAny_pure (wpAny_throw ?_))
 exact hE _ _ (((Heap.SameBut.update ..).extBut.push _).push _) ⟨_,Heap.get?_push_size _ rfl,rfl⟩
abbrev aak (h:Heap) (T:Addr) (a b c:Value):Prop:=h.get? T=some { cls:= .type "tuple",data:= .seq #[a,b,c] }
theorem acF {T:Addr}{a b c x:Value}{k:Nat}{Q:Unit->SP0} (hT:aak s.heap T a b c)
  (h:∀ h',h'.get? T=some { cls:= .type "tuple",data:= .seq ((#[a,b,c]:Array Value).setIfInBounds k x) }->Heap.SameBut T s.heap h'->Q () { s with heap:=h' }):
  wpAny (model prog w) A (updateSeq T (·.setIfInBounds k x)) Q E s:=by
 refine wpAny_updateSeq hT rfl (h _ ?_ (Heap.SameBut.update ..))
 rw [Heap.get?_update_self _ hT rfl]
 simp [Obj.mapSeq]
structure Apart3 (z TI TO i1 i2 i3 t1 t2 t3:Addr):Prop where
 nd:[z,TO,i1,i2,i3].Nodup
 ti:TI ∉ [z,TO,i1,i2,i3]
 s1:t1 ∉ [z,TO,i1,i2,i3]
 s2:t2 ∉ [z,TO,i1,i2,i3]
 s3:t3 ∉ [z,TO,i1,i2,i3]
structure Zip3 (h:Heap) (z TI TO i1 i2 i3 t1 t2 t3:Addr) (xs ys zs:Array Value) (f0:Value) (k:Nat):Prop where
 hz:IsZip h z TI TO f0
 hTI:aak h TI (.ref i1) (.ref i2) (.ref i3)
 hTO:∃ a b c,aak h TO a b c
 g1:h.IsTupleIter i1 t1 k
 g2:h.IsTupleIter i2 t2 k
 g3:h.IsTupleIter i3 t3 k
 a1:h.IsTuple t1 xs
 a2:h.IsTuple t2 ys
 a3:h.IsTuple t3 zs
theorem Zip3.keep {h h':Heap}{z TI TO i1 i2 i3 t1 t2 t3:Addr}{xs ys zs:Array Value}{f0:Value}{k:Nat} (S:Zip3 h z TI TO i1 i2 i3 t1 t2 t3 xs ys zs f0 k)
  (kp:∀ b ∈ [z,TI,TO,i1,i2,i3,t1,t2,t3],∀ o,h.get? b=some o->h'.get? b=some o):Zip3 h' z TI TO i1 i2 i3 t1 t2 t3 xs ys zs f0 k:=by
 obtain ⟨hz,hTI,⟨a,b,c,hTO⟩,⟨o1,e1,r1⟩,⟨o2,e2,r2⟩,⟨o3,e3,r3⟩,⟨p1,f1,q1⟩,⟨p2,f2,q2⟩,⟨p3,f3,q3⟩⟩:=S
 exact ⟨kp z (by simp) _ hz,kp TI (by simp) _ hTI,⟨a,b,c,kp TO (by simp) _ hTO⟩,⟨o1,kp i1 (by simp) _ e1,r1⟩,⟨o2,kp i2 (by simp) _ e2,r2⟩,⟨o3,kp i3 (by simp) _ e3,r3⟩,⟨p1,kp t1 (by simp) _ f1,q1⟩,⟨p2,kp t2 (by simp) _ f2,q2⟩,⟨p3,kp t3 (by simp) _ f3,q3⟩⟩
def But (l:List Addr) (h h':Heap):Prop:=∀ b o,b ∉ l->h.get? b=some o->h'.get? b=some o
theorem But.of {b:Addr}{l:List Addr}{h h':Heap} (x:Heap.ExtBut b h h') (hb:b ∈ l):But l h h':=fun c o hc e=>x c o (fun z=>hc (by rw [z]; exact hb)) e
theorem But.trans {l:List Addr}{h h1 h2:Heap} (a:But l h h1) (b:But l h1 h2):But l h h2:=fun c o hc e=>b c o hc (a c o hc e)
theorem ako {z TI TO i1 i2 i3 t1 t2 t3:Addr}{xs ys zs:Array Value}{k:Nat}{x y v:Value}{Q:Value->SP0} (D:Apart3 z TI TO i1 i2 i3 t1 t2 t3) (S:Zip3 s.heap z TI TO i1 i2 i3 t1 t2 t3 xs ys zs .none k)
  (hx:xs[k]?=some x) (hy:ys[k]?=some y) (hv:zs[k]?=some v)
  (hQ:∀ h',Zip3 h' z TI TO i1 i2 i3 t1 t2 t3 xs ys zs (rawInt s.heap.objs.size) (k+1)->aak h' s.heap.objs.size x y v->But [z,TO,i1,i2,i3] s.heap h'->Q (.ref s.heap.objs.size) { s with heap:=h' }):
  wpAny (model prog w) A (Builtin.«zip.__next__» ⟨[.ref z],[]⟩) (fun fin s'=>∃ v,fin= .done (.ret v)/\Q v s') E s:=by
 obtain ⟨hz,hTI,⟨a,b,c,hTO⟩,g1,g2,g3,a1,a2,a3⟩:=S
 obtain ⟨nd,ti,s1,s2,s3⟩:=D
 simp only [List.nodup_cons,List.mem_cons,List.not_mem_nil,or_false,not_or] at nd ti s1 s2 s3
 obtain ⟨⟨n1,n2,n3,n4⟩,⟨n5,n6,n7⟩,⟨n8,n9⟩,n10,_⟩:=nd
 obtain ⟨t1z,t1o,t11,t12,t13⟩:=s1
 obtain ⟨t2z,t2o,t21,t22,t23⟩:=s2
 obtain ⟨t3z,t3o,t31,t32,t33⟩:=s3
 obtain ⟨tiz,tio,ti1,ti2,ti3⟩:=ti
 refine wpAny_bind (m:=field (.ref z) 2) (wpAny_field hz rfl (x:= .bool false) rfl ?_)
 refine wpAny_bind (m:=field (.ref z) 3) (wpAny_field hz rfl (x:= .ref TI) rfl ?_)
 refine wpAny_bind (wpAny_seqItems hTI rfl ?_)
 refine wpAny_bind (m:=Builtin.SmallTypes.ownedTupleIsFree (.ref z)) ?_
 unfold Builtin.SmallTypes.ownedTupleIsFree
 refine wpAny_bind (wpAny_field hz rfl (x:= .none) rfl (wpAny_pure ?_))
 simp only [zzM]
 refine wpAny_bind (wpAny_rule ?_)
 refine wpAny_bind (wpAny_field hz rfl (x:= .ref TO) rfl ?_)
 refine wpAny_bind (wpAny_setField_rec hz (by simp) fun h1 hz1 b1=>?_)
 replace hz1:IsZip h1 z TI TO .ellipsis:=hz1
 refine wpAny_bind ?_
 simp only [List.zipIdx_cons,List.zipIdx_nil,List.forIn_cons,List.forIn_nil]
 refine wpAny_bind (wpAny_bind (wpAny_onRaise ?_))
 refine wpAny_bind (m:=Builtin.SmallTypes.nextOf (.ref i1)) ?_
 refine Z3 (g1.extBut b1.extBut (Ne.symm n2)) (a1.extBut b1.extBut t1z) hx fun h2 g1' b2=>wpAny_pure ?_
 have o2:aak h2 TO a b c:=b2.extBut _ _ n5 (b1.extBut _ _ (Ne.symm n1) hTO)
 refine wpAny_bind (wpAny_seqItems o2 rfl ?_)
 refine wpAny_bind (acF o2 fun h3 o3 b3=>?_)
 replace o3:aak h3 TO x b c:=o3
 refine wpAny_bind (wpAny_letGo (wpAny_pure ?_))
 refine wpAny_bind (wpAny_bind (wpAny_onRaise ?_))
 refine wpAny_bind (m:=Builtin.SmallTypes.nextOf (.ref i2)) ?_
 refine Z3 (((g2.extBut b1.extBut (Ne.symm n3)).extBut b2.extBut (Ne.symm n8)).extBut b3.extBut (Ne.symm n6)) (((a2.extBut b1.extBut t2z).extBut b2.extBut t21).extBut b3.extBut t2o) hy fun h4 g2' b4=>wpAny_pure ?_
 have o4:aak h4 TO x b c:=b4.extBut _ _ n6 o3
 refine wpAny_bind (wpAny_seqItems o4 rfl ?_)
 refine wpAny_bind (acF o4 fun h5 o5 b5=>?_)
 replace o5:aak h5 TO x y c:=o5
 refine wpAny_bind (wpAny_letGo (wpAny_pure ?_))
 refine wpAny_bind (wpAny_bind (wpAny_onRaise ?_))
 refine wpAny_bind (m:=Builtin.SmallTypes.nextOf (.ref i3)) ?_
 refine Z3 (((((g3.extBut b1.extBut (Ne.symm n4)).extBut b2.extBut (Ne.symm n9)).extBut b3.extBut (Ne.symm n7)).extBut b4.extBut (Ne.symm n10)).extBut b5.extBut (Ne.symm n7))
  (((((a3.extBut b1.extBut t3z).extBut b2.extBut t31).extBut b3.extBut t3o).extBut b4.extBut t32).extBut b5.extBut t3o) hv fun h6 g3' b6=>wpAny_pure ?_
 have o6:aak h6 TO x y c:=b6.extBut _ _ n7 o5
 refine wpAny_bind (wpAny_seqItems o6 rfl ?_)
 refine wpAny_bind (acF o6 fun h7 o7 b7=>?_)
 replace o7:aak h7 TO x y v:=o7
 refine wpAny_bind (wpAny_letGo (wpAny_pure (wpAny_pure ?_)))
 refine wpAny_bind (wpAny_seqItems o7 rfl ?_)
 refine wpAny_bind (wpAny_newTuple ?_)
 have sz:h7.objs.size=s.heap.objs.size:=by rw [b7.1,b6.1,b5.1,b4.1,b3.1,b2.1,b1.1]
 have B:But [z,TO,i1,i2,i3] s.heap h7:=
  ((((((But.of b1.extBut (by simp)).trans (But.of b2.extBut (by simp))).trans (But.of b3.extBut (by simp))).trans (But.of b4.extBut (by simp))).trans (But.of b5.extBut (by simp))).trans (But.of b6.extBut (by simp))).trans (But.of b7.extBut (by simp))
 have z7:IsZip h7 z TI TO .ellipsis:=b7.extBut _ _ n1 (b6.extBut _ _ n4 (b5.extBut _ _ n1 (b4.extBut _ _ n3 (b3.extBut _ _ n1 (b2.extBut _ _ n2 hz1)))))
 have i17:h7.IsTupleIter i1 t1 (k+1):=((((g1'.extBut b3.extBut (Ne.symm n5)).extBut b4.extBut n8).extBut b5.extBut (Ne.symm n5)).extBut b6.extBut n9).extBut b7.extBut (Ne.symm n5)
 have i27:h7.IsTupleIter i2 t2 (k+1):=((g2'.extBut b5.extBut (Ne.symm n6)).extBut b6.extBut n10).extBut b7.extBut (Ne.symm n6)
 have i37:h7.IsTupleIter i3 t3 (k+1):=g3'.extBut b7.extBut (Ne.symm n7)
 refine wpAny_bind (m:=Builtin.SmallTypes.ownedTupleHandOut (.ref z) (.ref h7.objs.size)) ?_
 unfold Builtin.SmallTypes.ownedTupleHandOut
 have z8:IsZip (h7.push { cls:= .type "tuple",data:= .seq #[x,y,v] }) z TI TO .ellipsis:=Heap.get?_push_of_some _ z7
 refine wpAny_bind (wpAny_setField_rec z8 (by simp) fun h9 z9 b9=>?_)
 replace z9:IsZip h9 z TI TO (rawInt h7.objs.size):=z9
 refine wpAny_setField_rec z9 (by simp) fun h10 z10 b10=>?_
 replace z10:IsZip h10 z TI TO (rawInt h7.objs.size):=z10
 have up:∀ c o,c ≠ z->h7.get? c=some o->h10.get? c=some o:=fun c o c1 e=>b10.extBut _ _ c1 (b9.extBut _ _ c1 (Heap.get?_push_of_some _ e))
 have zlt:z<h7.objs.size:=Heap.lt_size z7
 have T10:aak h10 h7.objs.size x y v:=b10.extBut _ _ (Nat.ne_of_gt zlt) (b9.extBut _ _ (Nat.ne_of_gt zlt) (Heap.get?_push_size _ rfl))
 rw [sz] at z10 T10
 refine wpAny_pure ⟨_,rfl,?_⟩
 show Q (.ref h7.objs.size) _
 rw [sz]
 have itk:∀ {i t:Addr} {m:Nat},i ≠ z->h7.IsTupleIter i t m->h10.IsTupleIter i t m:=fun ne ⟨o,e,r⟩=>⟨o,up _ o ne e,r⟩
 have tuk:∀ {t:Addr} {us:Array Value},t ∉ [z,TO,i1,i2,i3]->s.heap.IsTuple t us->h10.IsTuple t us:=fun ne ⟨o,e,r⟩=>⟨o,up _ o (fun q=>ne (by simp [q])) (B _ o ne e),r⟩
 refine hQ h10 ⟨z10,up _ _ tiz (B _ _ (by simp [tiz,tio,ti1,ti2,ti3]) hTI),⟨x,y,v,up _ _ (Ne.symm n1) o7⟩,itk (Ne.symm n2) i17,itk (Ne.symm n3) i27,itk (Ne.symm n4) i37,
  tuk (by simp [t1z,t1o,t11,t12,t13]) a1,tuk (by simp [t2z,t2o,t21,t22,t23]) a2,tuk (by simp [t3z,t3o,t31,t32,t33]) a3⟩ T10 fun c o hc e=>up c o (fun q=>hc (by simp [q])) (B c o hc e)
theorem alX {z TI TO i1 i2 i3 t1 t2 t3:Addr}{xs ys zs:Array Value}{k:Nat}{Q:Fin->SP0} (hh:A.handled=none) (D:Apart3 z TI TO i1 i2 i3 t1 t2 t3) (S:Zip3 s.heap z TI TO i1 i2 i3 t1 t2 t3 xs ys zs .none k) (hx:xs[k]?=none)
  (hE:∀ h' e,But [z,TO,i1,i2,i3] s.heap h'->(∃ o,h'.get? e=some o/\o.cls= .type "StopIteration")->E (.ref e) { s with heap:=h' }):
  wpAny (model prog w) A (Builtin.«zip.__next__» ⟨[.ref z],[]⟩) Q E s:=by
 obtain ⟨hz,hTI,⟨a,b,c,hTO⟩,g1,g2,g3,a1,a2,a3⟩:=S
 obtain ⟨nd,ti,s1,s2,s3⟩:=D
 simp only [List.nodup_cons,List.mem_cons,List.not_mem_nil,or_false,not_or] at nd ti s1 s2 s3
 obtain ⟨⟨n1,n2,n3,n4⟩,⟨n5,n6,n7⟩,⟨n8,n9⟩,n10,_⟩:=nd
 refine wpAny_bind (m:=field (.ref z) 2) (wpAny_field hz rfl (x:= .bool false) rfl ?_)
 refine wpAny_bind (m:=field (.ref z) 3) (wpAny_field hz rfl (x:= .ref TI) rfl ?_)
 refine wpAny_bind (wpAny_seqItems hTI rfl ?_)
 refine wpAny_bind (m:=Builtin.SmallTypes.ownedTupleIsFree (.ref z)) ?_
 unfold Builtin.SmallTypes.ownedTupleIsFree
 refine wpAny_bind (wpAny_field hz rfl (x:= .none) rfl (wpAny_pure ?_))
 simp only [zzM]
 refine wpAny_bind (wpAny_rule ?_)
 refine wpAny_bind (wpAny_field hz rfl (x:= .ref TO) rfl ?_)
 refine wpAny_bind (wpAny_setField_rec hz (by simp) fun h1 hz1 b1=>?_)
 replace hz1:IsZip h1 z TI TO .ellipsis:=hz1
 refine wpAny_bind ?_
 simp only [List.zipIdx_cons,List.zipIdx_nil,List.forIn_cons,List.forIn_nil]
 refine wpAny_bind (wpAny_bind (wpAny_onRaise ?_))
 refine wpAny_bind (m:=Builtin.SmallTypes.nextOf (.ref i1)) ?_
 refine akn hh (g1.extBut b1.extBut (Ne.symm n2)) (a1.extBut b1.extBut s1.1) hx fun h2 e b2 he=>?_
 obtain ⟨oe,ho,hc⟩:=he
 have z2:IsZip h2 z TI TO .ellipsis:=b2 _ _ n2 hz1
 have ez:e ≠ z:=fun q=>by subst q; rw [z2] at ho; cases ho; simp at hc
 refine wpAny_setField_rec z2 (by simp) fun h3 _ b3=>?_
 exact hE h3 e (((But.of b1.extBut (by simp)).trans (But.of b2 (by simp))).trans (But.of b3.extBut (by simp))) ⟨oe,b3.extBut _ _ ez ho,hc⟩
end
structure ZipC (h:Heap) (z TI TO i1 i2 i3 t1 t2 t3:Addr) (f0:Value) (k:Nat):Prop where
 hz:IsZip h z TI TO f0
 hTI:aak h TI (.ref i1) (.ref i2) (.ref i3)
 hTO:∃ a b c,aak h TO a b c
 g1:h.IsTupleIter i1 t1 k
 g2:h.IsTupleIter i2 t2 k
 g3:h.IsTupleIter i3 t3 k
theorem ZipC.all {h:Heap}{z TI TO i1 i2 i3 t1 t2 t3:Addr}{f0:Value}{k:Nat} (S:ZipC h z TI TO i1 i2 i3 t1 t2 t3 f0 k) {xs ys zs:Array Value} (a1:h.IsTuple t1 xs) (a2:h.IsTuple t2 ys) (a3:h.IsTuple t3 zs):
  Zip3 h z TI TO i1 i2 i3 t1 t2 t3 xs ys zs f0 k:=⟨S.hz,S.hTI,S.hTO,S.g1,S.g2,S.g3,a1,a2,a3⟩
theorem Zip3.c {h:Heap}{z TI TO i1 i2 i3 t1 t2 t3:Addr}{xs ys zs:Array Value}{f0:Value}{k:Nat} (S:Zip3 h z TI TO i1 i2 i3 t1 t2 t3 xs ys zs f0 k):ZipC h z TI TO i1 i2 i3 t1 t2 t3 f0 k:=⟨S.hz,S.hTI,S.hTO,S.g1,S.g2,S.g3⟩
theorem ZipC.keep {h h':Heap}{z TI TO i1 i2 i3 t1 t2 t3:Addr}{f0:Value}{k:Nat} (S:ZipC h z TI TO i1 i2 i3 t1 t2 t3 f0 k) (kp:∀ b ∈ [z,TI,TO,i1,i2,i3],∀ o,h.get? b=some o->h'.get? b=some o):
  ZipC h' z TI TO i1 i2 i3 t1 t2 t3 f0 k:=by
 obtain ⟨hz,hTI,⟨a,b,c,hTO⟩,⟨o1,e1,r1⟩,⟨o2,e2,r2⟩,⟨o3,e3,r3⟩⟩:=S
 exact ⟨kp z (by simp) _ hz,kp TI (by simp) _ hTI,⟨a,b,c,kp TO (by simp) _ hTO⟩,⟨o1,kp i1 (by simp) _ e1,r1⟩,⟨o2,kp i2 (by simp) _ e2,r2⟩,⟨o3,kp i3 (by simp) _ e3,r3⟩⟩
def Itz (K:Fg) (t1 t2 t3:Addr):It:=
 ⟨fun i H=>∃ xs ys zs x y v,SqT K H t1 xs/\SqT K H t2 ys/\SqT K H t3 zs/\xs[i]?=some x/\ys[i]?=some y/\zs[i]?=some v,
  fun i H u H'=>∃ p x y v,u= .ref p/\H p=none/\H'=upd H p (.tup [x,y,v])/\∀ xs ys zs,SqT K H t1 xs->SqT K H t2 ys->SqT K H t3 zs->xs[i]?=some x/\ys[i]?=some y/\zs[i]?=some v,
  fun i H=>∃ xs ys zs,SqT K H t1 xs/\SqT K H t2 ys/\SqT K H t3 zs/\xs.length<=i⟩
theorem alY {P:Program}{w:World}{K:Fg}{elts:List Expr}{x1:Nat}{pos:Pos}{z TI TO i1 i2 i3 t1 t2 t3:Addr} (nd:[z,TO,i1,i2,i3].Nodup) (ti:TI ∉ [z,TO,i1,i2,i3]):
  Turn P w K (.Tuple elts x1 pos) (Itz K t1 t2 t3) [z,TI,TO,i1,i2,i3] z (fun i h=>ZipC h z TI TO i1 i2 i3 t1 t2 t3 .none i) where
 mem:=by simp
 obj:=fun i h st b hb=>by
  obtain ⟨hz,hTI,⟨a,b',c,hTO⟩,⟨o1,e1,_,d1⟩,⟨o2,e2,_,d2⟩,⟨o3,e3,_,d3⟩⟩:=st
  simp only [List.mem_cons,List.not_mem_nil,or_false] at hb
  rcases hb with rfl | rfl | rfl | rfl | rfl | rfl
  ·exact ⟨_,hz,fun v q=>by cases q⟩
  ·exact ⟨_,hTI,fun v q=>by cases q⟩
  ·exact ⟨_,hTO,fun v q=>by cases q⟩
  ·exact ⟨o1,e1,fun v q=>by rw [d1] at q; cases q⟩
  ·exact ⟨o2,e2,fun v q=>by rw [d2] at q; cases q⟩
  ·exact ⟨o3,e3,fun v q=>by rw [d3] at q; cases q⟩
 keep:=fun i h h' st k=>st.keep k
 item:=by
  intro X hP hw hK hc i Kp s σ H E I hf st hg
  subst hP hw hK
  obtain ⟨xs,ys,zs,x,y,v,q1,q2,q3,ex,ey,ev⟩:=hg
  obtain ⟨us1,r1,p1,z1⟩:=I.tuple q1
  obtain ⟨us2,r2,p2,z2⟩:=I.tuple q2
  obtain ⟨us3,r3,p3,z3⟩:=I.tuple q3
  obtain ⟨u1,m1,l1⟩:=r1.get ex
  obtain ⟨u2,m2,l2⟩:=r2.get ey
  obtain ⟨u3,m3,l3⟩:=r3.get ev
  have trk:∀ {t:Addr} {ws:List V},SqT X.K H t ws->t ∉ [z,TO,i1,i2,i3]:=fun {t ws} hq hb=>by
   have hb':t ∈ [z,TI,TO,i1,i2,i3]:=by
    simp only [List.mem_cons,List.not_mem_nil,or_false] at hb ⊢
    rcases hb with e | e | e | e | e <;> simp [e]
   rcases hq with (e | ⟨o,e⟩) | ⟨o,its,n,hk,hcl,hs,_,_⟩
   ·have:=(hf t hb').1; rw [e] at this; cases this
   ·have:=(hf t hb').1; rw [e] at this; cases this
   ·-- an object of the module is no iterator of ours
    obtain ⟨f0,f1,f2,f3,f4,f5⟩:=hf t hb'
    have hbase:=I.mod.kin t o hk
    rcases f3 with q | q
    ·exact I.ok.noex t o hbase q
    ·exact absurd (Nat.lt_of_lt_of_le (Heap.lt_size hbase) (Nat.le_trans I.ok.bsz q)) (Nat.lt_irrefl _)
  have D:Apart3 z TI TO i1 i2 i3 t1 t2 t3:=⟨nd,ti,trk q1,trk q2,trk q3⟩
  have S:=st.all (xs:=us1.toArray) (ys:=us2.toArray) (zs:=us3.toArray) p1 p2 p3
  have hT:s.TypeIs (.ref z) "zip":=⟨_,st.hz,rfl⟩
  unfold pyNext
  refine wpAny_bind (wpAny_attempt (wpAny_callSpecial?_slot (name:=Str.ofString "__next__") hT F.slot_zip_next
   (wpAny_call_entry F.slot_zip_next hT F.entry_zip_next (ako D S (by simpa using m1) (by simpa using m2) (by simpa using m3) fun h1 S1 T1 B1=>wpAny_pure ?_)
    (F.args_zip_next_1 _))))
  refine ⟨_,rfl,?_⟩
  refine wpAny_letOwnedTupleGo_zip (s:={ s with heap:=h1 }) S1.hz fun h2 z2' b2=>?_
  have nT:H s.heap.objs.size=none:=I.hok.fresh (Nat.le_refl _)
  have zlt:z<s.heap.objs.size:=Heap.lt_size st.hz
  have T2:aak h2 s.heap.objs.size u1 u2 u3:=b2.extBut _ _ (Nat.ne_of_gt zlt) T1
  have B2:But [z,TO,i1,i2,i3] s.heap h2:=B1.trans (But.of b2.extBut (by simp))
  have inF:∀ b ∈ [z,TO,i1,i2,i3],b ∈ [z,TI,TO,i1,i2,i3]:=fun b hb=>by
   simp only [List.mem_cons,List.not_mem_nil,or_false] at hb ⊢
   rcases hb with e | e | e | e | e <;> simp [e]
  have ntr:∀ b u,H b=some u->b ∉ [z,TO,i1,i2,i3]:=fun b u e hb=>by
   have:=(hf b (inF b hb)).1
   rw [e] at this; cases this
  have neT:∀ b u,H b=some u->b ≠ s.heap.objs.size:=fun b u e q=>by rw [q,nT] at e; cases e
  have hok2:HOk X.prog X.w (upd H s.heap.objs.size (.tup [x,y,v])) h2:=fun b u e=>by
   by_cases hb:b=s.heap.objs.size
   ·subst hb
    rw [jn] at e
    cases e
    exact ⟨by show 3<=sizeLine; rw [sizeLine_eq]; decide,[u1,u2,u3],.cons l1 (.cons l2 (.cons l3 .nil)),⟨_,T2,rfl,_,rfl⟩⟩
   ·rw [jq hb] at e
    refine (I.hok b u e).stay (fun c o hc' q=>B2 c o ?_ q) (fun c q=>by rw [jq (neT c _ q)]; exact q) fun c ws q=>by rw [jq (neT c _ q)]; exact q
    rcases hc' with q' | q'
    ·rw [q']; exact ntr b u e
    ·exact ntr c _ q'
  have I2:Inv X Kp σ (upd H s.heap.objs.size (.tup [x,y,v])) { s with heap:=h2,toks:=s.toks }:=by
   refine I.step (g':=s.gens) (d':=s.drawn) (ch:=[z,TO,i1,i2,i3]) (fun b hb=>?_) (fun b o _ _ hb e _=>B2 b o hb e) (fun b o _ _ hb e _=>⟨o.slots,B2 b o hb e⟩) (fun b o hb e n=>?_) (fun b o hb e=>⟨o,B2 b o hb e⟩)
    (fun b ws e=>by rw [jq (neT b _ e)]; exact e) (fun b ob ws e=>by rw [jq (neT b _ e)]; exact e) (fun b ps e=>⟨#[],by rw [jq (neT b _ e),e]; simp⟩) (fun m hm=>?_) hok2 I.bare
   ·obtain ⟨f0,f1,f2,f3,f4,f5⟩:=hf b (inF b hb)
    exact ⟨f3,f1,f4,f5⟩
   ·rw [jq (Nat.ne_of_lt (Heap.lt_size e))]; exact n
   ·obtain ⟨o,es,ep,ho,r⟩:=hm
    refine ⟨o,es,ep,B2 _ o (fun hb=>?_) ho,r⟩
    exact (hf _ (inF _ hb)).2.1 rfl
  refine ⟨.ref s.heap.objs.size,_,I2,rfl,⟨_,x,y,v,rfl,nT,rfl,fun as bs cs g1 g2 g3=>?_⟩,?_,fun b hb=>?_⟩
  ·rw [I.tuple_inj g1 q1,I.tuple_inj g2 q2,I.tuple_inj g3 q3]
   exact ⟨ex,ey,ev⟩
  ·have c1:=S1.c
   obtain ⟨_,hTI,⟨a,b,c,hTO⟩,⟨o1,e1,w1⟩,⟨o2,e2,w2⟩,⟨o3,e3,w3⟩⟩:=c1
   simp only [List.nodup_cons,List.mem_cons,List.not_mem_nil,or_false,not_or] at nd ti
   obtain ⟨⟨n1,n2,n3,n4⟩,_⟩:=nd
   exact ⟨z2',b2.extBut _ _ ti.1 hTI,⟨a,b,c,b2.extBut _ _ (Ne.symm n1) hTO⟩,⟨o1,b2.extBut _ _ (Ne.symm n2) e1,w1⟩,⟨o2,b2.extBut _ _ (Ne.symm n3) e2,w2⟩,⟨o3,b2.extBut _ _ (Ne.symm n4) e3,w3⟩⟩
  ·obtain ⟨o,ho,_⟩:∃ o,s.heap.get? b=some o/\True:=by
    obtain ⟨hz,hTI,⟨a,b',c,hTO⟩,⟨o1,e1,_⟩,⟨o2,e2,_⟩,⟨o3,e3,_⟩⟩:=st
    simp only [List.mem_cons,List.not_mem_nil,or_false] at hb
    rcases hb with rfl | rfl | rfl | rfl | rfl | rfl
    ·exact ⟨_,hz,trivial⟩
    ·exact ⟨_,hTI,trivial⟩
    ·exact ⟨_,hTO,trivial⟩
    ·exact ⟨_,e1,trivial⟩
    ·exact ⟨_,e2,trivial⟩
    ·exact ⟨_,e3,trivial⟩
   rw [jq (Nat.ne_of_lt (Heap.lt_size ho))]
   exact (hf b hb).1
 done:=by
  intro X hP hw hK hc i Kp s σ H E I hf st hg
  subst hP hw hK
  obtain ⟨xs,ys,zs,q1,q2,q3,hl⟩:=hg
  obtain ⟨us1,r1,p1,z1⟩:=I.tuple q1
  obtain ⟨us2,r2,p2,z2⟩:=I.tuple q2
  obtain ⟨us3,r3,p3,z3⟩:=I.tuple q3
  have trk:∀ {t:Addr} {ws:List V},SqT X.K H t ws->t ∉ [z,TO,i1,i2,i3]:=fun {t ws} hq hb=>by
   have hb':t ∈ [z,TI,TO,i1,i2,i3]:=by
    simp only [List.mem_cons,List.not_mem_nil,or_false] at hb ⊢
    rcases hb with e | e | e | e | e <;> simp [e]
   rcases hq with (e | ⟨o,e⟩) | ⟨o,its,n,hk,hcl,hs,_,_⟩
   ·have:=(hf t hb').1; rw [e] at this; cases this
   ·have:=(hf t hb').1; rw [e] at this; cases this
   ·obtain ⟨f0,f1,f2,f3,f4,f5⟩:=hf t hb'
    have hbase:=I.mod.kin t o hk
    rcases f3 with q | q
    ·exact I.ok.noex t o hbase q
    ·exact absurd (Nat.lt_of_lt_of_le (Heap.lt_size hbase) (Nat.le_trans I.ok.bsz q)) (Nat.lt_irrefl _)
  have D:Apart3 z TI TO i1 i2 i3 t1 t2 t3:=⟨nd,ti,trk q1,trk q2,trk q3⟩
  have S:=st.all (xs:=us1.toArray) (ys:=us2.toArray) (zs:=us3.toArray) p1 p2 p3
  have hT:s.TypeIs (.ref z) "zip":=⟨_,st.hz,rfl⟩
  have hlen:=r1.length
  unfold pyNext
  refine wpAny_bind (wpAny_attempt (wpAny_callSpecial?_slot (name:=Str.ofString "__next__") hT F.slot_zip_next
   (wpAny_call_entry F.slot_zip_next hT F.entry_zip_next (alX (I.ok.hd hc) D S (by simp; omega) fun h1 e B1 he=>?_)
    (F.args_zip_next_1 _))))
  obtain ⟨o,ho,hcl⟩:=he
  refine wpAny_bind (wpAny_isInstance (T:="StopIteration") (b:=true) ⟨o,ho,hcl⟩ isSubtype_stop ?_)
  refine wpAny_pure ⟨rfl,?_⟩
  have inF:∀ b ∈ [z,TO,i1,i2,i3],b ∈ [z,TI,TO,i1,i2,i3]:=fun b hb=>by
   simp only [List.mem_cons,List.not_mem_nil,or_false] at hb ⊢
   rcases hb with e | e | e | e | e <;> simp [e]
  have ntr:∀ b u,H b=some u->b ∉ [z,TO,i1,i2,i3]:=fun b u e hb=>by
   have:=(hf b (inF b hb)).1
   rw [e] at this; cases this
  refine I.step (t':=s.toks) (g':=s.gens) (d':=s.drawn) (ch:=[z,TO,i1,i2,i3]) (fun b hb=>?_) (fun b o _ _ hb e _=>B1 b o hb e) (fun b o _ _ hb e _=>⟨o.slots,B1 b o hb e⟩) (fun b o hb e n=>n) (fun b o hb e=>⟨o,B1 b o hb e⟩)
   (fun b ws e=>e) (fun b ob ws e=>e) (fun b ps e=>⟨#[],by rw [e]; simp⟩) (fun m hm=>?_) (fun b u e=>?_) I.bare
  ·obtain ⟨f0,f1,f2,f3,f4,f5⟩:=hf b (inF b hb)
   exact ⟨f3,f1,f4,f5⟩
  ·obtain ⟨o,es,ep,ho,r⟩:=hm
   refine ⟨o,es,ep,B1 _ o (fun hb=>?_) ho,r⟩
   exact (hf _ (inF _ hb)).2.1 rfl
  ·refine (I.hok b u e).stay (fun c o hc' q=>B1 c o ?_ q) (fun c q=>q) fun c ws q=>q
   rcases hc' with q' | q'
   ·rw [q']; exact ntr b u e
   ·exact ntr c _ q'
 self:=fun _ _ _ _ _ st h=>wpAny_pyIter_zip st.hz h
theorem adz (a b c:Value):checkTypeCall "zip" ⟨[a,b,c],[]⟩=pure ():=by kernel_rfl
theorem aeV (a b c:Value):checkBuiltinCall "zip.__new__" ⟨[.type "zip",a,b,c],[]⟩=pure ():=by kernel_rfl
theorem ahP (a b c d:Value):argsOk "object.__init__" ⟨[a,b,c,d],[]⟩:=by
 unfold argsOk
 rw [signature?_of (id:="object.__init__") (n:=['_','_','t','i','n','i','_','_'])
  (o:=['t','c','e','j','b','o']) (by kernel_rfl) F.owner_object]
 kernel_rfl
noncomputable abbrev aqI (t:Addr):Obj:={ cls:= .type "tuple_iterator",data:= .fields #[.ref t,.int 0 0] }
abbrev zh1 (h:Heap) (a:Addr):Heap:=h.push (aqI a)
abbrev zh2 (h:Heap) (a b:Addr):Heap:=(zh1 h a).push (aqI b)
abbrev zh3 (h:Heap) (a b c:Addr):Heap:=(zh2 h a b).push (aqI c)
abbrev zh4 (h:Heap) (a b c:Addr):Heap:=(zh3 h a b c).push { cls:= .type "tuple",data:= .seq #[.ref h.objs.size,.ref (zh1 h a).objs.size,.ref (zh2 h a b).objs.size] }
abbrev zh5 (h:Heap) (a b c:Addr):Heap:=(zh4 h a b c).push { cls:= .type "tuple",data:= .seq #[.none,.none,.none] }
abbrev zh6 (h:Heap) (a b c:Addr):Heap:=(zh5 h a b c).push { cls:= .type "zip",data:= .fields #[.none,.bool false,.bool false,.ref (zh3 h a b c).objs.size,.ref (zh4 h a b c).objs.size] }
theorem alZ (a b c:Addr) (xs ys zs:Array Value):
  Meets (Builtin.«zip.__new__» ⟨[.type "zip",.ref a,.ref b,.ref c],[]⟩) (fun _ R s=>s.heap.IsTuple a xs/\s.heap.IsTuple b ys/\s.heap.IsTuple c zs/\
   R (.ok (.ret (.ref (zh5 s.heap a b c).objs.size))) { s with heap:=zh6 s.heap a b c }):=
 .of_wp fun prog w A R s h=>by
  obtain ⟨hp,g,d,tk,os⟩:=s
  obtain ⟨h1,h2,h3,h⟩:=h
  have hsub:=sub_zip
  have k1:Heap.IsTuple (Shared.heap ⟨hp,g,d,tk,os⟩) a xs:=h1
  have k2:Heap.IsTuple (Shared.heap ⟨zh1 hp a,g,d,tk,os⟩) b ys:=Heap.IsTuple.push h2 _
  have k3:Heap.IsTuple (Shared.heap ⟨zh2 hp a b,g,d,tk,os⟩) c zs:=Heap.IsTuple.push (Heap.IsTuple.push h3 _) _
  wp_walk using wpAny_pyIter_tuple k1,wpAny_pyIter_tuple k2,wpAny_pyIter_tuple k3
  exact ⟨_,rfl,h⟩
section
variable {X:Cx}
def ar9 (K:Fg) (ta:TA):TI:=fun σ H R=>ta σ H fun vs H1=>∃ a b c xs ys zs,vs=[.ref a,.ref b,.ref c]/\SqT K H1 a xs/\SqT K H1 b ys/\SqT K H1 c zs/\R (Itz K a b c) H1
theorem aor {ea eb ec:Expr}{elts:List Expr}{x1:Nat}{tp:Pos}{ta:TA}{p pos:Pos} (hg:Gl X "zip") (hm:X.mg "zip"=none) (ha:PA X [ea,eb,ec] ta)
  (hs:starEach [ea,eb,ec] X.env=[(false,eval ea X.env),(false,eval eb X.env),(false,eval ec X.env)]:=by rfl) (hs2:starEach [eb,ec] X.env=[(false,eval eb X.env),(false,eval ec X.env)]:=by rfl):
  PI X (.Tuple elts x1 tp) (.Call (.Name "zip" p) [ea,eb,ec] [] pos) (ar9 X.K ta):=by
 intro Kp s σ H R I h
 refine Call_ (Qn I hg hm boot_zip (PyProof.Rows.callWith_type1 (thn (ha pos Kp s σ H _ I h) fun us s1 ⟨vs,H1,I1,r1,q1⟩=>?_) (by rw [hs,hs2]) (by rw [hs2]; rfl)))
 obtain ⟨a,b,c,xs,ys,zs,e,q1,q2,q3,q⟩:=q1
 subst e
 cases r1 with
 | cons r1 rr=>
  cases rr with
  | cons r2 rr=>
   cases rr with
   | cons r3 rr=>
    cases rr
    cases r1; cases r2; cases r3
    obtain ⟨us1,v1,p1,z1⟩:=I1.tuple q1
    obtain ⟨us2,v2,p2,z2⟩:=I1.tuple q2
    obtain ⟨us3,v3,p3,z3⟩:=I1.tuple q3
    refine callType_new F.called_zip (by decide) (adz _ _ _) (aeV _ _ _) (fun obj=>ahP obj _ _ _) F.entry_zip_new
     (alZ a b c us1.toArray us2.toArray us3.toArray) ⟨p1,p2,p3,?_⟩
    have n1:(zh1 s1.heap a).objs.size=s1.heap.objs.size+1:=Heap.size_push ..
    have n2:(zh2 s1.heap a b).objs.size=s1.heap.objs.size+2:=by rw [Heap.size_push,n1]
    have n3:(zh3 s1.heap a b c).objs.size=s1.heap.objs.size+3:=by rw [Heap.size_push,n2]
    have n4:(zh4 s1.heap a b c).objs.size=s1.heap.objs.size+4:=by rw [Heap.size_push,n3]
    have n5:(zh5 s1.heap a b c).objs.size=s1.heap.objs.size+5:=by rw [Heap.size_push,n4]
    have g6:(zh6 s1.heap a b c).get? (zh5 s1.heap a b c).objs.size=some _:=Heap.get?_push_size _ rfl
    have g5:(zh6 s1.heap a b c).get? (zh4 s1.heap a b c).objs.size=some _:=Heap.get?_push_of_some _ (Heap.get?_push_size _ rfl)
    have g4:(zh6 s1.heap a b c).get? (zh3 s1.heap a b c).objs.size=some _:=Heap.get?_push_of_some _ (Heap.get?_push_of_some _ (Heap.get?_push_size _ rfl))
    have up3:∀ x o,(zh3 s1.heap a b c).get? x=some o->(zh6 s1.heap a b c).get? x=some o:=fun x o e=>Heap.get?_push_of_some _ (Heap.get?_push_of_some _ (Heap.get?_push_of_some _ e))
    have g3:(zh6 s1.heap a b c).get? (zh2 s1.heap a b).objs.size=some _:=up3 _ _ (Heap.get?_push_size _ rfl)
    have g2:(zh6 s1.heap a b c).get? (zh1 s1.heap a).objs.size=some _:=up3 _ _ (Heap.get?_push_of_some _ (Heap.get?_push_size _ rfl))
    have g1:(zh6 s1.heap a b c).get? s1.heap.objs.size=some _:=up3 _ _ (Heap.get?_push_of_some _ (Heap.get?_push_of_some _ (Heap.get?_push_size _ rfl)))
    have kp:∀ x o,s1.heap.get? x=some o->(zh6 s1.heap a b c).get? x=some o:=fun x o e=>up3 _ _ (Heap.get?_push_of_some _ (Heap.get?_push_of_some _ (Heap.get?_push_of_some _ e)))
    show _/\_
    refine ⟨⟨_,g6,rfl⟩,?_⟩
    refine wpAny_pyIter_zip g6 ?_
    have I2:Inv X Kp σ H1 { s1 with heap:=zh6 s1.heap a b c }:=I1.kept (t':=s1.toks) kp
    refine ⟨_,[(zh5 s1.heap a b c).objs.size,(zh3 s1.heap a b c).objs.size,(zh4 s1.heap a b c).objs.size,s1.heap.objs.size,(zh1 s1.heap a).objs.size,(zh2 s1.heap a b).objs.size],
     _,_,H1,rfl,I2,alY (z:=(zh5 s1.heap a b c).objs.size) (TI:=(zh3 s1.heap a b c).objs.size) (TO:=(zh4 s1.heap a b c).objs.size) (i1:=s1.heap.objs.size) (i2:=(zh1 s1.heap a).objs.size) (i3:=(zh2 s1.heap a b).objs.size) (t1:=a) (t2:=b) (t3:=c) ?_ ?_,
     ⟨g6,g4,⟨_,_,_,g5⟩,⟨_,g1,rfl,rfl⟩,⟨_,g2,rfl,rfl⟩,⟨_,g3,rfl,rfl⟩⟩,fun x hx=>?_,q⟩
    ·rw [n5,n4,n1,n2]
     simp [List.nodup_cons]
    ·rw [n3,n5,n4,n1,n2]
     simp
    ·have hle:s1.heap.objs.size<=x:=by
      rw [n5,n3,n4,n1,n2] at hx
      simp only [List.mem_cons,List.not_mem_nil,or_false] at hx
      rcases hx with e | e | e | e | e | e <;> rw [e] <;> first | exact Nat.le_refl _ | exact Nat.le_add_right _ _
     exact I1.fpOk hle (I1.hok.fresh hle)
noncomputable def QX:LP->LP->LP->LP
 | x::xs,y::ys,z::zs=> .tuple [x,y,z]::QX xs ys zs
 | _,_,_=>[]
def ajh (ds:LP):Option (LP):=match ds with
 | [.tuple xs,.tuple ys,.tuple zs]=>if xs.length=ys.length/\ys.length=zs.length then some (QX xs ys zs) else none
 | _=>none
theorem adY:∀ (xs ys zs:LP),xs.length=ys.length->ys.length=zs.length->(QX xs ys zs).length=xs.length
 | [],_,_,_,_=>by simp [QX]
 | x::xs,[],_,h,_=>by simp at h
 | x::xs,y::ys,[],_,h=>by simp at h
 | x::xs,y::ys,z::zs,h,g=>by simp [QX,adY xs ys zs (by simpa using h) (by simpa using g)]
theorem adZ:∀ (xs ys zs:LP) (i:Nat) (d:PyData),(QX xs ys zs)[i]?=some d->∃ x y z,xs[i]?=some x/\ys[i]?=some y/\zs[i]?=some z/\d= .tuple [x,y,z]
 | [],_,_,i,d,h=>by simp [QX] at h
 | x::xs,[],_,i,d,h=>by simp [QX] at h
 | x::xs,y::ys,[],i,d,h=>by simp [QX] at h
 | x::xs,y::ys,z::zs,0,d,h=>by simp [QX] at h; exact ⟨x,y,z,rfl,rfl,rfl,h.symm⟩
 | x::xs,y::ys,z::zs,i+1,d,h=>by
  obtain ⟨a,b,c,e1,e2,e3,e4⟩:=adZ xs ys zs i d (by simpa [QX] using h)
  exact ⟨a,b,c,by simpa using e1,by simpa using e2,by simpa using e3,e4⟩
theorem al0 {ea eb ec:Expr}{elts:List Expr}{x1:Nat}{tp:Pos}{p pos:Pos}{fr:Rho->Option (LP)} (hm:X.mg "zip"=none) (ha:PAD X [ea,eb,ec] fr) (hg:Gl X "zip":=by rfl)
  (hs:starEach [ea,eb,ec] X.env=[(false,eval ea X.env),(false,eval eb X.env),(false,eval ec X.env)]:=by rfl) (hs2:starEach [eb,ec] X.env=[(false,eval eb X.env),(false,eval ec X.env)]:=by rfl):
  PID X (.Tuple elts x1 tp) (.Call (.Name "zip" p) [ea,eb,ec] [] pos) (fun ρ=>(fr ρ).bind ajh):=by
 with_unfolding_all
  refine PI.imp (aor hg hm ha hs hs2) fun σ H R ⟨ρ,ds,en,q,k⟩=>?_
  cases h1:fr ρ with
  | none=>simp [h1] at q
  | some as=>
   have q':ajh as=some ds:=by simpa [h1] using q
   refine ⟨ρ,as,en,h1,fun vs H1 s1 r1=>?_⟩
   unfold ajh at q'
   split at q'
   ·rename_i xs ys zs
    split at q'
    ·rename_i hl
     cases q'
     obtain ⟨v1,w1,e1,⟨a,us1,ea',qa,ra⟩,v2,w2,e2,⟨b,us2,eb',qb,rb⟩,v3,w3,e3,⟨c,us3,ec',qc,rc⟩,e4⟩:=r1
     cases (show w3=[] from e4)
     subst ea'; subst eb'; subst ec'; subst e3; subst e2
     have l1:=ra.length
     have l2:=rb.length
     have l3:=rc.length
     have lz:=adY xs ys zs hl.1 hl.2
     refine ⟨a,b,c,us1,us2,us3,e1,qa,qb,qc,k _ H1 s1 fun i H2 s2=>⟨fun hi=>?_,fun hi=>?_,fun u H3 y=>?_⟩⟩
     ·rw [lz] at hi
      exact ⟨us1,us2,us3,us1[i]'(by omega),us2[i]'(by omega),us3[i]'(by omega),jy.tup s2 qa,jy.tup s2 qb,jy.tup s2 qc,by simp <;> omega,by simp <;> omega,by simp <;> omega⟩
     ·rw [lz] at hi
      exact ⟨us1,us2,us3,jy.tup s2 qa,jy.tup s2 qb,jy.tup s2 qc,by omega⟩
     ·obtain ⟨pp,x,y,v,e5,e6,e7,e8⟩:=y
      subst e5; subst e7
      refine ⟨jM e6,fun d hd=>?_⟩
      obtain ⟨dx,dy,dz,g1,g2,g3,g4⟩:=adZ xs ys zs i d hd
      subst g4
      obtain ⟨f1,f2,f3⟩:=e8 us1 us2 us3 (jy.tup s2 qa) (jy.tup s2 qb) (jy.tup s2 qc)
      have m:=s2.trans (jr.a (jM (o:= .tup [x,y,v]) e6))
      obtain ⟨x',a1,a2⟩:=(Reps.monoA m _ _ ra).get g1
      obtain ⟨y',b1,b2⟩:=(Reps.monoA m _ _ rb).get g2
      obtain ⟨z',c1,c2⟩:=(Reps.monoA m _ _ rc).get g3
      rw [f1] at a1; cases a1
      rw [f2] at b1; cases b1
      rw [f3] at c1; cases c1
      exact ⟨pp,[x,y,v],rfl,SqT.of jn,x,_,rfl,a2,y,_,rfl,b2,v,_,rfl,c2,rfl⟩
    ·cases q'
   ·cases q'
def tyn:PyData->String
 | .none=>"NoneType"
 | .bool _=>"bool"
 | .int _=>"int"
 | .str _=>"str"
 | .tuple _=>"tuple"
 | .list _=>"list"
 | .dict kvs=>if zH kvs then "list" else "dict"
noncomputable def isFn:PyData->Bool
 | .dict [(.str _,_)]=>true
 | .dict [(.bool _,_)]=>true
 | _=>false
def aal (T:String) (d:PyData):OP:=if isFn d=true then none else some (.bool (tyn d == T || (T == "int" && tyn d == "bool")))
theorem al1 {Kp:List (Addr × Obj)}{σ:St}{H:Hp}{s:Shared}{E:Value->SP0}{Q:Value->SP0}{d:PyData}{v:V}{u c:Value}{b:Bool} (I:Inv X Kp σ H s) (r:Rep X.K H d v) (hF:isFn d=false) (rv:jV v u)
  (e:PySem.W.kitOne X.K (.type (tyn d)) c=some b) (h:∀ tk,Q (.bool b) { s with toks:=tk }):wpAny (model X.prog X.w) X.A (call (.builtin "isinstance") [u,c]) Q E s:=by
 cases d with
 | none=>cases r; cases rv; exact PySem.W.kia_one PySem.W.kitx_none I.kIn True.intro e (fun z=>nomatch z) h
 | bool y=>cases r; cases rv; exact PySem.W.kia_one PySem.W.kitx_bool I.kIn True.intro e (fun z=>nomatch z) h
 | int i=>cases r; obtain ⟨t,rfl⟩:=rv; exact PySem.W.kia_one PySem.W.kitx_int I.kIn True.intro e (fun z=>nomatch z) h
 | str y=>cases r; obtain ⟨t,rfl⟩:=rv; exact PySem.W.kia_one PySem.W.kitx_str I.kIn True.intro e (fun z=>nomatch z) h
 | tuple ds=>
  obtain ⟨a,xs,e1,e2,e3⟩:=r
  subst e1; cases rv
  obtain ⟨its,_,⟨o,h1,h2,_⟩,_⟩:=I.tuple e2
  exact PySem.W.kia_one PySem.W.kitx_tuple I.kIn ⟨o,h1,h2⟩ e (fun z=>nomatch z) h
 | list ds=>
  obtain ⟨a,xs,e1,e2,e3⟩:=r
  subst e1; cases rv
  obtain ⟨its,_,⟨o,n,h1,h2,_⟩,_⟩:=I.list (SqL.of e2)
  exact PySem.W.kia_one PySem.W.kitx_list I.kIn ⟨o,h1,h2⟩ e (fun z=>nomatch z) h
 | dict ds=>
  obtain ⟨a,e1,⟨ns,e2,e3⟩ | ⟨ks,ob,e2,e3⟩ | ⟨x,e2,_⟩ | ⟨x,_,_,e2,_⟩ | e2⟩:=r
  ·subst e1; cases rv
   subst e3
   have e:PySem.W.kitOne X.K (.type "list") c=some b:=by simpa [tyn,adU] using e
   obtain ⟨its,_,⟨o,n,h1,h2,_⟩,_⟩:=I.list e2
   exact PySem.W.kia_one PySem.W.kitx_list I.kIn ⟨o,h1,h2⟩ e (fun z=>nomatch z) h
  ·subst e1; cases rv
   obtain ⟨cc,rr,rfl,e4⟩:=e3.out
   have e:PySem.W.kitOne X.K (.type "dict") c=some b:=by simpa [tyn,zH] using e
   obtain ⟨_,_,vs,_,dd⟩:=agp I.hok (.inr ⟨ob,e2⟩)
   obtain ⟨o,es,ep,h1,h2,_⟩:=dd
   exact PySem.W.kia_one PySem.W.kitx_dict I.kIn ⟨o,h1,h2.1⟩ e (fun z=>nomatch z) h
  ·subst e2; simp [isFn] at hF
  ·subst e2; simp [isFn] at hF
  ·subst e2; simp [isFn] at hF
def atn (K:Fg) (T:String):List V->Hp->VK->Prop:=fun xs H Q=>∃ x d b,xs=[x,.ty T]/\Rep K H d x/\isFn d=false/\PySem.W.kitOne K (.type (tyn d)) (.type T)=some b/\Q (.bl b) H
theorem agx {T:String}:zV X (.builtin "isinstance") (atn X.K T):=by
 intro Kp s σ H xs us Q I r ⟨x,d,b,e,h1,hF,h2,q⟩
 subst e
 obtain ⟨u,w',rfl,r1,r2⟩:=ai0 r
 cases (show w'=_ from r2)
 exact al1 I h1 hF r1 h2 fun tk=>⟨.bl b,H,I.tok tk,rfl,q⟩
def JD (T:String) (d:PyData):Bool:=tyn d == T || (T == "int" && tyn d == "bool")
@[simp] theorem arB (T:String):aal T .none=some (.bool (JD T .none)):=rfl
@[simp] theorem arC (T:String) (b:Bool):aal T (.bool b)=some (.bool (JD T (.bool b))):=rfl
@[simp] theorem asa (T:String) (i:Int):aal T (.int i)=some (.bool (JD T (.int i))):=rfl
@[simp] theorem asb (T:String) (x:Str):aal T (.str x)=some (.bool (JD T (.str x))):=rfl
@[simp] theorem aqJ (T:String) (ds:LP):aal T (.tuple ds)=some (.bool (JD T (.tuple ds))):=rfl
@[simp] theorem arD (T:String) (ds:LP):aal T (.list ds)=some (.bool (JD T (.list ds))):=rfl
theorem agy {T:String}{d e:PyData} (h:aal T d=some e):isFn d=false/\e= .bool (JD T d):=by
 unfold aal at h
 split at h
 ·cases h
 ·rename_i hf; cases h; exact ⟨by simpa using hf,rfl⟩
theorem aos {K:Fg}{T:String} (hT:T="bool" ∨ T="int" ∨ T="tuple") (d:PyData):PySem.W.kitOne K (.type (tyn d)) (.type T)=some (JD T d):=by
 rcases hT with rfl | rfl | rfl <;> cases d <;> first | rfl | (rename_i kvs; by_cases h:zH kvs=true <;> simp only [tyn,JD,h] <;> rfl)
theorem aa9 {a:Expr}{fa:RP}{T:Str}{Tn:String}{p p2 pos:Pos} (hT:Tn="bool" ∨ Tn="int" ∨ Tn="tuple") (hm1:X.mg "isinstance"=none) (hm2:X.mg T=none) (hv:bootBuiltins T=some (.type Tn)) (ha:PD X a fa)
  (hg1:Gl X "isinstance":=by rfl) (hg2:Gl X T:=by rfl) (hn:T ≠ "__name__":=by decide) (hd:(T == ("__debug__":Str))=false:=by decide)
  (he:starEach [a,.Name T p2] X.env=[(false,eval a X.env),(false,eval (.Name T p2) X.env)]:=by rfl) (he2:starEach [.Name T p2] X.env=[(false,eval (.Name T p2) X.env)]:=by rfl) (hpl:(backTo pos (starEach [.Name T p2] X.env)).any (·.1)=false:=by rfl):
  PD X (.Call (.Name "isinstance" p) [a,.Name T p2] [] pos) (fun ρ=>(fa ρ).bind fun d=>aal Tn d):=by
 with_unfolding_all
  have hT2:PE X (.Name T p2) (tC (.ty Tn)):=aiV hg2 hm2 hv rfl hn hd
  refine PE.imp (aae (agx (T:=Tn)) hg1 hm1 (by decide +kernel) (qD ha (qD hT2 zw (by rw [he2]; rfl)) (by rw [he,he2])) (by decide) (by decide) (by rw [he,he2]) hpl) fun σ H Q ⟨ρ,d,en,q,k⟩=>?_
  cases h1:fa ρ with
  | none=>simp [h1] at q
  | some c=>
   obtain ⟨hF,rfl⟩:=agy (show aal Tn c=some d by simpa [h1] using q)
   exact ⟨ρ,c,en,h1,fun v H1 s1 r1=>⟨v,c,_,rfl,r1,hF,aos hT c,k _ H1 s1 rfl⟩⟩
end
def zI (H H':Hp):Prop:=∀ b o,H b=some o->(∀ xs,o ≠ .lst xs)->H' b=some o
theorem jr.n {H H':Hp} (e:jr H H'):zI H H':=fun b o h _=>e b o h
theorem zI.refl (H:Hp):zI H H:=fun _ _ h _=>h
theorem zI.trans {H H1 H2:Hp} (a:zI H H1) (b:zI H1 H2):zI H H2:=fun c o h n=>b c o (a c o h n) n
theorem zI.upd {H:Hp}{p:Addr}{xs ys:List V} (hp:H p=some (.lst xs)):zI H (upd H p (.lst ys)):=fun b o h n=>by
 have:b ≠ p:=fun e=>by subst e; rw [hp] at h; cases h; exact n _ rfl
 rw [jq this]; exact h
mutual
noncomputable def noL:PyData->Bool
 | .none=>true
 | .bool _=>true
 | .int _=>true
 | .str _=>true
 | .tuple ds=>noLs ds
 | .list _=>false
 | .dict _=>false
noncomputable def noLs:LP->Bool
 | []=>true
 | d::ds=>noL d && noLs ds
end
section
variable {K:Fg}{H H':Hp}
theorem zI.tup {a:Addr}{xs:List V} (e:zI H H') (h:SqT K H a xs):SqT K H' a xs:=by
 rcases h with (h | ⟨o,h⟩) | h
 ·exact .inl (.inl (e _ _ h fun _ z=>nomatch z))
 ·exact .inl (.inr ⟨o,e _ _ h fun _ z=>nomatch z⟩)
 ·exact .inr h
mutual
theorem Rep.monoN (e:zI H H'):∀ (d:PyData) (v:V),noL d=true->Rep K H d v->Rep K H' d v
 | .none,v,_,h=>h
 | .bool _,v,_,h=>h
 | .int _,v,_,h=>h
 | .str _,v,_,h=>h
 | .tuple ds,v,n,⟨a,xs,h1,h2,h3⟩=>⟨a,xs,h1,zI.tup e h2,Reps.monoN e ds xs (by simpa [noL] using n) h3⟩
 | .list ds,v,n,h=>by simp [noL] at n
 | .dict ds,v,n,h=>by simp [noL] at n
theorem Reps.monoN (e:zI H H'):∀ (ds:LP) (xs:List V),noLs ds=true->Reps K H ds xs->Reps K H' ds xs
 | [],xs,_,h=>h
 | d::ds,xs,n,⟨x,r,h1,h2,h3⟩=>by
  have n':noL d=true/\noLs ds=true:=by simpa [noLs] using n
  exact ⟨x,r,h1,Rep.monoN e d x n'.1 h2,Reps.monoN e ds r n'.2 h3⟩
end
theorem QY:∀ (ds es:LP),noLs (ds++es)=(noLs ds && noLs es)
 | [],es=>by simp [noLs]
 | d::ds,es=>by simp [noLs,QY ds es,Bool.and_assoc]
theorem acG:∀ {ds:LP},(∀ d ∈ ds,noL d=true)->noLs ds=true
 | [],_=>rfl
 | d::ds,h=>by simp [noLs,h d List.mem_cons_self,acG fun x hx=>h x (List.mem_cons_of_mem _ hx)]
end
end BX
end
section
namespace BX
open PySem PySem.Spec L2
open PyProof.Rows hiding St
def jm (P:Program) (w:World) (K:Fg) (mg:SV) (base:Heap) (x:Str) (ps:List Str) (k n:Nat) (g:LP->OP):Prop:=
 ∃ (f:Addr) (fd:FuncData),FnOk P w K mg base CX0 k f fd ps (Pur K n g)/\mg x=some (.ref f)/\PySem.W.keepIn K (.ref f)=true/\Jl K fd ps []
theorem jk:∀ (ρ:Rho) (ds:LP),jH ρ=some ds->ds.length=0:=fun ρ ds h=>by cases h; rfl
theorem jc {fa:RP}{fr:Rho->Option (LP)}{n:Nat} (h:∀ (ρ:Rho) (ds:LP),fr ρ=some ds->ds.length=n):∀ (ρ:Rho) (ds:LP),jt fa fr ρ=some ds->ds.length=n+1:=fun ρ ds q=>by
 cases h1:fa ρ with
 | none=>simp [jt,h1] at q
 | some x=>
  cases h2:fr ρ with
  | none=>simp [jt,h1,h2] at q
  | some r=>
   have:x::r=ds:=by simpa [jt,h1,h2] using q
   subst this
   simp [h ρ r h2]
section
variable {X:Cx}{e:Expr}{es:List Expr}{pos:Pos}
theorem jl {k j n:Nat}{ps:List Str}{g:LP->OP}{x:Str}{p:Pos}{fr:Rho->Option (LP)} (c:jm X.prog X.w X.K X.mg X.base x ps k n g) (hr:Room j X.A) (hkj:k<=j) (ha:PAD X (e::es) fr)
  (hl:∀ (ρ:Rho) (ds:LP),fr ρ=some ds->ds.length=n) (hn:(e::es).length=n:=by rfl) (hg:Gl X x:=by rfl) (hdb:(x == ("__debug__":Str))=false:=by decide) (he:starEach (e::es) X.env=(false,eval e X.env)::starEach es X.env:=by rfl)
  (hpl:(backTo pos (starEach es X.env)).any (·.1)=false:=by rfl):PD X (.Call (.Name x p) (e::es) [] pos) (jN g fr):=by
 with_unfolding_all
  obtain ⟨f,fd,h1,h2,h3,h4⟩:=c
  exact aom h1 (hr.mono hkj) h2 h3 h4 hn ha (fun ρ ds q=>by rw [hl ρ ds q,hn]) hg hdb he hpl
end
theorem acH {ft:Rho->Option Bool}{fe:RP}{i:Nat} (p:PyData->Bool) (h:PyData->PyData):∀ (ds:LP) (τ:Rho),(∀ d ∈ ds,ft (τ.set i (some d))=some (p d))->(∀ d ∈ ds,p d=true->fe (τ.set i (some d))=some (h d))->
  Jo (jQ i) ft fe ds τ=some ((ds.filter p).map h)
 | [],τ,_,_=>rfl
 | d::ds,τ,h1,h2=>by
  have ih:=acH p h ds (τ.set i (some d)) (fun c hc=>by rw [List.set_set]; exact h1 c (List.mem_cons_of_mem _ hc)) (fun c hc hp=>by rw [List.set_set]; exact h2 c (List.mem_cons_of_mem _ hc) hp)
  simp only [Jo,jQ,zzD,h1 d List.mem_cons_self]
  by_cases hp:p d=true
  ·simp [hp,h2 d List.mem_cons_self hp,ih,List.filter_cons]
  ·simp [hp,ih,List.filter_cons]
theorem Qe {fe:RP}{i:Nat} (h:PyData->PyData) (ds:LP) (τ:Rho) (h2:∀ d ∈ ds,fe (τ.set i (some d))=some (h d)):Jo (jQ i) ar3 fe ds τ=some (ds.map h):=by
 rw [acH (fun _=>true) h ds τ (fun _ _=>rfl) (fun d hd _=>h2 d hd),List.filter_eq_self.mpr (fun _ _=>rfl)]
noncomputable def aji (st:Scope) (N:List Str) (sc:Scope) (N':List Str) (cap:List (Option Nat)):Bool:=
 sc.names.all (fun x=>!decide (x.2= .free) || decide (st.names.lookup x.1=some .cell) || decide (st.names.lookup x.1=some .free)) && sc.names.all (fun x=>!decide (x.2= .cell)) && decide (sc.kind= .function) &&
 sc.names.all (fun x=>!decide (x.2= .local) || decide (sc.names.lookup x.1=some .local)) && decide (cap.length=N'.length) &&
 (List.range N'.length).all (fun j=>match N'[j]?,cap[j]? with
  | some x,some (some i)=>decide (N[i]?=some x) && decide (sc.names.lookup x=some .free)
  | _,_=>true)
theorem Qv {X:Cx}{sc:Scope}{N':List Str}{cap:List (Option Nat)} (st:Scope) (N:List Str) (h:aji st N sc N' cap=true) (hst:X.env.scope=st:=by rfl) (hN:X.N=N:=by rfl):CompOk X sc N' cap:=by
 simp only [aji,Bool.and_eq_true,List.all_eq_true,Bool.or_eq_true,Bool.not_eq_true',decide_eq_true_eq,decide_eq_false_iff_not] at h
 obtain ⟨⟨⟨⟨⟨h1,h2⟩,h3⟩,h4⟩,h5⟩,h6⟩:=h
 subst hst; subst hN
 refine ⟨fun x hx e=>?_,h2,h3,fun x hx e=>?_,h5,fun j i x e1 e2=>?_⟩
 ·rcases h1 x hx with (z | z) | z
  ·exact absurd e z
  ·exact .inl z
  ·exact .inr z
 ·rcases h4 x hx with z | z
  ·exact absurd e z
  ·exact z
 ·have hj:j<N'.length:=(List.getElem?_eq_some_iff.mp e1).1
  have:=h6 j (List.mem_range.mpr hj)
  rw [e1,e2] at this
  simpa using this
def Cx.inB (X:Cx):Cx:={ X with A:=X.A.in1,xe:=NoX }
theorem Cx.Ok.inB {X:Cx} (ok:X.Ok):(Cx.inB X).Ok:=
 ⟨ok.mod,ok.kind,ok.glob,ok.blt,ok.above,ok.inj,ok.has,ok.cab,fun h=>ok.hd h,ok.frames,ok.stk,ok.exf,ok.bs,ok.bsz,ok.noex,ok.exfs,ok.funs,ok.frf⟩
theorem Cx.Ok.outB {X:Cx} (ok:(Cx.inB X).Ok):X.Ok:=
 ⟨ok.mod,ok.kind,ok.glob,ok.blt,ok.above,ok.inj,ok.has,ok.cab,fun h=>ok.hd h,ok.frames,ok.stk,ok.exf,ok.bs,ok.bsz,ok.noex,ok.exfs,ok.funs,ok.frf⟩
section
variable {X:Cx}{Kp:List (Addr × Obj)}{σ:St}{H:Hp}{s:Shared}
theorem Inv.inB (I:Inv X Kp σ H s):Inv (Cx.inB X) Kp σ H s:=⟨Cx.Ok.inB I.ok,I.os,I.bare,I.base,I.loc,I.cell,I.free,I.freeC,I.pin,I.hok,I.len⟩
theorem Inv.outB (I:Inv (Cx.inB X) Kp σ H s):Inv X Kp σ H s:=⟨Cx.Ok.outB I.ok,I.os,I.bare,I.base,I.loc,I.cell,I.free,I.freeC,I.pin,I.hok,I.len⟩
end
theorem asc {prog:Program}{w:World}{A:Around}{E:Value->SP0}{s:Shared}{a b:Int}{t u:Tok}{Q:Value->SP0} (h:Q (.bool (decide (a<b))) s):wpAny (model prog w) A (richCompare .Lt (.int a t) (.int b u)) Q E s:=
 CmpOf.ints_lt (prog:=prog) (w:=w) (A:=A) (P:=fun (i:Nat) v=>∃ t,v= .int (if i=0 then a else b) t) (fun i=>if i=0 then a else b) (fun _ _ q=>q) 0 1 _ _ _ _ _ ⟨t,rfl⟩ ⟨u,rfl⟩ h
noncomputable def ZT (kf:PyData->Int):PyData->LP->PyData
 | b,[]=>b
 | b,d::r=>if kf d<kf b then ZT kf d r else ZT kf b r
def adA (kf:PyData->Int):OP->LP->PyData
 | none,[]=> .none
 | none,d::r=>ZT kf d r
 | some b,r=>ZT kf b r
noncomputable def lob (us:Array Value) (c:Nat):Obj:={ cls:= .type "list",data:= .seq us c }
structure Own1 (X:Cx) (Kp:List (Addr × Obj)) (b:Addr):Prop where
 h1:b ≠ X.env.locals
 h2:b ∉ X.fs
 h3:X.s₀.heap.objs.size<=b
 h4:∀ x c,X.env.cells.lookup x=some c->c ≠ b
 h5:∀ p ∈ X.pn++Kp,p.1 ≠ b
def al2 (K:Fg) (H:Hp) (h:Heap) (S:Addr) (kf:PyData->Int):OP->Prop
 | none=>∃ c,h.get? S=some (lob #[] c)
 | some b=>∃ x u t c,Rep K H b x/\jV x u/\h.get? S=some (lob #[u,.int (kf b) t] c)
theorem aeW {h:Heap}{S:Addr}{us ws:Array Value}{c:Nat} (ho:h.get? S=some (lob us c)):∃ c2,(h.update S (Obj.mapSeq fun _=>ws)).get? S=some (lob ws c2):=by
 have e:=Heap.get?_update_self (Obj.mapSeq fun _=>ws) ho rfl
 exact ⟨_,e⟩
theorem aam:(toString "min"++toString ".loop":String)="min.loop":=by decide
theorem akp {X:Cx}{k:Nat}{f:Addr}{fd:FuncData}{ps:List Str}{g:LP->OP}{kf:PyData->Int}{ds:LP}{xs:List V}{l it S:Addr}{Kp:List (Addr × Obj)}{σ:St}{R:Result->SP0} (hc:X.calm=true)
  (FO:FnOk X.prog X.w X.K X.mg X.base CX0 k f fd ps (Pur X.K 1 g)) (hr:Room (k+1) X.A) (hb:Jl X.K fd ps []) (hk:∀ d ∈ ds,g [d]=some (.int (kf d))) (oI:Own1 X Kp it) (oS:Own1 X Kp S) (nIS:it ≠ S) (nlI:l ≠ it) (nlS:l ≠ S):
  ∀ (r:LP) (i:Nat) (bo:OP) (s:Shared) (H:Hp),ds.drop i=r->Inv (Cx.inB X) Kp σ H s->H l=some (.lst xs)->Reps X.K H ds xs->H it=none->H S=none->s.heap.IsListIter it l i->al2 X.K H s.heap S kf bo->
   (∀ v u s' H',Inv (Cx.inB X) Kp σ H' s'->jr H H'->jV v u->Rep X.K H' (adA kf bo r) v->R (.ok (.ret u)) s')->
   codeAny (model X.prog X.w) X.A (.builtin "min.loop" ⟨[.ref it,.ref f,.ref S],[("default",.none)]⟩) R s:=by
 have fpo:∀ {b:Addr} {H:Hp} {pl:List (Addr × Obj)},Own1 X Kp b->H b=none->(∀ p ∈ pl,p.1 ≠ b)->agg (Cx.inB X) (Kp++pl) H b:=fun {b H pl} o hn hp=>⟨hn,o.h1,o.h2,.inr o.h3,o.h4,fun p hq z=>by
  rcases List.mem_append.mp (show p ∈ X.pn++(Kp++pl) from hq) with q | q
  ·exact o.h5 p (List.mem_append_left _ q) z
  ·rcases List.mem_append.mp q with q | q
   ·exact o.h5 p (List.mem_append_right _ q) z
   ·exact hp p q z⟩
 intro r
 induction r with
 | nil=>
  intro i bo s H hd I hl hR hI hS st hB fin
  obtain ⟨its,rv,p,hz⟩:=I.list (SqL.of (K:=X.K) hl)
  have hle:ds.length<=i:=by
   have:=congrArg List.length hd
   simp at this; omega
  have hlen:=hR.length
  have hvl:=rv.length
  have f0:=fpo (pl:=[]) oI hI (fun _ z=>nomatch z)
  obtain ⟨q0,q1,q2,q3,q4,q5⟩:=f0
  refine codeAny_builtin PySem.F.entry_min_loop ?_
  rw [Around.under_plainId PySem.F.plain_min_loop _]
  cases bo with
  | none=>
   obtain ⟨c,hSo⟩:=hB
   refine wpAny_bind (m:=seqItems? (.ref S)) (wpAny_seqItems hSo rfl ?_)
   refine wpAny_bind (m:=tryCatch (pyNext (.ref it)) _) (wpAny_tryCatch (wpAny_pyNext_list_end (I.ok.hd hc) st p.isList (by simp; omega) fun h' eb=>?_))
   have I1:Inv (Cx.inB X) Kp σ H { s with heap:=h' }:=I.turned (t':=s.toks) (it:=it) (fun b o hb e=>eb b o hb e) hI oI.h1 (.inr oI.h3) oI.h4 oI.h5
   refine wpAny_bind (m:=rule _) (wpAny_rule ?_)
   exact wpAny_pure (fin .non _ _ H I1 (jr.refl H) rfl rfl)
  | some b=>
   obtain ⟨x,u,t,c,rx,ru,hSo⟩:=hB
   refine wpAny_bind (m:=seqItems? (.ref S)) (wpAny_seqItems hSo rfl ?_)
   refine wpAny_bind (m:=tryCatch (pyNext (.ref it)) _) (wpAny_tryCatch (wpAny_pyNext_list_end (I.ok.hd hc) st p.isList (by simp; omega) fun h' eb=>?_))
   have I1:Inv (Cx.inB X) Kp σ H { s with heap:=h' }:=I.turned (t':=s.toks) (it:=it) (fun b o hb e=>eb b o hb e) hI oI.h1 (.inr oI.h3) oI.h4 oI.h5
   have hS1:h'.get? S=some (lob #[u,.int (kf b) t] c):=eb S _ (Ne.symm nIS) hSo
   refine wpAny_bind (m:=updateSeq S fun _=>#[]) ?_
   refine wpAny_updateSeq hS1 rfl (wpAny_bind (wpAny_letGo (wpAny_pure ?_)))
   have I2:Inv (Cx.inB X) Kp σ H { s with heap:=h'.update S (Obj.mapSeq fun _=>(#[]:Array Value)) }:=Inv.turned (s:={ s with heap:=h' }) I1 (t':=s.toks) (it:=S) (fun b o hb e=>((Heap.SameBut.update h' S _).2 b hb).trans e) hS oS.h1 (.inr oS.h3) oS.h4 oS.h5
   exact fin x u _ H I2 (jr.refl H) ru rx
 | cons d r ih=>
  intro i bo s H hd I hl hR hI hS st hB fin
  obtain ⟨its,rv,p,hz⟩:=I.list (SqL.of (K:=X.K) hl)
  have hi:ds[i]?=some d:=by
   have:(ds.drop i)[0]?=some d:=by rw [hd]; rfl
   simpa using this
  have hd':ds.drop (i+1)=r:=by
   have:(ds.drop i).drop 1=r:=by rw [hd]; rfl
   simpa [List.drop_drop,Nat.add_comm] using this
  have hmem:d ∈ ds:=List.mem_of_getElem? hi
  obtain ⟨x,hx,rx⟩:=hR.get hi
  obtain ⟨u,hu,ru⟩:=rv.get hx
  refine codeAny_builtin PySem.F.entry_min_loop ?_
  rw [Around.under_plainId PySem.F.plain_min_loop _]
  obtain ⟨olds,hSo⟩:∃ olds:Obj,s.heap.get? S=some olds/\(∀ v,olds.data ≠ .cell v):=by
   cases bo with
   | none=>obtain ⟨c,e⟩:=hB; exact ⟨_,e,fun v z=>by cases z⟩
   | some b=>obtain ⟨_,_,_,c,_,_,e⟩:=hB; exact ⟨_,e,fun v z=>by cases z⟩
  obtain ⟨hSo,hSc⟩:=hSo
  have nxt:∀ {Q2:Option Value->SP0} {E2:Value->SP0},(∀ h' oi,Inv (Cx.inB X) (Kp++[(S,olds),(it,oi)]) σ H { s with heap:=h' }->(oi.cls= .type "list_iterator"/\oi.data= .fields #[.ref l,.int ((i+1:Nat):Int) 0])->Q2 (some u) { s with heap:=h' })->
    wpAny (model X.prog X.w) X.A.in1 (pyNext (.ref it)) Q2 E2 s:=by
   intro Q2 E2 go
   refine wpAny_pyNext_list_item st p.isList (x:=u) (by simpa using hu) fun h' st' sb=>?_
   have I1:Inv (Cx.inB X) Kp σ H { s with heap:=h' }:=I.turned (t':=s.toks) (it:=it) (fun b o hb e=>(sb.2 b hb).trans e) hI oI.h1 (.inr oI.h3) oI.h4 oI.h5
   have hS1:h'.get? S=some olds:=(sb.2 S (Ne.symm nIS)).trans hSo
   obtain ⟨oi,hoi,hci,hdi⟩:=id st'
   refine go h' oi (I1.pins_of fun q hq=>?_) ⟨hci,hdi⟩
   rcases List.mem_append.mp hq with z | z
   ·exact I1.pin q (List.mem_append_right _ z)
   ·rcases List.mem_cons.mp z with e | z
    ·subst e; exact ⟨hS1,hS,oS.h1,oS.h2,hSc⟩
    ·have e:q=(it,oi):=by simpa using z
     subst e; exact ⟨hoi,hI,oI.h1,oI.h2,fun v z=>by rw [hdi] at z; cases z⟩
  have key:∀ {Q3:Value->SP0} {E3:Value->SP0} {h':Heap} {oi:Obj},Inv (Cx.inB X) (Kp++[(S,olds),(it,oi)]) σ H { s with heap:=h' }->(oi.cls= .type "list_iterator"/\oi.data= .fields #[.ref l,.int ((i+1:Nat):Int) 0])->
    (∀ t s2 H2,Inv (Cx.inB X) Kp σ H2 s2->jr H H2->H2 it=none->H2 S=none->s2.heap.IsListIter it l (i+1)->s2.heap.get? S=some olds->Q3 (.int (kf d) t) s2)->wpAny (model X.prog X.w) X.A.in1 (call (.ref f) [u]) Q3 E3 { s with heap:=h' }:=by
   intro Q3 E3 h' oi I1p ho go
   have kk:(Pur X.K 1 g) [x] H (fun v H2=>v= .int (kf d)/\jr H H2) E0:=⟨[d],.int (kf d),rfl,⟨x,[],rfl,rx,rfl⟩,hk d hmem,fun v H2 s2 r2=>⟨r2,s2⟩⟩
   refine wpAny_mono (aeK (X:=Cx.inB X) (dvs:=[]) (ds:=[]) (E:=E0) FO (Room.in1 hr) hb .nil adR I1p (.cons ru .nil) (by simpa using kk)) (fun kv s2 h2=>?_) fun _ _ z=>z.elim
   obtain ⟨v2,H2,I2,r2,e2,s2'⟩:=h2
   subst e2
   obtain ⟨t,rfl⟩:=r2
   have pS:=I2.pin (S,olds) (List.mem_append_right _ (List.mem_append_right _ (by simp)))
   have pI:=I2.pin (it,oi) (List.mem_append_right _ (List.mem_append_right _ (by simp)))
   have I2d:Inv (Cx.inB X) Kp σ H2 s2:=I2.pins_of fun q hq=>I2.pin q (List.mem_append_right _ (List.mem_append_left _ hq))
   exact go t s2 H2 I2d s2' pI.2.1 pS.2.1 ⟨oi,pI.1,ho.1,ho.2⟩ pS.1
  have back:∀ {b2:PyData} {s2:Shared} {H2:Hp},Inv (Cx.inB X) Kp σ H2 s2->jr H H2->H2 it=none->H2 S=none->s2.heap.IsListIter it l (i+1)->al2 X.K H2 s2.heap S kf (some b2)->adA kf bo (d::r)=adA kf (some b2) r->
    codeAny (model X.prog X.w) X.A (.builtin "min.loop" ⟨[.ref it,.ref f,.ref S],[("default",.none)]⟩) R s2:=fun {b2 s2 H2} I2 s12 hI2 hS2 st2 hB2 em=>
   ih (i+1) (some b2) s2 H2 hd' I2 (s12 _ _ hl) (Reps.mono s12 _ _ hR) hI2 hS2 st2 hB2 fun v u s' H' I' s' r' q'=>fin v u _ H' I' (s12.trans s') r' (by rw [em]; exact q')
  cases bo with
  | none=>
   obtain ⟨c,hSn⟩:=hB
   rw [hSn] at hSo; cases hSo
   refine wpAny_bind (m:=seqItems? (.ref S)) (wpAny_seqItems hSn rfl ?_)
   refine wpAny_bind (m:=tryCatch (pyNext (.ref it)) _) (wpAny_tryCatch (nxt fun h' oi I1p ho=>?_))
   refine wpAny_bind (m:=tryCatch (holding [u] (call (.ref f) [u])) _) (wpAny_tryCatch (wpAny_holding (key I1p ho fun t s2 H2 I2 s12 hI2 hS2 st2 hS2o=>?_)))
   refine wpAny_bind (m:=updateSeq S fun _=>#[u,.int (kf d) t]) ?_
   refine wpAny_updateSeq hS2o rfl ?_
   obtain ⟨c2,hc2⟩:=aeW (ws:=#[u,.int (kf d) t]) hS2o
   have sb:=Heap.SameBut.update s2.heap S (Obj.mapSeq fun _=>#[u,.int (kf d) t])
   have I3:Inv (Cx.inB X) Kp σ H2 { s2 with heap:=s2.heap.update S (Obj.mapSeq fun _=>#[u,.int (kf d) t]) }:=I2.turned (t':=s2.toks) (it:=S) (fun b o hb e=>(sb.2 b hb).trans e) hS2 oS.h1 (.inr oS.h3) oS.h4 oS.h5
   obtain ⟨oi,e1,e2⟩:=st2
   rw [aam]
   exact wpAny_pure ⟨plainId_quiet PySem.F.plain_min_loop _,back (b2:=d) I3 s12 hI2 hS2 ⟨oi,(sb.2 it nIS).trans e1,e2⟩ ⟨x,u,t,c2,Rep.mono s12 _ _ rx,ru,hc2⟩ rfl⟩
  | some b=>
   obtain ⟨xb,ub,tb,c,rb,rub,hSn⟩:=hB
   rw [hSn] at hSo; cases hSo
   refine wpAny_bind (m:=seqItems? (.ref S)) (wpAny_seqItems hSn rfl ?_)
   refine wpAny_bind (m:=tryCatch (pyNext (.ref it)) _) (wpAny_tryCatch (nxt fun h' oi I1p ho=>?_))
   refine wpAny_bind (m:=tryCatch (holding [u] (call (.ref f) [u])) _) (wpAny_tryCatch (wpAny_holding (key I1p ho fun t s2 H2 I2 s12 hI2 hS2 st2 hS2o=>?_)))
   refine wpAny_bind (m:=tryCatch (holding [u,.int (kf d) t] (richCompare .Lt (.int (kf d) t) (.int (kf b) tb) >>= _)) _) (wpAny_tryCatch (wpAny_holding (wpAny_bind (asc ?_))))
   refine wpAny_bind (wpAny_holding (wpAny_truthy_bool ?_))
   refine wpAny_bind (wpAny_letGo (wpAny_pure ?_))
   by_cases hlt:kf d<kf b
   ·simp only [hlt,decide_true,zzM]
    refine wpAny_bind (m:=updateSeq S fun _=>#[u,.int (kf d) t]) ?_
    refine wpAny_updateSeq hS2o rfl (wpAny_bind (wpAny_letGo ?_))
    obtain ⟨c2,hc2⟩:=aeW (ws:=#[u,.int (kf d) t]) hS2o
    have sb:=Heap.SameBut.update s2.heap S (Obj.mapSeq fun _=>#[u,.int (kf d) t])
    have I3:Inv (Cx.inB X) Kp σ H2 { s2 with heap:=s2.heap.update S (Obj.mapSeq fun _=>#[u,.int (kf d) t]) }:=I2.turned (t':=s2.toks) (it:=S) (fun b o hb e=>(sb.2 b hb).trans e) hS2 oS.h1 (.inr oS.h3) oS.h4 oS.h5
    obtain ⟨oi,e1,e2⟩:=st2
    rw [aam]
    exact wpAny_pure ⟨plainId_quiet PySem.F.plain_min_loop _,back (b2:=d) I3 s12 hI2 hS2 ⟨oi,(sb.2 it nIS).trans e1,e2⟩ ⟨x,u,t,c2,Rep.mono s12 _ _ rx,ru,hc2⟩ (by simp [adA,ZT,hlt])⟩
   ·simp only [hlt,decide_false,zzL,zzN]
    refine wpAny_bind (wpAny_letGo ?_)
    rw [aam]
    exact wpAny_pure ⟨plainId_quiet PySem.F.plain_min_loop _,back (b2:=b) I2 s12 hI2 hS2 st2 ⟨xb,ub,tb,c,Rep.mono s12 _ _ rb,rub,hS2o⟩ (by simp [adA,ZT,hlt])⟩
theorem ahQ (a v d:Value):argsOk "min" ⟨[a],[("key",v),("default",d)]⟩:=by unfold argsOk; kernel_rfl
theorem agz {X:Cx}{Kp:List (Addr × Obj)}{σ:St}{H:Hp}{s:Shared} (I:Inv X Kp σ H s) {b:Addr} (hb:s.heap.objs.size<=b):Own1 X Kp b:=by
 obtain ⟨_,h1,h2,h3,h4,h5⟩:=I.fpOk (H':=fun _=>none) hb rfl
 exact ⟨h1,h2,Nat.le_trans I.sz hb,h4,h5⟩
theorem ahR {X:Cx}{k:Nat}{f:Addr}{fd:FuncData}{ps:List Str}{g:LP->OP}{kf:PyData->Int}{ds:LP}{xs:List V}{l:Addr}{Kp:List (Addr × Obj)}{σ:St}{H:Hp}{s:Shared}{Q:VK} (hc:X.calm=true)
  (FO:FnOk X.prog X.w X.K X.mg X.base CX0 k f fd ps (Pur X.K 1 g)) (hr:Room (k+1) X.A) (hb:Jl X.K fd ps []) (hk:∀ d ∈ ds,g [d]=some (.int (kf d))) (I:Inv X Kp σ H s) (hl:H l=some (.lst xs)) (hR:Reps X.K H ds xs)
  (q:∀ v H',jr H H'->Rep X.K H' (adA kf none ds) v->Q v H'):
  wpAny (model X.prog X.w) X.A (call (.builtin "min") [.ref l] [("key",.ref f),("default",.none)]) (EP X Kp σ Q) X.xe s:=by
 obtain ⟨its,rv,p,hz⟩:=I.list (SqL.of (K:=X.K) hl)
 have hlt:l<s.heap.objs.size:=I.hok.lt hl
 refine PyProof.Rows.kmk_tree PySem.F.kind_min PySem.F.plain_min PySem.F.entry_min (ahQ _ _ _) ?_
 refine wpAny_bind (m:=Builtin.Builtins.bindParams "min" ["key","default"] 0 ⟨[],[("key",.ref f),("default",.none)]⟩)
  (wpAny_of_eq (show _=pure [some (.ref f),some .none] from rfl) ?_)
 refine wpAny_bind (wpAny_pure ?_)
 refine wpAny_bind (wpAny_pyIter_list p.isList ?_)
 refine wpAny_bind (wpAny_newList ?_ (Nat.zero_le _))
 rw [aam]
 refine wpAny_pure ⟨plainId_quiet PySem.F.plain_min_loop _,?_⟩
 generalize hh1:s.heap.push { cls:= .type "list_iterator",data:= .fields #[.ref l,.int 0 0] }=h1
 have n1:h1.objs.size=s.heap.objs.size+1:=by rw [←hh1]; exact Heap.size_push ..
 have k2:∀ b o,s.heap.get? b=some o->(h1.push { cls:= .type "list",data:= .seq ([]:List Value).toArray }).get? b=some o:=fun b o e=>Heap.get?_push_of_some _ (by rw [←hh1]; exact Heap.get?_push_of_some _ e)
 have I2:Inv X Kp σ H { s with heap:=h1.push { cls:= .type "list",data:= .seq ([]:List Value).toArray } }:=I.kept (t':=s.toks) k2
 refine akp (kf:=kf) hc FO hr hb hk (agz I (Nat.le_refl _)) (agz I (b:=h1.objs.size) (by rw [n1]; exact Nat.le_succ _)) (by rw [n1]; exact Nat.ne_of_lt (Nat.lt_succ_self _)) (Nat.ne_of_lt hlt) (by rw [n1]; exact Nat.ne_of_lt (Nat.lt_succ_of_lt hlt))
  ds 0 none _ H rfl (Inv.inB I2) hl hR (I.hok.fresh (Nat.le_refl _)) (I.hok.fresh (by rw [n1]; exact Nat.le_succ _)) ⟨_,Heap.get?_push_of_some _ (by rw [←hh1]; exact Heap.get?_push_size _ rfl),rfl,rfl⟩ ⟨0,Heap.get?_push_size _ rfl⟩ fun v u s' H' I' s1 r' q'=>?_
 exact ⟨v,H',Inv.outB I',r',q v H' s1 q'⟩
def acI (g:LP->OP) (ds:LP):Bool:=ds.all fun d=>((g [d]).bind aaj).isSome
def aan (g:LP->OP) (d:PyData):Int:=((g [d]).bind aaj).getD 0
def aba (g:LP->OP):PyData->OP
 | .list ds=>if acI g ds=true then some (adA (aan g) none ds) else none
 | _=>none
theorem akq {d:PyData}{i:Int} (h:aaj d=some i):d= .int i:=by
 cases d <;> simp [aaj] at h
 rw [h]
theorem al3 {g:LP->OP}{ds:LP} (h:acI g ds=true):∀ d ∈ ds,g [d]=some (.int (aan g d)):=fun d hd=>by
 have:=List.all_eq_true.mp h d hd
 cases e:g [d] with
 | none=>simp [e] at this
 | some c=>
  cases e2:aaj c with
  | none=>simp [e,e2] at this
  | some i=>
   have:=akq e2
   subst this
   simp [aan,e,aaj]
theorem acJ:bootBuiltins "min"=some (.builtin "min"):=by decide +kernel
theorem al4:bootBuiltins "max"=some (.builtin "max"):=by decide +kernel
section
variable {X:Cx}{a:Expr}{fa:RP}{pos p p2 p3 kp kp2:Pos}{j3:Nat}
theorem al5 {k j:Nat}{ps:List Str}{g:LP->OP}{x:Str} (hc:X.calm=true) (c:jm X.prog X.w X.K X.mg X.base x ps k 1 g) (hr:Room j X.A) (hkj:k+1<=j) (hm:X.mg "min"=none) (ha:PD X a fa) (hg:Gl X "min":=by rfl) (hgx:Gl X x:=by rfl)
  (hdb:(x == ("__debug__":Str))=false:=by decide) (hs:starEach [a] X.env=[(false,eval a X.env)]:=by rfl):
  PD X (.Call (.Name "min" p) [a] [⟨some "key",.Name x p2,kp⟩,⟨some "default",.Constant .none j3 p3,kp2⟩] pos) (fun ρ=>(fa ρ).bind (aba g)):=by
 with_unfolding_all
  obtain ⟨f,fd,FO,hmx,hkp,hb⟩:=c
  intro Kp s σ H Q I h
  obtain ⟨ρ,d,en,q,kq⟩:=h
  cases h1:fa ρ with
  | none=>simp [h1] at q
  | some y=>
   have q':aba g y=some d:=by simpa [h1] using q
   refine wpAny_Call_Name_kw (Qn I hg hm acJ ?_)
   have hA:PA X [a] (agj (tD X.K fa) an4):=qD ha zw (by rw [hs]; rfl)
   have hK:PK X [⟨some "key",.Name x p2,kp⟩,⟨some "default",.Constant .none j3 p3,kp2⟩] (agj (tC (.ref f)) (agj (tC .non) an4)):=ai1 (aeE hgx hmx rfl hdb) (ai1 alk aqs)
   refine callWith_kw (thn (hA pos Kp s σ H (fun vs H1=>∃ v,vs=[v]/\jr H H1/\Rep X.K H1 y v) I ⟨ρ,y,en,h1,fun v H1 s1 r1=>⟨v,rfl,s1,r1⟩⟩) fun us s1 ⟨vs,H1,I1,r1,v,e1,s1',rv⟩=>?_) (by rw [hs]; rfl) (by rw [hs]; rfl)
   subst e1
   obtain ⟨u,rfl,ru⟩:=abw r1
   refine thn (hK pos Kp s1 σ H1 (fun zs H2=>zs=[.ref f,.non]/\H2=H1) I1 ⟨rfl,rfl⟩) fun ws s2 ⟨zs,H2,I2,r2,e2,e3⟩=>?_
   subst e2; subst e3
   obtain ⟨w1,w2,rfl,a1,a2⟩:=ai0 r2
   cases (show w1=_ from a1)
   cases (show w2=_ from a2)
   cases y with
   | list ds=>
    by_cases hko:acI g ds=true
    ·have:adA (aan g) none ds=d:=by simpa [aba,hko] using q'
     subst this
     obtain ⟨l,xs,e4,e5,e6⟩:=rv
     subst e4
     cases (show u=_ from ru)
     exact ahR (kf:=aan g) hc FO (hr.mono hkj) hb (al3 hko) I2 e5 e6 fun v H' s' r'=>kq v H' (s1'.trans s') r'
    ·simp [aba,hko] at q'
   | _=>simp [aba] at q'
end
noncomputable def ajj:Int->List Int->Int
 | b,[]=>b
 | b,d::r=>if d > b then ajj d r else ajj b r
def aqK:Option Int->List Int->PyData
 | none,[]=> .none
 | none,d::r=> .int (ajj d r)
 | some b,r=> .int (ajj b r)
section
variable {X:Cx}{a:Expr}{fa:RP}{pos p p3 kp2:Pos}{j3:Nat}
end
end BX
end
section
namespace BX.Srt
open PySem PySem.W
open PyProof.Rows (mirror bubble mirror_size mirror_perm bubble_size bubble_perm getElem?_mirror_all getElem?_bubble)
section
variable (rk:Nat->Int) (n:Nat)
noncomputable def val (p:Array Nat) (k:Nat):Int:=rk (p.getD k 0)
def Qw (p:Array Nat) (m:Nat):Prop:=∀ i j,i<=j->j<m->val rk p i<=val rk p j
def acK (p:Array Nat) (m:Nat):Prop:=∀ i j,i<=j->j<m->val rk p j<=val rk p i
def agA (p:Array Nat) (m q:Nat):Prop:=∀ i,m - (q+1)<=i->i<m->val rk p i=val rk p (m - 1)
def OKp (p:Array Nat):Prop:=p.Perm (List.range n).toArray
end
section
variable {rk:Nat->Int}{n:Nat}{p p':Array Nat}
theorem OKp.size (h:OKp n p):p.size=n:=by
 have:=h.size_eq
 simpa using this
theorem OKp.lt (h:OKp n p) {k:Nat} (hk:k<n):p.getD k 0<n:=by
 have hs:=h.size
 have e:p.getD k 0=p[k]'(by omega):=by simp [Array.getD,hs,hk]
 have:p[k]'(by omega) ∈ (List.range n).toArray:=h.mem_iff.mp (Array.getElem_mem _)
 rw [e]
 simpa using this
theorem Qx (p:Array Nat) (k:Nat):p.getD k 0=(p[k]?).getD 0:=by simp [Array.getD_eq_getD_getElem?]
theorem abS {i j k:Nat} (hj:j<=p.size):val rk (kas_rev p i j) k=if i<=k/\k<j then val rk p (i+j - 1 - k) else val rk p k:=by
 unfold val kas_rev
 rw [Qx,getElem?_mirror_all hj]
 by_cases h:i<=k/\k<j
 ·rw [if_pos h,if_pos h,←Qx]
 ·rw [if_neg h,if_neg h,←Qx]
theorem ajk {src d k:Nat} (hs:src<p.size) (hd:d<=src):val rk (bubble p src d) k=if k=src - d then val rk p src else if src - d<k/\k<=src then val rk p (k - 1) else val rk p k:=by
 unfold val
 rw [Qx,getElem?_bubble hs d hd k]
 by_cases h:k=src - d
 ·rw [if_pos h,if_pos h,←Qx]
 ·rw [if_neg h,if_neg h]
  by_cases h2:src - d<k/\k<=src
  ·rw [if_pos h2,if_pos h2,←Qx]
  ·rw [if_neg h2,if_neg h2,←Qx]
theorem OKp.rev (h:OKp n p) (i j:Nat):OKp n (kas_rev p i j):=(mirror_perm p i j _).trans h
theorem OKp.bub (h:OKp n p) (i j:Nat):OKp n (bubble p i j):=(bubble_perm p i j).trans h
theorem Z4 {m q k:Nat} (hm:m<=p.size) (hq:q+1<=m) (h:agA rk p m q):val rk (kas_rev p (m - (q+1)) m) k=val rk p k:=by
 rw [abS hm]
 split
 ·rename_i hk
  rw [h _ (by omega) (by omega),h k hk.1 hk.2]
 ·rfl
end
variable {rk:Nat->Int}{n:Nat}{cmp:Nat->Nat->(Bool->SP0)->SP0}
section
variable {s:Shared} (hc:∀ i j (C:Bool->SP0),i<n->j<n->C (decide (rk i<rk j)) s->cmp i j C s)
include hc
theorem acL {α:Type}{p:Array Nat}{a b:Nat}{k:Bool->KasT α}{Q:α->SP0} (h:OKp n p) (ha:a<n) (hb:b<n) (h1:val rk p a<val rk p b->(k true).kasWp cmp Q s) (h2:val rk p b<=val rk p a->(k false).kasWp cmp Q s):
  (KasT.ask (p.getD a 0) (p.getD b 0) k).kasWp cmp Q s:=by
 refine hc _ _ _ (h.lt ha) (h.lt hb) ?_
 by_cases hl:rk (p.getD a 0)<rk (p.getD b 0)
 ·simp only [hl,decide_true]; exact h1 hl
 ·simp only [hl,decide_false]; exact h2 (Int.not_lt.mp hl)
theorem ahS {p:Array Nat} (h:OKp n p):∀ (f m:Nat) (Q:Nat->SP0),1<=m->m+f<=n->Qw rk p m->
  (∀ m',m<=m'->m'<=m+f->Qw rk p m'->(m'=m+f ∨ val rk p m' < val rk p (m' - 1))->Q m' s)->(kas_asc p f m).kasWp cmp Q s
 | 0,m,Q,_,_,hs,k=>k m (Nat.le_refl _) (Nat.le_refl _) hs (.inl rfl)
 | f+1,m,Q,h1,h2,hs,k=>by
  refine acL hc h (by omega) (by omega) (fun hl=>?_) (fun hl=>?_)
  ·show (if true=true then KasT.ret m else kas_asc p f (m+1)).kasWp cmp Q s
   rw [if_pos rfl]
   exact k m (Nat.le_refl _) (by omega) hs (.inr hl)
  ·show (if false=true then KasT.ret m else kas_asc p f (m+1)).kasWp cmp Q s
   rw [if_neg Bool.false_ne_true]
   refine ahS h f (m+1) Q (by omega) (by omega) (fun i j hij hj=>?_) fun m' a1 a2 a3 a4=>k m' (by omega) (by omega) a3 (a4.elim (fun e=> .inl (by omega)) .inr)
   by_cases hjm:j<m
   ·exact hs i j hij hjm
   ·have ej:j=m:=by omega
    subst ej
    by_cases him:i<j
    ·exact Int.le_trans (hs i (j - 1) (by omega) (by omega)) hl
    ·have ei:i=j:=by omega
     subst ei; exact Int.le_refl _
theorem abT:∀ (f:Nat) (p:Array Nat) (m q:Nat) (Q:Array Nat × Nat × Nat->SP0),OKp n p->q+1<=m->m+f<=n->acK rk p m->agA rk p m q->
  (∀ p' m' q',OKp n p'->q'+1<=m'->m'<=m+f->acK rk p' m'->agA rk p' m' q'->Q (p',m',q') s)->(kas_desc f p m q).kasWp cmp Q s
 | 0,p,m,q,Q,h,h1,h2,hn,he,k=>k p m q h h1 (Nat.le_refl _) hn he
 | f+1,p,m,q,Q,h,h1,h2,hn,he,k=>by
  have hsz:=h.size
  have grow:∀ {p':Array Nat},(∀ i,val rk p' i=val rk p i)->val rk p m<=val rk p (m - 1)->acK rk p' (m+1):=fun {p'} hv hl i j hij hj=>by
   rw [hv,hv]
   by_cases hjm:j<m
   ·exact hn i j hij hjm
   ·have ej:j=m:=by omega
    subst ej
    by_cases him:i<j
    ·exact Int.le_trans hl (hn i (j - 1) (by omega) (by omega))
    ·have ei:i=j:=by omega
     subst ei; exact Int.le_refl _
  refine acL hc h (by omega) (by omega) (fun hl=>?_) (fun hl=>?_)
  ·show (if true=true then (if q > 0 then kas_desc f (kas_rev p (m - (q+1)) m) (m+1) 0 else kas_desc f p (m+1) 0) else _).kasWp cmp Q s
   rw [if_pos rfl]
   have er:∀ {p':Array Nat},agA rk p' (m+1) 0:=fun {p'} i h3 h4=>by
    have e:i=m+1 - 1:=by omega
    rw [e]
   by_cases hq:q > 0
   ·rw [if_pos hq]
    exact abT f _ (m+1) 0 Q (h.rev _ _) (by omega) (by omega) (grow (fun i=>Z4 (by omega) h1 he) (Int.le_of_lt hl)) er fun p' m' q' a1 a2 a3 a4 a5=>k p' m' q' a1 a2 (by omega) a4 a5
   ·rw [if_neg hq]
    exact abT f p (m+1) 0 Q h (by omega) (by omega) (grow (fun _=>rfl) (Int.le_of_lt hl)) er fun p' m' q' a1 a2 a3 a4 a5=>k p' m' q' a1 a2 (by omega) a4 a5
  ·show (if false=true then _ else KasT.ask (p.getD (m - 1) 0) (p.getD m 0) fun d=>if d=true then .ret (p,m,q) else kas_desc f p (m+1) (q+1)).kasWp cmp Q s
   rw [if_neg Bool.false_ne_true]
   refine acL hc h (by omega) (by omega) (fun hl2=>?_) (fun hl2=>?_)
   ·show (if true=true then KasT.ret (p,m,q) else kas_desc f p (m+1) (q+1)).kasWp cmp Q s
    rw [if_pos rfl]
    exact k p m q h h1 (by omega) hn he
   ·show (if false=true then KasT.ret (p,m,q) else kas_desc f p (m+1) (q+1)).kasWp cmp Q s
    rw [if_neg Bool.false_ne_true]
    have eq:val rk p m=val rk p (m - 1):=Int.le_antisymm hl2 hl
    refine abT f p (m+1) (q+1) Q h (by omega) (by omega) (grow (fun _=>rfl) hl2) (fun i h3 h4=>?_) fun p' m' q' a1 a2 a3 a4 a5=>k p' m' q' a1 a2 (by omega) a4 a5
    have e1:m+1 - 1=m:=by omega
    rw [e1]
    by_cases him:i<m
    ·rw [he i (by omega) him,eq]
    ·have ei:i=m:=by omega
     rw [ei]
theorem ajl {p:Array Nat}{m:Nat}{Q:Nat × Array Nat->SP0} (h:OKp n p) (h1:1<=m) (h2:m<=n) (hn:acK rk p m) (k:∀ m' p',OKp n p'->1<=m'->m'<=n->Qw rk p' m'->Q (m',p') s):(kas_tail3 m n p).kasWp cmp Q s:=by
 have hsz:=h.size
 unfold kas_tail3
 rw [KasT.kasWp_bind]
 refine ahS hc (h.rev 0 m) (n - m) m _ h1 (by omega) (fun i j hij hj=>?_) fun m' a1 a2 a3 _=>k m' _ (h.rev 0 m) (by omega) (by omega) a3
 rw [abS (by omega),abS (by omega),if_pos ⟨Nat.zero_le _,by omega⟩,if_pos ⟨Nat.zero_le _,hj⟩]
 exact hn _ _ (by omega) (by omega)
theorem abC {p:Array Nat}{m:Nat}{Q:Nat × Array Nat->SP0} (h:OKp n p) (h2:m+1<=n) (hn:acK rk p (m+1)) (k:∀ m' p',OKp n p'->1<=m'->m'<=n->Qw rk p' m'->Q (m',p') s):
  (kas_descPart m n p).kasWp cmp Q s:=by
 unfold kas_descPart
 rw [KasT.kasWp_bind]
 have er:agA rk p (m+1) 0:=fun i h3 h4=>by
  have e:i=m+1 - 1:=by omega
  rw [e]
 refine abT hc (n - (m+1)) p (m+1) 0 _ h (by omega) (by omega) hn er fun p' m' q' a1 a2 a3 a4 a5=>?_
 have hsz:=a1.size
 show (if q' > 0 then kas_tail3 m' n (kas_rev p' (m' - (q'+1)) m') else kas_tail3 m' n p').kasWp cmp Q s
 by_cases hq:q' > 0
 ·rw [if_pos hq]
  refine ajl hc (a1.rev _ _) (by omega) (by omega) (fun i j hij hj=>?_) k
  rw [Z4 (by omega) a2 a5,Z4 (by omega) a2 a5]
  exact a4 i j hij hj
 ·rw [if_neg hq]
  exact ajl hc a1 (by omega) (by omega) a4 k
theorem al6 {p:Array Nat}{Q:Nat × Array Nat->SP0} (h:OKp n p) (hn1:1<=n) (k:∀ m' p',OKp n p'->1<=m'->m'<=n->Qw rk p' m'->Q (m',p') s):(kas_count n p).kasWp cmp Q s:=by
 have hsz:=h.size
 unfold kas_count
 rw [KasT.kasWp_bind]
 refine ahS hc h (n - 1) 1 _ (Nat.le_refl _) (by omega) (fun i j hij hj=>by
  have e1:i=0:=by omega
  have e2:j=0:=by omega
  rw [e1,e2]; exact Int.le_refl _) fun m a1 a2 a3 a4=>?_
 by_cases hm:(m == n)=true
 ·rw [if_pos hm]
  exact k m p h a1 (by omega) a3
 ·rw [if_neg hm]
  have hmn:m ≠ n:=by simpa using hm
  have hlast:val rk p m<val rk p (m - 1):=a4.resolve_left (by omega)
  by_cases hm1:m > 1
  ·rw [if_pos hm1]
   refine acL hc h (by omega) (by omega) (fun hl=>?_) (fun hl=>?_)
   ·show (if true=true then KasT.ret (m,p) else _).kasWp cmp Q s
    rw [if_pos rfl]
    exact k m p h a1 (by omega) a3
   ·show (if false=true then KasT.ret (m,p) else kas_descPart m n (kas_rev p 0 m)).kasWp cmp Q s
    rw [if_neg Bool.false_ne_true]
    have alleq:∀ i,i<m->val rk p i=val rk p (m - 1):=fun i hi=>by
     have b1:=a3 i (m - 1) (by omega) (by omega)
     have b2:=a3 0 i (Nat.zero_le _) hi
     omega
    have hv:∀ i,val rk (kas_rev p 0 m) i=val rk p i:=fun i=>by
     rw [abS (by omega)]
     split
     ·rename_i hi
      rw [alleq _ (by omega),alleq i hi.2]
     ·rfl
    refine abC hc (h.rev _ _) (by omega) (fun i j hij hj=>?_) k
    rw [hv,hv]
    by_cases hjm:j<m
    ·rw [alleq j hjm,alleq i (by omega)]; exact Int.le_refl _
    ·have ej:j=m:=by omega
     subst ej
     by_cases him:i<j
     ·rw [alleq i him]; exact Int.le_of_lt hlast
     ·have ei:i=j:=by omega
      rw [ei]; exact Int.le_refl _
  ·rw [if_neg hm1]
   have em:m=1:=by omega
   subst em
   refine abC hc h (by omega) (fun i j hij hj=>?_) k
   by_cases hj0:j=0
   ·have:i=0:=by omega
    rw [this,hj0]; exact Int.le_refl _
   ·have ej:j=1:=by omega
    subst ej
    by_cases hi0:i=0
    ·rw [hi0]; exact Int.le_of_lt hlast
    ·have ei:i=1:=by omega
     rw [ei]; exact Int.le_refl _
theorem acM {p:Array Nat}{k:Nat} (h:OKp n p) (hk:k<n) (hs:Qw rk p k):∀ (f l r:Nat) (Q:Nat->SP0),l<=r->r<=k->r - l<=f->(∀ i,i<l->val rk p i<=val rk p k)->(∀ i,r<=i->i<k->val rk p k<val rk p i)->
  (∀ l',l'<=k->(∀ i,i<l'->val rk p i<=val rk p k)->(∀ i,l'<=i->i<k->val rk p k<val rk p i)->Q l' s)->(kas_place p k f l r).kasWp cmp Q s
 | 0,l,r,Q,h1,h2,h3,a,b,q=>by
  have e:l=r:=by omega
  subst e
  exact q l h2 a b
 | f+1,l,r,Q,h1,h2,h3,a,b,q=>by
  show (if l >= r then KasT.ret l else .ask (p.getD k 0) (p.getD ((l+r) / 2) 0) fun c=>if c=true then kas_place p k f l ((l+r) / 2) else kas_place p k f ((l+r) / 2+1) r).kasWp cmp Q s
  by_cases hlr:l >= r
  ·rw [if_pos hlr]
   have e:l=r:=by omega
   subst e
   exact q l h2 a b
  ·rw [if_neg hlr]
   refine acL hc h hk (by omega) (fun hl=>?_) (fun hl=>?_)
   ·show (if true=true then kas_place p k f l ((l+r) / 2) else kas_place p k f ((l+r) / 2+1) r).kasWp cmp Q s
    rw [if_pos rfl]
    refine acM h hk hs f l ((l+r) / 2) Q (by omega) (by omega) (by omega) a (fun i h4 h5=>?_) q
    exact Int.lt_of_lt_of_le hl (hs _ i h4 h5)
   ·show (if false=true then kas_place p k f l ((l+r) / 2) else kas_place p k f ((l+r) / 2+1) r).kasWp cmp Q s
    rw [if_neg Bool.false_ne_true]
    refine acM h hk hs f ((l+r) / 2+1) r Q (by omega) h2 (by omega) (fun i h4=>?_) b q
    exact Int.le_trans (hs i ((l+r) / 2) (by omega) (by omega)) hl
theorem al7:∀ (f:Nat) (p:Array Nat) (k:Nat) (Q:Array Nat->SP0),OKp n p->k+f=n->Qw rk p k->(∀ p',OKp n p'->Qw rk p' n->Q p' s)->(kas_bin f p k).kasWp cmp Q s
 | 0,p,k,Q,h,hk,hs,q=>by
  have e:k=n:=by omega
  exact q p h (by rw [←e]; exact hs)
 | f+1,p,k,Q,h,hk,hs,q=>by
  have hsz:=h.size
  show ((kas_place p k k 0 k).bind fun l=>kas_bin f (bubble p k (k - l)) (k+1)).kasWp cmp Q s
  rw [KasT.kasWp_bind]
  refine acM hc h (by omega) hs k 0 k _ (Nat.zero_le _) (Nat.le_refl _) (by omega) (fun i hi=>absurd hi (Nat.not_lt_zero _)) (fun i h1 h2=>absurd h2 (by omega)) fun l hl a b=>?_
  refine al7 f _ (k+1) Q (h.bub _ _) (by omega) (fun i j hij hj=>?_) q
  have hb:k - (k - l)=l:=by omega
  rw [ajk (by omega) (by omega),ajk (by omega) (by omega),hb]
  by_cases hi1:i=l
  ·rw [if_pos hi1]
   by_cases hj1:j=l
   ·rw [if_pos hj1]; exact Int.le_refl _
   ·rw [if_neg hj1,if_pos ⟨by omega,by omega⟩]
    exact Int.le_of_lt (b _ (by omega) (by omega))
  ·rw [if_neg hi1]
   by_cases hi2:l<i/\i<=k
   ·rw [if_pos hi2,if_neg (by omega),if_pos ⟨by omega,by omega⟩]
    exact hs _ _ (by omega) (by omega)
   ·rw [if_neg hi2]
    by_cases hj1:j=l
    ·rw [if_pos hj1]; exact a i (by omega)
    ·rw [if_neg hj1]
     by_cases hj2:l<j/\j<=k
     ·rw [if_pos hj2]
      exact hs _ _ (by omega) (by omega)
     ·rw [if_neg hj2]
      exact hs _ _ hij (by omega)
theorem sort_ok {Q:Array Nat->SP0} (hn1:1<=n) (q:∀ p',OKp n p'->Qw rk p' n->Q p' s):(kas_sort n).kasWp cmp Q s:=by
 unfold kas_sort
 rw [KasT.kasWp_bind]
 refine al6 hc (p:=(List.range n).toArray) (Array.Perm.refl _) hn1 fun m p h h1 h2 hs=>?_
 show (if m<n then kas_bin (n - max m 1) p (max m 1) else KasT.ret p).kasWp cmp Q s
 have em:max m 1=m:=by omega
 by_cases hm:m<n
 ·rw [if_pos hm,em]
  exact al7 hc (n - m) p m Q h (by omega) hs q
 ·rw [if_neg hm]
  have e:m=n:=by omega
  exact q p h (by rw [←e]; exact hs)
end
end BX.Srt
end
section
namespace BX
open PySem PySem.Spec L2
open PyProof.Rows hiding St
theorem aot (vs:List Value):(vs.toArray.zip vs.toArray).map (·.2)=vs.toArray:=by
 apply Array.toList_inj.mp
 simp [List.map_snd_zip]
theorem aou (vs:List Value):(arrOf (SortSt.mk' general' (vs.toArray.zip vs.toArray) #[] 7 none)).map (·.2)=vs.toArray:=aot vs
section
variable {prog:Program}{w:World}{A:Around}{E:Value->SP0}{s:Shared}
end
theorem qM.there {P:Program}{w:World}{H:Hp}{h:Heap}{a:Addr}{o:HO} (x:qM P w H h a o):∃ u,h.get? a=some u:=by
 cases o with
 | lst xs=>obtain ⟨_,_,_,_,e⟩:=x; exact ⟨_,e⟩
 | tup xs=>obtain ⟨_,_,_,u,e,_⟩:=x; exact ⟨_,e⟩
 | dK kvs=>obtain ⟨_,_,_,_,o,_,_,e,_⟩:=x; exact ⟨_,e⟩
 | dT kvs=>obtain ⟨_,_,_,_,o,_,_,e,_⟩:=x; exact ⟨_,e⟩
 | set S n=>obtain ⟨o,_,_,_,e,_⟩:=x; exact ⟨_,e⟩
 | ins C dx fs=>obtain ⟨_,_,_,e,_⟩:=x; exact ⟨_,e⟩
 | own y=>obtain ⟨_,e⟩:=x; exact ⟨_,e⟩
 | xd fs=>obtain ⟨_,⟨_,_,_,e,_⟩,_⟩:=x; exact ⟨_,e⟩
 | rng lo hi=>obtain ⟨_,_,_,e⟩:=x; exact ⟨_,e⟩
 | frz ob u=>obtain ⟨e,_⟩:=x; exact ⟨_,e⟩
 | tbl ps=>exact ⟨_,(show h.get? a=some _ from x)⟩
 | met f y=>exact ⟨_,(show h.get? a=some _ from x)⟩
 | ext φ=>obtain ⟨_,⟨_,e⟩,_⟩:=x; exact ⟨_,e⟩
theorem aqL {h:Heap}{L:Addr}{m m':SV} (a:h.Ns L m) (b:h.Ns L m'):m=m':=by
 obtain ⟨o,es,ep,e1,d1,_,q1⟩:=a
 obtain ⟨o',es',ep',e2,d2,_,q2⟩:=b
 rw [e1] at e2; cases e2
 rw [d1] at d2; cases d2
 funext x
 rw [←q1 x,←q2 x]
theorem Inv.grownL {X:Cx}{Kp:List (Addr × Obj)}{σ:St}{H:Hp}{s:Shared}{h':Heap}{m:SV}{D:Addr}{ys:List V}{us:List Value}{c:Nat} (I:Inv X Kp σ H s) (hm:s.heap.Ns X.env.locals m) (hm':h'.Ns X.env.locals m)
  (kp:∀ b o,b ≠ X.env.locals->s.heap.get? b=some o->h'.get? b=some o) (hD:s.heap.get? D=none) (ho:h'.get? D=some (lob us.toArray c)) (rv:jJ ys us) (hz:ys.length<=sizeLine):Inv X Kp σ (upd H D (.lst ys)) { s with heap:=h' }:=by
 have nD:H D=none:=by
  cases e:H D with
  | none=>rfl
  | some o=>obtain ⟨u,q⟩:=qM.there (I.hok D o e); rw [hD] at q; cases q
 have neD:∀ b u,H b=some u->b ≠ D:=fun b u e z=>by rw [z,nD] at e; cases e
 have nL:∀ b u,H b=some u->b ≠ X.env.locals:=fun b u e z=>by rw [z,I.free] at e; cases e
 refine I.step (t':=s.toks) (g':=s.gens) (d':=s.drawn) (ch:=[]) (fun b hb=>nomatch hb) (fun b o hL _ _ e _=>kp b o hL e) (fun b o hL _ _ e _=>⟨o.slots,kp b o hL e⟩) (fun b o _ e n=>?_) (fun b o _ e=>?_) (fun b ws e=>by rw [jq (neD b _ e)]; exact e)
  (fun b ob ws e=>by rw [jq (neD b _ e)]; exact e) (fun b ps e=>⟨#[],by rw [jq (neD b _ e),e]; simp⟩) (fun m2 h2=>by rw [←aqL hm h2]; exact hm') (fun b u e=>?_) I.bare
 ·have:b ≠ D:=fun z=>by rw [z,hD] at e; cases e
  rw [jq this]; exact n
 ·by_cases hb:b=X.env.locals
  ·obtain ⟨o',_,_,e',_⟩:=hm'
   exact ⟨o',by rw [hb]; exact e'⟩
  ·exact ⟨o,kp b o hb e⟩
 ·by_cases hb:b=D
  ·subst hb
   rw [jn] at e
   cases e
   exact ⟨hz,us,c,rv,ho⟩
  ·rw [jq hb] at e
   refine (I.hok b u e).stay (fun c' o hc' q=>kp c' o ?_ q) (fun c' q=>by rw [jq (neD c' _ q)]; exact q) fun c' ws q=>by rw [jq (neD c' _ q)]; exact q
   rcases hc' with q' | q'
   ·rw [q']; exact nL b u e
   ·exact nL c' _ q'
noncomputable def al8 (p:Int × Int):PyData:= .tuple [.int p.1,.int p.2]
noncomputable def inB (p:Int × Int):Bool:=decide (0<=p.2) && decide (p.2<1000000)
structure PairAt (h:Heap) (u:Value) (p:Int × Int):Prop where
 ex:∃ a o k t t',u= .ref a/\h.get? a=some o/\o.cls= .type "tuple"/\o.data= .seq #[.int p.1 t,.int p.2 t'] k
theorem getD_some {α:Type}{l:List α}{i:Nat}{d x:α} (h:l[i]?=some x):l.getD i d=x:=by simp [List.getD,h]
theorem akr {us:List Value}{xs:List V} (rv:jJ xs us) (is:List Nat) (h:∀ i ∈ is,i<us.length):jJ (is.map fun i=>xs.getD i .non) (is.map fun i=>us.getD i Value.none):=by
 induction is with
 | nil=>exact .nil
 | cons i is ih=>
  have hi:=h i List.mem_cons_self
  have hl:=rv.length
  obtain ⟨u,e1,e2⟩:=rv.get (show xs[i]?=some (xs[i]'(by omega)) by simp [hl,hi])
  refine .cons ?_ (ih fun j hj=>h j (List.mem_cons_of_mem _ hj))
  show L2.jV (xs.getD i .non) (us.getD i Value.none)
  rw [getD_some e1,getD_some (show xs[i]?=some (xs[i]'(by omega)) by simp [hl,hi])]
  exact e2
section
variable {X:Cx}
variable {a b:Expr}{fa fb:RP}{pos p2:Pos}
noncomputable def ahT:PyData->OP
 | .int i=>some (.int (-i))
 | _=>none
theorem ahU (h:PD X a fa):PD X (.UnaryOp .USub a pos) (fun ρ=>(fa ρ).bind ahT):=by
 with_unfolding_all
  refine PE.imp (arN aqn h) fun σ H Q ⟨ρ,d,en,q,k⟩=>?_
  cases h1:fa ρ with
  | none=>simp [h1] at q
  | some y=>
   refine ⟨ρ,y,en,h1,fun v H1 s1 r1=>?_⟩
   have q':ahT y=some d:=by simpa [h1] using q
   cases y with
   | int i=>cases q'; cases (show v=_ from r1); exact ⟨i,rfl,k _ H1 s1 rfl⟩
   | _=>cases q'
end
variable {X:Cx}
end BX
end
section
namespace BX
open PySem PySem.Spec L2
open PyProof.Rows hiding St
variable {X:Cx}
noncomputable def adB (f:Expr->OP):List Expr->Option (LP)
 | []=>some []
 | e::es=>(f e).bind fun d=>(adB f es).map fun ds=>d::ds
def lit:Nat->Expr->OP
 | 0,_=>none
 | n+1,e=>match e with
  | .Constant (.int i) _ _=>some (.int i)
  | .Constant (.bool b) _ _=>some (.bool b)
  | .Constant .none _ _=>some .none
  | .Constant (.str x) _ _=>some (.str x)
  | .Tuple es _ _=>(adB (lit n) es).bind fun ds=>if few ds=true then some (.tuple ds) else none
  | .List es _=>(adB (lit n) es).bind fun ds=>if few ds=true then some (.list ds) else none
  | _=>none
theorem PD.as {e:Expr}{F G:RP} (h:PD X e F) (hi:∀ ρ d,G ρ=some d->F ρ=some d):PD X e G:=by
 with_unfolding_all exact (PE.imp h fun σ H Q ⟨ρ,d,en,q,k⟩=>⟨ρ,d,en,hi ρ d q,k⟩)
theorem PAD.as {es:List Expr}{F G:Rho->Option (LP)} (h:PAD X es F) (hi:∀ ρ d,G ρ=some d->F ρ=some d):PAD X es G:=by
 with_unfolding_all exact (PA.imp h fun σ H Q ⟨ρ,d,en,q,k⟩=>⟨ρ,d,en,hi ρ d q,k⟩)
def al9 (e:Expr):Prop:=∀ (es:List Expr) (env:Env),starEach (e::es) env=(false,eval e env)::starEach es env
theorem aeX {f:Expr->OP} (hf:∀ e d,f e=some d->PD X e (cst d)/\al9 e):∀ (es:List Expr) (ds:LP),adB f es=some ds->PAD X es (fun _=>some ds)
 | [],ds,h=>by cases h; exact jd
 | e::es,ds,h=>by
  cases h1:f e with
  | none=>simp [adB,h1] at h
  | some d=>
   cases h2:adB f es with
   | none=>simp [adB,h1,h2] at h
   | some r=>
    have:d::r=ds:=by with_unfolding_all simpa [adB,h1,h2] using h
    subst this
    obtain ⟨p,st⟩:=hf e d h1
    exact (jb p (aeX hf es r h2) (st es X.env)).as fun ρ d' q=>by cases q; simp [jt,cst]
theorem ahV:∀ (n:Nat) (e:Expr) (d:PyData),lit n e=some d->PD X e (cst d)/\al9 e
 | 0,e,d,h=>by cases h
 | n+1,e,d,h=>by
  unfold lit at h
  split at h
  ·cases h; exact ⟨jh,fun _ _=>rfl⟩
  ·cases h; exact ⟨Jn,fun _ _=>rfl⟩
  ·cases h; exact ⟨aqC,fun _ _=>rfl⟩
  ·cases h; exact ⟨zM,fun _ _=>rfl⟩
  ·rename_i es x1 pos
   cases h1:adB (lit n) es with
   | none=>simp [h1] at h
   | some ds=>
    by_cases hf:few ds=true
    ·have:PyData.tuple ds=d:=by with_unfolding_all simpa [h1,hf] using h
     subst this
     exact ⟨(Qs (aeX (ahV n) es ds h1)).as fun ρ d' q=>by cases q; simp [Z1,hf],fun _ _=>rfl⟩
    ·simp [h1,hf] at h
  ·rename_i es pos
   cases h1:adB (lit n) es with
   | none=>simp [h1] at h
   | some ds=>
    by_cases hf:few ds=true
    ·have:PyData.list ds=d:=by simpa [h1,hf] using h
     subst this
     exact ⟨(Qt (aeX (ahV n) es ds h1)).as fun ρ d' q=>by cases q; simp [Je,hf],fun _ _=>rfl⟩
    ·simp [h1,hf] at h
  ·cases h
theorem ahW (n:Nat) {e:Expr} (d:PyData) (h:lit n e=some d):PD X e (cst d):=by
 with_unfolding_all exact ((ahV n e d h).1)
end BX
end
section
namespace BX
open PySem L2
open PyProof.Rows hiding St
def jW (K:Fg) (x:Str) (st:Stmt):Prop:=
 ∃ (f:Addr) (oc:Value) (od an:Option Addr) (kV doc pm Kc ct:Value) (osl:Array (Option Value)),PySem.W.nsIn K mainGlobals x=some (some (.ref f))/\
  K.lookup f=some ⟨oc,od,.func (PySem.W.fnOf x x (zR st) (jR st) (je st) .none kV doc pm an Kc ct),osl⟩/\PySem.W.codeIn K Kc x=true/\PySem.W.keepIn K (.ref f)=true
theorem ama {K:Fg}{x:Str}{st:Stmt}{f:Addr}{oc:Value}{od an:Option Addr}{kV doc pm Kc ct:Value}{osl:Array (Option Value)} (a:PySem.W.nsIn K mainGlobals x=some (some (.ref f)))
  (l:K.lookup f=some ⟨oc,od,.func (PySem.W.fnOf x x (zR st) (jR st) (je st) .none kV doc pm an Kc ct),osl⟩) (c:PySem.W.codeIn K Kc x=true) (k:PySem.W.keepIn K (.ref f)=true):jW K x st:=
 ⟨f,oc,od,an,kV,doc,pm,Kc,ct,osl,a,l,c,k⟩
abbrev ju (x:Str) (st:Stmt) (ps:List Str):Prop:=∀ (kV doc pm:Value) (an:Option Addr) (Kc ct:Value) (us:List Value),us.length=ps.length->bindArgs (PySem.W.fnOf x x (zR st) (jR st) (je st) .none kV doc pm an Kc ct) ⟨us,[]⟩=pure (ps.zip us)
theorem jW.callee {P:Program}{w:World}{K:Fg}{mg:SV}{base h:Heap}{x:Str}{st:Stmt}{ps:List Str}{k n:Nat}{g:LP->OP} (T:jW K x st) (X:K.In h) (G:h.Ns mainGlobals mg)
  (hb:ju x st ps) (F:∀ (f:Addr) (fd:FuncData),Fun K x x st f fd->FnOk P w K mg base CX0 k f fd ps (Pur K n g)):jm P w K mg base x ps k n g:=by
 obtain ⟨f,oc,od,an,kV,doc,pm,Kc,ct,osl,a,l,c,kp⟩:=T
 have F1:=aa1 (st:=st) l c kp
 exact ⟨f,_,F f _ F1,PySem.W.mg_of X G a,kp,F1.binds hb⟩
theorem jm.as {P:Program}{w:World}{K:Fg}{mg:SV}{base:Heap}{x:Str}{ps:List Str}{k n:Nat}{g g':LP->OP} (C:jm P w K mg base x ps k n g) (h:∀ ds d,g' ds=some d->g ds=some d):jm P w K mg base x ps k n g':=by
 obtain ⟨f,fd,F,a,b,c⟩:=C
 exact ⟨f,fd,ar4 F fun ds d _ q=>h ds d q,a,b,c⟩
theorem agB {K:Fg}{mg:SV}{h:Heap}{x:Str}{a:Addr}{ob:Obj}{ds:LP} (X:K.In h) (G:h.Ns mainGlobals mg) (e:PySem.W.nsIn K mainGlobals x=some (some (.ref a))) (l:K.lookup a=some ob)
  (hc:ob.cls= .type "tuple") (hi:∃ (its:Array Value) (n:Nat) (xs:List V),ob.data= .seq its n/\its.size<=sizeLine/\jJ xs its.toList/\∀ H,Reps K H ds xs):∃ v u,mg x=some u/\jV v u/\∀ H,Rep K H (.tuple ds) v:=by
 obtain ⟨its,n,xs,h1,h2,h3,h4⟩:=hi
 exact ⟨.ref a,.ref a,PySem.W.mg_of X G e,rfl,fun H=>⟨a,xs,rfl,.inr ⟨ob,its,n,l,hc,h1,h2,h3⟩,h4 H⟩⟩
end BX
end
section
namespace BX
open PySem PySem.Spec L2
open PyProof.Rows hiding St
def qk (a:Addr) (xs:List V):HO:= .ext fun h=>xs.length<=sizeLine/\∃ (its:List Value) (n:Nat),jJ xs its/\h.get? a=some { cls:= .type "list",data:= .seq its.toArray n }
def aao (P:Program) (w:World) (a:Addr) (ob:Obj) (ks:List (Key × V)):HO:= .ext fun h=>h.get? a=some ob/\ks.length<=sizeLine/\(a == sysModules)=false/\∃ vs,KV ks vs/\h.DictOf (qu P w) a vs
inductive Seal (P:Program) (w:World) (a:Addr):HO->HO->Prop where
 | l (xs:List V):Seal P w a (qk a xs) (.lst xs)
 | d (ob:Obj) (ks:List (Key × V)):Seal P w a (aao P w a ob ks) (.frz ob (.dK ks))
theorem Seal.ext {P:Program}{w:World}{a:Addr}{c o:HO} (S:Seal P w a c o):∃ φ,c= .ext φ:=by cases S <;> exact ⟨_,rfl⟩
section
variable {X:Cx}{Kp:List (Addr × Obj)}{σ:St}{H:Hp}{s:Shared}{a:Addr}{c o:HO}
theorem Inv.opened (I:Inv X Kp σ H s) (S:Seal X.prog X.w a c o) (e:H a=some c):Inv X Kp σ (upd H a o) s:=by
 have q:=I.hok a c e
 have mu:Mut (H a):=by rw [e]; obtain ⟨φ,rfl⟩:=S.ext; trivial
 cases S with
 | l xs=>
  obtain ⟨h1,h2,_⟩:=q
  exact I.write (x:=a) (e:=a) (h':=s.heap) (t':=s.toks) mu (.inl rfl) (fun _ _ _ z=>z) h2 h1
 | d ob ks=>
  obtain ⟨h1,h2,_⟩:=q
  exact I.write (x:=a) (e:=a) (h':=s.heap) (t':=s.toks) mu (.inl rfl) (fun _ _ _ z=>z) h2 ⟨h1.1,h1.2⟩
theorem Inv.redesc {o1 o2:HO} (I:Inv X Kp σ H s) (h1:H a=some o1) (n1:∀ y,o1 ≠ .own y) (n2:∀ xs,o1 ≠ .tup xs) (n3:∀ ps,o1 ≠ .tbl ps) (nf:∀ ob u,X.H₀ a ≠ some (.frz ob u)) (new:qM X.prog X.w (upd H a o2) s.heap a o2):Inv X Kp σ (upd H a o2) s:=by
 have na:∀ b,H b=none->upd H a o2 b=none:=fun b z=>by
  have:b ≠ a:=fun q=>by subst q; rw [h1] at z; cases z
  rw [jq this]; exact z
 refine ⟨I.ok,I.os,I.bare,⟨I.base.keep,I.base.slot,fun b u q n hx=>na b (I.base.free b u q n hx),I.base.there,fun b xs q=>?_,fun b ob u q=>?_,fun b ps q=>?_⟩,I.loc,I.cell,na _ I.free,fun x c' q=>na _ (I.freeC x c' q),fun p hp=>?_,fun b u q=>?_,I.len⟩
 ·have q':=I.base.tups b xs q
  have:b ≠ a:=fun z=>by subst z; rw [h1] at q'; cases q'; exact n2 _ rfl
  rw [jq this]; exact q'
 ·have:b ≠ a:=fun z=>by subst z; exact nf _ _ q
  rw [jq this]; exact I.base.frzs b ob u q
 ·obtain ⟨more,q'⟩:=I.base.tbls b ps q
  have:b ≠ a:=fun z=>by subst z; rw [h1] at q'; cases q'; exact n3 _ rfl
  exact ⟨more,by rw [jq this]; exact q'⟩
 ·obtain ⟨g1,g2,g3⟩:=I.pin p hp
  exact ⟨g1,na _ g2,g3⟩
 ·by_cases hb:b=a
  ·subst hb
   rw [jn] at q; cases q
   exact new
  ·rw [jq hb] at q
   refine (I.hok b u q).stay (fun c' v _ z=>z) (fun c' z=>?_) fun c' xs z=>?_
   ·have:c' ≠ a:=fun m=>by subst m; rw [h1] at z; cases z; exact n1 _ rfl
    rw [jq this]; exact z
   ·have:c' ≠ a:=fun m=>by subst m; rw [h1] at z; cases z; exact n2 _ rfl
    rw [jq this]; exact z
theorem Inv.nofrz {φ:Heap->Prop} (I:Inv X Kp σ H s) (e:H a=some (.ext φ)):∀ ob u,X.H₀ a ≠ some (.frz ob u):=fun ob u z=>by
 have:=I.base.frzs _ _ _ z
 rw [e] at this; cases this
theorem Inv.closed (I:Inv X Kp σ H s) (S:Seal X.prog X.w a c o) (e:H a=some o) (nf:∀ ob u,X.H₀ a ≠ some (.frz ob u)):Inv X Kp σ (upd H a c) s:=by
 have q:=I.hok a o e
 cases S with
 | l xs=>
  obtain ⟨h1,its,n,h2,h3⟩:=q
  refine I.write (x:=a) (e:=a) (h':=s.heap) (t':=s.toks) (by rw [e]; trivial) (.inl rfl) (fun _ _ _ z=>z) ⟨_,h3⟩ ⟨⟨h1,its,n,h2,h3⟩,⟨_,h3⟩,?_⟩
  rintro g1 g2 ⟨z1,its,n,z2,z3⟩ k
  exact ⟨z1,its,n,z2,k _ z3⟩
 | d ob ks=>
  obtain ⟨h0,h1,h2,vs,h3,ob',es,ep,h4,h5⟩:=q
  refine Inv.redesc I e (fun _ z=>nomatch z) (fun _ z=>nomatch z) (fun _ z=>nomatch z) nf ⟨⟨h0,h1,h2,vs,h3,ob',es,ep,h4,h5⟩,⟨_,h4⟩,?_⟩
  rintro g1 g2 ⟨z0,z1,z2,vs,z3,ob',es,ep,z4,z5⟩ k
  exact ⟨k _ z0,z1,z2,vs,z3,ob',es,ep,k _ z4,z5⟩
theorem Inv.sealedD {ks:List (Key × V)} (I:Inv X Kp σ H s) (e:H a=some (.dK ks)):∃ ob,Inv X Kp σ (upd H a (aao X.prog X.w a ob ks)) s:=by
 obtain ⟨h1,h2,vs,h3,ob,es,ep,h4,h5⟩:=I.hok a _ e
 refine ⟨ob,I.write (x:=a) (e:=a) (h':=s.heap) (t':=s.toks) (by rw [e]; trivial) (.inl rfl) (fun _ _ _ z=>z) ⟨_,h4⟩ ⟨⟨h4,h1,h2,vs,h3,ob,es,ep,h4,h5⟩,⟨_,h4⟩,?_⟩⟩
 rintro g1 g2 ⟨z0,z1,z2,vs,z3,ob',es,ep,z4,z5⟩ k
 exact ⟨k _ z0,z1,z2,vs,z3,ob',es,ep,k _ z4,z5⟩
theorem Inv.openD {ob:Obj}{ks:List (Key × V)} (I:Inv X Kp σ H s) (e:H a=some (aao X.prog X.w a ob ks)):Inv X Kp σ (upd H a (.dK ks)) s:=by
 obtain ⟨h1,h2,_⟩:=I.hok a _ e
 exact I.write (x:=a) (e:=a) (h':=s.heap) (t':=s.toks) (by rw [e]; trivial) (.inl rfl) (fun _ _ _ z=>z) h2 h1.2
end
mutual
noncomputable def noD:PyData->Bool
 | .tuple ds=>noDs ds
 | .list ds=>noDs ds
 | .dict _=>false
 | _=>true
noncomputable def noDs:LP->Bool
 | []=>true
 | d::ds=>noD d && noDs ds
end
def agC (H H':Hp):Prop:=∀ b o,H b=some o->(∀ ob ks,o ≠ .frz ob (.dK ks))->H' b=some o
section
variable {K:Fg}{H H':Hp}
theorem agC.tup {a:Addr}{xs:List V} (e:agC H H') (h:SqT K H a xs):SqT K H' a xs:=by
 rcases h with (h | ⟨o,h⟩) | h
 ·exact .inl (.inl (e _ _ h fun _ _ z=>nomatch z))
 ·exact .inl (.inr ⟨o,e _ _ h fun _ _ z=>nomatch z⟩)
 ·exact .inr h
mutual
theorem Rep.monoM (e:agC H H'):∀ (d:PyData) (v:V),noD d=true->Rep K H d v->Rep K H' d v
 | .none,v,_,h=>h
 | .bool _,v,_,h=>h
 | .int _,v,_,h=>h
 | .str _,v,_,h=>h
 | .tuple ds,v,n,⟨a,xs,h1,h2,h3⟩=>⟨a,xs,h1,agC.tup e h2,Reps.monoM e ds xs (by simpa [noD] using n) h3⟩
 | .list ds,v,n,⟨a,xs,h1,h2,h3⟩=>⟨a,xs,h1,e _ _ h2 (fun _ _ z=>nomatch z),Reps.monoM e ds xs (by simpa [noD] using n) h3⟩
 | .dict ds,v,n,h=>by simp [noD] at n
theorem Reps.monoM (e:agC H H'):∀ (ds:LP) (xs:List V),noDs ds=true->Reps K H ds xs->Reps K H' ds xs
 | [],xs,_,h=>h
 | d::ds,xs,n,⟨x,r,h1,h2,h3⟩=>by
  have n':noD d=true/\noDs ds=true:=by simpa [noDs] using n
  exact ⟨x,r,h1,Rep.monoM e d x n'.1 h2,Reps.monoM e ds r n'.2 h3⟩
end
end
def okB (c d:PyData):Bool:=match c with
 | .list _=>noL d
 | .dict _=>noD d
 | _=>false
def aap (P:Program) (w:World) (K:Fg) (H:Hp) (a:Addr):PyData->Prop
 | .list ds=>∃ xs,H a=some (qk a xs)/\Reps K H ds xs
 | .dict kvs=>∃ ks r ob,kvs=(.none,.none)::r/\H a=some (aao P w a ob ks)/\RepM K H r ks
 | _=>False
theorem aap.out {P:Program}{w:World}{K:Fg}{H:Hp}{a:Addr}{d:PyData} (h:aap P w K H a d):∃ c o,Seal P w a c o/\H a=some c/\
  (∀ H',j0 H H'->H' a=some o->Rep K H' d (.ref a))/\(∀ H',j0 H H'->H' a=some c->aap P w K H' a d)/\
  ∀ x H3 v,okB d x=true->H3 a=some o->Rep K H3 x v->Rep K (upd H3 a c) x v:=by
 cases d with
 | list ds=>
  obtain ⟨xs,h1,h2⟩:=h
  exact ⟨_,_,.l xs,h1,fun H' e q=>⟨a,xs,rfl,q,Reps.monoE e _ _ h2⟩,fun H' e q=>⟨xs,q,Reps.monoE e _ _ h2⟩,fun x H3 v n q r=>Rep.monoN (fun b u hb m=>by
   have:b ≠ a:=fun z=>by subst z; rw [q] at hb; cases hb; exact m _ rfl
   rw [jq this]; exact hb) x v n r⟩
 | dict kvs=>
  obtain ⟨ks,r,ob,rfl,h1,h2⟩:=h
  exact ⟨_,_,.d ob ks,h1,fun H' e q=>⟨a,rfl,.inr (.inl ⟨ks,ob,q,show RepM K H' r ks from RepM.monoE e _ _ h2⟩)⟩,fun H' e q=>⟨ks,r,ob,rfl,q,RepM.monoE e _ _ h2⟩,fun x H3 v n q r=>Rep.monoM (fun b u hb m=>by
   have:b ≠ a:=fun z=>by subst z; rw [q] at hb; cases hb; exact m _ _ rfl
   rw [jq this]; exact hb) x v n r⟩
 | none=>exact h.elim
 | bool _=>exact h.elim
 | int _=>exact h.elim
 | str _=>exact h.elim
 | tuple _=>exact h.elim
theorem j0.upd {H:Hp}{a:Addr}{φ:Heap->Prop}{o:HO} (e:H a=some (.ext φ)):j0 H (upd H a o):=fun b u h n=>by
 have:b ≠ a:=fun z=>by subst z; rw [e] at h; cases h; exact n _ rfl
 rw [jq this]; exact h
structure EnvO (P:Program) (w:World) (K:Fg) (Hs H:Hp) (own:Option Nat) (ρ:Rho) (σ:St):Prop where
 len:ρ.length=σ.length
 sm:jr Hs H
 pl:∀ i d,ρ[i]?=some (some d)->own ≠ some i->∃ v,σ[i]?=some (some v)/\Rep K H d v
 ow:∀ i,own=some i->∃ d a,ρ[i]?=some (some d)/\σ[i]?=some (some (.ref a))/\Hs a=none/\aap P w K H a d
def hid (own:Option Nat) (ρ:Rho):Rho:=match own with
 | none=>ρ
 | some i=>ρ.set i none
section
variable {P:Program}{w:World}{K:Fg}{Hs H H':Hp}{own:Option Nat}{ρ:Rho}{σ:St}
theorem EnvO.of (e:EnvR K H ρ σ) (s:jr Hs H):EnvO P w K Hs H none ρ σ:=⟨e.len,s,fun i d h _=>e.at' i d h,fun i z=>nomatch z⟩
theorem EnvO.to (e:EnvO P w K Hs H none ρ σ):EnvR K H ρ σ:=⟨e.len,fun i d h=>e.pl i d h (fun z=>nomatch z)⟩
theorem EnvO.hid (e:EnvO P w K Hs H own ρ σ):EnvR K H (hid own ρ) σ:=by
 cases own with
 | none=>exact e.to
 | some i=>
  refine ⟨by simp [BX.hid,e.len],fun j d h=>?_⟩
  by_cases hj:i=j
  ·subst hj
   simp only [BX.hid] at h
   rw [List.getElem?_set] at h
   simp at h
  ·simp only [BX.hid] at h
   rw [List.getElem?_set_ne hj] at h
   exact e.pl j d h (fun z=>hj (Option.some.inj z))
theorem aap.mono {a:Addr}{d:PyData} (h:aap P w K H a d) (s:jr H H'):aap P w K H' a d:=by
 obtain ⟨c,o,_,h1,_,h2,_⟩:=h.out
 exact h2 H' (jr.e s) (s _ _ h1)
theorem EnvO.mono (e:EnvO P w K Hs H own ρ σ) (s:jr H H'):EnvO P w K Hs H' own ρ σ:=
 ⟨e.len,e.sm.trans s,fun i d h n=>let ⟨v,h1,h2⟩:=e.pl i d h n; ⟨v,h1,Rep.mono s d v h2⟩,fun i n=>let ⟨d,a,h1,h2,h3,h4⟩:=e.ow i n; ⟨d,a,h1,h2,h3,h4.mono s⟩⟩
theorem EnvO.opn {i:Nat} (e:EnvO P w K Hs H (some i) ρ σ):∃ d a c o,ρ[i]?=some (some d)/\σ[i]?=some (some (.ref a))/\Hs a=none/\Seal P w a c o/\H a=some c/\EnvR K (upd H a o) ρ σ/\jr Hs (upd H a o)/\
  (∀ H3,jr (upd H a o) H3->j0 H (upd H3 a c)/\EnvO P w K Hs (upd H3 a c) (some i) ρ σ)/\∀ x H3 v,okB d x=true->H3 a=some o->Rep K H3 x v->Rep K (upd H3 a c) x v:=by
 obtain ⟨d,a,h1,h2,h3,h4⟩:=e.ow i rfl
 obtain ⟨c,o,S,h5,h6,h7,h8⟩:=h4.out
 obtain ⟨φ,rfl⟩:=S.ext
 have s1:j0 H (upd H a o):=j0.upd h5
 have sH:∀ {H2:Hp},(∀ b u,b ≠ a->H b=some u->H2 b=some u)->jr Hs H2:=fun {H2} k b u q=>k b u (fun z=>by subst z; rw [h3] at q; cases q) (e.sm b u q)
 refine ⟨d,a,_,o,h1,h2,h3,S,h5,⟨e.len,fun j x q=>?_⟩,sH fun b u n q=>by rw [jq n]; exact q,fun H3 s3=>⟨fun b u q m=>?_,e.len,sH fun b u n q=>by rw [jq n]; exact s3 b u (by rw [jq n]; exact q),fun j x q n=>?_,fun j n=>?_⟩,h8⟩
 ·by_cases hj:i=j
  ·subst hj
   rw [h1] at q; cases q
   exact ⟨.ref a,h2,h6 _ s1 jn⟩
  ·obtain ⟨v,g1,g2⟩:=e.pl j x q (fun z=>hj (Option.some.inj z))
   exact ⟨v,g1,Rep.monoE s1 _ _ g2⟩
 ·have:b ≠ a:=fun z=>by subst z; rw [h5] at q; cases q; exact m _ rfl
  rw [jq this]
  exact s3 b u (by rw [jq this]; exact q)
 ·have s4:j0 H (upd H3 a (.ext φ)):=fun b u q m=>by
   have:b ≠ a:=fun z=>by subst z; rw [h5] at q; cases q; exact m _ rfl
   rw [jq this]
   exact s3 b u (by rw [jq this]; exact q)
  obtain ⟨v,g1,g2⟩:=e.pl j x q n
  exact ⟨v,g1,Rep.monoE s4 _ _ g2⟩
 ·cases n
  have s4:j0 H (upd H3 a (.ext φ)):=fun b u q m=>by
   have:b ≠ a:=fun z=>by subst z; rw [h5] at q; cases q; exact m _ rfl
   rw [jq this]
   exact s3 b u (by rw [jq this]; exact q)
  exact ⟨d,a,h1,h2,h3,h7 _ s4 jn⟩
end
end BX
end
section
namespace BX
open PySem PySem.Spec L2
open PyProof.Rows hiding St
def brw (own:Option Nat) (f:RP):RP:=fun ρ=>match f (hid own ρ) with
 | some d=>some d
 | none=>match own with
  | none=>none
  | some i=>match f ρ,lkp i ρ with
   | some d,some c=>if okB c d=true then some d else none
   | _,_=>none
theorem aov {own:Option Nat}{f:RP}{ρ:Rho}{d:PyData} (h:brw own f ρ=some d):f (hid own ρ)=some d ∨ ∃ i c,own=some i/\f ρ=some d/\ρ[i]?=some (some c)/\okB c d=true:=by
 unfold brw at h
 cases h1:f (hid own ρ) with
 | some x=>rw [h1] at h; exact .inl h
 | none=>
  rw [h1] at h
  cases own with
  | none=>cases h
  | some i=>
   simp only at h
   cases h2:f ρ with
   | none=>rw [h2] at h; cases h
   | some x=>
    rw [h2] at h
    cases h3:lkp i ρ with
    | none=>rw [h3] at h; cases h
    | some c=>
     rw [h3] at h
     simp only at h
     split at h
     ·rename_i ok
      cases h
      exact .inr ⟨i,c,rfl,rfl,qJ h3,ok⟩
     ·cases h
section
variable {X:Cx}{e a b c tg src:Expr}{es:List Expr}{st:Stmt}{sts j8:List Stmt}{fa fb fc:RP}{F G:RO}{pos:Pos}{own:Option Nat}
def tE (P:Program) (w:World) (K:Fg) (own:Option Nat) (f:RP):TE:=fun σ H Q=>∃ Hs ρ d,EnvO P w K Hs H own ρ σ/\brw own f ρ=some d/\∀ v H',j0 H H'->EnvO P w K Hs H' own ρ σ->Rep K H' d v->Q v H'
theorem ahX (h:PD X e fa):PE X e (tE X.prog X.w X.K own fa):=by
 with_unfolding_all
  intro Kp s σ H Q I ⟨Hs,ρ,d,E,hb,k⟩
  rcases aov hb with h1 | ⟨i,c,ho,h1,h2,ok⟩
  ·exact h Kp s σ H Q I ⟨hid own ρ,d,E.hid,h1,fun v H' s r=>k v H' (jr.e s) (E.mono s) r⟩
  ·subst ho
   obtain ⟨d0,a,cl,o,g1,g2,g3,S,g4,env,sm,back,keep⟩:=E.opn
   rw [h2] at g1; cases g1
   refine thn (h Kp s σ (upd H a o) (fun v H3=>jr (upd H a o) H3/\Rep X.K H3 d v) (Inv.opened I S g4) ⟨ρ,d,env,h1,fun v H3 s3 r3=>⟨s3,r3⟩⟩) fun u s1 ⟨v,H3,I3,r,s3,r3⟩=>?_
   have e3:H3 a=some o:=s3 _ _ jn
   exact ⟨v,upd H3 a cl,Inv.closed I3 S e3 (by obtain ⟨φ,rfl⟩:=S.ext; exact Inv.nofrz I g4),r,k v _ (back H3 s3).1 (back H3 s3).2 (keep d H3 v ok e3 r3)⟩
def tT (P:Program) (w:World) (K:Fg) (own:Option Nat) (f:Rho->Option Bool):TT:=fun σ H Q=>∃ Hs ρ d,EnvO P w K Hs H own ρ σ/\f ρ=some d/\∀ H',j0 H H'->EnvO P w K Hs H' own ρ σ->Q d H'
theorem aqM {tc:Rho->Option Bool} (h:PTD X e tc):PT X e (tT X.prog X.w X.K own tc):=by
 with_unfolding_all
  intro Kp s σ H Q I ⟨Hs,ρ,d,E,h1,k⟩
  cases own with
  | none=>exact h Kp s σ H Q I ⟨ρ,d,E.to,h1,fun H' s=>k H' (jr.e s) (E.mono s)⟩
  | some i=>
   obtain ⟨d0,a,cl,o,g1,g2,g3,S,g4,env,sm,back,keep⟩:=E.opn
   refine thn (h Kp s σ (upd H a o) (fun b H3=>b=d/\jr (upd H a o) H3) (Inv.opened I S g4) ⟨ρ,d,env,h1,fun H3 s3=>⟨rfl,s3⟩⟩) fun b s1 ⟨H3,I3,hb,s3⟩=>?_
   subst hb
   exact ⟨upd H3 a cl,Inv.closed I3 S (s3 _ _ jn) (by obtain ⟨φ,rfl⟩:=S.ext; exact Inv.nofrz I g4),k _ (back H3 s3).1 (back H3 s3).2⟩
def tF (P:Program) (w:World) (K:Fg) (own:Option Nat) (f:RP):TE:=fun σ H Q=>∃ Hs ρ d,EnvO P w K Hs H own ρ σ/\f ρ=some d/\∀ v H',jr Hs H'->Rep K H' d v->Q v H'
theorem aqN (h:PD X e fa):PE X e (tF X.prog X.w X.K own fa):=by
 with_unfolding_all
  intro Kp s σ H Q I ⟨Hs,ρ,d,E,h1,k⟩
  cases own with
  | none=>exact h Kp s σ H Q I ⟨ρ,d,E.to,h1,fun v H' s r=>k v H' (E.sm.trans s) r⟩
  | some i=>
   obtain ⟨d0,a,cl,o,g1,g2,g3,S,g4,env,sm,back,keep⟩:=E.opn
   exact h Kp s σ (upd H a o) Q (Inv.opened I S g4) ⟨ρ,d,env,h1,fun v H3 s3 r3=>k v H3 (sm.trans s3) r3⟩
def asd (P:Program) (w:World) (K:Fg) (Hs:Hp) (own:Option Nat) (D:Ends):Out->Prop
 | .nx ρ=>∀ σ H,EnvO P w K Hs H own ρ σ->D.nx σ H
 | .rt d=>∀ v H,jr Hs H->Rep K H d v->D.rt v H
 | .bk ρ=>∀ σ H,EnvO P w K Hs H own ρ σ->D.bk σ H
 | .ct ρ=>∀ σ H,EnvO P w K Hs H own ρ σ->D.ct σ H
def tOS (P:Program) (w:World) (K:Fg) (own:Option Nat) (F:RO):TS:=fun D σ H=>∃ Hs ρ o,EnvO P w K Hs H own ρ σ/\F ρ=some o/\asd P w K Hs own D o
@[irreducible] def PSO (X:Cx) (own:Option Nat) (st:Stmt) (F:RO):Prop:=PS X st (tOS X.prog X.w X.K own F)
@[irreducible] def adC (X:Cx) (own:Option Nat) (sts:List Stmt) (F:RO):Prop:=PSs X sts (tOS X.prog X.w X.K own F)
theorem acN (h:adC X none sts F):abL X sts F:=by
 with_unfolding_all
  refine PSs.imp h fun D σ H ⟨ρ,o,en,q,k⟩=>⟨H,ρ,o,EnvO.of en (jr.refl H),q,?_⟩
  cases o with
  | nx ρ'=>exact fun σ' H' E=>k σ' H' E.sm E.to
  | rt d=>exact fun v H' s r=>k v H' s r
  | bk ρ'=>exact fun σ' H' E=>k σ' H' E.sm E.to
  | ct ρ'=>exact fun σ' H' E=>k σ' H' E.sm E.to
theorem JE:adC X own [] qz:=by
 with_unfolding_all
  refine PSs.imp aeF fun D σ H ⟨Hs,ρ,o,E,q,k⟩=>?_
  cases q
  exact k σ H E
theorem j7 (h1 : PSO X own st F) (h2 : adC X own j8 G) : adC X own (st :: j8) (jT F G) := by
  with_unfolding_all
   refine PSs.imp (zU h1 h2) fun D σ H ⟨Hs, ρ, o, E, q, k⟩ => ?_
   cases hf : F ρ with
   | none => simp [jT, hf] at q
   | some p =>
     refine ⟨Hs, ρ, p, E, hf, ?_⟩
     cases p with
     | nx ρ' => exact fun σ' H' E' => ⟨Hs, ρ', o, E', by simpa [jT, hf] using q, k⟩
     | rt d => have : Out.rt d = o := by simpa [jT, hf] using q
               subst this; exact k
     | bk d => have : Out.bk d = o := by simpa [jT, hf] using q
               subst this; exact k
     | ct d => have : Out.ct d = o := by simpa [jT, hf] using q
               subst this; exact k
theorem aeY (h:PD X e fa):PSO X own (.Return (some e) pos) (qG fa):=by
 with_unfolding_all
  refine PS.imp (aeH (aqN (own:=own) h)) fun D σ H ⟨Hs,ρ,o,E,q,k⟩=>?_
  cases h1:fa ρ with
  | none=>simp [qG,h1] at q
  | some d=>
   have:Out.rt d=o:=by simpa [qG,h1] using q
   subst this
   exact ⟨Hs,ρ,d,E,h1,k⟩
theorem EnvO.set {P:Program}{w:World}{K:Fg}{Hs H:Hp}{ρ:Rho}{σ:St}{i:Nat}{d:PyData}{v:V} (E:EnvO P w K Hs H own ρ σ) (hi:own ≠ some i) (r:Rep K H d v):EnvO P w K Hs H own (ρ.set i (some d)) (σ.set i (some v)):=by
 refine ⟨by simp [E.len],E.sm,fun j x q n=>?_,fun j n=>?_⟩
 ·by_cases hj:i=j
  ·subst hj
   rw [List.getElem?_set] at q ⊢
   simp only [zzM] at q ⊢
   by_cases hl:i < ρ.length
   ·rw [if_pos hl] at q
    rw [if_pos (by rw [←E.len]; exact hl)]
    cases q
    exact ⟨v,rfl,r⟩
   ·rw [if_neg hl] at q; cases q
  ·rw [List.getElem?_set_ne hj] at q ⊢
   exact E.pl j x q n
 ·have hj:i ≠ j:=fun z=>by subst z; exact hi n
  rw [List.getElem?_set_ne hj,List.getElem?_set_ne hj]
  exact E.ow j n
theorem JK (i:Nat) {x:Str}{pos':Pos} (hN:X.N.Nodup) (he:PD X e fa) (ho:own ≠ some i:=by decide) (hi:X.N[i]?=some x:=by rfl) (hx:Loc X.env.scope x:=by first | exact Or.inl rfl | exact Or.inr rfl) (hs:swapsWith e (some (.Name x pos')) pos.line X.env=pure false:=by rfl)
  (hf:X.fn x=true ∨ X.env.scope.names.lookup x=some .local:=by first | exact .inl rfl | exact .inr rfl | assumption):PSO X own (.Assign [.Name x pos'] e pos) (qS (brw own fa) (jQ i)):=by
 with_unfolding_all
  refine PS.imp (ZX hN hi hx (ahX (own:=own) he) hs hf) fun D σ H ⟨Hs,ρ,o,E,q,k⟩=>?_
  cases h1:brw own fa ρ with
  | none=>simp [qS,h1] at q
  | some d=>
   have:Out.nx (ρ.set i (some d))=o:=by simpa [qS,h1,jQ] using q
   subst this
   exact ⟨Hs,ρ,d,E,h1,fun v H1 _ E1 r1=>k _ H1 (E1.set ho r1)⟩
end
section
variable {X:Cx}{e a b c tg src:Expr}{es:List Expr}{st:Stmt}{sts j8 body:List Stmt}{fa fb fc:RP}{F G:RO}{pos:Pos}{own:Option Nat}
@[irreducible] def PGO (X:Cx) (own:Option Nat) (tg:Expr) (ga:PyData->Rho->Option Rho):Prop:=
 PG X tg fun v σ H Q=>∃ Hs ρ d ρ',EnvO X.prog X.w X.K Hs H own ρ σ/\Rep X.K H d v/\ga d ρ=some ρ'/\∀ σ' H',EnvO X.prog X.w X.K Hs H' own ρ' σ'->Q σ' H'
@[irreducible] def aow (X:Cx) (own:Option Nat) (ts:List Expr) (ga:LP->Rho->Option Rho):Prop:=
 PGs X ts fun vs σ H Q=>∃ Hs ρ ds ρ',EnvO X.prog X.w X.K Hs H own ρ σ/\Reps X.K H ds vs/\ga ds ρ=some ρ'/\∀ σ',EnvO X.prog X.w X.K Hs H own ρ' σ'->Q σ' H
theorem acO:aow X own [] qv:=by
 with_unfolding_all
  refine PGs.imp aiW fun vs σ H Q ⟨Hs,ρ,ds,ρ',E,r,q,k⟩=>?_
  cases ds with
  | nil=>cases r; cases q; exact ⟨rfl,k σ E⟩
  | cons d ds=>cases q
theorem Jv (i:Nat) {x:Str}{gr:LP->Rho->Option Rho} (hN:X.N.Nodup) (h2:aow X own es gr) (ho:own ≠ some i:=by decide) (hi:X.N[i]?=some x:=by rfl) (hx:Loc X.env.scope x:=by first | exact Or.inl rfl | exact Or.inr rfl)
  (hf:X.fn x=true ∨ X.env.scope.names.lookup x=some .local:=by first | exact .inl rfl | exact .inr rfl | assumption)
  (hs:(assignEach (.Name x pos::es) X.env).map (·.2)=assign (.Name x pos) X.env::(assignEach es X.env).map (·.2):=by rfl):aow X own (.Name x pos::es) (jG (jQ i) gr):=by
 with_unfolding_all
  refine PGs.imp (agf (abQ hN hi hx hf) h2 hs) fun vs σ H Q ⟨Hs,ρ,ds,ρ',E,r,q,k⟩=>?_
  cases ds with
  | nil=>cases q
  | cons d ds=>
   obtain ⟨y,rr,e1,r1,r2⟩:=r
   subst e1
   exact ⟨y,rr,rfl,Hs,_,ds,ρ',E.set ho r1,r2,by simpa [jG,jQ] using q,k⟩
theorem aeZ {k n:Nat}{gr:LP->Rho->Option Rho} (hc:X.calm=true) (h:aow X own es gr) (hn:(assignEach es X.env).length=n:=by rfl) (hst:(assignEach es X.env).findIdx? (·.1)=none:=by rfl):
  PGO X own (.Tuple es k pos) (zz n gr):=by
 with_unfolding_all
  refine PG.imp (alw hc h hn hst) fun v σ H Q ⟨Hs,ρ,d,ρ',E,r,q,k⟩=>?_
  cases d with
  | tuple ds=>
   obtain ⟨a,xs,e1,e2,e3⟩:=r
   by_cases hl:ds.length=n
   ·exact ⟨a,xs,e1,e2,by rw [e3.length]; exact hl,Hs,ρ,ds,ρ',E,e3,by simpa [zz,hl] using q,fun σ' E'=>k σ' H E'⟩
   ·simp [zz,hl] at q
  | _=>simp [zz] at q
theorem EnvO.rebase {P:Program}{w:World}{K:Fg}{Hs H:Hp}{ρ:Rho}{σ:St} (E:EnvO P w K Hs H own ρ σ):∃ Hb,EnvO P w K Hb H own ρ σ/\(∀ H3,jr Hb H3->j0 H H3)/\
  (∀ H3 ρ3 σ3,EnvO P w K Hb H3 own ρ3 σ3->EnvO P w K Hs H3 own ρ3 σ3)/\∀ H3,jr Hb H3->jr Hs H3:=by
 cases own with
 | none=>exact ⟨H,⟨E.len,jr.refl H,E.pl,fun i z=>nomatch z⟩,fun _ s=>jr.e s,fun H3 ρ3 σ3 E3=>⟨E3.len,E.sm.trans E3.sm,E3.pl,fun i z=>nomatch z⟩,fun _ s=>E.sm.trans s⟩
 | some i=>
  obtain ⟨d,a,h1,h2,h3,h4⟩:=E.ow i rfl
  obtain ⟨c,o,S,h5,_⟩:=h4.out
  obtain ⟨φ,rfl⟩:=S.ext
  let Hb:Hp:=fun b=>if b=a then none else H b
  have ha:Hb a=none:=if_pos rfl
  have hb:∀ b,b ≠ a->Hb b=H b:=fun b n=>if_neg n
  have sH:∀ H3,jr Hb H3->jr Hs H3:=fun H3 s b u q=>by
   have n:b ≠ a:=fun z=>by subst z; rw [h3] at q; cases q
   exact s b u (by rw [hb b n]; exact E.sm b u q)
  refine ⟨Hb,⟨E.len,fun b u q=>?_,E.pl,fun j n=>?_⟩,fun H3 s b u q m=>?_,fun H3 ρ3 σ3 E3=>⟨E3.len,sH H3 E3.sm,E3.pl,fun j n=>?_⟩,sH⟩
  ·by_cases n:b=a
   ·subst n; rw [ha] at q; cases q
   ·rw [hb b n] at q; exact q
  ·cases n
   exact ⟨d,a,h1,h2,ha,h4⟩
  ·have n:b ≠ a:=fun z=>by subst z; rw [h5] at q; cases q; exact m _ rfl
   exact s b u (by rw [hb b n]; exact q)
  ·obtain ⟨d3,a3,g1,g2,g3,g4⟩:=E3.ow j n
   refine ⟨d3,a3,g1,g2,?_,g4⟩
   by_cases z:a3=a
   ·rw [z]; exact h3
   ·rw [hb a3 z] at g3
    cases q:Hs a3 with
    | none=>rfl
    | some u=>have:=E.sm _ _ q; rw [g3] at this; cases this
theorem ajm {fi:Rho->Option (LP)}{ga:PyData->Rho->Option Rho} (hp:PassesOwn (model X.prog X.w) X.A X.env X.xe) (hc:X.calm=true) (hi:PID X tg src fi) (hg:PGO X own tg ga) (hb:adC X own body F)
  (hs:∀ x,foldedSetIterable src X.env x=pure x:=by intro _; rfl):PSO X own (.For tg src body [] pos) (aa6 (fun ρ=>fi (hid own ρ)) ga F):=by
 with_unfolding_all
  refine PS.imp (ZY hp hc hi hg hb hs) fun D σ H ⟨Hs,ρ,o,E,q,k⟩=>?_
  cases h1:fi (hid own ρ) with
  | none=>simp [aa6,h1] at q
  | some ds=>
   have q':ql ga F ds ρ=some o:=by simpa [aa6,h1] using q
   refine ⟨hid own ρ,ds,E.hid,h1,fun J H1 s1 Y=>?_⟩
   obtain ⟨Hb,Eb,sE,back,sb⟩:=(E.mono s1).rebase
   refine ⟨fun i m σ H2=>m=ds.length - i/\i<=ds.length/\∃ ρ2,EnvO X.prog X.w X.K Hb H2 own ρ2 σ/\ql ga F (ds.drop i) ρ2=some o,⟨ds.length,by simp,Nat.zero_le _,ρ,Eb,by simpa using q'⟩,?_⟩
   rintro i m σ2 H2 ⟨rfl,hi,ρ2,en2,q2⟩
   obtain ⟨g1,g2,g3⟩:=Y i H2 (j0.a (sE H2 en2.sm))
   by_cases hlt:i<ds.length
   ·right
    have hd:ds.drop i=ds[i]::ds.drop (i+1):=List.drop_eq_getElem_cons hlt
    rw [hd] at q2
    refine ⟨g1 hlt,fun σ3 H3=>∃ ρ3,EnvO X.prog X.w X.K Hb H3 own ρ3 σ3/\ql ga F (ds.drop (i+1)) ρ3=some o,fun σ3 H3 ⟨ρ3,a2,a3⟩=>⟨ds.length - (i+1),by omega,rfl,hlt,ρ3,a2,a3⟩,fun x H3 y=>?_⟩
    obtain ⟨s3,r3⟩:=g3 x H3 y
    have r3':=r3 ds[i] (by simp [hlt])
    cases h4:ga ds[i] ρ2 with
    | none=>simp [ql,h4] at q2
    | some ρ4=>
     refine ⟨Hb,ρ2,ds[i],ρ4,en2.mono s3,r3',h4,fun σ5 H5 en5=>?_⟩
     cases h5:F ρ4 with
     | none=>simp [ql,h4,h5] at q2
     | some p=>
      refine ⟨Hb,ρ4,p,en5,h5,?_⟩
      cases p with
      | nx ρ6=>exact fun σ6 H6 en6=>⟨ρ6,en6,by simpa [ql,h4,h5] using q2⟩
      | ct ρ6=>exact fun σ6 H6 en6=>⟨ρ6,en6,by simpa [ql,h4,h5] using q2⟩
      | bk ρ6=>
       have:Out.nx ρ6=o:=by simpa [ql,h4,h5] using q2
       subst this
       exact fun σ6 H6 en6=>k σ6 H6 (back _ _ _ en6)
      | rt d=>
       have:Out.rt d=o:=by simpa [ql,h4,h5] using q2
       subst this
       exact fun v H6 s6 r6=>k v H6 (sb _ s6) r6
   ·left
    have he:i=ds.length:=by omega
    have hn:ds.drop i=[]:=by rw [he]; simp
    rw [hn] at q2
    have:Out.nx ρ2=o:=by simpa [ql] using q2
    subst this
    exact ⟨g2 (by omega),k σ2 H2 (back _ _ _ en2)⟩
def zC (tc:Rho->Option Bool) (F:RO):Nat->RO
 | 0,_=>none
 | n+1,ρ=>(tc ρ).bind fun x=>if x=true then (F ρ).bind fun o=>match o with
   | .nx ρ2=>zC tc F n ρ2
   | .ct ρ2=>zC tc F n ρ2
   | .bk ρ2=>some (.nx ρ2)
   | .rt d=>some (.rt d)
  else some (.nx ρ)
theorem aks (n:Nat) {tc:Rho->Option Bool} (hp:PassesOwn (model X.prog X.w) X.A X.env X.xe) (hc:PTD X c tc) (hb:adC X own body F):PSO X own (.While c body [] pos) (zC tc F n):=by
 with_unfolding_all
  refine PS.imp (aly hp (aqM (own:=own) hc) hb) fun D σ H ⟨Hs,ρ,o,E,q,k⟩=>?_
  refine ⟨fun m σ H=>∃ ρ,EnvO X.prog X.w X.K Hs H own ρ σ/\zC tc F m ρ=some o,⟨n,ρ,E,q⟩,?_⟩
  rintro m σ2 H2 ⟨ρ2,E2,q2⟩
  cases m with
  | zero=>cases q2
  | succ m=>
   cases h1:tc ρ2 with
   | none=>simp [zC,h1] at q2
   | some x=>
    refine ⟨Hs,ρ2,x,E2,h1,fun H3 _ E3=>?_⟩
    cases x with
    | false=>
     rw [if_neg Bool.false_ne_true]
     have:Out.nx ρ2=o:=by simpa [zC,h1] using q2
     subst this
     exact k σ2 H3 E3
    | true=>
     rw [if_pos rfl]
     refine ⟨fun σ4 H4=>∃ ρ4,EnvO X.prog X.w X.K Hs H4 own ρ4 σ4/\zC tc F m ρ4=some o,fun σ4 H4 ⟨ρ4,a1,a2⟩=>⟨m,Nat.lt_succ_self m,ρ4,a1,a2⟩,?_⟩
     cases h5:F ρ2 with
     | none=>simp [zC,h1,h5] at q2
     | some p=>
      refine ⟨Hs,ρ2,p,E3,h5,?_⟩
      cases p with
      | nx ρ6=>exact fun σ6 H6 en6=>⟨ρ6,en6,by simpa [zC,h1,h5] using q2⟩
      | ct ρ6=>exact fun σ6 H6 en6=>⟨ρ6,en6,by simpa [zC,h1,h5] using q2⟩
      | bk ρ6=>
       have:Out.nx ρ6=o:=by simpa [zC,h1,h5] using q2
       subst this
       exact fun σ6 H6 en6=>k σ6 H6 en6
      | rt d=>
       have:Out.rt d=o:=by simpa [zC,h1,h5] using q2
       subst this
       exact fun v H6 s6 r6=>k v H6 s6 r6
end
theorem zd {H:Hp}{a:Addr}{o o':HO}:upd (upd H a o) a o'=upd H a o':=by
 funext b
 by_cases h:b=a
 ·subst h; rw [jn,jn]
 ·rw [jq h,jq h,jq h]
section
variable {P:Program}{w:World}{K:Fg}{Hs H:Hp}{ρ:Rho}{σ:St}{i:Nat}
theorem EnvO.put {a:Addr}{d d':PyData}{φ:Heap->Prop}{H3:Hp}{c:HO} (E:EnvO P w K Hs H (some i) ρ σ) (h0:ρ[i]?=some (some d)) (h2:σ[i]?=some (some (.ref a))) (h3:Hs a=none) (h5:H a=some (.ext φ))
  (s3:∀ b u,b ≠ a->H b=some u->H3 b=some u) (ow:aap P w K (upd H3 a c) a d'):EnvO P w K Hs (upd H3 a c) (some i) (ρ.set i (some d')) σ:=by
 have hi:i < ρ.length:=(List.getElem?_eq_some_iff.mp h0).1
 have s4:j0 H (upd H3 a c):=fun b u q m=>by
  have:b ≠ a:=fun z=>by subst z; rw [h5] at q; cases q; exact m _ rfl
  rw [jq this]; exact s3 b u this q
 refine ⟨by simp [E.len],fun b u q=>?_,fun j x q n=>?_,fun j n=>?_⟩
 ·have:b ≠ a:=fun z=>by subst z; rw [h3] at q; cases q
  rw [jq this]; exact s3 b u this (E.sm b u q)
 ·have hj:i ≠ j:=fun z=>n (by rw [z])
  rw [List.getElem?_set_ne hj] at q
  obtain ⟨v,g1,g2⟩:=E.pl j x q n
  exact ⟨v,g1,Rep.monoE s4 _ _ g2⟩
 ·cases n
  exact ⟨d',a,by rw [List.getElem?_set_self hi],h2,h3,ow⟩
theorem EnvO.opnL {ds:LP} (E:EnvO P w K Hs H (some i) ρ σ) (h:ρ[i]?=some (some (.list ds))):∃ a xs,σ[i]?=some (some (.ref a))/\Hs a=none/\H a=some (qk a xs)/\Reps K H ds xs/\EnvR K (upd H a (.lst xs)) ρ σ:=by
 obtain ⟨d,a,h1,h2,h3,h4⟩:=E.ow i rfl
 rw [h] at h1; cases h1
 obtain ⟨xs,h5,h6⟩:=h4
 have s1:j0 H (upd H a (.lst xs)):=j0.upd h5
 refine ⟨a,xs,h2,h3,h5,h6,E.len,fun j x q=>?_⟩
 by_cases hj:i=j
 ·subst hj
  rw [h] at q; cases q
  exact ⟨.ref a,h2,a,xs,rfl,jn,Reps.monoE s1 _ _ h6⟩
 ·obtain ⟨v,g1,g2⟩:=E.pl j x q (fun z=>hj (Option.some.inj z))
  exact ⟨v,g1,Rep.monoE s1 _ _ g2⟩
end
section
variable {X:Cx}{e a b c tg src:Expr}{es:List Expr}{st:Stmt}{sts j8 body:List Stmt}{fa fb fc:RP}{F G:RO}{pos:Pos}
def aqO (P:Program) (w:World) (K:Fg) (i:Nat) (g:RP):TE:=fun σ H Q=>∃ Hs ρ d',EnvO P w K Hs H (some i) ρ σ/\g ρ=some d'/\∀ H',EnvO P w K Hs H' (some i) (ρ.set i (some d')) σ->Q .non H'
noncomputable def amb (i:Nat) (g:RP):RO:=fun ρ=>(g ρ).map fun d=> .nx (ρ.set i (some d))
theorem ae0 {i:Nat}{g:RP} (h:PE X e (aqO X.prog X.w X.K i g)) (hs:swapsWith e none pos.line X.env=pure false:=by rfl):PSO X (some i) (.Expr e pos) (amb i g):=by
 with_unfolding_all
  refine PS.imp (abP h hs) fun D σ H ⟨Hs,ρ,o,E,q,k⟩=>?_
  cases h1:g ρ with
  | none=>simp [amb,h1] at q
  | some d=>
   have:Out.nx (ρ.set i (some d))=o:=by simpa [amb,h1] using q
   subst this
   exact ⟨Hs,ρ,d,E,h1,fun H' E'=>k σ H' E'⟩
theorem Qy {n:Nat} (h:n<1000000):n<sizeLine:=Nat.lt_of_lt_of_le h (by rw [sizeLine_eq]; decide)
end
section
variable {X:Cx}{e a b c tg src:Expr}{es:List Expr}{st:Stmt}{sts j8 body:List Stmt}{fa fb fc:RP}{F G:RO}{pos:Pos}
@[irreducible] def PN (X:Cx) (e:Expr) (f:RP):Prop:=
 PE X e fun σ H Q=>∃ ρ d,EnvR X.K H ρ σ/\f ρ=some d/\∀ a H',jr H H'->H a=none->aap X.prog X.w X.K H' a d->Q (.ref a) H'
theorem acP {fr:Rho->Option (LP)} (h:PAD X es fr):PN X (.List es pos) (Je fr):=by
 with_unfolding_all
  intro Kp s σ H Q I ⟨ρ,d,en,hf,k⟩
  cases h1:fr ρ with
  | none=>simp [Je,h1] at hf
  | some ds=>
   by_cases hfew:few ds=true
   ·have:PyData.list ds=d:=by simpa [Je,h1,hfew] using hf
    subst this
    refine thn (ahH h Kp s σ H (fun v H2=>∃ a xs H1,v= .ref a/\H1 a=none/\jr H H1/\H2=upd H1 a (.lst xs)/\Reps X.K H1 ds xs) I ⟨ρ,ds,en,h1,fun vs H1 s1 r1=>⟨by rw [r1.length]; exact aa4 (by simpa [few] using hfew),fun l hl=>⟨l,vs,H1,rfl,hl,s1,rfl,r1⟩⟩⟩) fun u s1 ⟨v,H2,I2,r,a,xs,H1,e1,e2,s1',e3,r1⟩=>?_
    subst e1
    have e4:H2 a=some (.lst xs):=by rw [e3]; exact jn
    have e5:upd H2 a (qk a xs)=upd H1 a (qk a xs):=by rw [e3,zd]
    have s2:jr H1 (upd H2 a (qk a xs)):=by rw [e5]; exact jM e2
    exact ⟨.ref a,_,Inv.closed I2 (.l xs) e4 (fun ob u z=>by have:=I.base.frzs _ _ _ z; rw [s1'.free e2] at this; cases this),r,k a _ (s1'.trans s2) (s1'.free e2) ⟨xs,jn,Reps.mono s2 _ _ r1⟩⟩
   ·simp [Je,h1,hfew] at hf
noncomputable def abb (i:Nat) (f:RP) (G:RO):RO:=fun ρ=>(f ρ).bind fun d=>if i < ρ.length then (G (ρ.set i (some d))).bind fun o=>match o with
  | .rt c=>some (.rt c)
  | _=>none
 else none
theorem acQ (i:Nat) {x:Str}{pos':Pos} (hN:X.N.Nodup) (he:PN X e fa) (h:adC X (some i) j8 G) (hi:X.N[i]?=some x:=by rfl) (hx:Loc X.env.scope x:=by first | exact Or.inl rfl | exact Or.inr rfl) (hs:swapsWith e (some (.Name x pos')) pos.line X.env=pure false:=by rfl)
  (hf:X.fn x=true ∨ X.env.scope.names.lookup x=some .local:=by first | exact .inl rfl | exact .inr rfl | assumption):adC X none (.Assign [.Name x pos'] e pos::j8) (abb i fa G):=by
 with_unfolding_all
  refine PSs.imp (zU (ZX hN hi hx he hs hf) h) fun D σ H ⟨Hs,ρ,o,E,q,k⟩=>?_
  cases h1:fa ρ with
  | none=>simp [abb,h1] at q
  | some d=>
   by_cases hl:i < ρ.length
   ·cases h2:G (ρ.set i (some d)) with
    | none=>simp [abb,h1,h2] at q
    | some p=>
     cases p with
     | rt c=>
      have:Out.rt c=o:=by simpa [abb,h1,h2,hl] using q
      subst this
      refine ⟨ρ,d,E.to,h1,fun a H' s hn ow=>⟨Hs,ρ.set i (some d),.rt c,⟨by simp [E.len],E.sm.trans s,fun j y q n=>?_,fun j n=>?_⟩,h2,k⟩⟩
      ·have hj:i ≠ j:=fun z=>n (by rw [z])
       rw [List.getElem?_set_ne hj] at q ⊢
       obtain ⟨v,g1,g2⟩:=E.pl j y q (fun z=>nomatch z)
       exact ⟨v,g1,Rep.mono s _ _ g2⟩
      ·cases n
       refine ⟨d,a,by rw [List.getElem?_set_self hl],by rw [List.getElem?_set_self (by rw [←E.len]; exact hl)],E.sm.free hn,ow⟩
     | nx _=>simp [abb,h1,h2,hl] at q
     | bk _=>simp [abb,h1,h2,hl] at q
     | ct _=>simp [abb,h1,h2,hl] at q
   ·simp [abb,h1,hl] at q
noncomputable def isI (n:Int):PyData->Bool
 | .int m=>decide (m=n)
 | _=>false
noncomputable def isS (t:Str):PyData->Bool
 | .str m=>decide (m=t)
 | _=>false
def aaq (κ:Key) (d:PyData):Bool:=match κ with
 | .inl n=>isI n d
 | .inr t=>isS t d
theorem QZ (κ κ':Key):aaq κ (acD κ')=decide (κ'=κ):=by
 cases κ <;> cases κ' <;> simp [aaq,isI,isS,acD]
def zJ (r:List (PyData × PyData)) (κ:Key):OP:=(r.find? fun p=>aaq κ p.1).map (·.2)
def Q0 (r:List (PyData × PyData)) (κ:Key) (d:PyData):List (PyData × PyData):=if r.any (fun p=>aaq κ p.1)=true then r.map (fun p=>if aaq κ p.1=true then (p.1,d) else p) else r++[(acD κ,d)]
def ato (r:List (PyData × PyData)) (n:Int) (d:PyData):List (PyData × PyData):=if r.any (fun p=>isI n p.1)=true then r.map (fun p=>if isI n p.1=true then (p.1,d) else p) else r++[(.int n,d)]
theorem abc {K:Fg}{H:Hp} (n:Key):∀ {r:List (PyData × PyData)}{ks:List (Key × V)},RepM K H r ks->(zJ r n=none/\Qq ks n=none) ∨ ∃ d x,zJ r n=some d/\Qq ks n=some x/\Rep K H d x
 | [],ks,h=>by cases (show ks=[] from h); exact .inl ⟨rfl,rfl⟩
 | (k,d)::r,ks,⟨i,x,s,h1,h2,h3,h4⟩=>by
  subst h1; subst h2
  by_cases hn:i=n
  ·subst hn
   exact .inr ⟨d,x,by simp [zJ,QZ],by simp [Qq],h3⟩
  ·have e1:zJ ((acD i,d)::r) n=zJ r n:=by simp [zJ,QZ,hn,List.find?_cons]
   have e2:Qq ((i,x)::s) n=Qq s n:=by simp [Qq,List.find?_cons,hn]
   rw [e1,e2]
   exact abc n h4
theorem RepM.anyK {K:Fg}{H:Hp} (n:Key):∀ {r:List (PyData × PyData)}{ks:List (Key × V)},RepM K H r ks->r.any (fun p=>aaq n p.1)=ks.any fun kv=>decide (kv.1=n)
 | [],ks,h=>by cases (show ks=[] from h); rfl
 | (k,d)::r,ks,⟨i,x,s,h1,h2,h3,h4⟩=>by
  subst h1; subst h2
  rw [List.any_cons,List.any_cons,RepM.anyK n h4,QZ]
theorem RepM.any {K:Fg}{H:Hp} (n:Int) {r:List (PyData × PyData)}{ks:List (Key × V)} (h:RepM K H r ks):r.any (fun p=>isI n p.1)=ks.any fun kv=>decide (kv.1=(Sum.inl n:Key)):=RepM.anyK (.inl n) h
theorem RepM.replK {K:Fg}{H:Hp} (n:Key) {d':PyData}{x':V} (hr:Rep K H d' x'):∀ {r:List (PyData × PyData)}{ks:List (Key × V)},RepM K H r ks->
  RepM K H (r.map fun p=>if aaq n p.1=true then (p.1,d') else p) (ks.map fun kv=>if kv.1=n then (kv.1,x') else kv)
 | [],ks,h=>by cases (show ks=[] from h); exact rfl
 | (k,d)::r,ks,⟨i,x,s,h1,h2,h3,h4⟩=>by
  subst h1; subst h2
  by_cases hn:i=n
  ·subst hn
   have c1:aaq i ((acD i,d):PyData × PyData).1=true:=by simp [QZ]
   rw [List.map_cons,List.map_cons,if_pos c1,if_pos rfl]
   exact ⟨i,x',_,rfl,rfl,hr,RepM.replK i hr h4⟩
  ·have c1:¬ aaq n ((acD i,d):PyData × PyData).1=true:=by simp [QZ,hn]
   rw [List.map_cons,List.map_cons,if_neg c1,if_neg hn]
   exact ⟨i,x,_,rfl,rfl,h3,RepM.replK n hr h4⟩
theorem RepM.snocK {K:Fg}{H:Hp} (n:Key) {d':PyData}{x':V} (hr:Rep K H d' x'):∀ {r:List (PyData × PyData)}{ks:List (Key × V)},RepM K H r ks->RepM K H (r++[(acD n,d')]) (ks++[(n,x')])
 | [],ks,h=>by cases (show ks=[] from h); exact ⟨n,x',[],rfl,rfl,hr,rfl⟩
 | (k,d)::r,ks,⟨i,x,s,h1,h2,h3,h4⟩=>by
  subst h2
  exact ⟨i,x,_,h1,rfl,h3,RepM.snocK n hr h4⟩
theorem RepM.putK {K:Fg}{H:Hp} (n:Key) {d':PyData}{x':V} (hr:Rep K H d' x') {r:List (PyData × PyData)}{ks:List (Key × V)} (h:RepM K H r ks):RepM K H (Q0 r n d') (_root_.L2.putK ks n x'):=by
 unfold Q0 _root_.L2.putK
 rw [h.anyK n]
 by_cases c:(ks.any fun kv=>decide (kv.1=n))=true
 ·rw [if_pos c,if_pos c]; exact h.replK n hr
 ·rw [if_neg c,if_neg c]; exact h.snocK n hr
theorem RepM.put {K:Fg}{H:Hp} (n:Int) {d':PyData}{x':V} (hr:Rep K H d' x') {r:List (PyData × PyData)}{ks:List (Key × V)} (h:RepM K H r ks):RepM K H (ato r n d') (_root_.L2.putK ks (Sum.inl n) x'):=RepM.putK (.inl n) hr h
theorem RepM.length {K:Fg}{H:Hp}:∀ {r:List (PyData × PyData)}{ks:List (Key × V)},RepM K H r ks->ks.length=r.length
 | [],ks,h=>by cases (show ks=[] from h); rfl
 | (k,d)::r,ks,⟨i,x,s,h1,h2,h3,h4⟩=>by subst h2; simp [RepM.length h4]
end
noncomputable def Qz:PyData->Option (List (PyData × PyData))
 | .dict ((.none,_)::r)=>some r
 | _=>none
theorem JL {K:Fg}{H:Hp}{d:PyData}{r:List (PyData × PyData)}{v:V} (h:Qz d=some r) (q:Rep K H d v):∃ a ks ob,v= .ref a/\H a=some (.frz ob (.dK ks))/\RepM K H r ks:=by
 unfold Qz at h
 split at h
 ·cases h
  obtain ⟨a,h1,⟨ns,h2,h3⟩ | ⟨ks,ob,h2,h3⟩ | ⟨x,h2,_⟩ | ⟨x,_,_,h2,_⟩ | h2⟩:=q
  ·cases ns with
   | nil=>cases h3
   | cons n ns=>cases h3
  ·exact ⟨a,ks,ob,h1,h2,h3⟩
  ·cases h2
  ·cases h2
  ·cases h2
 ·cases h
section
variable {X:Cx}{e a b c tg src:Expr}{es:List Expr}{fa fb fc:RP}{pos:Pos}
end
section
variable {X:Cx}{e a b c tg src:Expr}{es:List Expr}{fa fb fc:RP}{pos:Pos}
end
end BX
end
section
namespace BX
open PySem PySem.Spec L2
section
open PyProof.Rows hiding St
variable {X:Cx}{e a b c tg src:Expr}{es:List Expr}{fa fb fc:RP}{pos:Pos}{j8:List Expr}
end
end BX
end
section
namespace BX
open PySem PySem.Spec L2
open PyProof.Rows hiding St
section
variable {X:Cx}{e a b c tg src:Expr}{es:List Expr}{fa fb fc:RP}{pos:Pos}{j8:List Expr}
def ae1 (fa fb:RP):RP:=fun ρ=>(fa ρ).bind fun x=>(asB x).bind fun t=>if t=true then fb ρ else some (.bool false)
theorem amc {op:BoolOp} (ha:PD X a fa):PD X (.BoolOp op [a] pos) fa:=by
 with_unfolding_all exact (alq ha)
theorem amd (ha:PD X a fa) (hb:PD X (.BoolOp .And (b::j8) pos) fb):PD X (.BoolOp .And (a::b::j8) pos) (ae1 fa fb):=by
 with_unfolding_all
  refine PE.imp (alr ha hb) fun σ H Q ⟨ρ,d,en,h,k⟩=>?_
  cases h1:fa ρ with
  | none=>simp [ae1,h1] at h
  | some x=>
   cases h2:asB x with
   | none=>simp [ae1,h1,h2] at h
   | some t=>
    have hx:=zX h2
    subst hx
    refine ⟨ρ,_,en,h1,fun v H1 s1 r1=>⟨t,r1,?_⟩⟩
    cases t with
    | true=>rw [if_pos rfl]; exact ⟨ρ,d,en.mono s1,by simpa [ae1,h1,h2] using h,fun v H2 s2 r2=>k v H2 (s1.trans s2) r2⟩
    | false=>
     rw [if_neg Bool.false_ne_true]
     have:PyData.bool false=d:=by simpa [ae1,h1,h2] using h
     subst this
     exact k _ H1 s1 rfl
end
section
variable {X:Cx}{e a b c tg src:Expr}{es:List Expr}{fa fb fc:RP}{pos:Pos}
def aox (c d:OP):OP:=match c,d with
 | some (.list ds),some (.list es)=>if noLs es=true/\ds.length+es.length<1000000 then some (.list (ds++es)) else none
 | _,_=>none
def ase (i:Nat) (fa:RP):RP:=fun ρ=>aox (lkp i ρ) (fa ρ)
theorem ame {c d:OP}{r:PyData} (h:aox c d=some r):∃ ds es,c=some (.list ds)/\d=some (.list es)/\noLs es=true/\ds.length+es.length<1000000/\r= .list (ds++es):=by
 unfold aox at h
 split at h
 ·split at h
  ·rename_i hc
   cases h
   exact ⟨_,_,rfl,rfl,hc.1,hc.2,rfl⟩
  ·cases h
 ·cases h
theorem ad0 (i:Nat) {x:Str}{p1 apos cpos:Pos} (h:PD X e fa) (hN:X.N[i]?=some x:=by rfl) (hv:Vis X.env.scope x:=by first | exact Or.inl rfl | exact Or.inr (Or.inl rfl) | exact Or.inr (Or.inr rfl)) (hd:(x == ("__debug__":Str))=false:=by decide)
  (hcd:(x == ("__classdict__":Str))=false:=by decide) (hbase:attributeBase (.Name x p1) "extend" X.env (eval (.Name x p1) X.env)=eval (.Name x p1) X.env:=by rfl)
  (hfew:((backTo cpos (starEach [e] X.env)).all (fun x=>!x.1) && (backToKw cpos (keywordEach [] X.env)).all (fun x=>x.1.isSome) && decide ([e].length+([]:List Keyword).length+(if ([]:List Keyword).isEmpty then 0 else 1)<30))=true:=by rfl)
  (hline:(apos.endLine == cpos.line)=true:=by rfl) (hs:starEach [e] X.env=(false,eval e X.env)::starEach [] X.env:=by rfl) (hplain:(backTo cpos (starEach [] X.env)).any (·.1)=false:=by rfl):
  PE X (.Call (.Attribute (.Name x p1) "extend" apos) [e] [] cpos) (aqO X.prog X.w X.K i (ase i fa)):=by
 with_unfolding_all
  intro Kp s σ H Q I ⟨Hs,ρ,d',E,hg,k⟩
  obtain ⟨ds,es,q1,q2,hn,hl,rfl⟩:=ame hg
  obtain ⟨a,xs,g2,g3,g4,g5,env⟩:=E.opnL (qJ q1)
  have hlen:=g5.length
  have W:=alI (X:=X) (cpos:=cpos) (apos:=apos) PySem.F.plainAttrs_list PySem.F.slot_list_extend PySem.F.type_list_extend aj9 (JB hN hv hd hcd) (qD h zw hs) hbase hfew hline hs hplain
  refine thn (W Kp s σ (upd H a (.lst xs)) (fun v H4=>∃ H3 zs,v= .non/\H4=upd H3 a (.lst (xs++zs))/\jr (upd H a (.lst xs)) H3/\Reps X.K H3 es zs) (Inv.opened I (.l xs) g4)
   ⟨.ref a,g2,.inl ⟨rfl,_,SqL.of jn⟩,ρ,.list es,env,q2,fun y H3 s3 r3=>?_⟩) fun u s1 ⟨v,H4,I4,r,H3,zs,e1,e2,s3,r3⟩=>?_
  ·obtain ⟨b,zs,z1,z2,z3⟩:=r3
   have hz:=z3.length
   exact ⟨a,b,xs,zs,rfl,by rw [z1],s3 _ _ jn,z2,by rw [hlen,hz]; exact Nat.le_of_lt (Qy hl),H3,zs,rfl,rfl,s3,z3⟩
  subst e1
  have e4:H4 a=some (.lst (xs++zs)):=by rw [e2]; exact jn
  have sb:∀ b u,b ≠ a->H b=some u->H4 b=some u:=fun b u n q=>by rw [e2,jq n]; exact s3 b u (by rw [jq n]; exact q)
  refine ⟨.non,upd H4 a (qk a (xs++zs)),Inv.closed I4 (.l _) e4 (Inv.nofrz I g4),r,k _ (E.put (qJ q1) g2 g3 g4 sb ⟨xs++zs,jn,?_⟩)⟩
  have s5:j0 H (upd H4 a (qk a (xs++zs))):=fun b u q m=>by
   have:b ≠ a:=fun z=>by subst z; rw [g4] at q; cases q; exact m _ rfl
   rw [jq this]; exact sb b u this q
  have s6:zI H3 (upd H4 a (qk a (xs++zs))):=fun b u q m=>by
   have e3:H3 a=some (.lst xs):=s3 _ _ jn
   have:b ≠ a:=fun z=>by subst z; rw [e3] at q; cases q; exact m _ rfl
   rw [jq this,e2,jq this]; exact q
  exact (Reps.monoE s5 _ _ g5).append (Reps.monoN s6 _ _ hn r3)
def asf:V->List V->Hp->VK->Prop:=fun x vs H Q=>∃ l xs y,x= .ref l/\vs=[.int 0,y]/\H l=some (.lst xs)/\xs.length<sizeLine/\Q .non (upd H l (.lst (y::xs)))
theorem ahY:MtM X "list.insert" asf:=by
 intro Kp s σ H x vs v us Q I rx rv h
 obtain ⟨l,xs,y,rfl,rfl,hH,hz,q⟩:=h
 cases rx
 cases rv with
 | cons r0 rv=>
  obtain ⟨t,rfl⟩:=r0
  obtain ⟨u,rfl,ru⟩:=jJ.one rv
  obtain ⟨z,its,n,r,hl,e⟩:=I.lstM hH
  refine call_meets F.slot_list_insert ⟨_,e,rfl⟩ F.entry_list_insert (F.args_list_insert_3 _ _ _) (AutoSeq1.list_insert_list_int_val_1 l its.toArray n 0 t u (by decide) (by rw [List.size_toArray]; omega)) ⟨e,?_⟩
  refine ⟨.non,_,I.lset (its':=u::its) (t':=s.toks) hH e ?_ (.cons ru r) ?_,rfl,q⟩
  ·simp
  ·rw [List.length_cons]; omega
def aoy (c z d:OP):OP:=match c,z,d with
 | some (.list ds),some (.int 0),some d=>if noL d=true/\ds.length<1000000 then some (.list (d::ds)) else none
 | _,_,_=>none
def asg (i:Nat) (fz fa:RP):RP:=fun ρ=>aoy (lkp i ρ) (fz ρ) (fa ρ)
theorem amf {c z d:OP}{r:PyData} (h:aoy c z d=some r):∃ ds x,c=some (.list ds)/\z=some (.int 0)/\d=some x/\noL x=true/\ds.length<1000000/\r= .list (x::ds):=by
 unfold aoy at h
 split at h
 ·split at h
  ·rename_i hc
   cases h
   exact ⟨_,_,rfl,rfl,rfl,hc.1,hc.2,rfl⟩
  ·cases h
 ·cases h
theorem ahZ (i:Nat) {x:Str}{p1 apos cpos:Pos}{fz:RP} (hz:PD X b fz) (h:PD X e fa) (hN:X.N[i]?=some x:=by rfl) (hv:Vis X.env.scope x:=by first | exact Or.inl rfl | exact Or.inr (Or.inl rfl) | exact Or.inr (Or.inr rfl)) (hd:(x == ("__debug__":Str))=false:=by decide)
  (hcd:(x == ("__classdict__":Str))=false:=by decide) (hbase:attributeBase (.Name x p1) "insert" X.env (eval (.Name x p1) X.env)=eval (.Name x p1) X.env:=by rfl)
  (hfew:((backTo cpos (starEach [b,e] X.env)).all (fun x=>!x.1) && (backToKw cpos (keywordEach [] X.env)).all (fun x=>x.1.isSome) && decide ([b,e].length+([]:List Keyword).length+(if ([]:List Keyword).isEmpty then 0 else 1)<30))=true:=by rfl)
  (hline:(apos.endLine == cpos.line)=true:=by rfl) (hs:starEach [b,e] X.env=(false,eval b X.env)::starEach [e] X.env:=by rfl) (hs2:starEach [e] X.env=(false,eval e X.env)::starEach [] X.env:=by rfl) (hplain:(backTo cpos (starEach [e] X.env)).any (·.1)=false:=by rfl):
  PE X (.Call (.Attribute (.Name x p1) "insert" apos) [b,e] [] cpos) (aqO X.prog X.w X.K i (asg i fz fa)):=by
 with_unfolding_all
  intro Kp s σ H Q I ⟨Hs,ρ,d',E,hg,k⟩
  obtain ⟨ds,d,q1,q0,q2,hn,hl,rfl⟩:=amf hg
  obtain ⟨a,xs,g2,g3,g4,g5,env⟩:=E.opnL (qJ q1)
  have hlen:=g5.length
  have W:=alI (X:=X) (cpos:=cpos) (apos:=apos) PySem.F.plainAttrs_list PySem.F.slot_list_insert PySem.F.type_list_insert ahY (JB hN hv hd hcd) (qD hz (qD h zw hs2) hs) hbase hfew hline hs hplain
  refine thn (W Kp s σ (upd H a (.lst xs)) (fun v H4=>∃ H3 y,v= .non/\H4=upd H3 a (.lst (y::xs))/\jr (upd H a (.lst xs)) H3/\Rep X.K H3 d y) (Inv.opened I (.l xs) g4)
   ⟨.ref a,g2,.inl ⟨rfl,_,SqL.of jn⟩,ρ,.int 0,env,q0,fun y0 H2 s2 r2=>⟨ρ,d,env.mono s2,q2,fun y H3 s3 r3=>?_⟩⟩) fun u s1 ⟨v,H4,I4,r,H3,y,e1,e2,s3,r3⟩=>?_
  ·cases (show y0=V.int 0 from r2)
   exact ⟨a,xs,y,rfl,rfl,s3 _ _ (s2 _ _ jn),by rw [hlen]; exact Qy hl,H3,y,rfl,rfl,s2.trans s3,r3⟩
  subst e1
  have e4:H4 a=some (.lst (y::xs)):=by rw [e2]; exact jn
  have sb:∀ b u,b ≠ a->H b=some u->H4 b=some u:=fun b u n q=>by rw [e2,jq n]; exact s3 b u (by rw [jq n]; exact q)
  refine ⟨.non,upd H4 a (qk a (y::xs)),Inv.closed I4 (.l _) e4 (Inv.nofrz I g4),r,k _ (E.put (qJ q1) g2 g3 g4 sb ⟨y::xs,jn,?_⟩)⟩
  have s5:j0 H (upd H4 a (qk a (y::xs))):=fun b u q m=>by
   have:b ≠ a:=fun z=>by subst z; rw [g4] at q; cases q; exact m _ rfl
   rw [jq this]; exact sb b u this q
  have s6:zI H3 (upd H4 a (qk a (y::xs))):=fun b u q m=>by
   have e3:H3 a=some (.lst xs):=s3 _ _ jn
   have:b ≠ a:=fun z=>by subst z; rw [e3] at q; cases q; exact m _ rfl
   rw [jq this,e2,jq this]; exact q
  exact ⟨y,xs,rfl,Rep.monoN s6 _ _ hn r3,Reps.monoE s5 _ _ g5⟩
end
section
variable {X:Cx}{e a b c tg src:Expr}{es:List Expr}{fa fb fc:RP}{pos:Pos}
def ash:V->V->V->Hp->(Hp->Prop)->Prop:=fun o k v H Q=>∃ a xs n j,o= .ref a/\k= .int n/\H a=some (qk a xs)/\ixN xs.length n=some j/\Q (upd H a (qk a (xs.set j v)))
theorem amg:anW X ash:=by
 intro Kp s σ H o k v ov iv u Q I ro rk rv ⟨a,xs,n,j,e1,e2,h1,h2,q⟩
 subst e1; subst e2
 refine thn (alG Kp s σ (upd H a (.lst xs)) (.ref a) (.int n) v ov iv u (fun H'=>H'=upd (upd H a (.lst xs)) a (.lst (xs.set j v))) (Inv.opened I (.l xs) h1) ro rk rv ⟨a,xs,n,j,rfl,rfl,jn,h2,rfl⟩) fun _ s1 ⟨H',I',e⟩=>?_
 subst e
 have I2:=Inv.closed I' (.l (xs.set j v)) jn (Inv.nofrz I h1)
 rw [zd,zd] at I2
 exact ⟨_,I2,q⟩
def amh (c v k:OP):OP:=match c,v,k with
 | some (.list ds),some d,some (.int n)=>(ixN ds.length n).map fun j=> .list (ds.set j d)
 | _,_,_=>none
theorem ami {c v k:OP}{o:PyData} (h:amh c v k=some o):∃ ds d n j,c=some (.list ds)/\v=some d/\k=some (.int n)/\ixN ds.length n=some j/\o= .list (ds.set j d):=by
 unfold amh at h
 split at h
 ·rename_i ds d n
  cases q:ixN ds.length n with
  | none=>rw [q] at h; cases h
  | some j=>rw [q] at h; cases h; exact ⟨_,_,_,_,rfl,rfl,rfl,q,rfl⟩
 ·cases h
theorem Reps.set {K:Fg}{H:Hp}{d:PyData}{v:V} (r:Rep K H d v):∀ {ds:LP}{xs:List V} (j:Nat),Reps K H ds xs->Reps K H (ds.set j d) (xs.set j v)
 | [],xs,j,h=>by cases (show xs=[] from h); exact rfl
 | _::ds,xs,0,⟨x,q,h1,h2,h3⟩=>by subst h1; exact ⟨v,q,rfl,r,h3⟩
 | _::ds,xs,j+1,⟨x,q,h1,h2,h3⟩=>by subst h1; exact ⟨x,_,rfl,h2,Reps.set r j h3⟩
def aoz (i:Nat) (fk fv:RP):RO:=fun ρ=>(amh (lkp i ρ) (brw (some i) fv ρ) (brw (some i) fk ρ)).map fun d=> .nx (ρ.set i (some d))
theorem amj (i:Nat) {x:Str}{p1 p2:Pos}{fk fv:RP} (hk:PD X b fk) (he:PD X e fv) (hN:X.N[i]?=some x:=by rfl) (hv:Vis X.env.scope x:=by first | exact Or.inl rfl | exact Or.inr (Or.inl rfl) | exact Or.inr (Or.inr rfl))
  (hd:(x == ("__debug__":Str))=false:=by decide) (hcd:(x == ("__classdict__":Str))=false:=by decide)
  (ha:∀ v,assign (.Subscript (.Name x p1) b p2) X.env v=(do
   let ov ←holding [v] (eval (.Name x p1) X.env)
   let iv ←holding [v,ov] (eval b X.env)
   standAt p2
   holding [v,ov,iv] (setItem ov iv v)
   release [v,ov,iv] []):=by intro _; rfl)
  (hs:swapsWithSole [.Subscript (.Name x p1) b p2] e pos.line X.env=pure false:=by rfl) (hw:swappedStores [.Subscript (.Name x p1) b p2] e X.env=pure none:=by rfl)
  (h1:(assignEach [.Subscript (.Name x p1) b p2] X.env).map (·.2)=[assign (.Subscript (.Name x p1) b p2) X.env]:=by rfl):PSO X (some i) (.Assign [.Subscript (.Name x p1) b p2] e pos) (aoz i fk fv):=by
 with_unfolding_all
  refine PS.imp (ahw (ahX (own:=some i) he) (alx (JB hN hv hd hcd) (ahX (own:=some i) hk) amg ha) hs hw h1) fun D σ H ⟨Hs,ρ,o,E,q,k⟩=>?_
  cases hp:amh (lkp i ρ) (brw (some i) fv ρ) (brw (some i) fk ρ) with
  | none=>simp [aoz,hp] at q
  | some nw=>
   have:Out.nx (ρ.set i (some nw))=o:=by simpa [aoz,hp] using q
   subst this
   obtain ⟨ds,d,n,j,q1,q2,q3,hl,rfl⟩:=ami hp
   refine ⟨Hs,ρ,d,E,q2,fun v H1 s1 E1 r1=>?_⟩
   obtain ⟨d0,a,g1,g2,g3,g4⟩:=E1.ow i rfl
   rw [qJ q1] at g1; cases g1
   refine ⟨.ref a,g2,Hs,ρ,.int n,E1,q3,fun kv H2 s2 E2 r2=>?_⟩
   cases (show kv=V.int n from r2)
   obtain ⟨d1,a1,f1,f2,f3,f4⟩:=E2.ow i rfl
   rw [qJ q1] at f1; cases f1
   rw [g2] at f2; cases f2
   obtain ⟨xs,e2,e3⟩:=f4
   refine ⟨a,xs,n,j,rfl,rfl,e2,by rw [e3.length]; exact hl,k _ _ (E2.put (qJ q1) g2 f3 e2 (fun _ _ _ z=>z) ⟨_,jn,?_⟩)⟩
   have s5:j0 H2 (upd H2 a (qk a (xs.set j v))):=j0.upd e2
   exact Reps.set (Rep.monoE (s2.trans s5) _ _ r1) j (Reps.monoE s5 _ _ e3)
noncomputable def abU (ds:LP):OP:=match ds with
 | [.list xs]=>some (.list xs)
 | [.tuple xs]=>some (.list xs)
 | _=>none
noncomputable def ae2 (ds:LP):OP:=match ds with
 | [.list xs]=>some (.tuple xs)
 | [.tuple xs]=>some (.tuple xs)
 | _=>none
theorem agD:QV X (.type "tuple") ae2:=by
 refine ⟨_,adw,fun ds d xs H Q h r k=>?_⟩
 unfold ae2 at h
 split at h
 ·cases h
  obtain ⟨x,q,e1,e2,e3⟩:=r
  cases (show q=[] from e3)
  obtain ⟨a,us,g1,g2,g3⟩:=e2
  subst g1
  refine ⟨a,us,e1,.inl ⟨SqL.of g2,fun l hl=>?_⟩⟩
  have s1:=jM (o:= .tup us) hl
  exact k _ _ s1 ⟨l,us,rfl,SqT.of jn,Reps.mono s1 _ _ g3⟩
 ·cases h
  obtain ⟨x,q,e1,e2,e3⟩:=r
  cases (show q=[] from e3)
  obtain ⟨a,us,g1,g2,g3⟩:=e2
  subst g1
  exact ⟨a,us,e1,.inr ⟨g2,k _ H (jr.refl H) ⟨a,us,rfl,g2,g3⟩⟩⟩
 ·cases h
theorem akt {p:Pos}{fr:Rho->Option (LP)} (hm:X.mg "list"=none) (hv:bootBuiltins "list"=some (.type "list")) (ha:PAD X [e] fr) (hg:Gl X "list":=by rfl)
  (he:starEach [e] X.env=(false,eval e X.env)::starEach [] X.env:=by rfl) (hpl:(backTo pos (starEach [] X.env)).any (·.1)=false:=by rfl):PN X (.Call (.Name "list" p) [e] [] pos) (jN abU fr):=by
 with_unfolding_all
  intro Kp s σ H Q I ⟨ρ,d,en,hf,k⟩
  cases h1:fr ρ with
  | none=>simp [jN,h1] at hf
  | some as=>
   have q':abU as=some d:=by simpa [jN,h1] using hf
   have W:=aa0 (X:=X) (pos:=pos) (p:=p) aaf hg hm hv ha (by decide) (by decide) he hpl
   refine thn (W Kp s σ H (fun v H2=>∃ a ys H1 ds,v= .ref a/\H1 a=none/\jr H H1/\H2=upd H1 a (.lst ys)/\d= .list ds/\Reps X.K H1 ds ys) I ⟨ρ,as,en,h1,fun vs H1 s1 r1=>?_⟩) fun u s1 ⟨v,H2,I2,r,a,ys,H1,ds,e1,e2,s1',e3,e0,r1⟩=>?_
   ·unfold abU at q'
    split at q'
    ·cases q'
     obtain ⟨x,q,z1,z2,z3⟩:=r1
     cases (show q=[] from z3)
     obtain ⟨a,us,g1,g2,g3⟩:=z2
     subst g1
     exact ⟨a,us,z1,.inl (SqL.of g2),fun l hl=>⟨l,us,H1,_,rfl,hl,s1,rfl,rfl,g3⟩⟩
    ·cases q'
     obtain ⟨x,q,z1,z2,z3⟩:=r1
     cases (show q=[] from z3)
     obtain ⟨a,us,g1,g2,g3⟩:=z2
     subst g1
     exact ⟨a,us,z1,.inr g2,fun l hl=>⟨l,us,H1,_,rfl,hl,s1,rfl,rfl,g3⟩⟩
    ·cases q'
   ·subst e1; subst e0
    have e4:H2 a=some (.lst ys):=by rw [e3]; exact jn
    have e5:upd H2 a (qk a ys)=upd H1 a (qk a ys):=by rw [e3,zd]
    have s2:jr H1 (upd H2 a (qk a ys)):=by rw [e5]; exact jM e2
    exact ⟨.ref a,_,Inv.closed I2 (.l ys) e4 (fun ob u z=>by have:=I.base.frzs _ _ _ z; rw [s1'.free e2] at this; cases this),r,k a _ (s1'.trans s2) (s1'.free e2) ⟨ys,jn,Reps.mono s2 _ _ r1⟩⟩
end
section
variable {X:Cx}{e a b c:Expr}{fa fb fc:RP}{pos p2:Pos}
def ae3 (ds:LP) (lo hi:Option Int):LP:=(ds.drop (HT.sIx ds.length 0 lo)).take (HT.sIx ds.length ds.length hi - HT.sIx ds.length 0 lo)
noncomputable def inI:PyData->Option Int
 | .int i=>some i
 | _=>none
theorem agE {d:PyData}{i:Int} (h:inI d=some i):d= .int i:=by cases d <;> simp [inI] at h; rw [h]
end
section
variable {prog:Program}{w:World}{A:Around}{E:Value->SP0}{s:Shared}
def ItA (g:Bool) (h:Heap) (i t:Addr) (k:Nat):Prop:=match g with
 | true=>h.IsListIter i t k
 | false=>h.IsTupleIter i t k
def SrA (g:Bool) (h:Heap) (t:Addr) (xs:Array Value):Prop:=match g with
 | true=>h.IsList t xs
 | false=>h.IsTuple t xs
theorem ItA.to {g:Bool}{h h':Heap}{i t:Addr}{k:Nat} (x:ItA g h i t k) (kp:∀ o,h.get? i=some o->h'.get? i=some o):ItA g h' i t k:=by
 cases g <;> exact (let ⟨o,e,r⟩:=x; ⟨o,kp o e,r⟩)
theorem SrA.to {g:Bool}{h h':Heap}{t:Addr}{xs:Array Value} (x:SrA g h t xs) (kp:∀ o,h.get? t=some o->h'.get? t=some o):SrA g h' t xs:=by
 cases g <;> exact (let ⟨o,e,r⟩:=x; ⟨o,kp o e,r⟩)
theorem ItA.extBut {g:Bool}{h h':Heap}{i t b:Addr}{k:Nat} (x:ItA g h i t k) (e:Heap.ExtBut b h h') (n:i ≠ b):ItA g h' i t k:=x.to fun o q=>e i o n q
theorem SrA.extBut {g:Bool}{h h':Heap}{t b:Addr}{xs:Array Value} (x:SrA g h t xs) (e:Heap.ExtBut b h h') (n:t ≠ b):SrA g h' t xs:=x.to fun o q=>e t o n q
theorem ItA.obj {g:Bool}{h:Heap}{i t:Addr}{k:Nat} (x:ItA g h i t k):∃ o vs,h.get? i=some o/\o.data= .fields vs:=by
 cases g <;> exact (let ⟨o,e,_,d⟩:=x; ⟨o,_,e,d⟩)
structure Apart2 (z TI TO i1 i2 t1 t2:Addr):Prop where
 nd:[z,TO,i1,i2].Nodup
 ti:TI ∉ [z,TO,i1,i2]
 s1:t1 ∉ [z,TO,i1,i2]
 s2:t2 ∉ [z,TO,i1,i2]
structure Zip2 (ga gb:Bool) (h:Heap) (z TI TO i1 i2 t1 t2:Addr) (f0:Value) (k:Nat):Prop where
 hz:IsZip h z TI TO f0
 hTI:IsPair h TI (.ref i1) (.ref i2)
 hTO:∃ a b,IsPair h TO a b
 g1:ItA ga h i1 t1 k
 g2:ItA gb h i2 t2 k
theorem Zip2.keep {ga gb:Bool}{h h':Heap}{z TI TO i1 i2 t1 t2:Addr}{f0:Value}{k:Nat} (S:Zip2 ga gb h z TI TO i1 i2 t1 t2 f0 k) (kp:∀ b ∈ [z,TI,TO,i1,i2],∀ o,h.get? b=some o->h'.get? b=some o):
  Zip2 ga gb h' z TI TO i1 i2 t1 t2 f0 k:=by
 obtain ⟨hz,hTI,⟨a,b,hTO⟩,g1,g2⟩:=S
 exact ⟨kp z (by simp) _ hz,kp TI (by simp) _ hTI,⟨a,b,kp TO (by simp) _ hTO⟩,g1.to (kp i1 (by simp)),g2.to (kp i2 (by simp))⟩
end
def Sq (g:Bool) (K:Fg) (H:Hp) (t:Addr) (xs:List V):Prop:=match g with
 | true=>SqL K H t xs
 | false=>SqT K H t xs
theorem Sq.inj {g:Bool}{X:Cx}{Kp:List (Addr × Obj)}{σ:St}{H:Hp}{s:Shared}{a:Addr}{xs ys:List V} (I:Inv X Kp σ H s) (q:Sq g X.K H a xs) (q':Sq g X.K H a ys):xs=ys:=by
 cases g with
 | true=>exact I.list_inj q q'
 | false=>exact I.tuple_inj q q'
theorem Sq.monoE {g:Bool}{K:Fg}{H H':Hp}{a:Addr}{xs:List V} (e:j0 H H') (h:Sq g K H a xs):Sq g K H' a xs:=by
 cases g with
 | true=>exact j0.sql e h
 | false=>exact j0.tup e h
theorem Sq.monoA {g:Bool}{K:Fg}{H H':Hp}{a:Addr}{xs:List V} (e:jy H H') (h:Sq g K H a xs):Sq g K H' a xs:=by
 cases g with
 | true=>exact jy.sql e h
 | false=>exact jy.tup e h
theorem Sq.at {g:Bool}{K:Fg}{H:Hp}{a:Addr}{xs:List V} (h:Sq g K H a xs):(∃ u,H a=some u) ∨ ∃ o,K.lookup a=some o:=by
 cases g with
 | true=>rcases h with (e | ⟨o,e⟩) | ⟨o,its,n,hk,_⟩ <;> first | exact .inl ⟨_,e⟩ | exact .inr ⟨_,hk⟩
 | false=>rcases h with (e | ⟨o,e⟩) | ⟨o,its,n,hk,_⟩ <;> first | exact .inl ⟨_,e⟩ | exact .inr ⟨_,hk⟩
section
variable {X:Cx}
end
section
variable {X:Cx}{e a b c:Expr}{fa fb fc:RP}{pos p2:Pos}
noncomputable def apO (p q:PyData):OP:=match p,q with
 | .list ds,.int k=>if ds.length<1000/\-1000<k/\k<1000 then some (.list (List.replicate k.toNat ds).flatten) else none
 | _,_=>none
theorem amk:OpD X (binaryOp .Mult) apO:=by
 refine ⟨_,alK,fun p q d x y H Q h rx ry k=>?_⟩
 unfold apO at h
 split at h
 ·rename_i ds n
  split at h
  ·rename_i hc
   cases h
   obtain ⟨l,us,e1,e2,e3⟩:=rx
   cases (show y=V.int n from ry)
   have hl:=e3.length
   refine ⟨l,n,us,e1,rfl,e2,by omega,by omega,?_,fun p hp=>?_⟩
   ·rw [sizeLine_eq]
    have h1:us.length*n.toNat<=1000*1000:=Nat.mul_le_mul (by omega) (by omega)
    exact Nat.le_trans h1 (by decide)
   ·have s1:=jM (o:= .lst (List.replicate n.toNat us).flatten) hp
    exact k _ _ s1 ⟨p,_,rfl,jn,Reps.mono s1 _ _ (e3.rep _)⟩
  ·cases h
 ·cases h
theorem Zj:∀ {is:List Int}{us:List Value},jJ (is.map V.int) us->∀ (j:Nat) (i:Int),is[j]?=some i->∃ t,us[j]?=some (.int i t)
 | [],us,r,j,i,h=>by simp at h
 | i0::is,u::us,.cons r rr,j,i,h=>by
  cases j with
  | zero=>cases h; obtain ⟨t,rfl⟩:=r; exact ⟨t,rfl⟩
  | succ j=>exact Zj rr j i (by simpa using h)
end
structure OneCell (sc:Scope) (y0:Str) (pre post:List (Str × NameKind)):Prop where
 split:sc.names=pre++(y0,.cell)::post
 pre:∀ x ∈ pre,x.2 ≠ .cell
 post:∀ x ∈ post,x.2 ≠ .cell
structure CompOk1 (X:Cx) (sc:Scope) (N':List Str) (cap:List (Option Nat)) (y0:Str):Prop where
 fr:∀ x ∈ sc.names,x.2= .free->X.env.kindOf x.1=some .cell ∨ X.env.kindOf x.1=some .free
 one:∃ pre post,OneCell sc y0 pre post
 lk:sc.names.lookup y0=some .cell
 kind:sc.kind= .function
 nm:∀ x ∈ sc.names,x.2= .local->sc.names.lookup x.1=some .local
 len:cap.length=N'.length
 cp:∀ (j i:Nat) (x:Str),N'[j]?=some x->cap[j]?=some (some i)->X.N[i]?=some x/\sc.names.lookup x=some .free
section
variable {X:Cx}{e:Expr}{fa:RP}
end
section
variable {X:Cx}{tg src:Expr}{pos pos':Pos}
end
structure Mine (X:Cx) (H:Hp) (b:Addr):Prop where
 un:H b=none
 new:X.s₀.heap.get? b=none
 loc:b ≠ X.env.locals
 cel:∀ x c,X.env.cells.lookup x=some c->c ≠ b
 pin:∀ p ∈ X.pn,p.1 ≠ b
structure Xc (X:Cx) (H:Hp) (h:Heap) (e C:Addr):Prop where
 mine:Mine X H e
 ob:∃ oe vs,h.get? e=some oe/\(oe.cls= .ref C/\oe.dict=none)/\oe.data= .fields vs/\1<vs.size/\
  (vs[1]?=some .none ∨ ∃ T oT ts,vs[1]?=some (.ref T)/\T ≠ e/\Mine X H T/\h.get? T=some oT/\oT.data= .fields ts/\3<ts.size)
theorem Inv.exIn {X:Cx}{Kp:List (Addr × Obj)}{σ:St}{H:Hp}{s:Shared}{ch:List Addr} (I:Inv X Kp σ H s) (hn:∀ b ∈ ch,X.s₀.heap.get? b=none/\b ≠ X.env.locals/\∀ x c,X.env.cells.lookup x=some c->c ≠ b):Inv { X with ex:=ch++X.ex } Kp σ H s:=by
 have no:∀ b,b ∉ ch++X.ex->b ∉ X.ex:=fun b h z=>h (List.mem_append_right _ z)
 refine ⟨⟨I.ok.mod,I.ok.kind,I.ok.glob,I.ok.blt,I.ok.above,I.ok.inj,I.ok.has,I.ok.cab,I.ok.hd,I.ok.frames,I.ok.stk,fun b hb=>?_,I.ok.bs,I.ok.bsz,fun b o e hb=>?_,fun b hb z=>?_,I.ok.funs,I.ok.frf⟩,I.os,I.bare,
  ⟨fun b o e n hf hx=>I.base.keep b o e n hf (no b hx),fun b o e n hf hx=>I.base.slot b o e n hf (no b hx),fun b o e n hx=>I.base.free b o e n (no b hx),fun b o e hx=>I.base.there b o e (no b hx),I.base.tups,I.base.frzs,I.base.tbls⟩,I.loc,I.cell,I.free,I.freeC,I.pin,I.hok,I.len⟩
 ·rcases List.mem_append.mp hb with q | q
  ·exact (hn b q).2
  ·exact I.ok.exf b q
 ·rcases List.mem_append.mp hb with q | q
  ·have:=(I.ok.bs b o e).1
   rw [(hn b q).1] at this; cases this
  ·exact I.ok.noex b o e q
 ·rcases List.mem_append.mp hb with q | q
  ·obtain ⟨_,o,ho,_⟩:=I.ok.funs.mem z
   rw [(hn b q).1] at ho; cases ho
  ·exact I.ok.exfs b q z
theorem Inv.exOut {X:Cx}{Kp:List (Addr × Obj)}{σ:St}{H:Hp}{s:Shared}{ch:List Addr} (I:Inv { X with ex:=ch++X.ex } Kp σ H s) (ok:X.Ok) (hn:∀ b ∈ ch,X.s₀.heap.get? b=none):Inv X Kp σ H s:=by
 have no:∀ b o,X.s₀.heap.get? b=some o->b ∉ X.ex->b ∉ ch++X.ex:=fun b o e h z=>by
  rcases List.mem_append.mp z with q | q
  ·rw [hn b q] at e; cases e
  ·exact h q
 exact ⟨ok,I.os,I.bare,⟨fun b o e n hf hx=>I.base.keep b o e n hf (no b o e hx),fun b o e n hf hx=>I.base.slot b o e n hf (no b o e hx),fun b o e n hx=>I.base.free b o e n (no b o e hx),fun b o e hx=>I.base.there b o e (no b o e hx),I.base.tups,I.base.frzs,I.base.tbls⟩,I.loc,I.cell,I.free,I.freeC,I.pin,I.hok,I.len⟩
section
variable {X:Cx}{σ:St}{H:Hp}{s:Shared}{h':Heap}{e C:Addr}{E:Value->SP0}{A:Around}
theorem Inv.shake {ch:List Addr} (I:Inv X [] σ H s) (hm:∀ b ∈ ch,Mine X H b) (keep:∀ b o,b ∉ frs X.stack->b ∉ ch->s.heap.get? b=some o->h'.get? b=some o)
  (slot:∀ b o,b ∈ frs X.stack->b ∉ ch->s.heap.get? b=some o->∃ sl,h'.get? b=some { o with slots:=sl }):Inv X [] σ H { s with heap:=h' }:=by
 have u:Un (frs X.stack) ch H H s.heap h':=⟨fun b o q _ nf nc=>keep b o nf nc q,fun b o q _ hf nc=>slot b o hf nc q,fun _ _ _ n _=>n,fun b o q nc=>by
  by_cases hf:b ∈ frs X.stack
  ·obtain ⟨sl,z⟩:=slot b o hf nc q; exact ⟨_,z⟩
  ·exact ⟨o,keep b o hf nc q⟩,fun _ _ q=>q,fun _ _ _ q=>q,fun _ ps q=>⟨#[],by rw [q]; simp⟩⟩
 have hok:HOk X.prog X.w H h':=fun b o q=>(I.hok b o q).stay (fun c v hc r=>by
  have hb:H c ≠ none:=by
   rcases hc with rfl | hc
   ·rw [q]; exact fun z=>nomatch z
   ·rw [hc]; exact fun z=>nomatch z
  exact keep c v (fun z=>hb (I.stkFree c z)) (fun z=>hb (hm c z).un) r) (fun _ r=>r) fun _ _ r=>r
 exact Inv.exOut (Inv.call (X:={ X with ex:=ch++X.ex }) (g':=s.gens) (d':=s.drawn) (t':=s.toks) (Inv.exIn I fun b hb=>⟨(hm b hb).new,(hm b hb).loc,(hm b hb).cel⟩) u hok I.bare fun b hb=>⟨.inl (List.mem_append_left _ hb),(hm b hb).loc,(hm b hb).cel,fun p hp=>(hm b hb).pin p (by simpa using hp)⟩) I.ok fun b hb=>(hm b hb).new
structure XcT (X:Cx) (H:Hp) (h:Heap) (e C:Addr):Prop where
 mine:Mine X H e
 ob:∃ oe vs T oT ts,h.get? e=some oe/\(oe.cls= .ref C/\oe.dict=none)/\oe.data= .fields vs/\vs[1]?=some (.ref T)/\T ≠ e/\Mine X H T/\h.get? T=some oT/\oT.data= .fields ts/\3<ts.size
theorem XcT.c {h:Heap} (x:XcT X H h e C):Xc X H h e C:=by
 obtain ⟨oe,vs,T,oT,ts,h1,h2,h3,h4,h5,h6,h7,h8,h9⟩:=x.ob
 exact ⟨x.mine,oe,vs,h1,h2,h3,(Array.getElem?_eq_some_iff.mp h4).1,.inr ⟨T,oT,ts,h4,h5,h6,h7,h8,h9⟩⟩
structure Top0 (X:Cx):Prop where
 st:X.stack=X.env::X.Ko
 fr:X.env.frame=some X.env.locals
 ex:X.ex=[]
theorem Mine.nofr {b:Addr} (m:Mine X H b) (I:Inv X [] σ H s):b ∉ frs X.stack:=fun z=>by
 rcases List.mem_cons.mp (I.stkSub b z) with q | q
 ·exact m.loc q
 ·obtain ⟨_,o,ho,_⟩:=I.ok.funs.mem q
  rw [m.new] at ho; cases ho
theorem aoA {P:Program}{w:World}{h:Heap}{b:Addr}{u:HO} (hok:HOk P w H h) (hH:H b=some u) (hb:h.get? b=none):False:=by
 have x:=hok b u hH
 have no:∀ {o:Obj},h.get? b=some o->False:=fun {o} q=>by rw [hb] at q; cases q
 cases u with
 | lst xs=>obtain ⟨_,_,_,_,e⟩:=x; exact no e
 | tup xs=>obtain ⟨_,_,_,⟨_,e,_⟩⟩:=x; exact no e
 | dK kvs=>obtain ⟨_,_,_,_,o,_,_,e,_⟩:=x; exact no e
 | dT kvs=>obtain ⟨_,_,_,_,o,_,_,e,_⟩:=x; exact no e
 | set S n=>obtain ⟨o,_,_,_,e,_⟩:=x; exact no e
 | ins C dx fs=>obtain ⟨_,_,_,e,_⟩:=x; exact no e
 | own y=>obtain ⟨_,e⟩:=x; exact no e
 | xd fs=>obtain ⟨_,⟨_,_,_,e,_⟩,_⟩:=x; exact no e
 | rng lo hi=>obtain ⟨_,_,_,e⟩:=x; exact no e
 | frz ob u=>obtain ⟨e,_⟩:=x; exact no e
 | tbl ps=>exact no (show h.get? b=some _ from x)
 | met f y=>exact no (show h.get? b=some _ from x)
 | ext φ=>obtain ⟨_,⟨_,e⟩,_⟩:=x; exact no e
theorem aar (hx:X.ex=[]) (I:Inv X [] σ H s) {b:Addr} (hb:s.heap.get? b=none):Mine X H b:=by
 have no:∀ {o:Obj},s.heap.get? b=some o->False:=fun {o} q=>by rw [hb] at q; cases q
 refine ⟨?_,?_,fun z=>?_,fun x c q z=>?_,fun p hp z=>?_⟩
 ·cases hH:H b with
  | none=>rfl
  | some u=>exact (aoA I.hok hH hb).elim
 ·cases h0:X.s₀.heap.get? b with
  | none=>rfl
  | some o=>
   obtain ⟨o',q⟩:=I.base.there b o h0 (by rw [hx]; simp)
   exact (no q).elim
 ·subst z
  obtain ⟨m,⟨o,_,_,ho,_⟩,_⟩:=I.loc
  exact no ho
 ·obtain ⟨v,o,ho,_⟩:=I.cell x c q
  subst z
  exact no ho
 ·have:=(I.pin p (List.mem_append_left _ hp)).1
  rw [z] at this
  exact no this
theorem agF {oe:Obj}{vs:Array Value}{head:Value}{hadNext:Bool} (T0:Top0 X) (hA:A.frames=some X.stack) (I:Inv X [] σ H s) (me:Mine X H e) (he:s.heap.get? e=some oe) (hc:oe.cls= .ref C/\oe.dict=none) (hd:oe.data= .fields vs) (hsz:1<vs.size):
  wpAny (model X.prog X.w) A (do let a ←frameOf X.env; let pl ←entryPlaceOf X.env.locals hadNext; let b ←EntryCells.newEntry head a .none (rawInt X.env.locals) .none pl; setField (.ref e) 1 b) (fun _ s'=>Inv X [] σ H s'/\XcT X H s'.heap e C) E s:=by
 have hst:=T0.st
 have hfn:=I.stack
 rw [hst] at hfn hA
 have hene:e ∉ (X.env::X.Ko).filterMap (·.frame):=by
  have:=me.nofr I
  rw [hst] at this; exact this
 refine wpAny_bind (wpAny_frameOf_fun hA hfn T0.fr fun h₁ hs₁=>?_)
 refine wpAny_bind (wpAny_entryPlaceOf fun pl hpl=>?_)
 unfold EntryCells.newEntry newFields
 refine wpAny_bind (wpAny_newObj_type ?_ (hpl.sizeOk5 _ _ _ _ _))
 have he₁:h₁.get? e=some oe:=(hs₁.2.1 e hene).trans he
 generalize hob:({ cls:= .type "traceback",dict:=none,data:= .fields ([head,Value.ref X.env.locals,.none,rawInt X.env.locals,.none]++(if pl.isEmpty then List.replicate 6 Value.none else pl)).toArray }:Obj)=ob
 have obd:ob.data= .fields ([head,Value.ref X.env.locals,.none,rawInt X.env.locals,.none]++(if pl.isEmpty then List.replicate 6 Value.none else pl)).toArray:=by rw [←hob]
 have obf:ob.isFreed=false:=by rw [←hob]; rfl
 have he₂:(h₁.push ob).get? e=some oe:=Heap.get?_push_of_some ob he₁
 refine wpAny_setField he₂ hd hsz ?_
 have hTe:h₁.objs.size ≠ e:=Nat.ne_of_gt (Heap.lt_size he₁)
 have hd₃:=Obj.data_mapFields hd (·.setIfInBounds 1 (Value.ref h₁.objs.size))
 have he₃:=Heap.get?_update_self (Obj.mapFields (·.setIfInBounds 1 (Value.ref h₁.objs.size))) he₂ (Obj.isFreed_of_fields hd₃)
 have hT₃:((h₁.push ob).update e (Obj.mapFields (·.setIfInBounds 1 (Value.ref h₁.objs.size)))).get? h₁.objs.size=some ob:=(Heap.get?_update_other _ _ (Ne.symm hTe)).trans (Heap.get?_push_size h₁ obf)
 have keep:∀ b o,b ≠ e->h₁.get? b=some o->((h₁.push ob).update e (Obj.mapFields (·.setIfInBounds 1 (Value.ref h₁.objs.size)))).get? b=some o:=fun b o hb q=>by
  rw [Heap.get?_update_other _ _ (Ne.symm hb)]
  exact Heap.get?_push_of_some _ q
 have hfr:frs X.stack=(X.env::X.Ko).filterMap (·.frame):=by rw [hst]; rfl
 have sz:h₁.objs.size=s.heap.objs.size:=hs₁.1
 have J:Inv X [] σ H { s with heap:=(h₁.push ob).update e (Obj.mapFields (·.setIfInBounds 1 (Value.ref h₁.objs.size))) }:=by
  refine Inv.shake (s:=s) (ch:=[e]) I (fun b hb=>by rw [List.mem_singleton.mp hb]; exact me) (fun b o nf nc q=>keep b o (fun z=>nc (by simp [z])) ((hs₁.2.1 b (by rw [←hfr]; exact nf)).trans q)) (fun b o _ nc q=>?_)
  obtain ⟨sl,z⟩:=hs₁.2.2 b o q
  exact ⟨sl,keep b _ (fun w=>nc (by simp [w])) z⟩
 refine ⟨J,me,_,_,h₁.objs.size,ob,_,he₃,?_,hd₃,by simp [hsz],hTe,?_,hT₃,obd,?_⟩
 ·rw [Obj.cls_mapFields]; exact ⟨hc.1,by unfold Obj.mapFields; split <;> exact hc.2⟩
 ·exact aar T0.ex I (Heap.get?_none_of_le (by rw [sz]; exact Nat.le_refl _))
 ·simp only [List.size_toArray,List.length_append,List.length_cons,List.length_nil]; omega
theorem abV (T0:Top0 X) (hA:A.frames=some X.stack) (I:Inv X [] σ H s) (x:Xc X H s.heap e C):wpAny (model X.prog X.w) A (noteFrame (.ref e) X.env) (fun _ s'=>Inv X [] σ H s'/\XcT X H s'.heap e C) E s:=by
 obtain ⟨oe,vs,he,hc,hd,hsz,hT⟩:=x.ob
 unfold noteFrame
 simp only [T0.fr]
 rcases hT with h1 | ⟨T,oT,ts,h1,hTe,mT,hT,hdT,h3⟩
 ·refine wpAny_bind (wpAny_field he hd h1 ?_)
  rw [if_neg (by decide)]
  exact agF T0 hA I x.mine he hc hd hsz
 ·refine wpAny_bind (wpAny_field he hd h1 ?_)
  rw [if_pos (show (Value.ref T != Value.none)=true from by simp)]
  refine wpAny_bind (wpAny_field hT hdT (x:=ts[3]) (by simp [h3]) ?_)
  by_cases hq:(ts[3] == rawInt X.env.locals)=true
  ·rw [if_pos hq]
   exact wpAny_pure ⟨I,x.mine,oe,vs,T,oT,ts,he,hc,hd,h1,hTe,mT,hT,hdT,h3⟩
  ·rw [if_neg hq]
   refine wpAny_bind (wpAny_setField hT hdT h3 ?_)
   have other:∀ b,b ≠ T->(s.heap.update T (Obj.mapFields (·.setIfInBounds 3 Value.none))).get? b=s.heap.get? b:=fun b hb=>Heap.get?_update_other _ _ (Ne.symm hb)
   have J:Inv X [] σ H { s with heap:=s.heap.update T (Obj.mapFields (·.setIfInBounds 3 Value.none)) }:=
    Inv.shake (s:=s) (ch:=[T]) I (fun b hb=>by rw [List.mem_singleton.mp hb]; exact mT) (fun b o _ nc q=>(other b fun z=>nc (by simp [z])).trans q) fun b o _ nc q=>⟨o.slots,(other b fun z=>nc (by simp [z])).trans q⟩
   exact agF (s:={ s with heap:=s.heap.update T (Obj.mapFields (·.setIfInBounds 3 Value.none)) }) T0 hA J x.mine ((other e (Ne.symm hTe)).trans he) hc hd hsz
theorem Jw (fl:Option Addr) (I:Inv X [] σ H s) (x:XcT X H s.heap e C):wpAny (model X.prog X.w) A (setFlight (.ref e) fl) (fun _ s'=>Inv X [] σ H s'/\XcT X H s'.heap e C) E s:=by
 obtain ⟨oe,vs,T,oT,ts,he,hc,hd,h1,hTe,mT,hT,hdT,h3⟩:=x.ob
 unfold setFlight
 refine wpAny_bind (wpAny_field he hd h1 ?_)
 rw [if_pos (show (Value.ref T != Value.none)=true from by simp)]
 refine wpAny_setField hT hdT h3 ?_
 have other:∀ b,b ≠ T->(s.heap.update T (Obj.mapFields (·.setIfInBounds 3 (fl.elim Value.none fun f=>rawInt f)))).get? b=s.heap.get? b:=fun b hb=>Heap.get?_update_other _ _ (Ne.symm hb)
 have J:Inv X [] σ H { s with heap:=s.heap.update T (Obj.mapFields (·.setIfInBounds 3 (fl.elim Value.none fun f=>rawInt f))) }:=
  Inv.shake (s:=s) (ch:=[T]) I (fun b hb=>by rw [List.mem_singleton.mp hb]; exact mT) (fun b o _ nc q=>(other b fun z=>nc (by simp [z])).trans q) fun b o _ nc q=>⟨o.slots,(other b fun z=>nc (by simp [z])).trans q⟩
 exact ⟨J,x.mine,oe,vs,T,_,_,(other e (Ne.symm hTe)).trans he,hc,hd,h1,hTe,mT,Heap.get?_update_self _ hT (Obj.isFreed_of_fields (Obj.data_mapFields hdT _)),Obj.data_mapFields hdT _,by simpa using h3⟩
theorem aqP {P:Value->SP0} (T0:Top0 X) (hA:A.frames=some X.stack) (hP:∀ e s,P e s->∃ a C σ H,e= .ref a/\Inv X [] σ H s/\Xc X H s.heap a C/\∀ s',Inv X [] σ H s'->XcT X H s'.heap a C->P e s'):PassesOwn (model X.prog X.w) A X.env P:=fun ev s' h=>by
 obtain ⟨a,C,σ,H,rfl,I,x,back⟩:=hP ev s' h
 refine wpAny_mono (abV (E:=fun _ _=>False) T0 hA I x) (fun _ s2 ⟨I2,x2⟩=>?_) fun _ _ z=>z.elim
 obtain ⟨oe,vs,T,oT,ts,he,hc,hd,h1,r⟩:=id x2.ob
 unfold cameBackBy
 refine wpAny_bind (wpAny_field he hd h1 ?_)
 rw [if_neg (by simp)]
 first
  | exact wpAny_mono (Jw (E:=fun _ _=>False) _ I2 x2) (fun _ s3 ⟨I3,x3⟩=>back s3 I3 x3) fun _ _ z=>z.elim
  | exact wpAny_bind (wpAny_pure (wpAny_mono (Jw (E:=fun _ _=>False) _ I2 x2) (fun _ s3 ⟨I3,x3⟩=>back s3 I3 x3) fun _ _ z=>z.elim))
end
structure XcO (h0:Heap) (H:Hp) (h:Heap) (e C:Addr):Prop where
 un:H e=none
 new:h0.get? e=none
 ob:∃ oe vs T oT ts,h.get? e=some oe/\(oe.cls= .ref C/\oe.dict=none)/\oe.data= .fields vs/\vs[1]?=some (.ref T)/\T ≠ e/\H T=none/\h0.get? T=none/\h.get? T=some oT/\oT.data= .fields ts/\3<ts.size
def CXt (P:Program) (w:World):CXT:=fun Ko H s E ev s'=>∃ e C H',ev= .ref e/\s'.os=s.os/\AllBare s'.gens/\Un (frs Ko) [] H H' s.heap s'.heap/\HOk P w H' s'.heap/\XcO s.heap H' s'.heap e C/\E (.ref C) none H'
section
variable {X:Cx}
theorem Xc.of (hx:X.ex=[]) {Kp:List (Addr × Obj)}{σ:St}{H H':Hp}{s s':Shared}{e0 C:Addr} (I:Inv X Kp σ H s) (x:XcO s.heap H' s'.heap e0 C):Xc X H' s'.heap e0 C:=by
 have J:Inv X [] σ H s:=I.pins_of fun p hp=>nomatch hp
 obtain ⟨oe,ws,T,oT,ts,h1,h2,h3,h4,h5,h6,h7,h8,h9,h10⟩:=x.ob
 have m1:=aar hx J x.new
 have m2:=aar hx J h7
 exact ⟨⟨x.un,m1.new,m1.loc,m1.cel,m1.pin⟩,oe,ws,h1,h2,h3,(Array.getElem?_eq_some_iff.mp h4).1,.inr ⟨T,oT,ts,h4,h5,⟨h6,m2.new,m2.loc,m2.cel,m2.pin⟩,h8,h9,h10⟩⟩
end
def Thr (X:Cx) (H:Hp) (c:Str) (ev:Value) (s':Shared):Prop:=∃ e C σ' H',ev= .ref e/\X.mg c=some (.ref C)/\Inv X [] σ' H' s'/\jr H H'/\Xc X H' s'.heap e C
theorem Thr.mono {X:Cx}{H H1:Hp}{c:Str}{ev:Value}{s':Shared} (s:jr H H1) (h:Thr X H1 c ev s'):Thr X H c ev s':=by
 obtain ⟨e,C,σ',H',h1,h2,h3,h4,h5⟩:=h
 exact ⟨e,C,σ',H',h1,h2,h3,s.trans h4,h5⟩
@[irreducible] def PDX (X:Cx) (e:Expr) (fx:Rho->Option Str):Prop:=∀ (s:Shared) (σ:St) (H:Hp) (ρ:Rho) (c:Str),Inv X [] σ H s->EnvR X.K H ρ σ->fx ρ=some c->(∀ ev s',Thr X H c ev s'->X.xe ev s')->wpAny (model X.prog X.w) X.A (eval e X.env) (fun _ _=>False) X.xe s
@[irreducible] def PSX (X:Cx) (st:Stmt) (fx:Rho->Option Str):Prop:=∀ (s:Shared) (σ:St) (H:Hp) (ρ:Rho) (c:Str),Inv X [] σ H s->EnvR X.K H ρ σ->fx ρ=some c->(∀ ev s',Thr X H c ev s'->X.xe ev s')->wpAny (model X.prog X.w) X.A (exec st X.env) (fun _ _=>False) X.xe s
@[irreducible] def abN (X:Cx) (sts:List Stmt) (fx:Rho->Option Str):Prop:=∀ (s:Shared) (σ:St) (H:Hp) (ρ:Rho) (c:Str),Inv X [] σ H s->EnvR X.K H ρ σ->fx ρ=some c->(∀ ev s',Thr X H c ev s'->X.xe ev s')->wpAny (model X.prog X.w) X.A (execs sts X.env) (fun _ _=>False) X.xe s
noncomputable def vB:List Value:=[.type "ValueError",.type "Exception",.type "BaseException",.type "object"]
def Z5 (K:Fg) (mg:SV) (x:Str):Prop:=∃ C,mg x=some (.ref C)/\PySem.W.excIn K C vB "ValueError.__new__"=true
theorem ajn {K:Fg}{h:Heap}{C:Addr} (X:K.In h) (q:PySem.W.excIn K C vB "ValueError.__new__"=true):
  ∃ bm N nm qn bs hdct sn sub ab col dd k0 k1 k2 k3 k5 mN,h.get? C=some (excClassObj nm qn C N bs bm hdct sn sub ab col dd k0 k1 k2 k3 k5 "ValueError.__new__")/\h.Ns N mN/\mN "__init__"=none/\OwnTail h vB bm:=by
 unfold PySem.W.excIn at q
 split at q
 ·rename_i dd cd sl ho
  split at q
  ·rename_i C' bm k0 k1 k2 k3 n k5 hm hs
   simp only [Bool.and_eq_true,beq_iff_eq,Bool.not_eq_true'] at q
   obtain ⟨⟨⟨⟨⟨rfl,rfl⟩,hdel⟩,ht⟩,hok⟩,hni⟩:=q
   obtain ⟨nm,bs,mro,ns,qn,hd,sn,sub,ab,col,del⟩:=cd
   dsimp only at hm hdel hok hni
   subst hm hdel
   have hsl:sl=#[k0,k1,k2,k3,some (.builtin "ValueError.__new__"),k5]:=by
    obtain ⟨l⟩:=sl
    simp only at hs
    rw [hs]
   subst hsl
   exact ⟨bm,ns,nm,qn,bs,hd,sn,sub,ab,col,dd,k0,k1,k2,k3,k5,_,X _ _ ho,.of_isNs (PySem.W.isNs_of_in X hok),PySem.W.nsMap_none_of_in X hok hni,PySem.W.tail_of_in X ht⟩
  ·cases q
 ·cases q
section
variable {X:Cx}{e a b c:Expr}{es:List Expr}{st:Stmt}{sts j8:List Stmt}{fx gx:Rho->Option Str}{F:RO}{pos:Pos}
theorem jA (h:PSX X st fx):abN X (st::j8) fx:=by
 with_unfolding_all
  intro s σ H ρ c I en q k
  exact wpAny_execs_cons (wpAny_mono (h s σ H ρ c I en q k) (fun _ _ z=>z.elim) fun _ _ z=>z)
def nxX (F:RO) (gx:Rho->Option Str):Rho->Option Str:=fun ρ=>(F ρ).bind fun o=>match o with
 | .nx ρ'=>gx ρ'
 | _=>none
theorem qm (h1:PSD X st F) (h2:abN X j8 gx):abN X (st::j8) (nxX F gx):=by
 with_unfolding_all
  intro s σ H ρ c I en q k
  cases hF:F ρ with
  | none=>simp [nxX,hF] at q
  | some o=>
   cases o with
   | nx ρ'=>
    have q':gx ρ'=some c:=by simpa [nxX,hF] using q
    refine wpAny_execs_cons (wpAny_mono (h1 [] s σ H { nx:=fun σ' H'=>jr H H'/\EnvR X.K H' ρ' σ',rt:=fun _ _=>False,bk:=fun _ _=>False,ct:=fun _ _=>False } I ⟨ρ,.nx ρ',en,hF,fun σ' H' s1 e1=>⟨s1,e1⟩⟩) (fun f s1 z=>?_) fun _ _ z=>z)
    cases f with
    | next=>
     obtain ⟨σ',H',I',sm,e1⟩:=z
     exact wpAny_mono (h2 s1 σ' H' ρ' c I' e1 q' fun ev s' t=>k ev s' (t.mono sm)) (fun _ _ z=>z.elim) fun _ _ z=>z
    | brk=>obtain ⟨_,_,_,z⟩:=z; exact z.elim
    | cont=>obtain ⟨_,_,_,z⟩:=z; exact z.elim
    | ret u=>obtain ⟨_,_,_,_,_,z⟩:=z; exact z.elim
   | _=>simp [nxX,hF] at q
def ifX (tc:Rho->Option Bool) (fx gx:Rho->Option Str):Rho->Option Str:=fun ρ=>(tc ρ).bind fun x=>if x=true then fx ρ else gx ρ
def ah0:Rho->Option Str:=fun _=>none
theorem zg:abN X sts ah0:=by
 with_unfolding_all
  intro s σ H ρ c I en q k
  cases q
theorem Q1 {l r:List Stmt}{tc:Rho->Option Bool} (hc:PTD X a tc) (hl:abN X l fx) (hr:abN X r gx):PSX X (.If a l r pos) (ifX tc fx gx):=by
 with_unfolding_all
  intro s σ H ρ c I en q k
  cases ht:tc ρ with
  | none=>simp [ifX,ht] at q
  | some x=>
   refine wpAny_If (wpAny_mono (hc [] s σ H (fun b H'=>b=x/\jr H H') I ⟨ρ,x,en,ht,fun H' s1=>⟨rfl,s1⟩⟩) (fun d s1 z=>?_) fun _ _ z=>z)
   obtain ⟨H1,I1,rfl,s1'⟩:=z
   cases d with
   | true=>exact hl s1 σ H1 ρ c I1 (en.mono s1') (by simpa [ifX,ht] using q) fun ev s' t=>k ev s' (t.mono s1')
   | false=>exact hr s1 σ H1 ρ c I1 (en.mono s1') (by simpa [ifX,ht] using q) fun ev s' t=>k ev s' (t.mono s1')
theorem aas (h:PDX X e fx):PSX X (.Return (some e) pos) fx:=by
 with_unfolding_all
  intro s σ H ρ c I en q k
  exact wpAny_Return_some (wpAny_mono (h s σ H ρ c I en q k) (fun _ _ z=>z.elim) fun _ _ z=>z)
theorem zh (h:PDX X e fx) (hs:swapsWith e none pos.line X.env=pure false:=by rfl):PSX X (.Expr e pos) fx:=by
 with_unfolding_all
  intro s σ H ρ c I en q k
  exact wpAny_Expr_any (wpAny_mono (h s σ H ρ c I en q k) (fun _ _ z=>z.elim) fun _ _ z=>z) I.quiet hs
theorem aoB {x:Str}{pos':Pos} (h:PDX X e fx) (hs:swapsWith e (some (.Name x pos')) pos.line X.env=pure false:=by rfl):PSX X (.Assign [.Name x pos'] e pos) fx:=by
 with_unfolding_all
  intro s σ H ρ c I en q k
  exact wpAny_Assign_Name (wpAny_mono (h s σ H ρ c I en q k) (fun _ _ z=>z.elim) fun _ _ z=>z) hs
end
def ah1 (K:Fg) (mg:SV) (n:Nat) (gx:LP->Option Str):Sp:=fun vs H _ E=>∃ ds c,ds.length=n/\Reps K H ds vs/\gx ds=some c/\∀ C H',mg c=some (.ref C)->jr H H'->E (.ref C) none H'
def qL (P:Program) (w:World) (K:Fg) (mg:SV) (base:Heap) (x:Str) (ps:List Str) (k n:Nat) (gx:LP->Option Str):Prop:=
 ∃ (f:Addr) (fd:FuncData),FnOk P w K mg base (CXt P w) k f fd ps (ah1 K mg n gx)/\mg x=some (.ref f)/\PySem.W.keepIn K (.ref f)=true/\Jl K fd ps []
section
variable {X:Cx}{e a b c:Expr}{es:List Expr}{st:Stmt}{sts j8:List Stmt}{fx gx:Rho->Option Str}{F:RO}{pos:Pos}
theorem qi {k j n:Nat}{ps:List Str}{g:LP->Option Str}{x:Str}{p:Pos}{fr:Rho->Option (LP)} (hxe:X.ex=[]) (C:qL X.prog X.w X.K X.mg X.base x ps k n g) (hr:Room j X.A) (hkj:k<=j) (ha:PAD X (e::es) fr) (hl:∀ ρ ds,fr ρ=some ds->ds.length=n)
  (hg:Gl X x:=by rfl) (hdb:(x == ("__debug__":Str))=false:=by decide) (he:starEach (e::es) X.env=(false,eval e X.env)::starEach es X.env:=by rfl)
  (hpl:(backTo pos (starEach es X.env)).any (·.1)=false:=by rfl):PDX X (.Call (.Name x p) (e::es) [] pos) (fun ρ=>(fr ρ).bind g):=by
 with_unfolding_all
  intro s σ H ρ c I en q k'
  obtain ⟨f,fd,F,hm,hk,hb⟩:=C
  cases hd:fr ρ with
  | none=>simp [hd] at q
  | some ds=>
   have q':g ds=some c:=by simpa [hd] using q
   refine wpAny_Call_Name_kw (Qm I hg hm ?_ hdb)
   refine PySem.W.callWith_K (h₀:=X.base) I.ok.mod.kin hk (thn (ha pos [] s σ H (fun vs H1=>jr H H1/\Reps X.K H1 ds vs) I ⟨ρ,ds,en,hd,fun vs H1 s1 r1=>⟨s1,r1⟩⟩) fun us s1 ⟨vs,H1,I1,r,sm,rd⟩=>⟨I1.kIn,?_⟩) he hpl
   have hsp:ah1 X.K X.mg n g vs H1 (fun _ _=>False) (fun cls _ H'=>X.mg c=some cls/\jr H1 H')->vs.length=ps.length:=fun z=>F.len _ _ _ _ z
   by_cases hn:ds.length=n
   ·have sp:ah1 X.K X.mg n g vs H1 (fun _ _=>False) (fun cls _ H'=>X.mg c=some cls/\jr H1 H'):=⟨ds,c,hn,rd,q',fun C H' hC s2=>⟨hC,s2⟩⟩
    have hlu:(us++[]).length=ps.length:=by rw [List.append_nil,←r.length]; exact hsp sp
    have hbd:=hb s1 us I1.kIn hlu
    rw [List.append_nil] at hbd
    refine wpAny_call (codeAny_mono (F.run X.A X.stack s1 H1 ⟨us,[]⟩ us vs _ _ (hr.mono hkj) I1.env0 hbd r sp) fun rs s' hq=>?_)
    cases rs with
    | error ev=>
     obtain ⟨e0,C,H',rfl,os,bare,un,hok,xc,hC,sm2⟩:=hq
     have J':Inv X [] σ H' s':=I1.call' (ch:=[]) os un hok bare fun b z=>nomatch z
     exact k' _ _ ⟨e0,C,σ,H',rfl,hC,J',sm.trans sm2,Xc.of hxe I1 xc⟩
    | ok fl=>
     cases fl with
     | ret u=>obtain ⟨v,H',_,_,_,_,_,z⟩:=hq; exact z.elim
     | next=>exact False.elim hq
     | brk=>exact False.elim hq
     | cont=>exact False.elim hq
   ·exact absurd (hl ρ ds hd) hn
theorem qO {x m:Str}{k0:_}{np p3 cpos:Pos} (hxe:X.ex=[]) (hE:Z5 X.K X.mg x) (hc:X.calm=true) (hg:Gl X x:=by rfl) (hdb:(x == ("__debug__":Str))=false:=by decide)
  (he:starEach [.Constant (.str m) k0 p3] X.env=[(false,eval (.Constant (.str m) k0 p3) X.env)]:=by rfl):PSX X (.Raise (some (.Call (.Name x np) [.Constant (.str m) k0 p3] [] cpos)) none pos) (fun _=>some x):=by
 with_unfolding_all
  intro s σ H ρ c I en q k
  cases q
  obtain ⟨C,hm,hex⟩:=hE
  obtain ⟨bm,N,nm,qn,bs,hdct,sn,sub,ab,col,dd,k0',k1,k2,k3,k5,mN,hC,hN,hni,TL⟩:=ajn (h:=X.base) I.ok.mod.kin hex
  have hpl:(backTo cpos (starEach [.Constant (.str m) k0 p3] X.env)).any (·.1)=false:=by rw [he]; rfl
  refine wpAny_Raise_call_subT (C:=C) (nm:=nm) (q:=qn) (N:=N) (bs:=bs) (bm:=bm) (hdct:=hdct) (sn:=sn) (sub:=sub) (ab:=ab) (col:=col) (dd:=dd) (k0:=k0') (k1:=k1) (k2:=k2) (k3:=k3) (k5:=k5) PySem.F.excBase_ValueError (mN:=mN) (TL.hasType rfl) (I.ok.hd hc) hpl hni ?_
  refine wpAny_mono (aeE (pos:=np) hg hm (show jV (.ref C) (.ref C) from rfl) hdb [] s σ H (fun v H'=>v= .ref C/\H'=H) I ⟨rfl,rfl⟩) (fun v s1 ⟨y,H1,I1,r1,e1,e2⟩=>?_) fun _ _ z=>z
  subst e1; subst e2
  obtain rfl:v=Value.ref C:=r1
  refine ⟨rfl,?_⟩
  have pa:PA X [.Constant (.str m) k0 p3] _:=qD (X:=X) alm zw he
  have hsp:=pa cpos [] s1 σ H1 (fun vs H'=>vs.length=1/\H'=H1) I1 ⟨rfl,rfl⟩
  rw [he] at hsp ⊢
  refine Calls.evalArgs_plain (wpAny_mono hsp (fun us s2 ⟨vs,H2,I2,r2,l2,e2⟩=>?_) fun _ _ z=>z)
  subst e2
  have kp:∀ b o,X.base.get? b=some o->s2.heap.get? b=some o:=fun b o e=>(I2.bs b o e).1
  refine ⟨rfl,?_,kp _ _ hC,hN.keeps kp,TL.keeps kp,fun h' e0 md=>?_⟩
  ·show us.length<=sizeLine
   rw [←r2.length,l2,sizeLine_eq]; decide
  ·obtain ⟨t,h1,h2,h3⟩:=md.there
   have I3:Inv X [] σ H2 { s2 with heap:=h' }:=I2.kept (t':=s2.toks) md.keeps
   have m0:=aar hxe I2 md.new
   exact k _ _ ⟨e0,C,σ,H2,rfl,hm,I3,jr.refl _,m0,_,_,h1,⟨rfl,rfl⟩,rfl,by simp,.inl rfl⟩
end
theorem ah2 {CX:CXT}{P:Program}{w:World}{K:Fg}{mg:SV}{base:Heap}{k:Nat}{f:Addr}{name qual:Str}{params:Arguments}{body:List Stmt}{scope:Scope}{dV kV doc pm Kc ct oc:Value}{an od:Option Addr}
  {osl:Array (Option Value)} {N ps:List Str} {sp:Sp} (lk:K.lookup f=some ⟨oc,od,.func (PySem.W.fnOf name qual params body scope dV kV doc pm an Kc ct),osl⟩) (hcd:PySem.W.codeIn K Kc qual=true) (S:FnScope N ps scope)
  (len:∀ vs H Q E,sp vs H Q E->vs.length=ps.length)
  (hbody:∀ (A:Around) (Ko:List Env) (s:Shared) (H:Hp) (vs:List V) (Q:VK) (E:XK) (s1:Shared),Room k (A.deeper (envOfC qual scope s.heap.objs.size f Kc))->sp vs H Q E->
   Inv (zW CX P w K mg base N qual scope f Kc A Ko s H E) [] (L2.Jm N vs) H s1->
   wpAny (model P w) (A.deeper (envOfC qual scope s.heap.objs.size f Kc)) (execs body (envOfC qual scope s.heap.objs.size f Kc)) (SP (zW CX P w K mg base N qual scope f Kc A Ko s H E) [] { nx:=fun _ H'=>Q .non H',rt:=Q }) (zW CX P w K mg base N qual scope f Kc A Ko s H E).xe s1):
  FnOk P w K mg base CX (k+1) f (PySem.W.fnOf name qual params body scope dV kV doc pm an Kc ct) ps sp:=by
 refine ⟨len,fun A Ko s H args us vs Q E hr e0 hb r hsp=>?_⟩
 have hl:=len _ _ _ _ hsp
 have KX:K.In s.heap:=e0.mod.kin.keeps fun b o e=>(e0.bs b o e).1
 have lim:s.heap.NoLimit:=e0.mod.nolimit.keeps fun b o e=>(e0.bs b o e).1
 have hkind:∀ y ∈ ps.zip us,scope.names.lookup y.1=some .local ∨ (scope.names.lookup y.1=some .cell/\((cellsFrom (s.heap.objs.size+1) scope.names []).lookup y.1).isSome=true):=fun ⟨n,v⟩ hy=>by
  rcases S.par n (List.of_mem_zip hy).1 with q | q
  ·exact .inl q
  ·exact .inr ⟨q,PySem.W.cellsFrom_some _ _ _ (.inl q)⟩
 refine codeAny_call_function hr.depth (KX _ _ lk) rfl S.co S.gen rfl (PySem.W.codeRec_of KX hcd) (hb _ _ _ _ ?_)
 refine wpAny_newFunctionEnv_cells S.kind hkind fun env he s1 x=>?_
 subst he
 refine ⟨lim.keeps x.toInCall.keep,codeAny_func ?_⟩
 have I:Inv (zW CX P w K mg base N qual scope f Kc A Ko s H E) [] (L2.Jm N vs) H s1:=adO S hr.hd e0 hl r x
 refine wpAny_mono (hbody A Ko s H vs Q E s1 (hr.deeper _) hsp I) (fun fl s' hs=>?_) fun e s' hs=>hs
 have fin:∀ {σ':St} {H':Hp} {v:V} {u:Value},Inv (zW CX P w K mg base N qual scope f Kc A Ko s H E) [] σ' H' s'->jV v u->Q v H'->CE Ko P w H s Q u s':=
  fun {σ' H' v u} J rv q=>⟨v,H',J.os,J.bare,J.base,J.hok,rv,q⟩
 cases fl with
 | ret u=>
  obtain ⟨v,σ',H',J,rv,q⟩:=hs
  exact fin J rv q
 | next=>
  obtain ⟨σ',H',J,q⟩:=hs
  exact fin (v:=V.non) (u:=Value.none) J rfl q
 | brk=>
  obtain ⟨_,_,_,q⟩:=hs
  exact False.elim q
 | cont=>
  obtain ⟨_,_,_,q⟩:=hs
  exact False.elim q
theorem acR {CX:CXT}{P:Program}{w:World}{K:Fg}{mg:SV}{base:Heap}{N:List Str}{qual:Str}{scope:Scope}{f:Addr}{cd:Value}{A:Around}{Ko:List Env}{s:Shared}{H:Hp}{E:XK}:Top0 (zW CX P w K mg base N qual scope f cd A Ko s H E):=⟨rfl,rfl,rfl⟩
section
variable {P:Program}{w:World}{K:Fg}{mg:SV}{base:Heap}
def zi (N:List Str) (n:Nat) (Fx:Rho->Option Str) (ds:LP):Option Str:=if ds.length=n then Fx (jK N ds) else none
theorem zr {x qual:Str}{st:Stmt}{f:Addr}{fd:FuncData}{N ps:List Str}{k:Nat}{Fx:Rho->Option Str} (F:Fun K x qual st f fd) (S:FnScope N ps (je st))
  (body:∀ (Kc:Value) (A:Around) (Ko:List Env) (s:Shared) (H:Hp) (E:XK),Room k (A.deeper (envOfC qual (je st) s.heap.objs.size f Kc))->abN (zW (CXt P w) P w K mg base N qual (je st) f Kc A Ko s H E) (jR st) Fx):
  FnOk P w K mg base (CXt P w) (k+1) f fd ps (ah1 K mg ps.length (zi N ps.length Fx)):=by
 with_unfolding_all
  obtain ⟨oc,od,kV,doc,pm,an,Kc,ct,osl,rfl,lk,hcd⟩:=F.ex
  refine ah2 lk hcd S (fun vs H Q E h=>?_) fun A Ko s H vs Q E s1 hr h I=>?_
  ·obtain ⟨ds,c,h1,h2,_⟩:=h
   rw [h2.length]; exact h1
  ·obtain ⟨ds,c,h1,h2,h3,h4⟩:=h
   unfold zi at h3
   rw [if_pos h1] at h3
   refine wpAny_mono (body Kc A Ko s H E hr s1 (L2.Jm N vs) H (jK N ds) c I (Qd h2) h3 fun ev s' t=>?_) (fun _ _ z=>z.elim) fun _ _ z=>z
   obtain ⟨e,C,σ',H',rfl,hC,J,sm,xc⟩:=t
   have T0:Top0 (zW (CXt P w) P w K mg base N qual (je st) f Kc A Ko s H E):=acR
   show wpAny (model P w) (A.deeper (envOfC qual (je st) s.heap.objs.size f Kc)) (leaving (envOfC qual (je st) s.heap.objs.size f Kc) (.ref e)) (fun _ s''=>CXt P w Ko H s E (.ref e) s'') (fun e' s''=>CXt P w Ko H s E e' s'') s'
   have n1:=abV (E:=fun _ _=>False) (A:=A.deeper (envOfC qual (je st) s.heap.objs.size f Kc)) T0 J.ok.frames J xc
   unfold leaving
   refine wpAny_bind (wpAny_mono n1 (fun _ s2 ⟨J2,t2⟩=>?_) fun _ _ z=>z.elim)
   have n2:=Jw (E:=fun _ _=>False) (A:=A.deeper (envOfC qual (je st) s.heap.objs.size f Kc)) none J2 t2
   refine wpAny_mono n2 (fun _ s3 ⟨J3,t3⟩=>?_) fun _ _ z=>z.elim
   obtain ⟨oe,ws,T,oT,ts,g1,g2,g3,g4,g5,g6,g7,g8,g9⟩:=t3.ob
   exact ⟨e,C,H',rfl,J3.os,J3.bare,J3.base,J3.hok,⟨t3.mine.un,t3.mine.new,oe,ws,T,oT,ts,g1,g2,g3,g4,g5,g6.un,g6.new,g7,g8,g9⟩,h4 C H' hC sm⟩
end
theorem Inv.asA {X:Cx}{Kp:List (Addr × Obj)}{σ:St}{H:Hp}{s:Shared}{A:Around}{cm:Bool}{xe:Value->SP0} (I:Inv X Kp σ H s) (hf:A.frames=some X.stack) (hd:cm=true->A.handled=none):Inv { X with A:=A,calm:=cm,xe:=xe } Kp σ H s:=
 ⟨⟨I.ok.mod,I.ok.kind,I.ok.glob,I.ok.blt,I.ok.above,I.ok.inj,I.ok.has,I.ok.cab,hd,hf,I.ok.stk,I.ok.exf,I.ok.bs,I.ok.bsz,I.ok.noex,I.ok.exfs,I.ok.funs,I.ok.frf⟩,I.os,I.bare,I.base,I.loc,I.cell,I.free,I.freeC,I.pin,I.hok,I.len⟩
theorem Inv.ofA {X:Cx}{Kp:List (Addr × Obj)}{σ:St}{H:Hp}{s:Shared}{A:Around}{cm:Bool}{xe:Value->SP0} (ok:X.Ok) (I:Inv { X with A:=A,calm:=cm,xe:=xe } Kp σ H s):Inv X Kp σ H s:=
 ⟨ok,I.os,I.bare,I.base,I.loc,I.cell,I.free,I.freeC,I.pin,I.hok,I.len⟩
theorem Mine.unwish {X:Cx}{E:Value->SP0}{H:Hp}{b:Addr} (m:Mine (X.wish E) H b):Mine X H b:=⟨m.un,m.new,m.loc,m.cel,m.pin⟩
theorem Xc.unwish {X:Cx}{E:Value->SP0}{H:Hp}{h:Heap}{e C:Addr} (x:Xc (X.wish E) H h e C):Xc X H h e C:=by
 obtain ⟨oe,vs,h1,h2,h3,h4,h5⟩:=x.ob
 refine ⟨x.mine.unwish,oe,vs,h1,h2,h3,h4,?_⟩
 rcases h5 with q | ⟨T,oT,ts,q1,q2,q3,q4⟩
 ·exact .inl q
 ·exact .inr ⟨T,oT,ts,q1,q2,q3.unwish,q4⟩
section
variable {X:Cx}{st:Stmt}{sts j8 tb hb:List Stmt}{F G:RO}{pos:Pos}
end
section
variable {X:Cx}{st b0:Stmt}{sts j8 tb hb:List Stmt}{F G:RO}{fx:Rho->Option Str}{pos:Pos}
def ad1 (n:Nat):Rho:=List.replicate n none
theorem aku {K:Fg}{H:Hp}{σ:St}:EnvR K H (ad1 σ.length) σ:=⟨by simp [ad1],fun i d q=>by simp [ad1,List.getElem?_replicate] at q⟩
noncomputable abbrev hX (X:Cx) (e:Addr):Cx:={ X with A:=X.A.mark (some (.ref e)),calm:=false,xe:=fun _ _=>False }
theorem SP.ofA {A:Around}{cm:Bool}{xe:Value->SP0}{D:Ends}{f:Flow}{s':Shared} (ok:X.Ok) (h:SP { X with A:=A,calm:=cm,xe:=xe } [] D f s'):SP X [] D f s':=by
 cases f with
 | next=>obtain ⟨σ',H',I,q⟩:=h; exact ⟨σ',H',Inv.ofA ok I,q⟩
 | brk=>obtain ⟨σ',H',I,q⟩:=h; exact ⟨σ',H',Inv.ofA ok I,q⟩
 | cont=>obtain ⟨σ',H',I,q⟩:=h; exact ⟨σ',H',Inv.ofA ok I,q⟩
 | ret u=>obtain ⟨v,σ',H',I,r,q⟩:=h; exact ⟨v,σ',H',Inv.ofA ok I,r,q⟩
end
section
variable {P:Program}{w:World}{K:Fg}{mg:SV}{base:Heap}
end
theorem aat {t sl:Addr}{items:Array Value}{vl vu:Value}{lo hi:Option Int}{Q:Value->SP0} (ht:IsTup s.heap t items) (hs:s.heap.IsSliceOf sl vl vu .none) (pl:IsPart vl lo) (pu:IsPart vu hi)
  (hw:HT.sIx items.size 0 lo=0/\HT.sIx items.size items.size hi=items.size) (h:Q (.ref t) s):wpAny (model prog w) A (getItem (.ref t) (.ref sl)) Q E s:=by
 obtain ⟨os,hos,hcs,hds⟩:=id hs
 have hTs:s.TypeIs (.ref sl) "slice":=⟨os,hos,hcs⟩
 unfold getItem
 first | (with_reducible refine wpAny_holding ?_) | skip
 first | refine wpAny_bind (wpAny_pure ?_) | skip
 refine wpAny_bind (wpAny_sequenceKey ht.typeIs (by decide) ?_)
 refine wpAny_bind (wpAny_callSpecial?_slot (name:=Str.ofString "__getitem__") ht.typeIs PyProof.Rows.slot_tuple_getitem (wpAny_call_entry PyProof.Rows.slot_tuple_getitem ht.typeIs entry_tuple_getitem ?_ (args_tuple_getitem _ _)))
 show wpAny _ _ (Builtin.Tuple.tupleItemsOf (.ref t) >>= _) _ _ s
 refine wpAny_bind (tupleItemsOf_ ht (wpAny_bind (wpAny_typeOf hTs ?_)))
 rw [if_pos (show (Value.type "slice" == Value.type "slice")=true by decide)]
 refine wpAny_bind (HT.sliceApplied_gen hs pl pu ?_)
 rw [hw.1,hw.2]
 have hyes:((((0:Nat):Int) == 0 && (1:Int) == 1 && (items.size - 0) == items.size)=true):=by simp
 show wpAny _ _ (if ((((0:Nat):Int) == 0 && (1:Int) == 1 && (items.size - 0) == items.size)=true) then _ else _) _ _ s
 rw [if_pos hyes]
 obtain ⟨o,ho,hc,hd⟩:=id ht
 have hT:s.TypeIs (.ref t) "tuple":=⟨o,ho,hc⟩
 have ex:∀ {R:Bool->SP0} {A':Around} {E':Value->SP0},R true s->wpAny (model prog w) A' (Builtin.Tuple.tupleIsExact (.ref t)) R E' s:=fun {R A' E'} hR=>by
  unfold Builtin.Tuple.tupleIsExact
  first
   | exact wpAny_bind (wpAny_typeOf hT (wpAny_pure hR))
   | (wp_walk; exact hR)
 first
  | exact wpAny_bind (ex (wpAny_bind (wpAny_rule (wpAny_pure ⟨_,rfl,wpAny_pure h⟩))))
  | exact wpAny_bind (ex (by rw [if_pos rfl]; exact wpAny_bind (wpAny_rule (wpAny_pure ⟨_,rfl,wpAny_pure h⟩))))
  | (refine wpAny_bind (ex ?_); wp_walk; exact ⟨_,rfl,wpAny_pure h⟩)
  | (refine wpAny_bind (wpAny_bind (ex ?_)); wp_walk; exact ⟨_,rfl,wpAny_pure h⟩)
section
variable {X:Cx}{e a b c:Expr}{fa fb fc:RP}{pos p2:Pos}
def asi (K:Fg):V->Option Int->Option Int->Hp->VK->Prop:=fun x lo hi H Q=>∃ a xs,x= .ref a/\SqT K H a xs/\(HT.sIx xs.length 0 lo=0/\HT.sIx xs.length xs.length hi=xs.length)/\Q (.ref a) H
theorem agG:SlR X (asi X.K):=by
 intro Kp s σ H x v vl vu lo hi sl Q I rx hs pl pu h
 obtain ⟨a,xs,rfl,hx,hw,q⟩:=h
 cases rx
 obtain ⟨its,r,ht,hz⟩:=I.tuple hx
 have hlen:its.toArray.size=xs.length:=by rw [List.size_toArray]; exact r.length.symm
 exact ⟨"tuple",_,PyProof.Rows.slot_tuple_getitem.lookup,ht.typeIs,aat ht hs pl pu (by rw [hlen]; exact hw) ⟨.ref a,H,I,rfl,q⟩⟩
def agH (p:PyData) (lo hi:Option Int):OP:=match p with
 | .tuple ds=>some (.tuple (ae3 ds lo hi))
 | _=>none
theorem aml {K:Fg}{p d:PyData}{lo hi:Option Int}{x:V}{H:Hp}{Q:VK} (h:agH p lo hi=some d) (r:Rep K H p x) (k:∀ v H',jr H H'->Rep K H' d v->Q v H'):arW K x lo hi H Q ∨ asi K x lo hi H Q:=by
 unfold agH at h
 split at h
 ·rename_i ds
  cases h
  obtain ⟨a,xs,e1,e2,e3⟩:=r
  have hl:=e3.length
  have rr:Reps K H (ae3 ds lo hi) (aeM xs lo hi):=by
   unfold aeM ae3
   rw [hl]
   exact (e3.drop _).take _
  by_cases hw:HT.sIx xs.length 0 lo=0/\HT.sIx xs.length xs.length hi=xs.length
  ·refine .inr ⟨a,xs,e1,e2,hw,k _ H (jr.refl H) ⟨a,xs,rfl,e2,?_⟩⟩
   have ex:aeM xs lo hi=xs:=by unfold aeM; rw [hw.1,hw.2]; simp
   rw [ex] at rr
   exact rr
  ·refine .inl ⟨a,xs,e1,e2,hw,fun q hq=>?_⟩
   have s1:=jM (o:= .tup (aeM xs lo hi)) hq
   exact k _ _ s1 ⟨q,_,rfl,SqT.of jn,Reps.mono s1 _ _ rr⟩
 ·cases h
def ad2 (fa fb:RP):RP:=fun ρ=>(fa ρ).bind fun p=>(fb ρ).bind fun q=>(inI q).bind fun i=>agH p none (some i)
theorem amm (ha:PD X a fa) (hb:PD X b fb):PD X (.Subscript a (.Slice none (some b) none p2) pos) (ad2 fa fb):=by
 with_unfolding_all
  refine PE.imp (agl (alF.or agG) ha ai3 (ai4 hb)) fun σ H Q ⟨ρ,d,en,q,k⟩=>?_
  cases h1:fa ρ with
  | none=>simp [ad2,h1] at q
  | some y=>
   cases h2:fb ρ with
   | none=>simp [ad2,h1,h2] at q
   | some z=>
    cases h3:inI z with
    | none=>simp [ad2,h1,h2,h3] at q
    | some i=>
     have q':agH y none (some i)=some d:=by simpa [ad2,h1,h2,h3] using q
     have hz:=agE h3
     subst hz
     refine ⟨ρ,y,en,h1,fun v H1 s1 r1=>⟨ρ,_,en.mono s1,h2,fun u H2 s2 r2=>?_⟩⟩
     cases (show u=_ from r2)
     exact ⟨i,rfl,aml q' (Rep.mono s2 _ _ r1) fun v H' s r=>k v H' (s1.trans (s2.trans s)) r⟩
def Zl (fa fb:RP):RP:=fun ρ=>(fa ρ).bind fun p=>(fb ρ).bind fun q=>(inI q).bind fun i=>agH p (some i) none
theorem ah3 (ha:PD X a fa) (hb:PD X b fb):PD X (.Subscript a (.Slice (some b) none none p2) pos) (Zl fa fb):=by
 with_unfolding_all
  refine PE.imp (agl (alF.or agG) ha (ai4 hb) ai3) fun σ H Q ⟨ρ,d,en,q,k⟩=>?_
  cases h1:fa ρ with
  | none=>simp [Zl,h1] at q
  | some y=>
   cases h2:fb ρ with
   | none=>simp [Zl,h1,h2] at q
   | some z=>
    cases h3:inI z with
    | none=>simp [Zl,h1,h2,h3] at q
    | some i=>
     have q':agH y (some i) none=some d:=by simpa [Zl,h1,h2,h3] using q
     have hz:=agE h3
     subst hz
     refine ⟨ρ,y,en,h1,fun v H1 s1 r1=>⟨ρ,_,en.mono s1,h2,fun u H2 s2 r2=>?_⟩⟩
     cases (show u=_ from r2)
     exact ⟨i,rfl,aml q' (Rep.mono s2 _ _ r1) fun v H' s r=>k v H' (s1.trans (s2.trans s)) r⟩
end
section
variable {X:Cx}
end
section
variable {X:Cx}
end
section
variable {X:Cx}{e a b c:Expr}{fa fb fc:RP}{pos p2:Pos}
end
def Ite (K:Fg) (l:Addr):It:=
 ⟨fun i H=>∃ xs x,SqL K H l xs/\xs[i]?=some x,
  fun i H u H'=>∃ p x,u= .ref p/\H p=none/\H'=upd H p (.tup [.int (i:Int),x])/\∀ xs,SqL K H l xs->xs[i]?=some x,
  fun i H=>∃ xs,SqL K H l xs/\xs.length<=i⟩
theorem akv {P:Program}{w:World}{K:Fg}{elts:List Expr}{x1:Nat}{pos:Pos}{e it l:Addr} (hei:e ≠ it):
  Turn P w K (.Tuple elts x1 pos) (Ite K l) [e,it] e (fun i h=>(∃ old,IsEnum h e it i old)/\h.IsListIter it l i) where
 mem:=by simp
 obj:=fun i h st b hb=>by
  obtain ⟨⟨old,he⟩,⟨o,ho,hc,hd⟩⟩:=st
  simp only [List.mem_cons,List.not_mem_nil,or_false] at hb
  rcases hb with rfl | rfl
  ·exact ⟨_,he,fun v q=>by cases q⟩
  ·exact ⟨o,ho,fun v q=>by rw [hd] at q; cases q⟩
 keep:=fun i h h' st k=>by
  obtain ⟨⟨old,he⟩,⟨o,ho,r⟩⟩:=st
  exact ⟨⟨old,k e (by simp) _ he⟩,o,k it (by simp) o ho,r⟩
 item:=by
  intro X hP hw hK hc i Kp s σ H E I hf st hg
  subst hP hw hK
  obtain ⟨xs,x,q1,ex⟩:=hg
  obtain ⟨us1,r1,p1,_⟩:=I.list q1
  have p1:=p1.isList
  obtain ⟨u1,m1,l1⟩:=r1.get ex
  obtain ⟨⟨old,he⟩,hit⟩:=st
  refine wpAny_pyNext_enum_item he hit p1 (by simpa using m1) hei fun h1 ho hit1 hT hsz hk=>⟨_,rfl,?_⟩
  refine wpAny_letOwnedTupleGo_enum (s:={ s with heap:=h1,toks:=s.toks+1 }) ho fun h2 he2 hs2=>?_
  have nT:H s.heap.objs.size=none:=I.hok.fresh (Nat.le_refl _)
  have elt:e<s.heap.objs.size:=Heap.lt_size he
  have B2:∀ b o,b ∉ [e,it]->s.heap.get? b=some o->h2.get? b=some o:=fun b o hb q=>by
   simp only [List.mem_cons,List.not_mem_nil,or_false,not_or] at hb
   exact (hs2.2 b hb.1).trans (hk b o hb.1 hb.2 q)
  have T2:h2.get? s.heap.objs.size=some { cls:= .type "tuple",data:= .seq #[.int i s.toks,u1] }:=(hs2.2 _ (Nat.ne_of_gt elt)).trans hT
  have hit2:h2.IsListIter it l (i+1):=by
   obtain ⟨o,ho',r⟩:=hit1
   exact ⟨o,(hs2.2 it hei.symm).trans ho',r⟩
  have ntr:∀ b u,H b=some u->b ∉ [e,it]:=fun b u q hb=>by
   have:=(hf b hb).1
   rw [q] at this; cases this
  have neT:∀ b u,H b=some u->b ≠ s.heap.objs.size:=fun b u e q=>by rw [q,nT] at e; cases e
  have hok2:HOk X.prog X.w (upd H s.heap.objs.size (.tup [.int (i:Int),x])) h2:=fun b u q=>by
   by_cases hb:b=s.heap.objs.size
   ·subst hb
    rw [jn] at q
    cases q
    exact ⟨by show 2<=sizeLine; rw [sizeLine_eq]; decide,[.int i s.toks,u1],.cons ⟨_,rfl⟩ (.cons l1 .nil),⟨_,T2,rfl,_,rfl⟩⟩
   ·rw [jq hb] at q
    refine (I.hok b u q).stay (fun c o hc' z=>B2 c o ?_ z) (fun c z=>by rw [jq (neT c _ z)]; exact z) fun c ws z=>by rw [jq (neT c _ z)]; exact z
    rcases hc' with q' | q'
    ·rw [q']; exact ntr b u q
    ·exact ntr c _ q'
  have I2:Inv X Kp σ (upd H s.heap.objs.size (.tup [.int (i:Int),x])) { s with heap:=h2,toks:=s.toks+1 }:=by
   refine I.step (g':=s.gens) (d':=s.drawn) (ch:=[e,it]) (fun b hb=>?_) (fun b o _ _ hb q _=>B2 b o hb q) (fun b o _ _ hb q _=>⟨o.slots,B2 b o hb q⟩) (fun b o hb q n=>?_) (fun b o hb q=>⟨o,B2 b o hb q⟩)
    (fun b ws q=>by rw [jq (neT b _ q)]; exact q) (fun b ob ws q=>by rw [jq (neT b _ q)]; exact q) (fun b ps q=>⟨#[],by rw [jq (neT b _ q),q]; simp⟩) (fun m hm=>?_) hok2 I.bare
   ·obtain ⟨f0,f1,f2,f3,f4,f5⟩:=hf b hb
    exact ⟨f3,f1,f4,f5⟩
   ·rw [jq (Nat.ne_of_lt (Heap.lt_size q))]; exact n
   ·obtain ⟨o,es,ep,ho',r⟩:=hm
    refine ⟨o,es,ep,B2 _ o (fun hb=>?_) ho',r⟩
    exact (hf _ hb).2.1 rfl
  refine ⟨.ref s.heap.objs.size,_,I2,rfl,⟨_,x,rfl,nT,rfl,fun as g1=>?_⟩,⟨⟨_,by simpa using he2⟩,hit2⟩,fun b hb=>?_⟩
  ·rw [I.list_inj g1 q1]; exact ex
  ·have hlt:b<s.heap.objs.size:=by
    simp only [List.mem_cons,List.not_mem_nil,or_false] at hb
    rcases hb with rfl | rfl
    ·exact elt
    ·obtain ⟨o,ho',_⟩:=hit; exact Heap.lt_size ho'
   rw [jq (Nat.ne_of_lt hlt)]
   exact (hf b hb).1
 done:=by
  intro X hP hw hK hc i Kp s σ H E I hf st hg
  subst hP hw hK
  obtain ⟨xs,q1,hl⟩:=hg
  obtain ⟨us1,r1,p1,_⟩:=I.list q1
  have p1:=p1.isList
  have hlen:=r1.length
  obtain ⟨⟨old,he⟩,hit⟩:=st
  refine wpAny_pyNext_enum_end (I.ok.hd hc) he hit p1 (by simp; omega) fun h1 hx=>⟨rfl,?_⟩
  have ntr:∀ b u,H b=some u->b ≠ it:=fun b u q hb=>by
   have:=(hf it (by simp)).1
   rw [hb] at q
   rw [q] at this; cases this
  refine I.step (t':=s.toks) (g':=s.gens) (d':=s.drawn) (ch:=[it]) (fun b hb=>?_) (fun b o _ _ hb q _=>hx b o (by simpa using hb) q) (fun b o _ _ hb q _=>⟨o.slots,hx b o (by simpa using hb) q⟩) (fun b o hb q n=>n) (fun b o hb q=>⟨o,hx b o (by simpa using hb) q⟩)
   (fun b ws q=>q) (fun b ob ws q=>q) (fun b ps q=>⟨#[],by rw [q]; simp⟩) (fun m hm=>?_) (fun b u q=>?_) I.bare
  ·obtain ⟨f0,f1,f2,f3,f4,f5⟩:=hf b (by simp only [List.mem_cons,List.not_mem_nil,or_false] at hb ⊢; exact .inr hb)
   exact ⟨f3,f1,f4,f5⟩
  ·obtain ⟨o,es,ep,ho,r⟩:=hm
   refine ⟨o,es,ep,hx _ o (fun hb=>?_) ho,r⟩
   exact (hf it (by simp)).2.1 hb.symm
  ·refine (I.hok b u q).stay (fun c o hc' z=>hx c o ?_ z) (fun c z=>z) fun c ws z=>z
   rcases hc' with q' | q'
   ·rw [q']; exact ntr b u q
   ·exact ntr c _ q'
 self:=fun _ _ _ _ _ st h=>by
  obtain ⟨⟨old,he⟩,_⟩:=st
  exact wpAny_pyIter_enum he h
section
variable {X:Cx}
def asj (K:Fg) (ta:TA):TI:=fun σ H R=>ta σ H fun vs H1=>∃ a xs,vs=[.ref a]/\SqL K H1 a xs/\R (Ite K a) H1
theorem aoC {ea:Expr}{elts:List Expr}{x1:Nat}{tp:Pos}{ta:TA}{p pos:Pos} (hg:Gl X "enumerate") (hm:X.mg "enumerate"=none) (ha:PA X [ea] ta)
  (hs:starEach [ea] X.env=[(false,eval ea X.env)]:=by rfl):
  PI X (.Tuple elts x1 tp) (.Call (.Name "enumerate" p) [ea] [] pos) (asj X.K ta):=by
 intro Kp s σ H R I h
 refine Call_ (Qn I hg hm boot_enumerate (PyProof.Rows.callWith_type1 (thn (ha pos Kp s σ H _ I h) fun us s1 ⟨vs,H1,I1,r1,q1⟩=>?_) (by rw [hs]; rfl) (by rfl)))
 obtain ⟨a,xs,e,q1,q⟩:=q1
 subst e
 cases r1 with
 | cons r1 rr=>
  cases rr
  cases r1
  obtain ⟨us1,v1,p1,_⟩:=I1.list q1
  refine call_enumerate_list p1.isList fun h' he hit hz kp=>?_
  refine wpAny_pyIter_enum he ?_
  have I2:Inv X Kp σ H1 { s1 with heap:=h' }:=I1.kept (t':=s1.toks) kp
  refine ⟨_,[s1.heap.objs.size+1,s1.heap.objs.size],_,_,H1,rfl,I2,akv (e:=s1.heap.objs.size+1) (it:=s1.heap.objs.size) (l:=a) (Nat.succ_ne_self _),⟨⟨_,he⟩,hit⟩,fun x hx=>?_,q⟩
  have hle:s1.heap.objs.size<=x:=by
   simp only [List.mem_cons,List.not_mem_nil,or_false] at hx
   rcases hx with e | e <;> rw [e] <;> omega
  exact I1.fpOk hle (I1.hok.fresh hle)
noncomputable def Jp:Nat->LP->LP
 | _,[]=>[]
 | i,d::ds=> .tuple [.int (i:Int),d]::Jp (i+1) ds
def aau (ds:LP):Option (LP):=match ds with
 | [.list xs]=>some (Jp 0 xs)
 | _=>none
theorem ad3:∀ (xs:LP) (k:Nat),(Jp k xs).length=xs.length
 | [],_=>rfl
 | _::xs,k=>by simp [Jp,ad3 xs]
theorem ad4:∀ (xs:LP) (k i:Nat) (d:PyData),(Jp k xs)[i]?=some d->∃ x,xs[i]?=some x/\d= .tuple [.int ((k+i:Nat):Int),x]
 | [],_,_,_,h=>by simp [Jp] at h
 | x::xs,k,0,d,h=>by simp [Jp] at h; exact ⟨x,rfl,h.symm⟩
 | x::xs,k,i+1,d,h=>by
  simp only [Jp,zzB] at h
  obtain ⟨y,h1,h2⟩:=ad4 xs (k+1) i d h
  exact ⟨y,by simpa using h1,by rw [h2,show k+1+i=k+(i+1) by omega]⟩
theorem agI {ea:Expr}{elts:List Expr}{x1:Nat}{tp:Pos}{p pos:Pos}{fr:Rho->Option (LP)} (hm:X.mg "enumerate"=none) (ha:PAD X [ea] fr) (hg:Gl X "enumerate":=by rfl)
  (hs:starEach [ea] X.env=[(false,eval ea X.env)]:=by rfl):
  PID X (.Tuple elts x1 tp) (.Call (.Name "enumerate" p) [ea] [] pos) (fun ρ=>(fr ρ).bind aau):=by
 with_unfolding_all
  refine PI.imp (aoC hg hm ha hs) fun σ H R ⟨ρ,ds,en,q,k⟩=>?_
  cases h1:fr ρ with
  | none=>simp [h1] at q
  | some as=>
   have q':aau as=some ds:=by simpa [h1] using q
   refine ⟨ρ,as,en,h1,fun vs H1 s1 r1=>?_⟩
   unfold aau at q'
   split at q'
   ·rename_i xs
    cases q'
    obtain ⟨v1,w1,e1,rp,e4⟩:=r1
    cases (show w1=[] from e4)
    obtain ⟨a,us,g1,g2,ra⟩:=rp
    subst g1
    have l1:=ra.length
    have lz:=ad3 xs 0
    have qa:SqL X.K H1 a us:=SqL.of g2
    refine ⟨a,us,e1,qa,k _ H1 s1 fun i H2 s2=>⟨fun hi=>?_,fun hi=>?_,fun u H3 y=>?_⟩⟩
    ·rw [lz] at hi
     exact ⟨us,us[i]'(by omega),jy.sql s2 qa,by simp <;> omega⟩
    ·rw [lz] at hi
     exact ⟨us,jy.sql s2 qa,by omega⟩
    ·obtain ⟨pp,x,e5,e6,e7,e8⟩:=y
     subst e5; subst e7
     refine ⟨jM e6,fun d hd=>?_⟩
     obtain ⟨dx,g3,g4⟩:=ad4 xs 0 i d hd
     subst g4
     have f1:=e8 us (jy.sql s2 qa)
     have m:=s2.trans (jr.a (jM (o:= .tup [.int (i:Int),x]) e6))
     obtain ⟨x',a1,a2⟩:=(Reps.monoA m _ _ ra).get g3
     rw [f1] at a1; cases a1
     exact ⟨pp,[.int (i:Int),x],rfl,SqT.of jn,_,_,rfl,by show V.int (i:Int)=V.int ((0+i:Nat):Int); rw [Nat.zero_add],x,_,rfl,a2,rfl⟩
   ·cases q'
end
section
variable {X:Cx}{e:Expr}{es:List Expr}{pos p:Pos}
theorem amn {CX:CXT}{k i:Nat}{f:Addr}{fd:FuncData}{ps:List Str}{sp:Sp}{E:XK}{x y:Str}{t:TA} (F:FnOk X.prog X.w X.K X.mg X.base CX k f fd ps sp) (hr:Room k X.A) (hm:X.mg x=some (.ref f)) (hk:PySem.W.keepIn X.K (.ref f)=true) (hb:Jl X.K fd ps []) (hx:aeJ CX X E)
  (hN:X.N[i]?=some y) (hv:Vis X.env.scope y) (ha:PA X (e::es) t) (hdb:(y == ("__debug__":Str))=false:=by decide) (hcd:(y == ("__classdict__":Str))=false:=by decide) (he:starEach (e::es) X.env=(false,eval e X.env)::starEach es X.env:=by rfl) (hpl:(backTo pos (starEach es X.env)).any (·.1)=false:=by rfl):
  PE X (.Call (.Name y p) (e::es) [] pos) (fun σ H Q=>anU i σ H fun v H1=>(∃ a,v= .ref a/\PySem.W.nsIn X.K mainGlobals x=some (some (.ref a)))/\apG sp [] E t σ H1 Q):=by
 intro Kp s σ H Q I h
 refine wpAny_Call_Name_kw (thn (JB hN hv hdb hcd Kp s σ H _ I h) fun u s1 ⟨v,H1,I1,rv,⟨a,ev,ea⟩,q⟩=>?_)
 subst ev
 cases rv
 have hf:=(PySem.W.mg_of I1.mod.kin I1.mod.glob ea).symm.trans hm
 cases hf
 refine PySem.W.callWith_K (h₀:=X.base) I1.ok.mod.kin hk (thn (ha pos Kp s1 σ H1 _ I1 q) fun us s2 ⟨vs,H2,I2,r,q2⟩=>⟨I2.kIn,?_⟩) he hpl
 exact aeK F hr hb .nil hx I2 r q2
noncomputable def abD (x:Str):PyData->Bool
 | .dict [(.str y,.none)]=>decide (y=x)
 | _=>false
theorem agJ {x:Str}{d:PyData} (h:abD x d=true):d=fnD x:=by
 unfold abD at h
 split at h
 ·rw [of_decide_eq_true h]; rfl
 ·cases h
@[simp] theorem acS (x:Str):abD x (fnD x)=true:=by simp [abD,fnD]
def ah4 (i:Nat) (x:Str) (g:LP->OP) (fr:Rho->Option (LP)):RP:=fun ρ=>(lkp i ρ).bind fun d=>if abD x d=true then (fr ρ).bind g else none
theorem ajo {K:Fg}{H:Hp}{x:Str}{v:V} (h:Rep K H (fnD x) v):∃ a,v= .ref a/\PySem.W.nsIn K mainGlobals x=some (some (.ref a)):=by
 obtain ⟨a,h1,⟨ns,h2,h3⟩ | ⟨ks,ob,h2,h3⟩ | ⟨y,h2,h3⟩ | ⟨y,_,_,h2,_⟩ | h2⟩:=h
 ·cases ns with
  | nil=>cases h3
  | cons n ns=>cases h3
 ·exact h3.elim
 ·cases h2
  exact ⟨a,h1,h3⟩
 ·cases h2
 ·cases h2
theorem agK {k j n:Nat} (i:Nat) {ps:List Str}{g:LP->OP}{x y:Str}{fr:Rho->Option (LP)} (c:jm X.prog X.w X.K X.mg X.base x ps k n g) (hr:Room j X.A) (hkj:k<=j) (ha:PAD X (e::es) fr)
  (hl:∀ (ρ:Rho) (ds:LP),fr ρ=some ds->ds.length=n) (hn:(e::es).length=n:=by rfl) (hN:X.N[i]?=some y:=by rfl) (hv:Vis X.env.scope y:=by first | exact Or.inl rfl | exact Or.inr (Or.inl rfl) | exact Or.inr (Or.inr rfl))
  (hdb:(y == ("__debug__":Str))=false:=by decide) (hcd:(y == ("__classdict__":Str))=false:=by decide) (he:starEach (e::es) X.env=(false,eval e X.env)::starEach es X.env:=by rfl)
  (hpl:(backTo pos (starEach es X.env)).any (·.1)=false:=by rfl):PD X (.Call (.Name y p) (e::es) [] pos) (ah4 i x g fr):=by
 with_unfolding_all
  obtain ⟨f,fd,c1,c2,c3,c4⟩:=c
  refine PE.imp (amn c1 (hr.mono hkj) c2 c3 c4 adR hN hv ha hdb hcd he hpl) fun σ H Q ⟨ρ,d,en,q,k⟩=>?_
  cases h0:lkp i ρ with
  | none=>simp [ah4,h0] at q
  | some d0=>
   cases hF:abD x d0 with
   | false=>simp [ah4,h0,hF] at q
   | true=>
    have:=agJ hF
    subst this
    cases h1:fr ρ with
    | none=>simp [ah4,h0,hF,h1] at q
    | some ds=>
     have q':g ds=some d:=by simpa [ah4,h0,hF,h1] using q
     obtain ⟨v,e1,e2⟩:=en.at' i _ (qJ h0)
     refine ⟨v,e1,ajo e2,ρ,ds,en,h1,fun vs H1 s1 r1=>?_⟩
     exact ⟨ds,d,hl ρ ds h1,by rw [List.append_nil]; exact r1,q',fun v H' s r=>k v H' (s1.trans s) r⟩
end
@[irreducible] def PAX (X:Cx) (es:List Expr) (fx:Rho->Option Str):Prop:=∀ (pos:Pos) (s:Shared) (σ:St) (H:Hp) (ρ:Rho) (c:Str),Inv X [] σ H s->EnvR X.K H ρ σ->fx ρ=some c->(∀ ev s',Thr X H c ev s'->X.xe ev s')->wpAny (model X.prog X.w) X.A (spliced (backTo pos (starEach es X.env))) (fun _ _=>False) X.xe s
section
variable {X:Cx}{e a b c:Expr}{es:List Expr}{fa:RP}{fx gx:Rho->Option Str}{pos:Pos}
theorem amo (h:PDX X e fx) (hs:starEach (e::es) X.env=(false,eval e X.env)::starEach es X.env:=by rfl):PAX X (e::es) fx:=by
 with_unfolding_all
  intro pos s σ H ρ c I en q k
  rw [hs]
  show wpAny _ _ (spliced ((false,eval e X.env)::backTo pos (starEach es X.env))) _ _ s
  exact Calls.spliced_cons (wpAny_mono (h s σ H ρ c I en q k) (fun _ _ z=>z.elim) fun _ _ z=>z)
def aoD (fa:RP) (gx:Rho->Option Str):Rho->Option Str:=fun ρ=>(fa ρ).bind fun _=>gx ρ
theorem amp (ha:PD X e fa) (h:PAX X es gx) (hs:starEach (e::es) X.env=(false,eval e X.env)::starEach es X.env:=by rfl):PAX X (e::es) (aoD fa gx):=by
 with_unfolding_all
  intro pos s σ H ρ c I en q k
  cases h1:fa ρ with
  | none=>simp [aoD,h1] at q
  | some d=>
   have q':gx ρ=some c:=by simpa [aoD,h1] using q
   rw [hs]
   show wpAny _ _ (spliced ((false,eval e X.env)::backTo pos (starEach es X.env))) _ _ s
   refine Calls.spliced_cons (wpAny_mono (ha [] s σ H (fun v H'=>jr H H'/\Rep X.K H' d v) I ⟨ρ,d,en,h1,fun v H' s1 r=>⟨s1,r⟩⟩) (fun u s1 z=>?_) fun _ _ z=>z)
   obtain ⟨v,H1,I1,_,sm,_⟩:=z
   exact wpAny_mono (h pos s1 σ H1 ρ c I1 (en.mono sm) q' fun ev s' t=>k ev s' (t.mono sm)) (fun _ _ z=>z.elim) fun _ _ z=>z
theorem amq {k n:Nat}{ps:List Str}{g:LP->OP}{x:Str}{p:Pos} (C:jm X.prog X.w X.K X.mg X.base x ps k n g) (ha:PAX X (e::es) fx)
  (hg:Gl X x:=by rfl) (hdb:(x == ("__debug__":Str))=false:=by decide) (he:starEach (e::es) X.env=(false,eval e X.env)::starEach es X.env:=by rfl)
  (hpl:(backTo pos (starEach es X.env)).any (·.1)=false:=by rfl):PDX X (.Call (.Name x p) (e::es) [] pos) fx:=by
 with_unfolding_all
  intro s σ H ρ c I en q k'
  obtain ⟨f,fd,_,hm,hk,_⟩:=C
  refine wpAny_Call_Name_kw (Qm I hg hm ?_ hdb)
  exact PySem.W.callWith_K (h₀:=X.base) I.ok.mod.kin hk (wpAny_mono (ha pos s σ H ρ c I en q k') (fun _ _ z=>z.elim) fun _ _ z=>z) he hpl
end
@[irreducible] def aqQ (X:Cx) (own:Option Nat) (st:Stmt) (fx:Rho->Option Str):Prop:=∀ (s:Shared) (σ:St) (H Hs:Hp) (ρ:Rho) (c:Str),Inv X [] σ H s->EnvO X.prog X.w X.K Hs H own ρ σ->fx ρ=some c->(∀ ev s',Thr X Hs c ev s'->X.xe ev s')->wpAny (model X.prog X.w) X.A (exec st X.env) (fun _ _=>False) X.xe s
@[irreducible] def acT (X:Cx) (own:Option Nat) (sts:List Stmt) (fx:Rho->Option Str):Prop:=∀ (s:Shared) (σ:St) (H Hs:Hp) (ρ:Rho) (c:Str),Inv X [] σ H s->EnvO X.prog X.w X.K Hs H own ρ σ->fx ρ=some c->(∀ ev s',Thr X Hs c ev s'->X.xe ev s')->wpAny (model X.prog X.w) X.A (execs sts X.env) (fun _ _=>False) X.xe s
section
variable {X:Cx}{own:Option Nat}{e a b c tg src:Expr}{es:List Expr}{st:Stmt}{sts j8 body:List Stmt}{fx gx:Rho->Option Str}{F:RO}{fa:RP}{pos:Pos}
theorem acU (h:aqQ X own st fx):acT X own (st::j8) fx:=by
 with_unfolding_all
  intro s σ H Hs ρ c I E q k
  exact wpAny_execs_cons (wpAny_mono (h s σ H Hs ρ c I E q k) (fun _ _ z=>z.elim) fun _ _ z=>z)
theorem ah5 (h1:PSO X own st F) (h2:acT X own j8 gx):acT X own (st::j8) (nxX F gx):=by
 with_unfolding_all
  intro s σ H Hs ρ c I E q k
  cases hF:F ρ with
  | none=>simp [nxX,hF] at q
  | some o=>
   cases o with
   | nx ρ'=>
    have q':gx ρ'=some c:=by simpa [nxX,hF] using q
    refine wpAny_execs_cons (wpAny_mono (h1 [] s σ H { nx:=fun σ' H'=>EnvO X.prog X.w X.K Hs H' own ρ' σ',rt:=fun _ _=>False,bk:=fun _ _=>False,ct:=fun _ _=>False } I ⟨Hs,ρ,.nx ρ',E,hF,fun σ' H' e1=>e1⟩) (fun f s1 z=>?_) fun _ _ z=>z)
    cases f with
    | next=>
     obtain ⟨σ',H',I',e1⟩:=z
     exact wpAny_mono (h2 s1 σ' H' Hs ρ' c I' e1 q' k) (fun _ _ z=>z.elim) fun _ _ z=>z
    | brk=>obtain ⟨_,_,_,z⟩:=z; exact z.elim
    | cont=>obtain ⟨_,_,_,z⟩:=z; exact z.elim
    | ret u=>obtain ⟨_,_,_,_,_,z⟩:=z; exact z.elim
   | _=>simp [nxX,hF] at q
def aqR (own:Option Nat) (fx:Rho->Option Str):Rho->Option Str:=fun ρ=>fx (hid own ρ)
theorem amr {x:Str}{pos':Pos} (h:PDX X e fx) (hs:swapsWith e (some (.Name x pos')) pos.line X.env=pure false:=by rfl):aqQ X own (.Assign [.Name x pos'] e pos) (aqR own fx):=by
 with_unfolding_all
  intro s σ H Hs ρ c I E q k
  exact wpAny_Assign_Name (wpAny_mono (h s σ H (hid own ρ) c I E.hid q fun ev s' t=>k ev s' (t.mono E.sm)) (fun _ _ z=>z.elim) fun _ _ z=>z) hs
theorem ams (h:acT X none sts fx):abN X sts fx:=by
 with_unfolding_all
  intro s σ H ρ c I en q k
  exact h s σ H H ρ c I (EnvO.of en (jr.refl H)) q k
def ah6 (i:Nat) (f:RP) (gx:Rho->Option Str):Rho->Option Str:=fun ρ=>(f ρ).bind fun d=>if i < ρ.length then gx (ρ.set i (some d)) else none
theorem akw (i:Nat) {x:Str}{pos':Pos} (hN:X.N.Nodup) (he:PN X e fa) (h:acT X (some i) j8 gx) (hi:X.N[i]?=some x:=by rfl) (hx:Loc X.env.scope x:=by first | exact Or.inl rfl | exact Or.inr rfl) (hs:swapsWith e (some (.Name x pos')) pos.line X.env=pure false:=by rfl)
  (hf:X.fn x=true ∨ X.env.scope.names.lookup x=some .local:=by first | exact .inl rfl | exact .inr rfl | assumption):acT X none (.Assign [.Name x pos'] e pos::j8) (ah6 i fa gx):=by
 with_unfolding_all
  intro s σ H Hs ρ c I E q k
  cases h1:fa ρ with
  | none=>simp [ah6,h1] at q
  | some d=>
   by_cases hl:i < ρ.length
   ·have q':gx (ρ.set i (some d))=some c:=by simpa [ah6,h1,hl] using q
    refine wpAny_execs_cons (wpAny_mono (ZX hN hi hx he hs hf [] s σ H { nx:=fun σ' H'=>EnvO X.prog X.w X.K Hs H' (some i) (ρ.set i (some d)) σ',rt:=fun _ _=>False,bk:=fun _ _=>False,ct:=fun _ _=>False } I
     ⟨ρ,d,E.to,h1,fun a H' s hn ow=>⟨by simp [E.len],E.sm.trans s,fun j y q n=>?_,fun j n=>?_⟩⟩) (fun f s1 z=>?_) fun _ _ z=>z)
    ·have hj:i ≠ j:=fun z=>n (by rw [z])
     rw [List.getElem?_set_ne hj] at q ⊢
     obtain ⟨v,g1,g2⟩:=E.pl j y q (fun z=>nomatch z)
     exact ⟨v,g1,Rep.mono s _ _ g2⟩
    ·cases n
     refine ⟨d,a,by rw [List.getElem?_set_self hl],by rw [List.getElem?_set_self (by rw [←E.len]; exact hl)],E.sm.free hn,ow⟩
    ·cases f with
     | next=>
      obtain ⟨σ',H',I',e1⟩:=z
      exact wpAny_mono (h s1 σ' H' Hs _ c I' e1 q' k) (fun _ _ z=>z.elim) fun _ _ z=>z
     | brk=>obtain ⟨_,_,_,z⟩:=z; exact z.elim
     | cont=>obtain ⟨_,_,_,z⟩:=z; exact z.elim
     | ret u=>obtain ⟨_,_,_,_,_,z⟩:=z; exact z.elim
   ·simp [ah6,h1,hl] at q
theorem Thr.unwish {W:Value->SP0}{Hb Hs:Hp}{c:Str}{ev:Value}{s':Shared} (sb:∀ H3,jr Hb H3->jr Hs H3) (h:Thr (X.wish W) Hb c ev s'):Thr X Hs c ev s':=by
 obtain ⟨e,C,σ',H',h1,h2,h3,h4,h5⟩:=h
 exact ⟨e,C,σ',H',h1,h2,h3.unwish,sb _ h4,h5.unwish⟩
def Qf (ga:PyData->Rho->Option Rho) (F:RO) (fx:Rho->Option Str):LP->Rho->Option Str
 | [],_=>none
 | d::r,ρ=>(ga d ρ).bind fun ρ1=>match F ρ1 with
  | some (.nx ρ2)=>Qf ga F fx r ρ2
  | some _=>none
  | none=>fx ρ1
def agL (fi:Rho->Option (LP)) (ga:PyData->Rho->Option Rho) (F:RO) (fx:Rho->Option Str):Rho->Option Str:=fun ρ=>(fi ρ).bind fun ds=>Qf ga F fx ds ρ
theorem amt {fi:Rho->Option (LP)}{ga:PyData->Rho->Option Rho} (T0:Top0 X) (hc:X.calm=true) (hi:∀ W,PID (X.wish W) tg src fi) (hg:∀ W,PGO (X.wish W) own tg ga) (hb:∀ W,adC (X.wish W) own body F) (hx:∀ W,acT (X.wish W) own body fx)
  (hs:∀ x,foldedSetIterable src X.env x=pure x:=by intro _; rfl):aqQ X own (.For tg src body [] pos) (agL (fun ρ=>fi (hid own ρ)) ga F fx):=by
 with_unfolding_all
  intro s σ H Hs ρ c I E q k
  cases h1:fi (hid own ρ) with
  | none=>simp [agL,h1] at q
  | some ds=>
   have q':Qf ga F fx ds ρ=some c:=by simpa [agL,h1] using q
   let W:Value->SP0:=fun ev s'=>Thr X Hs c ev s'
   have hp:PassesOwn (model X.prog X.w) X.A X.env W:=aqP (X:=X) T0 I.ok.frames fun ev s' t=>by
    obtain ⟨e,C,σ',H',h1,h2,h3,h4,h5⟩:=t
    exact ⟨e,C,σ',H',h1,h3,h5,fun s'' J xt=>⟨e,C,σ',H',h1,h2,J,h4,xt.c⟩⟩
   have hb':PSs (X.wish W) body (fun D σ H=>(∃ Hs ρ o,EnvO X.prog X.w X.K Hs H own ρ σ/\F ρ=some o/\(match o with
     | .nx ρ'=>∀ σ' H',EnvO X.prog X.w X.K Hs H' own ρ' σ'->D.nx σ' H'
     | _=>False)) ∨ ∃ Hs ρ c,EnvO X.prog X.w X.K Hs H own ρ σ/\fx ρ=some c/\∀ ev s',Thr (X.wish W) Hs c ev s'->W ev s'):=by
    intro Kp s σ H D I h
    rcases h with ⟨Hs,ρ,o,E,q,k⟩ | ⟨Hs,ρ,c,E,q,k⟩
    ·cases o with
     | nx ρ'=>exact hb W Kp s σ H D I ⟨Hs,ρ,.nx ρ',E,q,k⟩
     | _=>exact k.elim
    ·exact wpAny_mono (hx W s σ H Hs ρ c (I.pins_of fun p hp=>nomatch hp) E q k) (fun _ _ z=>z.elim) fun _ _ z=>z
   refine wpAny_mono (ZY (X:=X.wish W) hp hc (hi W) (hg W) hb' hs [] s σ H { nx:=fun _ _=>False,rt:=fun _ _=>False,bk:=fun _ _=>False,ct:=fun _ _=>False } (I.wish W)
    ⟨hid own ρ,ds,E.hid,h1,fun J H1 s1 Y=>?_⟩) (fun f s1 z=>?_) fun ev s' z=>k ev s' z
   ·obtain ⟨Hb,Eb,sE,back,sb⟩:=(E.mono s1).rebase
    refine ⟨fun i m σ H2=>m=ds.length - i/\i<=ds.length/\∃ ρ2,EnvO X.prog X.w X.K Hb H2 own ρ2 σ/\Qf ga F fx (ds.drop i) ρ2=some c,⟨ds.length,by simp,Nat.zero_le _,ρ,Eb,by simpa using q'⟩,?_⟩
    rintro i m σ2 H2 ⟨rfl,hi,ρ2,en2,q2⟩
    obtain ⟨g1,g2,g3⟩:=Y i H2 (j0.a (sE H2 en2.sm))
    by_cases hlt:i<ds.length
    ·right
     have hd:ds.drop i=ds[i]::ds.drop (i+1):=List.drop_eq_getElem_cons hlt
     rw [hd] at q2
     refine ⟨g1 hlt,fun σ3 H3=>∃ ρ3,EnvO X.prog X.w X.K Hb H3 own ρ3 σ3/\Qf ga F fx (ds.drop (i+1)) ρ3=some c,fun σ3 H3 ⟨ρ3,a2,a3⟩=>⟨ds.length - (i+1),by omega,rfl,hlt,ρ3,a2,a3⟩,fun x H3 y=>?_⟩
     obtain ⟨s3,r3⟩:=g3 x H3 y
     have r3':=r3 ds[i] (by simp [hlt])
     cases h4:ga ds[i] ρ2 with
     | none=>simp [Qf,h4] at q2
     | some ρ4=>
      refine ⟨Hb,ρ2,ds[i],ρ4,en2.mono s3,r3',h4,fun σ5 H5 en5=>?_⟩
      cases h5:F ρ4 with
      | none=>
       have q3:fx ρ4=some c:=by simpa [Qf,h4,h5] using q2
       exact .inr ⟨Hb,ρ4,c,en5,q3,fun ev s' t=>Thr.unwish sb t⟩
      | some p=>
       cases p with
       | nx ρ6=>exact .inl ⟨Hb,ρ4,.nx ρ6,en5,h5,fun σ6 H6 en6=>⟨ρ6,en6,by simpa [Qf,h4,h5] using q2⟩⟩
       | _=>simp [Qf,h4,h5] at q2
    ·exfalso
     have he:i=ds.length:=by omega
     have hn:ds.drop i=[]:=by rw [he]; simp
     rw [hn] at q2
     cases q2
   ·cases f with
    | next=>obtain ⟨_,_,_,z⟩:=z; exact z.elim
    | brk=>obtain ⟨_,_,_,z⟩:=z; exact z.elim
    | cont=>obtain ⟨_,_,_,z⟩:=z; exact z.elim
    | ret u=>obtain ⟨_,_,_,_,_,z⟩:=z; exact z.elim
end
section
variable {X:Cx}{e a b c:Expr}{es:List Expr}{st:Stmt}{sts j8:List Stmt}{fx gx:Rho->Option Str}{F:RO}{pos p:Pos}
def orX (fx gx:Rho->Option Str):Rho->Option Str:=fun ρ=>match fx ρ with
 | some c=>some c
 | none=>gx ρ
theorem zS (h1:abN X sts fx) (h2:abN X sts gx):abN X sts (orX fx gx):=by
 with_unfolding_all
  intro s σ H ρ c I en q k
  cases hf:fx ρ with
  | some c'=>
   have:c'=c:=by simpa [orX,hf] using q
   subst this
   exact h1 s σ H ρ c' I en hf k
  | none=>exact h2 s σ H ρ c I en (by simpa [orX,hf] using q) k
def acV (i:Nat) (x:Str) (g:LP->Option Str) (fr:Rho->Option (LP)):Rho->Option Str:=fun ρ=>(lkp i ρ).bind fun d=>if abD x d=true then (fr ρ).bind g else none
theorem akx {k j n:Nat} (i:Nat) {ps:List Str}{g:LP->Option Str}{x y:Str}{fr:Rho->Option (LP)} (hxe:X.ex=[]) (C:qL X.prog X.w X.K X.mg X.base x ps k n g) (hr:Room j X.A) (hkj:k<=j) (ha:PAD X (e::es) fr) (hl:∀ ρ ds,fr ρ=some ds->ds.length=n)
  (hN:X.N[i]?=some y:=by rfl) (hv:Vis X.env.scope y:=by first | exact Or.inl rfl | exact Or.inr (Or.inl rfl) | exact Or.inr (Or.inr rfl))
  (hdb:(y == ("__debug__":Str))=false:=by decide) (hcd:(y == ("__classdict__":Str))=false:=by decide) (he:starEach (e::es) X.env=(false,eval e X.env)::starEach es X.env:=by rfl)
  (hpl:(backTo pos (starEach es X.env)).any (·.1)=false:=by rfl):PDX X (.Call (.Name y p) (e::es) [] pos) (acV i x g fr):=by
 with_unfolding_all
  intro s σ H ρ c I en q k'
  obtain ⟨f,fd,F,hm,hk,hb⟩:=C
  cases h0:lkp i ρ with
  | none=>simp [acV,h0] at q
  | some d0=>
   cases hF:abD x d0 with
   | false=>simp [acV,h0,hF] at q
   | true=>
    have:=agJ hF
    subst this
    cases hd:fr ρ with
    | none=>simp [acV,h0,hF,hd] at q
    | some ds=>
     have q':g ds=some c:=by simpa [acV,h0,hF,hd] using q
     obtain ⟨v0,e1,e2⟩:=en.at' i _ (qJ h0)
     refine wpAny_Call_Name_kw (thn (JB hN hv hdb hcd [] s σ H (fun v H1=>v=v0/\H1=H) I ⟨v0,e1,rfl,rfl⟩) fun u s1 ⟨v,H1,I1,rv,ev,eH⟩=>?_)
     subst ev; subst eH
     obtain ⟨a,ea,na⟩:=ajo e2
     subst ea
     cases rv
     have hf:=(PySem.W.mg_of I1.mod.kin I1.mod.glob na).symm.trans hm
     cases hf
     refine PySem.W.callWith_K (h₀:=X.base) I1.ok.mod.kin hk (thn (ha pos [] s1 σ H1 (fun vs H2=>jr H1 H2/\Reps X.K H2 ds vs) I1 ⟨ρ,ds,en,hd,fun vs H2 s1 r1=>⟨s1,r1⟩⟩) fun us s2 ⟨vs,H2,I2,r,sm,rd⟩=>⟨I2.kIn,?_⟩) he hpl
     have hn:ds.length=n:=hl ρ ds hd
     have sp:ah1 X.K X.mg n g vs H2 (fun _ _=>False) (fun cls _ H'=>X.mg c=some cls/\jr H2 H'):=⟨ds,c,hn,rd,q',fun C H' hC s2=>⟨hC,s2⟩⟩
     have hlu:(us++[]).length=ps.length:=by rw [List.append_nil,←r.length]; exact F.len _ _ _ _ sp
     have hbd:=hb s2 us I2.kIn hlu
     rw [List.append_nil] at hbd
     refine wpAny_call (codeAny_mono (F.run X.A X.stack s2 H2 ⟨us,[]⟩ us vs _ _ (hr.mono hkj) I2.env0 hbd r sp) fun rs s' hq=>?_)
     cases rs with
     | error ev=>
      obtain ⟨e0,C,H',rfl,os,bare,un,hok,xc,hC,sm2⟩:=hq
      have J':Inv X [] σ H' s':=I2.call' (ch:=[]) os un hok bare fun b z=>nomatch z
      exact k' _ _ ⟨e0,C,σ,H',rfl,hC,J',sm.trans sm2,Xc.of hxe I2 xc⟩
     | ok fl=>
      cases fl with
      | ret u=>obtain ⟨v,H',_,_,_,_,_,z⟩:=hq; exact z.elim
      | next=>exact False.elim hq
      | brk=>exact False.elim hq
      | cont=>exact False.elim hq
end
section
variable {X:Cx}{a b c:Expr}{tc ta tb:Rho->Option Bool}{pos:Pos}
end
section
variable {X:Cx}{a b:Expr}{fa fb:RP}
end
structure RoomH (k:Nat) (A:Around):Prop where
 dp:A.depth+3*k+5<recursionLimit
 un:A.units+16*k+200<cLine
theorem RoomH.deeper {k:Nat}{A:Around} (r:RoomH (k+1) A) (env:Env):RoomH k (A.deeper env):=
 ⟨by have:=r.dp; show A.depth+1+3*k+5<_; omega,by have:=r.un; show A.units+3+16*k+200<_; omega⟩
theorem RoomH.mark {k:Nat}{A:Around}{v:Option Value} (r:RoomH k A):RoomH k (A.mark v):=⟨r.dp,r.un⟩
structure FnH (P:Program) (w:World) (K:Fg) (mg:SV) (base:Heap) (k:Nat) (f:Addr) (fd:FuncData) (ps:List Str) (sp:Sp):Prop where
 len:∀ vs H Q E,sp vs H Q E->vs.length=ps.length
 run:∀ (A:Around) (Ko:List Env) (s:Shared) (H:Hp) (args:Args) (us:List Value) (vs:List V) (Q:VK) (E:XK),RoomH k A->Env0 P w K mg base A Ko s H->BindsTo s fd args (ps.zip us)->jJ vs us->sp vs H Q E->
  codeAny (model P w) A (.call (.ref f) args) (CR CX0 Ko P w H s Q E) s
def asT (P:Program) (w:World) (K:Fg) (mg:SV) (base:Heap) (x:Str) (ps:List Str) (k n:Nat) (g:LP->OP):Prop:=
 ∃ (f:Addr) (fd:FuncData),FnH P w K mg base k f fd ps (Pur K n g)/\mg x=some (.ref f)/\PySem.W.keepIn K (.ref f)=true/\Jl K fd ps []
section
variable {P:Program}{w:World}{K:Fg}{mg:SV}{base:Heap}
end
section
variable {X:Cx}{e:Expr}{es:List Expr}{pos:Pos}
end
structure ExcK (K:Fg) (C:Addr):Prop where
 exc:PySem.W.excIn K C vB "ValueError.__new__"=true
 ga:PySem.W.findIn K (.ref C) "__getattribute__"=some (some (.builtin "BaseException.__getattribute__"))
 gt:PySem.W.findIn K (.ref C) "__getattr__"=some none
 cl:PySem.W.findIn K (.ref C) "__class__"=some (some (.builtin "object.__class__"))
 mo:PySem.W.mroIn K C (.type "object")=some true
 mb:PySem.W.mroIn K C (.type "BaseException")=some true
structure ClsG (K:Fg):Prop where
 gt:PySem.W.specialIn K (.builtin "object.__class__") "__get__"=some (some (.builtin "getset_descriptor.__get__"))
 tk:PySem.W.takesIn K (.builtin "object.__class__")=some true
section
variable {prog:Program}{w:World}{A:Around}{E:Value->SP0}{s:Shared}{K:Fg}{a C:Addr}{oe:Obj}
end
noncomputable def adr (K:Fg) (c:Str):Option Addr:=match PySem.W.nsIn K mainGlobals c with
 | some (some (.ref C))=>some C
 | _=>none
theorem aoE {K:Fg}{c:Str}{C:Addr} (h:adr K c=some C):PySem.W.nsIn K mainGlobals c=some (some (.ref C)):=by
 unfold adr at h
 split at h
 ·rename_i q; cases h; exact q
 ·cases h
def aqS (K:Fg) (C:Addr):Bool:=PySem.W.excIn K C vB "ValueError.__new__" && ((PySem.W.findIn K (.ref C) "__getattribute__" == some (some (.builtin "BaseException.__getattribute__"))) && ((PySem.W.findIn K (.ref C) "__getattr__" == some none) && ((PySem.W.findIn K (.ref C) "__class__" == some (some (.builtin "object.__class__"))) && ((PySem.W.mroIn K C (.type "object") == some true) && (PySem.W.mroIn K C (.type "BaseException") == some true)))))
theorem amu {K:Fg}{C:Addr} (h:aqS K C=true):ExcK K C:=by
 unfold aqS at h
 simp only [Bool.and_eq_true,beq_iff_eq] at h
 obtain ⟨h1,h2,h3,h4,h5,h6⟩:=h
 exact ⟨h1,h2,h3,h4,h5,h6⟩
def ae4 (K:Fg) (y:Str) (cs:List Str):Bool:=(PySem.W.specialIn K (.builtin "object.__class__") "__get__" == some (some (.builtin "getset_descriptor.__get__"))) && ((PySem.W.takesIn K (.builtin "object.__class__") == some true) && (match adr K y with
 | none=>false
 | some B=>(PySem.W.typeIn K (.ref B) == some (.type "type")) && ((PySem.W.mroIn K B (.type "BaseException") == some true) && cs.all fun c=>match adr K c with
  | none=>false
  | some C=>aqS K C && ((PySem.W.mroIn K C (.ref B) == some true) && ((PySem.W.kitOne K (.ref C) (.type "ValueError") == some true) && cs.all fun d=>match adr K d with
   | none=>false
   | some D=>PySem.W.kitOne K (.ref C) (.ref D) == some (c == d))))))
structure ErrT (K:Fg) (mg:SV) (y:Str) (cs:List Str):Prop where
 tab:ae4 K y cs=true
 mgs:∀ c C,adr K c=some C->mg c=some (.ref C)
section
variable {K:Fg}{mg:SV}{y:Str}{cs:List Str}
theorem ErrT.g (h:ErrT K mg y cs):ClsG K:=by
 have:=h.tab
 unfold ae4 at this
 simp only [Bool.and_eq_true,beq_iff_eq] at this
 exact ⟨this.1,this.2.1⟩
theorem ErrT.par (h:ErrT K mg y cs):∃ B,adr K y=some B/\mg y=some (.ref B)/\PySem.W.typeIn K (.ref B)=some (.type "type")/\PySem.W.mroIn K B (.type "BaseException")=some true/\
  ∀ c ∈ cs,∃ C,adr K c=some C/\mg c=some (.ref C)/\ExcK K C/\PySem.W.mroIn K C (.ref B)=some true/\PySem.W.kitOne K (.ref C) (.type "ValueError")=some true/\∀ d ∈ cs,∃ D,adr K d=some D/\mg d=some (.ref D)/\PySem.W.kitOne K (.ref C) (.ref D)=some (c == d):=by
 have q:=h.tab
 unfold ae4 at q
 simp only [Bool.and_eq_true,beq_iff_eq] at q
 obtain ⟨_,_,q⟩:=q
 cases hB:adr K y with
 | none=>rw [hB] at q; cases q
 | some B=>
  rw [hB] at q
  simp only [Bool.and_eq_true,beq_iff_eq,List.all_eq_true] at q
  obtain ⟨q1,q2,q3⟩:=q
  refine ⟨B,rfl,h.mgs y B hB,q1,q2,fun c hc=>?_⟩
  have z:=q3 c hc
  cases hC:adr K c with
  | none=>rw [hC] at z; cases z
  | some C=>
   rw [hC] at z
   simp only [Bool.and_eq_true,beq_iff_eq,List.all_eq_true] at z
   obtain ⟨z1,z2,z3,z4⟩:=z
   refine ⟨C,rfl,h.mgs c C hC,amu z1,z2,z3,fun d hd=>?_⟩
   have v:=z4 d hd
   cases hD:adr K d with
   | none=>rw [hD] at v; cases v
   | some D=>
    rw [hD] at v
    exact ⟨D,rfl,h.mgs d D hD,beq_iff_eq.mp v⟩
theorem ErrT.err (h:ErrT K mg y cs) {c:Str} (hc:c ∈ cs):Z5 K mg c:=by
 obtain ⟨B,_,_,_,_,q⟩:=h.par
 obtain ⟨C,_,q2,q3,_⟩:=q c hc
 exact ⟨C,q2,q3.exc⟩
end
noncomputable def asl:PyData->Option Str
 | .dict [(.str c,.bool true)]=>some c
 | _=>none
@[simp] theorem aqT (c:Str):asl (atl c)=some c:=rfl
section
variable {X:Cx}{a:Expr}{fa:RP}{pos p p2:Pos}{y:Str}{cs:List Str}
end
section
variable {X:Cx}{σ:St}{H:Hp}{s:Shared}{e C:Addr}
theorem Inv.take {oe:Obj} (I:Inv X [] σ H s) (m:Mine X H e) (he:s.heap.get? e=some oe):Inv X [] σ (upd H e (.frz oe (.own e))) s/\jr H (upd H e (.frz oe (.own e))):=by
 have ne:∀ b o,H b=some o->b ≠ e:=fun b o q z=>by subst z; rw [m.un] at q; cases q
 have sm:jr H (upd H e (.frz oe (.own e))):=fun b o q=>by rw [jq (ne b o q)]; exact q
 have u:Un (frs X.stack) [e] H (upd H e (.frz oe (.own e))) s.heap s.heap:=⟨fun b o q _ _ _=>q,fun b o q _ _ _=>⟨o.slots,q⟩,fun b o q n nc=>by rw [jq (fun z=>nc (by simp [z]))]; exact n,fun b o q _=>⟨o,q⟩,fun b xs q=>sm b _ q,fun b o v q=>sm b _ q,fun b ps q=>⟨#[],by rw [sm b _ q]; simp⟩⟩
 have hok:HOk X.prog X.w (upd H e (.frz oe (.own e))) s.heap:=fun b o q=>by
  by_cases hb:b=e
  ·subst hb
   rw [jn] at q; cases q
   exact ⟨he,_,he⟩
  ·rw [jq hb] at q
   exact (I.hok b o q).stay (fun c v hc r=>r) (fun c r=>sm _ _ r) fun c v r=>sm _ _ r
 refine ⟨?_,sm⟩
 have J:=Inv.call (X:={ X with ex:=[e]++X.ex }) (g':=s.gens) (d':=s.drawn) (t':=s.toks) (Inv.exIn I fun b hb=>by rw [List.mem_singleton.mp hb]; exact ⟨m.new,m.loc,m.cel⟩) u hok I.bare fun b hb=>by
  rw [List.mem_singleton.mp hb]
  exact ⟨.inl (List.mem_append_left _ (by simp)),m.loc,m.cel,fun p hp=>m.pin p (by simpa using hp)⟩
 exact Inv.exOut J I.ok fun b hb=>by rw [List.mem_singleton.mp hb]; exact m.new
end
section
variable {X:Cx}{st b0:Stmt}{sts j8 tb hb:List Stmt}{F G:RO}{fx:Rho->Option Str}{pos:Pos}
end
noncomputable abbrev atp:=Int × (Int × Int)
structure TripAt (h:Heap) (u:Value) (t:atp):Prop where
 ex:∃ a o k tk a2,u= .ref a/\h.get? a=some o/\o.cls= .type "tuple"/\o.data= .seq #[.int t.1 tk,.ref a2] k/\PairAt h (.ref a2) t.2
section
variable {X:Cx}
theorem amv {Kp:List (Addr × Obj)}{σ:St}{H:Hp}{s:Shared}{a:Addr}{o:Obj}{xs:Array Value}{k:Nat} (I:Inv X Kp σ H s) (eo:s.heap.get? a=some o) (dk:o.data= .seq xs k):a ≠ X.env.locals:=fun z=>by
 obtain ⟨_,⟨o',es,ep,h1,h2,_⟩,_⟩:=I.loc
 rw [z] at eo; rw [eo] at h1; cases h1
 rw [dk] at h2; cases h2
theorem aoF {Kp:List (Addr × Obj)}{σ:St}{H:Hp}{s:Shared}{v:V}{p:Int × Int}{u:Value}{h':Heap} (I:Inv X Kp σ H s) (r:Rep X.K H (al8 p) v) (rv:jV v u) (kp:∀ b o,b ≠ X.env.locals->s.heap.get? b=some o->h'.get? b=some o):∃ a,u= .ref a/\PairAt h' u p:=by
 obtain ⟨a2,ws,e2,e3,x1,r1,e4,e5,x2,r2,e6,e7,e8⟩:=r
 cases (show x1=_ from e5)
 cases (show x2=_ from e7)
 cases (show r2=[] from e8)
 subst e6; subst e4; subst e2
 cases rv
 obtain ⟨its,r3,⟨o,eo,co,k,dk⟩,_⟩:=I.tuple e3
 cases r3 with
 | cons y1 r3=>
  cases r3 with
  | cons y2 r3=>
   cases r3
   obtain ⟨t,rfl⟩:=y1
   obtain ⟨t',rfl⟩:=y2
   exact ⟨a2,rfl,a2,o,k,t,t',rfl,kp a2 o (amv I eo dk) eo,co,by simpa using dk⟩
end
section
variable {α:Type}
noncomputable def aky (rk:α->Int) (p:α):List α->List α
 | []=>[p]
 | q::r=>if rk p<=rk q then p::q::r else q::aky rk p r
def acW (rk:α->Int):List α->List α
 | []=>[]
 | p::r=>aky rk p (acW rk r)
theorem abd (rk:α->Int) (p:α):∀ l,(aky rk p l).Perm (p::l)
 | []=>List.Perm.refl _
 | q::r=>by
  unfold aky
  split
  ·exact List.Perm.refl _
  ·exact ((abd rk p r).cons q).trans (List.Perm.swap p q r)
theorem acX (rk:α->Int):∀ l,(acW rk l).Perm l
 | []=>List.Perm.refl _
 | p::r=>(abd rk p _).trans ((acX rk r).cons p)
theorem abE (rk:α->Int) (p:α):∀ l,l.Pairwise (fun a b=>rk a<=rk b)->(aky rk p l).Pairwise (fun a b=>rk a<=rk b)
 | [],_=>List.pairwise_singleton _ _
 | q::r,h=>by
  have hq:=List.pairwise_cons.mp h
  unfold aky
  split
  ·rename_i hle
   refine List.pairwise_cons.mpr ⟨fun b hb=>?_,h⟩
   rcases List.mem_cons.mp hb with rfl | hb
   ·exact hle
   ·exact Int.le_trans hle (hq.1 b hb)
  ·rename_i hle
   refine List.pairwise_cons.mpr ⟨fun b hb=>?_,abE rk p r hq.2⟩
   rcases List.mem_cons.mp ((abd rk p r).mem_iff.mp hb) with rfl | hb
   ·omega
   ·exact hq.1 b hb
theorem aav (rk:α->Int):∀ l,(acW rk l).Pairwise (fun a b=>rk a<=rk b)
 | []=> .nil
 | p::r=>abE rk p _ (aav rk r)
theorem abF {rk:α->Int}:∀ {l l':List α},l.Pairwise (fun a b=>rk a<=rk b)->l'.Pairwise (fun a b=>rk a<=rk b)->l.Perm l'->(∀ p ∈ l,∀ q ∈ l,rk p=rk q->p=q)->l=l'
 | [],l',_,_,hp,_=>hp.nil_eq
 | a::l,[],_,_,hp,_=>by have:=hp.length_eq; simp at this
 | a::l,b::l',h1,h2,hp,hb=>by
  have h1':=List.pairwise_cons.mp h1
  have h2':=List.pairwise_cons.mp h2
  have hab:a=b:=by
   have ha:a ∈ b::l':=hp.mem_iff.mp List.mem_cons_self
   have hb':b ∈ a::l:=hp.mem_iff.mpr List.mem_cons_self
   rcases List.mem_cons.mp ha with e | ha'
   ·exact e
   ·rcases List.mem_cons.mp hb' with e | hb''
    ·exact e.symm
    ·exact hb a List.mem_cons_self b hb' (Int.le_antisymm (h1'.1 b hb'') (h2'.1 a ha'))
  subst hab
  rw [abF h1'.2 h2'.2 (List.Perm.cons_inv hp) fun p hp q hq=>hb p (List.mem_cons_of_mem _ hp) q (List.mem_cons_of_mem _ hq)]
end
section
variable {X:Cx}{e a b c:Expr}{es j8:List Expr}{st:Stmt}{sts srest:List Stmt}{fx gx:Rho->Option Str}{fa fb:RP}{F:RO}{pos:Pos}
theorem aqU (h1:PSX X st fx) (h2:PSX X st gx):PSX X st (orX fx gx):=by
 with_unfolding_all
  intro s σ H ρ c I en q k
  cases hf:fx ρ with
  | some c'=>
   have:c'=c:=by simpa [orX,hf] using q
   subst this
   exact h1 s σ H ρ c' I en hf k
  | none=>exact h2 s σ H ρ c I en (by simpa [orX,hf] using q) k
noncomputable def items:PyData->Option (LP)
 | .list ds=>some ds
 | .tuple ds=>some ds
 | _=>none
def itS (fa:RP):Rho->Option (LP):=fun ρ=>(fa ρ).bind items
theorem aoG {tg:Expr} (h:PD X e fa):PID X tg e (itS fa):=by
 with_unfolding_all
  intro Kp s σ H R I ⟨ρ,ds,en,q,k⟩
  cases hf:fa ρ with
  | none=>simp [itS,hf] at q
  | some d=>
   have q':items d=some ds:=by simpa [itS,hf] using q
   cases d with
   | list es=>
    cases q'
    exact QT (tg:=tg) h Kp s σ H R I ⟨ρ,ds,en,by simp [itL,hf,QS],k⟩
   | tuple es=>
    cases q'
    exact aeR (tg:=tg) h Kp s σ H R I ⟨ρ,ds,en,by simp [itT,hf,aa5],k⟩
   | _=>cases q'
end
theorem _root_.L2.Room.units1 {k:Nat}{A:Around} (r:Room k A):A.units+1<cLine:=by have:=r.un; omega
theorem RoomH.units {k:Nat}{A:Around} (r:RoomH k A):A.units+64<cLine:=by have:=r.un; omega
theorem RoomH.mono {j k:Nat}{A:Around} (r:RoomH k A) (h:j<=k):RoomH j A:=⟨by have:=r.dp; omega,by have:=r.un; omega⟩
section
variable {X:Cx}{a b:Expr}{pos:Pos}
end
@[irreducible] def PTX (X:Cx) (e:Expr) (fx:Rho->Option Str):Prop:=∀ (s:Shared) (σ:St) (H:Hp) (ρ:Rho) (c:Str),Inv X [] σ H s->EnvR X.K H ρ σ->fx ρ=some c->(∀ ev s',Thr X H c ev s'->X.xe ev s')->wpAny (model X.prog X.w) X.A (isTrue e X.env (eval e X.env)) (fun _ _=>False) X.xe s
section
variable {X:Cx}{e a b c:Expr}{l r:List Stmt}{fx gx:Rho->Option Str}{pos:Pos}
theorem aoH (h:PDX X e fx) (he:∀ whole,isTrue e X.env whole=(do let v ←whole; standAt e.pos; holding [v] (truthy v)):=by intro _; rfl):PTX X e fx:=by
 with_unfolding_all
  intro s σ H ρ c I en q k
  exact isTrue_plain (wpAny_mono (h s σ H ρ c I en q k) (fun _ _ z=>z.elim) fun _ _ z=>z) (he _)
theorem aoI (h:PTX X e fx):PTX X (.UnaryOp .Not e pos) fx:=by
 with_unfolding_all
  intro s σ H ρ c I en q k
  exact isTrue_not (wpAny_mono (h s σ H ρ c I en q k) (fun _ _ z=>z.elim) fun _ _ z=>z)
theorem aoJ (h:PTX X e fx):PSX X (.If e l r pos) fx:=by
 with_unfolding_all
  intro s σ H ρ c I en q k
  exact wpAny_If (wpAny_mono (h s σ H ρ c I en q k) (fun _ _ z=>z.elim) fun _ _ z=>z)
end
section
variable {X:Cx}{own:Option Nat}{tg:Expr}{st:Stmt}{sts:List Stmt}{fx:Rho->Option Str}{F:RO}
end
section
variable {X:Cx}{a i e:Expr}{es:List Expr}{pos fp:Pos}
end
section
variable {X:Cx}{own:Option Nat}{e a b c:Expr}{es:List Expr}{st:Stmt}{sts j8:List Stmt}{fa fb fc:RP}{F G:RO}{pos:Pos}
end
section
variable {X:Cx}{tg src:Expr}{pos pos':Pos}{own:Option Nat}
end
def asm (ps:List (Int × Int)):PyData:= .tuple (ps.map al8)
noncomputable def aaw (h:Heap):List Value->List (Int × Int)->Prop
 | [],ps=>ps=[]
 | v::vs,ps=>∃ p r a,ps=p::r/\v= .ref a/\PairAt h (.ref a) p/\aaw h vs r
theorem aaw.len {h:Heap}:∀ {vs:List Value}{ps:List (Int × Int)},aaw h vs ps->vs.length=ps.length
 | [],ps,e=>by cases (show ps=[] from e); rfl
 | v::vs,ps,⟨p,r,a,e,_,_,k⟩=>by rw [e,List.length_cons,List.length_cons,k.len]
structure SetAt (h:Heap) (u:Value) (ps:List (Int × Int)):Prop where
 ex:∃ a o k vs,u= .ref a/\h.get? a=some o/\o.cls= .type "tuple"/\o.data= .seq (List.toArray vs) k/\aaw h vs ps
section
variable {X:Cx}
theorem agM {Kp:List (Addr × Obj)}{σ:St}{H:Hp}{s:Shared}{h':Heap} (I:Inv X Kp σ H s) (kp:∀ b o,b ≠ X.env.locals->s.heap.get? b=some o->h'.get? b=some o):∀ (ps:List (Int × Int)) (xs:List V) (us:List Value),Reps X.K H (ps.map al8) xs->jJ xs us->aaw h' us ps
 | [],xs,us,r,v=>by
  cases (show xs=[] from r)
  cases v
  rfl
 | p::ps,xs,us,r,v=>by
  obtain ⟨x,q,rfl,e2,e3⟩:=r
  cases v with
  | cons y v=>
   obtain ⟨a,rfl,pp⟩:=aoF I e2 y kp
   exact ⟨p,ps,a,rfl,rfl,pp,agM I kp ps _ _ e3 v⟩
theorem qU {Kp:List (Addr × Obj)}{σ:St}{H:Hp}{s:Shared}{v:V}{p:List (Int × Int)}{u:Value}{h':Heap} (I:Inv X Kp σ H s) (r:Rep X.K H (asm p) v) (rv:jV v u) (kp:∀ b o,b ≠ X.env.locals->s.heap.get? b=some o->h'.get? b=some o):SetAt h' u p:=by
 obtain ⟨a2,ws,e2,e3,e4⟩:=r
 subst e2
 cases rv
 obtain ⟨its,r3,⟨o,eo,co,k,dk⟩,_⟩:=I.tuple e3
 exact ⟨a2,o,k,its,rfl,kp a2 o (amv I eo dk) eo,co,dk,agM I kp p ws its e4 r3⟩
end
set_option maxHeartbeats 4000000 in
section
variable {X:Cx}
end
section
variable {prog:Program}{w:World}{A:Around}{E:Value->SP0}{s:Shared}
end
section
variable {X:Cx}{a:Expr}{fa:RP}{pos p1 p2 p3:Pos}{j:Nat}
theorem Reps.rev {K:Fg}{H:Hp}{ds:LP}{xs:List V} (h:Reps K H ds xs):Reps K H ds.reverse xs.reverse:=by
 have app:∀ {as bs:LP} {us vs:List V},Reps K H as us->Reps K H bs vs->Reps K H (as++bs) (us++vs):=by
  intro as
  induction as with
  | nil=>intro bs us vs h1 h2; cases (show us=[] from h1); exact h2
  | cons d as ih=>
   intro bs us vs ⟨x,r,e,h1,h2⟩ h3
   subst e
   exact ⟨x,r++vs,rfl,h1,ih h2 h3⟩
 induction ds generalizing xs with
 | nil=>cases (show xs=[] from h); rfl
 | cons d ds ih=>
  obtain ⟨x,r,rfl,h1,h2⟩:=h
  rw [List.reverse_cons,List.reverse_cons]
  exact app (ih h2) ⟨x,[],rfl,h1,rfl⟩
end
section
variable {X:Cx}{e b ev:Expr}{j8:List Stmt}{fe fk fv:RP}{G:RO}{pos pos2:Pos}
end
section
variable {X:Cx}
end
section
variable {X:Cx}{σ:St}{H:Hp}{s:Shared}{h':Heap}{e C:Addr}{E:Value->SP0}{A:Around}
end
section
variable {X:Cx}{e a b c:Expr}{es:List Expr}{pos:Pos}
end
section
variable {prog:Program}{w:World}{A:Around}{s:Shared}{R:Result->SP0}
end
section
variable {X:Cx}{tg src:Expr}
end
section
variable {X:Cx}{e:Expr}{st:Stmt}{j8:List Stmt}{fa:RP}{G F:RO}{pos:Pos}
end
section
variable {X:Cx}{e a b c:Expr}{fa fb fc:RP}{pos p2:Pos}
end
section
variable {X:Cx}{own:Option Nat}{e a b c tg src:Expr}{body:List Stmt}{F:RO}{pos:Pos}
variable {es:List Expr}
end
inductive Cell where
 | lst (ds:LP)
 | ins (x:Str) (fs:List (Str × PyData))
noncomputable abbrev jx:=Addr->Option Cell
def zZ (μ:jx) (a:Addr) (c:Cell):jx:=fun b=>if b=a then some c else μ b
theorem jD {μ:jx}{a:Addr}{c:Cell}:zZ μ a c a=some c:=if_pos rfl
theorem jB {μ:jx}{a b:Addr}{c:Cell} (h:b ≠ a):zZ μ a c b=μ b:=if_neg h
def Qg (K:Fg) (H:Hp):List (Str × PyData)->List (Str × V)->Prop
 | [],vs=>vs=[]
 | (f,d)::fs,vs=>∃ v r,vs=(f,v)::r/\Rep K H d v/\Qg K H fs r
noncomputable def aoK (f:Str) (d:PyData):List (Str × PyData)->List (Str × PyData)
 | []=>[(f,d)]
 | (k,x)::r=>if k=f then (k,d)::r else (k,x)::aoK f d r
section
variable {K:Fg}{H H':Hp}
theorem Qg.monoA (s:jy H H'):∀ {fs:List (Str × PyData)}{vs:List (Str × V)},Qg K H fs vs->Qg K H' fs vs
 | [],_,h=>h
 | (f,d)::fs,_,⟨v,r,h1,h2,h3⟩=>⟨v,r,h1,Rep.monoA s d v h2,Qg.monoA s h3⟩
theorem Qg.length:∀ {fs:List (Str × PyData)}{vs:List (Str × V)},Qg K H fs vs->vs.length=fs.length
 | [],_,h=>by cases h; rfl
 | (f,d)::fs,_,⟨v,r,h1,h2,h3⟩=>by subst h1; simp [Qg.length h3]
theorem Qg.look {f:Str}{d:PyData}:∀ {fs:List (Str × PyData)}{vs:List (Str × V)},Qg K H fs vs->fs.lookup f=some d->∃ v,vs.lookup f=some v/\Rep K H d v
 | [],_,_,q=>by cases q
 | (k,x)::fs,_,⟨v,r,h1,h2,h3⟩,q=>by
  subst h1
  simp only [List.lookup] at q ⊢
  cases hb:f == k with
  | true=>rw [hb] at q; cases q; exact ⟨v,rfl,h2⟩
  | false=>rw [hb] at q; exact Qg.look h3 q
theorem Qg.lookN {f:Str}:∀ {fs:List (Str × PyData)}{vs:List (Str × V)},Qg K H fs vs->fs.lookup f=none->vs.lookup f=none
 | [],_,h,q=>by cases h; rfl
 | (k,x)::fs,_,⟨v,r,h1,h2,h3⟩,q=>by
  subst h1
  simp only [List.lookup] at q ⊢
  cases hb:f == k with
  | true=>rw [hb] at q; cases q
  | false=>rw [hb] at q; exact Qg.lookN h3 q
theorem Qg.put {f:Str}{d:PyData}{v:V} (rv:Rep K H d v):∀ {fs:List (Str × PyData)}{vs:List (Str × V)},Qg K H fs vs->Qg K H (aoK f d fs) (Qp f v vs)
 | [],_,h=>by cases h; exact ⟨v,[],rfl,rv,rfl⟩
 | (k,x)::fs,_,⟨w,r,h1,h2,h3⟩=>by
  subst h1
  show Qg K H (if k=f then (k,d)::fs else (k,x)::aoK f d fs) (if k=f then (k,v)::r else (k,w)::Qp f v r)
  by_cases hk:k=f
  ·rw [if_pos hk,if_pos hk]; exact ⟨v,r,rfl,rv,h3⟩
  ·rw [if_neg hk,if_neg hk]; exact ⟨w,_,rfl,h2,Qg.put rv h3⟩
end
def Q4 (K:Fg) (H:Hp) (a:Addr):Cell->Prop
 | .lst ds=>∃ xs,H a=some (qk a xs)/\Reps K H ds xs
 | .ins x fs=>∃ C dx vs,PySem.W.nsIn K mainGlobals x=some (some (.ref C))/\H a=some (.ins C dx vs)/\Qg K H fs vs
def qf (K:Fg) (H:Hp) (μ:jx):Prop:=∀ a c,μ a=some c->Q4 K H a c
section
variable {K:Fg}{H H':Hp}{μ:jx}{a:Addr}{c:Cell}{ρ:Rho}{σ:St}
theorem EnvR.monoA (e:EnvR K H ρ σ) (h:jy H H'):EnvR K H' ρ σ:=⟨e.len,fun i d q=>let ⟨v,e1,e2⟩:=e.at' i d q; ⟨v,e1,Rep.monoA h d v e2⟩⟩
theorem Q4.to (h:Q4 K H a c) (s:jy H H') (e:H' a=H a):Q4 K H' a c:=by
 cases c with
 | lst ds=>obtain ⟨xs,h1,h2⟩:=h; exact ⟨xs,e.trans h1,Reps.monoA s _ _ h2⟩
 | ins x fs=>obtain ⟨C,dx,vs,h1,h2,h3⟩:=h; exact ⟨C,dx,vs,h1,e.trans h2,h3.monoA s⟩
theorem Q4.there (h:Q4 K H a c):∃ o,H a=some o/\alO o=false:=by
 cases c with
 | lst ds=>obtain ⟨xs,h1,h2⟩:=h; exact ⟨_,h1,rfl⟩
 | ins x fs=>obtain ⟨C,dx,vs,h1,h2,h3⟩:=h; exact ⟨_,h2,rfl⟩
theorem qf.mono (cs:qf K H μ) (s:jr H H'):qf K H' μ:=fun a c h=>by
 obtain ⟨o,h1,_⟩:=(cs a c h).there
 exact (cs a c h).to (jr.a s) ((s _ _ h1).trans h1.symm)
theorem qf.free (cs:qf K H μ) (h:H a=none):μ a=none:=by
 cases q:μ a with
 | none=>rfl
 | some c=>obtain ⟨o,h1,_⟩:=(cs a c q).there; rw [h] at h1; cases h1
theorem qf.put (cs:qf K H μ) (s:jy H H') (k:∀ b,b ≠ a->∀ o,H b=some o->H' b=some o) (new:Q4 K H' a c):qf K H' (zZ μ a c):=fun b d h=>by
 by_cases hb:b=a
 ·subst hb; rw [jD] at h; cases h; exact new
 ·rw [jB hb] at h
  obtain ⟨o,h1,_⟩:=(cs b d h).there
  exact (cs b d h).to s ((k b hb o h1).trans h1.symm)
theorem qf.upd {o:HO} (cs:qf K H μ) (s:jy H (L2.upd H a o)) (new:Q4 K (L2.upd H a o) a c):qf K (L2.upd H a o) (zZ μ a c):=
 cs.put s (fun b hb o h=>by rw [jq hb]; exact h) new
theorem jy.upd {o u:HO} (h:H a=some u) (hu:alO u=false):jy H (L2.upd H a o):=fun b x q d=>by
 have:b ≠ a:=fun z=>by subst z; rw [h] at q; cases q; rw [hu] at d; cases d
 rw [jq this]; exact q
end
inductive Res (α:Type) where
 | ok (d:α) | er (c:Str)
abbrev TR (α:Type):=Rho->jx->(Res α->jx->Prop)->Prop
inductive OutC where
 | nx (ρ:Rho) | rt (d:PyData) | bk (ρ:Rho) | ct (ρ:Rho) | er (c:Str)
abbrev TRS:=Rho->jx->(OutC->jx->Prop)->Prop
def ae5 (X:Cx) (H:Hp) (μ:jx) (c:Str) (ev:Value) (s':Shared):Prop:=∃ e C σ' H',ev= .ref e/\X.mg c=some (.ref C)/\Inv X [] σ' H' s'/\jy H H'/\qf X.K H' μ/\Xc X H' s'.heap e C
theorem ae5.mono {X:Cx}{H H1:Hp}{μ:jx}{c:Str}{ev:Value}{s':Shared} (s:jy H H1) (h:ae5 X H1 μ c ev s'):ae5 X H μ c ev s':=by
 obtain ⟨e,C,σ',H',h1,h2,h3,h4,h5⟩:=h
 exact ⟨e,C,σ',H',h1,h2,h3,s.trans h4,h5⟩
def zK {α:Type} (X:Cx) (H:Hp) (P:α->Hp->Prop):Res α->jx->Prop
 | .ok d,μ=>∀ H',jy H H'->qf X.K H' μ->P d H'
 | .er c,μ=>∀ ev s',ae5 X H μ c ev s'->X.xe ev s'
def zL (X:Cx) (H:Hp) (D:Ends):OutC->jx->Prop
 | .nx ρ,μ=>∀ σ H',jy H H'->EnvR X.K H' ρ σ->qf X.K H' μ->D.nx σ H'
 | .rt d,μ=>∀ v H',jy H H'->Rep X.K H' d v->qf X.K H' μ->D.rt v H'
 | .bk ρ,μ=>∀ σ H',jy H H'->EnvR X.K H' ρ σ->qf X.K H' μ->D.bk σ H'
 | .ct ρ,μ=>∀ σ H',jy H H'->EnvR X.K H' ρ σ->qf X.K H' μ->D.ct σ H'
 | .er c,μ=>∀ ev s',ae5 X H μ c ev s'->X.xe ev s'
section
variable {X:Cx}{α β:Type}{H H1:Hp}{σ:St}
theorem zK.mono {P:α->Hp->Prop}{o:Res α}{μ:jx} (h:zK X H P o μ) (s:jy H H1):zK X H1 P o μ:=by
 cases o with
 | ok d=>exact fun H' s1 c=>h H' (s.trans s1) c
 | er c=>exact fun ev s' t=>h ev s' (t.mono s)
theorem zL.mono {D:Ends}{o:OutC}{μ:jx} (h:zL X H D o μ) (s:jy H H1):zL X H1 D o μ:=by
 cases o with
 | nx ρ=>exact fun σ H' s1 e c=>h σ H' (s.trans s1) e c
 | rt d=>exact fun v H' s1 e c=>h v H' (s.trans s1) e c
 | bk ρ=>exact fun σ H' s1 e c=>h σ H' (s.trans s1) e c
 | ct ρ=>exact fun σ H' s1 e c=>h σ H' (s.trans s1) e c
 | er c=>exact fun ev s' t=>h ev s' (t.mono s)
def AtC (X:Cx) (σ:St) (H:Hp) (T:TR α) (P:α->Hp->Prop):Prop:=∃ ρ μ R,EnvR X.K H ρ σ/\qf X.K H μ/\T ρ μ R/\∀ o μ',R o μ'->zK X H P o μ'
def AtS (X:Cx) (σ:St) (H:Hp) (T:TRS) (D:Ends):Prop:=∃ ρ μ R,EnvR X.K H ρ σ/\qf X.K H μ/\T ρ μ R/\∀ o μ',R o μ'->zL X H D o μ'
def bindC (T:TR α) (k:α->TR β):TR β:=fun ρ μ R=>T ρ μ fun o μ'=>match o with
 | .ok d=>k d ρ μ' R
 | .er c=>R (.er c) μ'
def zj (T:TR α) (k:α->TRS):TRS:=fun ρ μ R=>T ρ μ fun o μ'=>match o with
 | .ok d=>k d ρ μ' R
 | .er c=>R (.er c) μ'
def zk (f:Rho->Option α):TR α:=fun ρ μ R=>∃ d,f ρ=some d/\R (.ok d) μ
def zx (o:Option α):TR α:=fun _ μ R=>∃ d,o=some d/\R (.ok d) μ
theorem AtC.bind {T:TR α}{k:α->TR β}{P:β->Hp->Prop} (h:AtC X σ H (bindC T k) P):AtC X σ H T fun d H1=>jy H H1/\AtC X σ H1 (k d) P:=by
 obtain ⟨ρ,μ,R,en,cs,t,kk⟩:=h
 refine ⟨ρ,μ,_,en,cs,t,fun o μ1 r=>?_⟩
 cases o with
 | ok d=>exact fun H1 s1 cs1=>⟨s1,ρ,μ1,R,en.monoA s1,cs1,r,fun o μ' q=>(kk o μ' q).mono s1⟩
 | er c=>exact kk (.er c) μ1 r
theorem AtS.bind {T:TR α}{k:α->TRS}{D:Ends} (h:AtS X σ H (zj T k) D):AtC X σ H T fun d H1=>jy H H1/\AtS X σ H1 (k d) D:=by
 obtain ⟨ρ,μ,R,en,cs,t,kk⟩:=h
 refine ⟨ρ,μ,_,en,cs,t,fun o μ1 r=>?_⟩
 cases o with
 | ok d=>exact fun H1 s1 cs1=>⟨s1,ρ,μ1,R,en.monoA s1,cs1,r,fun o μ' q=>(kk o μ' q).mono s1⟩
 | er c=>exact kk (.er c) μ1 r
theorem AtC.imp {T:TR α}{P P':α->Hp->Prop} (h:AtC X σ H T P) (hp:∀ d H1,jy H H1->P d H1->P' d H1):AtC X σ H T P':=by
 obtain ⟨ρ,μ,R,en,cs,t,kk⟩:=h
 refine ⟨ρ,μ,R,en,cs,t,fun o μ1 r=>?_⟩
 have q:=kk o μ1 r
 cases o with
 | ok d=>exact fun H1 s1 c1=>hp d H1 s1 (q H1 s1 c1)
 | er c=>exact q
theorem AtC.pure {f:Rho->Option α}{P:α->Hp->Prop} (h:AtC X σ H (zk f) P):∃ ρ d,EnvR X.K H ρ σ/\f ρ=some d/\∀ H',jr H H'->P d H':=by
 obtain ⟨ρ,μ,R,en,cs,⟨d,hf,hR⟩,kk⟩:=h
 exact ⟨ρ,d,en,hf,fun H' s=>kk _ _ hR H' (jr.a s) (cs.mono s)⟩
theorem AtC.ret {o:Option α}{P:α->Hp->Prop} (h:AtC X σ H (zx o) P):∃ d,o=some d/\∀ H',jr H H'->P d H':=by
 obtain ⟨ρ,μ,R,en,cs,⟨d,hf,hR⟩,kk⟩:=h
 exact ⟨d,hf,fun H' s=>kk _ _ hR H' (jr.a s) (cs.mono s)⟩
end
def tC (X:Cx) (T:TR PyData):TE:=fun σ H Q=>AtC X σ H T fun d H'=>∀ v,Rep X.K H' d v->Q v H'
def tCT (X:Cx) (T:TR Bool):TT:=fun σ H Q=>AtC X σ H T Q
def tCA (X:Cx) (T:TR (LP)):TA:=fun σ H Q=>AtC X σ H T fun ds H'=>∀ vs,Reps X.K H' ds vs->Q vs H'
def tCS (X:Cx) (T:TRS):TS:=fun D σ H=>AtS X σ H T D
@[irreducible] def PEC (X:Cx) (e:Expr) (T:TR PyData):Prop:=PE X e (tC X T)
@[irreducible] def PTC (X:Cx) (e:Expr) (T:TR Bool):Prop:=PT X e (tCT X T)
@[irreducible] def PWC (X:Cx) (e:Expr) (T:TR Bool):Prop:=PW X e (tCT X T)
@[irreducible] def PAC (X:Cx) (es:List Expr) (T:TR (LP)):Prop:=PA X es (tCA X T)
@[irreducible] def PSC (X:Cx) (st:Stmt) (T:TRS):Prop:=PS X st (tCS X T)
@[irreducible] def Z6 (X:Cx) (sts:List Stmt) (T:TRS):Prop:=PSs X sts (tCS X T)
section
variable {X:Cx}{e a b c:Expr}{es:List Expr}{st:Stmt}{sts j8:List Stmt}{fa:RP}{Ta Tb To:TR PyData}{Tt Tu:TR Bool}{F:RO}{S S':TRS}{pos:Pos}
theorem jg (h:PD X e fa):PEC X e (zk fa):=by
 with_unfolding_all
  exact PE.imp h fun σ H Q h=>let ⟨ρ,d,en,hf,k⟩:=h.pure; ⟨ρ,d,en,hf,fun v H' s r=>k H' s v r⟩
theorem abe {tc:Rho->Option Bool} (h:PTD X e tc):PTC X e (zk tc):=by
 with_unfolding_all
  exact PT.imp h fun σ H Q h=>let ⟨ρ,d,en,hf,k⟩:=h.pure; ⟨ρ,d,en,hf,fun H' s=>k H' s⟩
theorem jE:PAC X [] (zx (some [])):=by
 with_unfolding_all
  exact PA.imp zw fun σ H Q h=>by
   obtain ⟨d,hd,k⟩:=AtC.ret h
   cases hd
   exact k H (jr.refl H) [] rfl
def JF (Ta:TR PyData) (Tr:TR (LP)):TR (LP):=bindC Ta fun d=>bindC Tr fun ds=>zx (some (d::ds))
theorem jj {Tr:TR (LP)} (ha:PEC X e Ta) (hr:PAC X es Tr) (hs:starEach (e::es) X.env=(false,eval e X.env)::starEach es X.env:=by rfl):PAC X (e::es) (JF Ta Tr):=by
 with_unfolding_all
  exact PA.imp (qD ha hr hs) fun σ H Q h=>(AtC.bind h).imp fun d H1 _ ⟨s1,h1⟩ x rx=>h1.bind.imp fun ds H2 _ ⟨s2,h2⟩ xs rxs=>by
   obtain ⟨d',hd,k⟩:=h2.ret
   cases hd
   exact k H2 (jr.refl _) (x::xs) ⟨x,xs,rfl,Rep.monoA s2 _ _ rx,rxs⟩
def opC (g:PyData->PyData->OP) (Ta Tb:TR PyData):TR PyData:=bindC Ta fun p=>bindC Tb fun q=>zx (g p q)
theorem ad5 {g:PyData->PyData->OP}{r:R2} (hr:∀ p q d x y H Q,g p q=some d->Rep X.K H p x->Rep X.K H q y->(∀ v H',jr H H'->Rep X.K H' d v->Q v H')->r x y H Q)
  {σ:St} {H:Hp} {Q:VK} (h:tC X (opC g Ta Tb) σ H Q):tOp r (tC X Ta) (tC X Tb) σ H Q:=
 (AtC.bind h).imp fun p H1 _ ⟨s1,h1⟩ x rx=>h1.bind.imp fun q H2 _ ⟨s2,h2⟩ y ry=>by
  obtain ⟨d,hd,k⟩:=h2.ret
  exact hr p q d x y H2 Q hd (Rep.monoA s2 _ _ rx) ry fun v H' s rv=>k H' s v rv
theorem aoL {op:Operator}{g:PyData->PyData->OP} (ho:OpD X (binaryOp op) g) (ha:PEC X a Ta) (hb:PEC X b Tb):PEC X (.BinOp a op b pos) (opC g Ta Tb):=by
 with_unfolding_all
  obtain ⟨r,h1,h2⟩:=ho
  exact PE.imp (apE h1 ha hb) fun σ H Q h=>ad5 h2 h
theorem zT {op:CmpOp}{g:PyData->PyData->OP} (ho:OpD X (compareOp op) g) (ha:PEC X a Ta) (hb:PEC X b Tb) (hm:behindInMarks op b=false:=by first | exact acx _ | with_unfolding_all rfl):PEC X (.Compare a [op] [b] pos) (opC g Ta Tb):=by
 with_unfolding_all
  obtain ⟨r,h1,h2⟩:=ho
  exact PE.imp (aiY h1 ha hb hm) fun σ H Q h=>ad5 h2 h
def aqV (T:TR PyData):TR Bool:=bindC T fun d=>zx (asB d)
theorem apP {σ:St}{H:Hp}{Q:Bool->Hp->Prop} (h:tCT X (aqV Ta) σ H Q):tC X Ta σ H fun x H'=>∃ k,x= .bl k/\Q k H':=
 (AtC.bind h).imp fun d H1 _ ⟨s1,h1⟩ x rx=>by
  obtain ⟨b,hb,k⟩:=h1.ret
  cases zX hb
  exact ⟨b,rx,k H1 (jr.refl _)⟩
theorem QA {op:CmpOp}{g:PyData->PyData->OP} (ho:OpD X (compareOp op) g) (ha:PEC X a Ta) (hb:PEC X b Tb) (hm:behindInMarks op b=false:=by first | exact acx _ | with_unfolding_all rfl):PTC X (.Compare a [op] [b] pos) (aqV (opC g Ta Tb)):=by
 with_unfolding_all
  obtain ⟨r,h1,h2⟩:=ho
  exact PT.imp (aiZ h1 ha hb hm) fun σ H Q h=>ad5 h2 (apP h)
def atq (T:TR Bool):TR Bool:=bindC T fun b=>zx (some (!b))
theorem aoM (h:PTC X a Tt):PTC X (.UnaryOp .Not a pos) (atq Tt):=by
 with_unfolding_all
  exact PT.imp (alp h) fun σ H Q h=>(AtC.bind h).imp fun b H1 _ ⟨s1,h1⟩=>by
   obtain ⟨d,hd,k⟩:=h1.ret
   cases hd
   exact k H1 (jr.refl _)
def orC (T U:TR Bool):TR Bool:=bindC T fun b=>if b=true then zx (some true) else U
variable {er:List Expr}
theorem abW (ha:PTC X a Tt):PWC X (.BoolOp .Or [a] pos) Tt:=by
 with_unfolding_all exact (alo ha)
theorem ae6 (ha:PTC X a Tt) (hb:PWC X (.BoolOp .Or (b::er) pos) Tu):PWC X (.BoolOp .Or (a::b::er) pos) (orC Tt Tu):=by
 with_unfolding_all
  exact PW.imp (apB ha hb) fun σ H Q h=>(AtC.bind h).imp fun b H1 _ ⟨s1,h1⟩=>by
   cases b with
   | true=>
    rw [if_pos rfl] at h1 ⊢
    obtain ⟨d,hd,k⟩:=h1.ret
    cases hd
    exact k H1 (jr.refl _)
   | false=>
    rw [if_neg Bool.false_ne_true] at h1 ⊢
    exact h1
theorem aax (h:PWC X e Tt):PTC X e Tt:=by
 with_unfolding_all exact (PW.pt h)
def apQ (T U:TR PyData):TR PyData:=bindC T fun d=>bindC (zx (asB d)) fun b=>if b=true then U else zx (some (.bool false))
theorem ajp {op} (h:PEC X a Ta):PEC X (.BoolOp op [a] pos) Ta:=by
 with_unfolding_all exact (alq h)
theorem abX (ha:PEC X a Ta) (hb:PEC X (.BoolOp .And (b::er) pos) Tb):PEC X (.BoolOp .And (a::b::er) pos) (apQ Ta Tb):=by
 with_unfolding_all
  exact PE.imp (alr ha hb) fun σ H Q h=>(AtC.bind h).imp fun d H1 _ ⟨s1,h1⟩ x rx=>by
   obtain ⟨ρ,μ,R,en,cs,⟨b,hb,t⟩,kk⟩:=h1
   cases zX hb
   refine ⟨b,rx,?_⟩
   cases b with
   | true=>exact ⟨ρ,μ,R,en,cs,t,kk⟩
   | false=>
    obtain ⟨d,hd,hR⟩:=t
    cases hd
    exact kk _ _ hR H1 (jy.refl _) cs (.bl false) rfl
def Ja (S S':TRS):TRS:=fun ρ μ R=>S ρ μ fun o μ'=>match o with
 | .nx ρ'=>S' ρ' μ' R
 | o=>R o μ'
def aqW:TRS:=fun ρ μ R=>R (.nx ρ) μ
theorem jv:Z6 X [] aqW:=by
 with_unfolding_all
  exact PSs.imp aeF fun D σ H ⟨ρ,μ,R,en,cs,t,k⟩=>k _ _ t σ H (jy.refl _) en cs
theorem ji (h1:PSC X st S) (h2:Z6 X j8 S'):Z6 X (st::j8) (Ja S S'):=by
 with_unfolding_all
  refine PSs.imp (zU h1 h2) fun D σ H ⟨ρ,μ,R,en,cs,t,k⟩=>⟨ρ,μ,_,en,cs,t,fun o μ' r=>?_⟩
  cases o with
  | nx ρ'=>exact fun σ' H' s e c=>⟨ρ',μ',R,e,c,r,fun o μ2 q=>(k o μ2 q).mono s⟩
  | rt d=>exact k (.rt d) μ' r
  | bk d=>exact k (.bk d) μ' r
  | ct d=>exact k (.ct d) μ' r
  | er d=>exact k (.er d) μ' r
noncomputable def apR:Out->OutC
 | .nx ρ=> .nx ρ
 | .rt d=> .rt d
 | .bk ρ=> .bk ρ
 | .ct ρ=> .ct ρ
def apS (F:RO):TRS:=fun ρ μ R=>∃ o,F ρ=some o/\R (apR o) μ
theorem ah7 {H:Hp}{D:Ends}{o:Out}{μ:jx} (cs:qf X.K H μ) (h:zL X H D (apR o) μ):ags X.K D H o:=by
 cases o with
 | nx ρ=>exact fun σ H' s e=>h σ H' (jr.a s) e (cs.mono s)
 | rt d=>exact fun v H' s e=>h v H' (jr.a s) e (cs.mono s)
 | bk ρ=>exact fun σ H' s e=>h σ H' (jr.a s) e (cs.mono s)
 | ct ρ=>exact fun σ H' s e=>h σ H' (jr.a s) e (cs.mono s)
theorem Jh (h:PSD X st F):PSC X st (apS F):=by
 with_unfolding_all
  exact PS.imp h fun D σ H ⟨ρ,μ,R,en,cs,⟨o,hF,hR⟩,k⟩=>⟨ρ,o,en,hF,ah7 cs (k _ _ hR)⟩
def atr (fx:Rho->Option Str):TRS:=fun ρ μ R=>∃ c,fx ρ=some c/\R (.er c) μ
theorem asn {H:Hp}{μ:jx}{c:Str}{ev:Value}{s':Shared} (cs:qf X.K H μ) (h:Thr X H c ev s'):ae5 X H μ c ev s':=by
 obtain ⟨e,C,σ',H',h1,h2,h3,h4,h5⟩:=h
 exact ⟨e,C,σ',H',h1,h2,h3,jr.a h4,cs.mono h4,h5⟩
theorem abf {fx:Rho->Option Str} (h:PSX X st fx):PSC X st (atr fx):=by
 with_unfolding_all
  intro Kp s σ H D I ⟨ρ,μ,R,en,cs,⟨c,hc,hR⟩,k⟩
  exact wpAny_mono (h s σ H ρ c (I.pins_of fun p hp=>nomatch hp) en hc fun ev s' t=>k _ _ hR ev s' (asn cs t)) (fun _ _ z=>z.elim) fun _ _ z=>z
def ats (i:Nat) (d:PyData):TRS:=fun ρ μ R=>R (.nx (ρ.set i (some d))) μ
theorem QB (i:Nat) {x:Str}{pos':Pos} (hN:X.N.Nodup) (he:PEC X e Ta) (hi:X.N[i]?=some x:=by rfl) (hx:Loc X.env.scope x:=by first | exact Or.inl rfl | exact Or.inr rfl) (hs:swapsWith e (some (.Name x pos')) pos.line X.env=pure false:=by rfl)
  (hf:X.fn x=true ∨ X.env.scope.names.lookup x=some .local:=by first | exact .inl rfl | exact .inr rfl | assumption):PSC X (.Assign [.Name x pos'] e pos) (zj Ta (ats i)):=by
 with_unfolding_all
  exact PS.imp (ZX hN hi hx he hs hf) fun D σ H h=>(AtS.bind h).imp fun d H1 _ ⟨s1,ρ,μ,R,en,cs,t,k⟩ v rv=>k _ _ t _ H1 (jy.refl _) (en.set rv) cs
def aso (_:PyData):TRS:=fun ρ μ R=>R (.nx ρ) μ
theorem zD (h:PEC X e Ta) (hs:swapsWith e none pos.line X.env=pure false:=by rfl):PSC X (.Expr e pos) (zj Ta aso):=by
 with_unfolding_all
  exact PS.imp (abP h hs) fun D σ H h=>(AtS.bind h).imp fun d H1 _ ⟨s1,ρ,μ,R,en,cs,t,k⟩ v rv=>k _ _ t σ H1 (jy.refl _) en cs
def rtC (d:PyData):TRS:=fun _ μ R=>R (.rt d) μ
theorem qo (h:PEC X e Ta):PSC X (.Return (some e) pos) (zj Ta rtC):=by
 with_unfolding_all
  exact PS.imp (aeH h) fun D σ H h=>(AtS.bind h).imp fun d H1 _ ⟨s1,ρ,μ,R,en,cs,t,k⟩ v rv=>k _ _ t v H1 (jy.refl _) rv cs
def ifC (T:TR Bool) (S S':TRS):TRS:=zj T fun b=>if b=true then S else S'
theorem QC {l r:List Stmt} (hc:PTC X c Tt) (hl:Z6 X l S) (hr:Z6 X r S'):PSC X (.If c l r pos) (ifC Tt S S'):=by
 with_unfolding_all
  exact PS.imp (apC hc hl hr) fun D σ H h=>(AtS.bind h).imp fun b H1 _ ⟨s1,h1⟩=>by
   cases b with
   | true=>exact h1
   | false=>exact h1
end
theorem amw {a b:Addr} (h:js a=js b):a=b:=by
 have:(a:Int)=(b:Int):=by simpa [js] using h
 exact Int.ofNat.inj this
def qw (K:Fg) (x f:Str):Prop:=∀ C,PySem.W.nsIn K mainGlobals x=some (some (.ref C))->Cls K C/\ZZ K C f
section
variable {X:Cx}{e a b c o value:Expr}{es:List Expr}{st:Stmt}{Ta Tb To Tv:TR PyData}{Tr:TR (LP)}{pos pos' apos:Pos}{x f m:Str}
def aay (x f:Str) (d:PyData):TR PyData:=fun _ μ R=>∃ a fs v,d=js a/\μ a=some (.ins x fs)/\fs.lookup f=some v/\R (.ok v) μ
theorem jP (hC:qw X.K x f) (h:PEC X e To) (hb:attributeBase e f X.env (eval e X.env)=eval e X.env:=by rfl):PEC X (.Attribute e f pos) (bindC To (aay x f)):=by
 with_unfolding_all
  exact PE.imp (ahD h hb) fun σ H Q h=>(AtC.bind h).imp fun d H1 _ ⟨s1,ρ,μ,R,en,cs,⟨a,fs,v,hd,hm,hl,hR⟩,kk⟩ y ry=>by
   subst hd
   cases Rep.celOut ry
   obtain ⟨C,dx,vs,h1,h2,h3⟩:=cs a _ hm
   obtain ⟨w,h4,h5⟩:=h3.look hl
   exact ⟨a,C,dx,vs,w,rfl,h2,(hC C h1).1,(hC C h1).2,h4,kk _ _ hR H1 (jy.refl _) cs w h5⟩
def asp (x f:Str) (d od:PyData):TRS:=fun ρ μ R=>∃ a fs,od=js a/\μ a=some (.ins x fs)/\fs.length<1000/\R (.nx ρ) (zZ μ a (.ins x (aoK f d fs)))
theorem zq (hC:qw X.K x f) (ho:PEC X o To) (hv:PEC X value Tv) (hs:swapsWith value (some (.Attribute o f pos')) pos.line X.env=pure false:=by rfl):PSC X (.Assign [.Attribute o f pos'] value pos) (zj Tv fun d=>zj To (asp x f d)):=by
 with_unfolding_all
  exact PS.imp (aqq ho hv hs) fun D σ H h=>(AtS.bind h).imp fun d H1 _ ⟨s1,h1⟩ y ry=>h1.bind.imp fun od H2 _ ⟨s2,ρ,μ,R,en,cs,⟨a,fs,hd,hm,hl,hR⟩,kk⟩ z rz=>by
   subst hd
   cases Rep.celOut rz
   obtain ⟨C,dx,vs,h1,h2,h3⟩:=cs a _ hm
   have sA:jy H2 (upd H2 a (.ins C dx (Qp f y vs))):=jy.upd h2 rfl
   exact ⟨a,C,dx,vs,rfl,h2,(hC C h1).1,(hC C h1).2,by rw [h3.length]; exact hl,kk _ _ hR σ _ sA (en.monoA sA) (cs.upd sA ⟨C,dx,_,h1,jn,(h3.monoA sA).put (Rep.monoA (s2.trans sA) _ _ ry)⟩)⟩
abbrev GC3:=LP->jx->(Res PyData->jx->Prop)->Prop
def agN (K:Fg) (mg:SV) (n:Nat) (g:GC3):Sp:=fun vs H Q E=>∃ ds μ R,ds.length=n/\Reps K H ds vs/\qf K H μ/\g ds μ R/\(∀ d μ',R (.ok d) μ'->∀ v H',jy H H'->Rep K H' d v->qf K H' μ'->Q v H')/\
 ∀ c μ',R (.er c) μ'->∀ C H',mg c=some (.ref C)->jy H H'->qf K H' μ'->E (.ref C) none H'
def qK (P:Program) (w:World) (K:Fg) (mg:SV) (base:Heap) (x m:Str) (ps:List Str) (k n:Nat) (g:GC3):Prop:=
 ∃ (C f:Addr) (fd:FuncData),PySem.W.nsIn K mainGlobals x=some (some (.ref C))/\Cls K C/\Meth K C m f/\FnOk P w K mg base (CXt P w) k f fd ps (agN K mg n g)/\Jl K fd ps []
def amx (P:Program) (w:World) (K:Fg) (mg:SV) (base:Heap) (x:Str) (ps:List Str) (k n:Nat) (g:GC3):Prop:=
 ∃ (C f:Addr) (fd:FuncData),PySem.W.nsIn K mainGlobals x=some (some (.ref C))/\mg x=some (.ref C)/\Mk K C f/\FnOk P w K mg base (CXt P w) k f fd ps (agN K mg n g)/\Jl K fd ps []
end
section
variable {X:Cx}{e a b c o value:Expr}{es:List Expr}{st:Stmt}{Ta Tb To Tv:TR PyData}{Tr:TR (LP)}{pos pos' apos:Pos}{x f m:Str}
theorem apT {Kp:List (Addr × Obj)}{σ:St}{H:Hp}{s:Shared}{Q:VK}{us:List Value}{vs:List V}{k n:Nat}{f:Addr}{fd:FuncData}{ps:List Str}{g:GC3}{ds:LP}{μ:jx}{R:Res PyData->jx->Prop} (hxe:X.ex=[])
  (F:FnOk X.prog X.w X.K X.mg X.base (CXt X.prog X.w) k f fd ps (agN X.K X.mg n g)) (hr:Room k X.A) (hb:Jl X.K fd ps []) (I:Inv X Kp σ H s) (r:jJ vs us) (rd:Reps X.K H ds vs) (cs:qf X.K H μ) (hn:ds.length=n) (hg:g ds μ R)
  (kk:∀ o μ',R o μ'->zK X H (fun d H'=>∀ v,Rep X.K H' d v->Q v H') o μ'):wpAny (model X.prog X.w) X.A (call (.ref f) us) (EP X Kp σ Q) X.xe s:=by
 have sp:agN X.K X.mg n g vs H Q (fun cls _ H'=>∃ c μ',X.mg c=some cls/\R (.er c) μ'/\jy H H'/\qf X.K H' μ'):=
  ⟨ds,μ,R,hn,rd,cs,hg,fun d μ' q v H' sA rv c=>(kk (.ok d) μ' q:zK X H (fun d H'=>∀ v,Rep X.K H' d v->Q v H') (.ok d) μ') H' sA c v rv,fun c μ' q C H' hC sA c'=>⟨c,μ',hC,q,sA,c'⟩⟩
 have hlu:(us++[]).length=ps.length:=by rw [List.append_nil,←r.length]; exact F.len _ _ _ _ sp
 have hbd:=hb s us I.kIn hlu
 rw [List.append_nil] at hbd
 refine wpAny_call (codeAny_mono (F.run X.A X.stack s H ⟨us,[]⟩ us vs _ _ hr I.env0 hbd r sp) fun rs s' hq=>?_)
 cases rs with
 | error ev=>
  obtain ⟨e0,C,H',rfl,os,bare,un,hok,xc,c,μ',hC,hR,sA,c'⟩:=hq
  have J':Inv X Kp σ H' s':=I.call' (ch:=[]) os un hok bare fun b z=>nomatch z
  have J0:Inv X [] σ H' s':=J'.pins_of fun p hp=>nomatch hp
  have k1:zK X H (fun d H'=>∀ v,Rep X.K H' d v->Q v H') (.er c) μ':=kk (.er c) μ' hR
  have x1:=Xc.of hxe I xc
  have t1:ae5 X H μ' c (.ref e0) s':=⟨e0,C,σ,H',rfl,hC,J0,sA,c',x1⟩
  exact k1 (.ref e0) s' t1
 | ok fl=>
  cases fl with
  | ret u=>exact I.after hq
  | next=>exact False.elim hq
  | brk=>exact False.elim hq
  | cont=>exact False.elim hq
end
section
variable {X:Cx}{e a b c o value:Expr}{es:List Expr}{st:Stmt}{Ta Tb To Tv:TR PyData}{Tr:TR (LP)}{pos pos' apos:Pos}{x f m:Str}
def QM (g:GC3) (n:Nat) (ds:LP):TR PyData:=fun _ μ R=>ds.length=n/\g ds μ R
end
section
variable {X:Cx}{e a b c o value:Expr}{es:List Expr}{st:Stmt}{Ta Tb To Tv:TR PyData}{Tr:TR (LP)}{pos pos' apos:Pos}{x f m:Str}
def ZN (x m:Str) (g:GC3) (n:Nat) (Tr:TR (LP)) (od:PyData):TR PyData:=fun ρ μ R=>(∃ a fs,od=js a/\μ a=some (.ins x fs)/\fs.lookup m=none)/\bindC Tr (fun ds=>QM g n (od::ds)) ρ μ R
theorem qP {k j n:Nat}{ps:List Str}{g:GC3}{pl:Sem Bool} (hxe:X.ex=[]) (C:qK X.prog X.w X.K X.mg X.base x m ps k n g) (hr:Room j X.A) (hkj:k<=j) (ho:PEC X o To) (ha:PAC X (e::es) Tr)
  (hst:starEach (e::es) X.env=(false,eval e X.env)::starEach es X.env:=by rfl) (hpl:(backTo pos (starEach es X.env)).any (·.1)=false:=by rfl)
  (ht:eval (.Call (.Attribute o m apos) (e::es) [] pos) X.env=(do
   let ov ←eval o X.env
   standAt apos.atName
   let (f,first) ←holding [ov] (getMethod ov m pl)
   callWith pos f first (backTo pos (starEach (e::es) X.env)) (backToKw pos (keywordEach [] X.env))):=by rfl):
  PEC X (.Call (.Attribute o m apos) (e::es) [] pos) (bindC To (ZN x m g n Tr)):=by
 with_unfolding_all
  intro Kp s σ H Q I h
  obtain ⟨C,f,fd,hC,hcls,hmeth,F,hb⟩:=C
  refine PySem.W.methodCall_KW (pl:=pl) (thn (ho Kp s σ H (fun y H1=>∃ od,Rep X.K H1 od y/\AtC X σ H1 (ZN x m g n Tr od) fun d H'=>∀ v,Rep X.K H' d v->Q v H') I ((AtC.bind h).imp fun od H1 _ ⟨s1,h1⟩ y ry=>⟨od,ry,h1⟩)) fun u s1 ⟨y,H1,I1,ry,od,rod,ρ,μ,R,en,cs,⟨⟨a,fs,hd,hm,hl⟩,t⟩,kk⟩=>?_) ht
  subst hd
  cases Rep.celOut rod
  obtain rfl:u=Value.ref a:=ry
  obtain ⟨C',dx,vs,h1,h2,h3⟩:=cs a _ hm
  rw [hC] at h1; cases h1
  refine acz I1 h2 hcls hmeth (h3.lookN hl) ?_
  refine PySem.W.callWith_K (first:=[.ref a]) (h₀:=X.base) I.ok.mod.kin hmeth.kp (thn (ha pos Kp s1 σ H1 (fun ws H2=>∃ ds,Reps X.K H2 ds ws/\AtC X σ H2 (QM g n (js a::ds)) fun d H'=>∀ v,Rep X.K H' d v->Q v H') I1 ((AtC.bind (show AtC X σ H1 (bindC Tr fun ds=>QM g n (js a::ds)) _ from ⟨ρ,μ,R,en,cs,t,kk⟩)).imp fun ds H2 _ ⟨s2,h2⟩ ws rw=>⟨ds,rw,h2⟩)) fun us s2 ⟨ws,H2,I2,r,ds,rd,q⟩=>⟨I2.kIn,?_⟩) hst hpl
  obtain ⟨ρ2,μ2,R2,en2,cs2,⟨hn,hG⟩,kk2⟩:=q
  exact apT (us:= .ref a::us) (vs:= .ref a::ws) hxe F (hr.mono hkj) hb I2 (.cons rfl r) (show Reps X.K H2 (js a::ds) (V.ref a::ws) from ⟨_,_,rfl,Rep.cel a,rd⟩) cs2 hn hG kk2
end
section
variable {X:Cx}{e a b c o value:Expr}{es:List Expr}{st:Stmt}{Ta Tb To Tv:TR PyData}{Tr:TR (LP)}{pos pos' apos:Pos}{x f m:Str}
theorem jF {k j n:Nat}{ps:List Str}{g:GC3}{pl:Sem Bool} (hxe:X.ex=[]) (C:qK X.prog X.w X.K X.mg X.base x m ps k n g) (hr:Room j X.A) (hkj:k<=j) (ho:PEC X o To)
  (ht:eval (.Call (.Attribute o m apos) [] [] pos) X.env=(do
   let ov ←eval o X.env
   standAt apos.atName
   let (f,first) ←holding [ov] (getMethod ov m pl)
   callWith pos f first (backTo pos (starEach [] X.env)) (backToKw pos (keywordEach [] X.env))):=by rfl):
  PEC X (.Call (.Attribute o m apos) [] [] pos) (bindC To (ZN x m g n (zx (some [])))):=by
 with_unfolding_all
  intro Kp s σ H Q I h
  obtain ⟨C,f,fd,hC,hcls,hmeth,F,hb⟩:=C
  refine PySem.W.methodCall_KW (pl:=pl) (thn (ho Kp s σ H (fun y H1=>∃ od,Rep X.K H1 od y/\AtC X σ H1 (ZN x m g n (zx (some [])) od) fun d H'=>∀ v,Rep X.K H' d v->Q v H') I ((AtC.bind h).imp fun od H1 _ ⟨s1,h1⟩ y ry=>⟨od,ry,h1⟩)) fun u s1 ⟨y,H1,I1,ry,od,rod,ρ,μ,R,en,cs,⟨⟨a,fs,hd,hm,hl⟩,t⟩,kk⟩=>?_) ht
  subst hd
  cases Rep.celOut rod
  obtain rfl:u=Value.ref a:=ry
  obtain ⟨C',dx,vs,h1,h2,h3⟩:=cs a _ hm
  rw [hC] at h1; cases h1
  refine acz I1 h2 hcls hmeth (h3.lookN hl) ?_
  obtain ⟨ds,hds,hn,hG⟩:=t
  cases hds
  exact PySem.W.callWith_K0 (first:=[.ref a]) I1.kIn hmeth.kp (apT (us:=[.ref a]) (vs:=[.ref a]) hxe F (hr.mono hkj) hb I1 (.cons rfl .nil) (show Reps X.K H1 [js a] [V.ref a] from ⟨_,_,rfl,Rep.cel a,rfl⟩) cs hn hG kk)
end
section
variable {X:Cx}{e a b c o value:Expr}{es:List Expr}{st:Stmt}{Ta Tb To Tv:TR PyData}{Tr:TR (LP)}{pos pos' apos:Pos}{x f m:Str}
def aqX (x:Str) (g:GC3) (n:Nat) (ds:LP):TR PyData:=fun _ μ R=>(ds.length+1=n)/\∀ a,μ a=none->g (js a::ds) (zZ μ a (.ins x [])) fun o μ'=>match o with
 | .ok d=>d= .none/\R (.ok (js a)) μ'
 | .er c=>R (.er c) μ'
theorem agO {k j n:Nat}{ps:List Str}{g:GC3}{p:Pos} (hxe:X.ex=[]) (C:amx X.prog X.w X.K X.mg X.base x ps k n g) (hr:Room j X.A) (hkj:k+1<=j) (ha:PAC X (e::es) Tr)
  (hg:Gl X x:=by rfl) (hdb:(x == ("__debug__":Str))=false:=by decide) (he:starEach (e::es) X.env=(false,eval e X.env)::starEach es X.env:=by rfl)
  (hpl:(backTo pos (starEach es X.env)).any (·.1)=false:=by rfl):PEC X (.Call (.Name x p) (e::es) [] pos) (bindC Tr (aqX x g n)):=by
 with_unfolding_all
  intro Kp s σ H Q I h
  obtain ⟨C,f,fd,hC,hm,M,F,hb⟩:=C
  refine wpAny_Call_Name_kw (Qm I hg hm ?_ hdb)
  refine PySem.W.callWith_K (h₀:=X.base) I.ok.mod.kin M.kp (thn (ha pos Kp s σ H (fun vs H1=>∃ ds,Reps X.K H1 ds vs/\AtC X σ H1 (aqX x g n ds) fun d H'=>∀ v,Rep X.K H' d v->Q v H') I ((AtC.bind h).imp fun ds H1 _ ⟨s1,h1⟩ vs rv=>⟨ds,rv,h1⟩)) fun us s1 ⟨vs,H1,I1,r,ds,rd,q⟩=>⟨I1.kIn,?_⟩) he hpl
  obtain ⟨ρ,μ,R,en,cs,⟨hn,hG⟩,kk⟩:=q
  have hA:H1 (s1.heap.objs.size+1)=none:=I1.hok.fresh (Nat.le_succ _)
  have hD:H1 s1.heap.objs.size=none:=I1.hok.fresh (Nat.le_refl _)
  have ne:s1.heap.objs.size ≠ s1.heap.objs.size+1:=Nat.ne_of_lt (Nat.lt_succ_self _)
  have hq:=hG (s1.heap.objs.size+1) (cs.free hA)
  have I2:=Inv.made (C:=C) I1
  have sm:jr H1 (upd (upd H1 s1.heap.objs.size (.own (s1.heap.objs.size+1))) (s1.heap.objs.size+1) (.ins C s1.heap.objs.size [])):=fun b o q=>by
   have n1:b ≠ s1.heap.objs.size+1:=fun z=>by subst z; rw [hA] at q; cases q
   have n2:b ≠ s1.heap.objs.size:=fun z=>by subst z; rw [hD] at q; cases q
   rw [jq n1,jq n2]; exact q
  have cs2:qf X.K (upd (upd H1 s1.heap.objs.size (.own (s1.heap.objs.size+1))) (s1.heap.objs.size+1) (.ins C s1.heap.objs.size [])) (zZ μ (s1.heap.objs.size+1) (.ins x [])):=
   cs.put (jr.a sm) (fun b _ o q=>sm b o q) ⟨C,_,[],hC,jn,rfl⟩
  have sp:agN X.K X.mg n g (V.ref (s1.heap.objs.size+1)::vs) (upd (upd H1 s1.heap.objs.size (.own (s1.heap.objs.size+1))) (s1.heap.objs.size+1) (.ins C s1.heap.objs.size [])) (fun v H2=>v= .non/\Q (.ref (s1.heap.objs.size+1)) H2)
    (fun cls _ H'=>∃ c μ',X.mg c=some cls/\R (.er c) μ'/\jy H1 H'/\qf X.K H' μ'):=
   ⟨js (s1.heap.objs.size+1)::ds,_,_,hn,⟨V.ref (s1.heap.objs.size+1),vs,rfl,Rep.cel _,Reps.mono sm _ _ rd⟩,cs2,hq,fun d μ' q v H' sA rv c=>by
    obtain ⟨q1,q2⟩:=q
    subst q1
    exact ⟨rv,kk _ _ q2 H' ((jr.a sm).trans sA) c _ (Rep.cel _)⟩,fun c μ' q C H' hC' sA c'=>⟨c,μ',hC',q,(jr.a sm).trans sA,c'⟩⟩
  have r2:jJ (V.ref (s1.heap.objs.size+1)::vs) (Value.ref (s1.heap.objs.size+1)::us):= .cons rfl r
  have hl:(Value.ref (s1.heap.objs.size+1)::us++[]).length=ps.length:=by
   rw [List.append_nil,←r2.length]
   exact F.len _ _ _ _ sp
  have hbd:=hb _ (Value.ref (s1.heap.objs.size+1)::us) I2.kIn hl
  rw [List.append_nil] at hbd
  refine wpAny_call (alD (f:=f) I1.kIn M.makes M.init (beq_iff_eq.mp M.fn) (codeAny_mono (F.run _ X.stack _ _ ⟨Value.ref (s1.heap.objs.size+1)::us,[]⟩ (Value.ref (s1.heap.objs.size+1)::us) _ _ _ ((hr.mono hkj).make C us [])
   (I2.env0.make C us []) hbd r2 sp) fun rs s' hq'=>?_))
  cases rs with
  | error ev=>
   obtain ⟨e0,C0,H',rfl,os,bare,un,hok,xc,c,μ',hC',hR,sA,c'⟩:=hq'
   have J':Inv X Kp σ H' s':=I2.call' (ch:=[]) os un hok bare fun b z=>nomatch z
   have J0:Inv X [] σ H' s':=J'.pins_of fun p hp=>nomatch hp
   have k1:zK X H1 (fun d H'=>∀ v,Rep X.K H' d v->Q v H') (.er c) μ':=kk (.er c) μ' hR
   have x1:=Xc.of hxe I2 xc
   have t1:ae5 X H1 μ' c (.ref e0) s':=⟨e0,C0,σ,H',rfl,hC',J0,sA,c',x1⟩
   exact k1 (.ref e0) s' t1
  | ok fl=>
   cases fl with
   | ret u=>
    obtain ⟨v,H',I3,rv,ev,q3⟩:=I2.after hq'
    subst ev
    exact ⟨rv,⟨V.ref (s1.heap.objs.size+1),H',I3,rfl,q3⟩⟩
   | next=>exact False.elim hq'
   | brk=>exact False.elim hq'
   | cont=>exact False.elim hq'
end
theorem Reps.dropLast {K:Fg}{H:Hp}{ds:LP}{xs:List V} (h:Reps K H ds xs):Reps K H ds.dropLast xs.dropLast:=by
 rw [List.dropLast_eq_take,List.dropLast_eq_take,h.length]
 exact Reps.take _ h
section
variable {X:Cx}{e a b c o value:Expr}{es:List Expr}{st:Stmt}{Ta Tb To Tv:TR PyData}{Tr:TR (LP)}{pos pos' apos cpos:Pos}{x f m:Str}
def amy (od:PyData) (μ:jx):Prop:=∃ a ds,od=js a/\μ a=some (.lst ds)
theorem ae7 {Kp:List (Addr × Obj)}{σ:St}{H:Hp}{s:Shared}{a:Addr}{xs:List V} (I:Inv X Kp σ H s) (h:H a=some (qk a xs)):s.TypeIs (.ref a) "list"/\∀ b,Value.ref a= .ref b->∃ o,s.heap.get? b=some o/\o.dict=none:=
 alH (T:="list") (Inv.opened I (.l xs) h) (x:= .ref a) (v:= .ref a) rfl (.inl ⟨rfl,xs,SqL.of jn⟩)
theorem acY {Kp:List (Addr × Obj)}{σ:St}{H H4:Hp}{s s':Shared}{a:Addr}{xs ys:List V} (I:Inv X Kp σ H s) (h:H a=some (qk a xs)) (e4:H4=upd (upd H a (.lst xs)) a (.lst ys)) (I4:Inv X Kp σ H4 s'):Inv X Kp σ (upd H a (qk a ys)) s':=by
 subst e4
 have:=Inv.closed I4 (.l ys) jn (Inv.nofrz I h)
 rw [L2.zd,L2.zd] at this
 exact this
def amz (od d:PyData):TR PyData:=fun _ μ R=>∃ a ds,od=js a/\μ a=some (.lst ds)/\ds.length<1000000/\R (.ok .none) (zZ μ a (.lst (ds++[d])))
theorem acZ (ho:PEC X o To) (ha:PEC X e Ta) (hbase:attributeBase o "append" X.env (eval o X.env)=eval o X.env:=by rfl)
  (hfew:((backTo cpos (starEach [e] X.env)).all (fun x=>!x.1) && (backToKw cpos (keywordEach [] X.env)).all (fun x=>x.1.isSome)
   && decide ([e].length+([]:List Keyword).length+(if ([]:List Keyword).isEmpty then 0 else 1)<30))=true:=by rfl)
  (hline:(apos.endLine == cpos.line)=true:=by rfl) (hs:starEach [e] X.env=(false,eval e X.env)::starEach [] X.env:=by rfl) (hplain:(backTo cpos (starEach [] X.env)).any (·.1)=false:=by rfl):
  PEC X (.Call (.Attribute o "append" apos) [e] [] cpos) (bindC To fun od ρ μ R=>amy od μ/\bindC Ta (amz od) ρ μ R):=by
 with_unfolding_all
  intro Kp s σ H Q I h
  refine wpAny_Call_method_late hbase hfew hline rfl (thn (ho Kp s σ H (fun y H1=>∃ od,Rep X.K H1 od y/\AtC X σ H1 (fun ρ μ R=>amy od μ/\bindC Ta (amz od) ρ μ R) fun d H'=>∀ v,Rep X.K H' d v->Q v H') I ((AtC.bind h).imp fun od H1 _ ⟨s1,h1⟩ y ry=>⟨od,ry,h1⟩)) fun v s1 ⟨y,H1,I1,ry,od,rod,ρ,μ,R,en,cs,⟨⟨l,ds0,hd,hm⟩,t⟩,kk⟩=>?_)
  subst hd
  cases Rep.celOut rod
  obtain rfl:v=Value.ref l:=ry
  obtain ⟨xs0,h2,_⟩:=cs l _ hm
  obtain ⟨t1,t2⟩:=ae7 I1 h2
  refine ⟨"list","list.append",PySem.F.plainAttrs_list,PySem.F.slot_list_append,PySem.F.type_list_append,t1,t2,?_⟩
  have pa:PA X [e] _:=qD (X:=X) ha zw hs
  have hA:=pa cpos Kp s1 σ H1 (fun ws H2=>∃ y d,ws=[y]/\Rep X.K H2 d y/\AtC X σ H2 (amz (js l) d) fun d H'=>∀ v,Rep X.K H' d v->Q v H') I1
   ((AtC.bind (show AtC X σ H1 (bindC Ta (amz (js l))) _ from ⟨ρ,μ,R,en,cs,t,kk⟩)).imp fun d H2 _ ⟨s2,h2⟩ y ry=>⟨y,d,rfl,ry,h2⟩)
  rw [hs] at hA ⊢
  refine Calls.callWith_builtin (by show (false || (backTo cpos (starEach [] X.env)).any (·.1))=false; rw [hplain] <;> rfl) (Calls.evalArgs_plain ?_)
  refine thn hA fun us s2 ⟨ws,H2,I2,r2,y,d,hws,ry,ρ2,μ2,R2,en2,cs2,⟨l2,ds,hd2,hm2,hl,hR⟩,kk2⟩=>?_
  subst hws
  cases amw hd2
  obtain ⟨xs,h3,rs⟩:=cs2 l _ hm2
  refine thn (adQ Kp s2 σ (upd H2 l (.lst xs)) (.ref l) [y] (.ref l) us (fun w H4=>w= .non/\H4=upd (upd H2 l (.lst xs)) l (.lst (xs++[y]))) (Inv.opened I2 (.l xs) h3) rfl r2 ⟨l,xs,y,rfl,rfl,jn,by rw [rs.length]; exact Qy hl,rfl,rfl⟩) fun u s3 ⟨w,H4,I4,r4,e1,e4⟩=>?_
  subst e1
  have sA:jy H2 (upd H2 l (qk l (xs++[y]))):=jy.upd h3 rfl
  have k1:=(kk2 (.ok .none) _ hR:zK X H2 (fun d H'=>∀ v,Rep X.K H' d v->Q v H') (.ok .none) _)
  exact ⟨.non,_,acY I2 h3 e4 I4,r4,k1 _ sA (cs2.upd sA ⟨_,jn,(Reps.monoA sA _ _ rs).append ⟨y,[],rfl,Rep.monoA sA _ _ ry,rfl⟩⟩) .non rfl⟩
def asq (od:PyData):TR PyData:=fun _ μ R=>∃ a ds d,od=js a/\μ a=some (.lst ds)/\ds[ds.length - 1]?=some d/\R (.ok d) (zZ μ a (.lst ds.dropLast))
theorem aoN (ho:PEC X o To) (hbase:attributeBase o "pop" X.env (eval o X.env)=eval o X.env:=by rfl) (hline:(apos.endLine == cpos.line)=true:=by rfl):PEC X (.Call (.Attribute o "pop" apos) [] [] cpos) (bindC To asq):=by
 with_unfolding_all
  intro Kp s σ H Q I h
  refine wpAny_Call_method0_late hbase hline (thn (ho Kp s σ H (fun y H1=>∃ od,Rep X.K H1 od y/\AtC X σ H1 (asq od) fun d H'=>∀ v,Rep X.K H' d v->Q v H') I ((AtC.bind h).imp fun od H1 _ ⟨s1,h1⟩ y ry=>⟨od,ry,h1⟩)) fun v s1 ⟨y,H1,I1,ry,od,rod,ρ,μ,R,en,cs,⟨l,ds,d,hd,hm,hl,hR⟩,kk⟩=>?_)
  subst hd
  cases Rep.celOut rod
  obtain rfl:v=Value.ref l:=ry
  obtain ⟨xs,h2,rs⟩:=cs l _ hm
  obtain ⟨t1,t2⟩:=ae7 I1 h2
  obtain ⟨z,hz,rz⟩:=rs.get hl
  refine ⟨"list","list.pop",PySem.F.plainAttrs_list,PySem.F.slot_list_pop,PySem.F.type_list_pop,t1,t2,Calls.callWith_builtin rfl (PySem.evalArgs_none ?_)⟩
  refine thn (aqv Kp s1 σ (upd H1 l (.lst xs)) (.ref l) [] (.ref l) [] (fun w H4=>w=z/\H4=upd (upd H1 l (.lst xs)) l (.lst xs.dropLast)) (Inv.opened I1 (.l xs) h2) rfl .nil ⟨l,xs,z,rfl,rfl,jn,by rw [rs.length]; exact hz,rfl,rfl⟩) fun u s3 ⟨w,H4,I4,r4,e1,e4⟩=>?_
  subst e1
  have sA:jy H1 (upd H1 l (qk l xs.dropLast)):=jy.upd h2 rfl
  have k1:=(kk (.ok d) _ hR:zK X H1 (fun d H'=>∀ v,Rep X.K H' d v->Q v H') (.ok d) _)
  exact ⟨w,_,acY I1 h2 e4 I4,r4,k1 _ sA (cs.upd sA ⟨_,jn,Reps.dropLast (Reps.monoA sA _ _ rs)⟩) w (Rep.monoA sA _ _ rz)⟩
def aqY (od:PyData):TR PyData:=fun _ μ R=>∃ a ds,od=js a/\μ a=some (.lst ds)/\R (.ok .none) (zZ μ a (.lst []))
theorem akz (ho:PEC X o To) (hbase:attributeBase o "clear" X.env (eval o X.env)=eval o X.env:=by rfl) (hline:(apos.endLine == cpos.line)=true:=by rfl):PEC X (.Call (.Attribute o "clear" apos) [] [] cpos) (bindC To aqY):=by
 with_unfolding_all
  intro Kp s σ H Q I h
  refine wpAny_Call_method0_late hbase hline (thn (ho Kp s σ H (fun y H1=>∃ od,Rep X.K H1 od y/\AtC X σ H1 (aqY od) fun d H'=>∀ v,Rep X.K H' d v->Q v H') I ((AtC.bind h).imp fun od H1 _ ⟨s1,h1⟩ y ry=>⟨od,ry,h1⟩)) fun v s1 ⟨y,H1,I1,ry,od,rod,ρ,μ,R,en,cs,⟨l,ds,hd,hm,hR⟩,kk⟩=>?_)
  subst hd
  cases Rep.celOut rod
  obtain rfl:v=Value.ref l:=ry
  obtain ⟨xs,h2,rs⟩:=cs l _ hm
  obtain ⟨t1,t2⟩:=ae7 I1 h2
  refine ⟨"list","list.clear",PySem.F.plainAttrs_list,PySem.F.slot_list_clear,PySem.F.type_list_clear,t1,t2,Calls.callWith_builtin rfl (PySem.evalArgs_none ?_)⟩
  refine thn (alJ Kp s1 σ (upd H1 l (.lst xs)) (.ref l) [] (.ref l) [] (fun w H4=>w= .non/\H4=upd (upd H1 l (.lst xs)) l (.lst [])) (Inv.opened I1 (.l xs) h2) rfl .nil ⟨l,xs,rfl,rfl,jn,rfl,rfl⟩) fun u s3 ⟨w,H4,I4,r4,e1,e4⟩=>?_
  subst e1
  have sA:jy H1 (upd H1 l (qk l [])):=jy.upd h2 rfl
  have k1:=(kk (.ok .none) _ hR:zK X H1 (fun d H'=>∀ v,Rep X.K H' d v->Q v H') (.ok .none) _)
  exact ⟨.non,_,acY I1 h2 e4 I4,r4,k1 _ sA (cs.upd sA ⟨_,jn,rfl⟩) .non rfl⟩
def att (f:RP):TR PyData:=fun ρ μ R=>∃ ds,f ρ=some (.list ds)/\∀ a,μ a=none->R (.ok (js a)) (zZ μ a (.lst ds))
theorem ajq {fe:RP} (h:PN X e fe):PEC X e (att fe):=by
 with_unfolding_all
  exact PE.imp h fun σ H Q ⟨ρ,μ,R,en,cs,⟨ds,hf,hR⟩,kk⟩=>⟨ρ,_,en,hf,fun l H' s hn ow=>by
   have k1:=(kk (.ok (js l)) _ (hR l (cs.free hn)):zK X H (fun d H'=>∀ v,Rep X.K H' d v->Q v H') (.ok (js l)) _)
   exact k1 H' (jr.a s) (cs.put (jr.a s) (fun b _ o q=>s b o q) ow) (.ref l) (Rep.cel l)⟩
end
section
variable {X:Cx}{e a b c o value:Expr}{es:List Expr}{st:Stmt}{Ta Tb To Tv:TR PyData}{Tr:TR (LP)}{fa:RP}{pos pos' apos cpos:Pos}{x f m:Str}
theorem ah8 {H H3:Hp}{l:Addr}{xs:List V}{o:HO} (h:H l=some (qk l xs)) (s:jr (upd H l o) H3):jy H (upd H3 l (qk l xs))/\∀ b,b ≠ l->∀ u,H b=some u->upd H3 l (qk l xs) b=some u:=
 have k:∀ b,b ≠ l->∀ u,H b=some u->upd H3 l (qk l xs) b=some u:=fun b hb u q=>by rw [jq hb]; exact s b u (by rw [jq hb]; exact q)
 ⟨fun b u q d=>k b (fun z=>by subst z; rw [h] at q; cases q; cases d) u q,k⟩
theorem ac0 {H H3:Hp}{μ:jx}{l:Addr}{ds:LP}{xs:List V}{o:HO} (cs:qf X.K H μ) (hm:μ l=some (.lst ds)) (h:H l=some (qk l xs)) (s:jr (upd H l o) H3):qf X.K (upd H3 l (qk l xs)) μ:=fun b c q=>by
 obtain ⟨sA,k⟩:=ah8 h s
 by_cases hb:b=l
 ·subst hb
  exact (cs b c q).to sA (by rw [jn,h])
 ·obtain ⟨u,h1,_⟩:=(cs b c q).there
  exact (cs b c q).to sA ((k b hb u h1).trans h1.symm)
def atL (i:Nat) (f:RP):TR PyData:=fun ρ μ R=>∃ a ds d,lkp i ρ=some (js a)/\μ a=some (.lst ds)/\f (ρ.set i (some (.list ds)))=some d/\noL d=true/\R (.ok d) μ
def atM (i:Nat) (f:Rho->Option Bool):TR Bool:=fun ρ μ R=>∃ a ds d,lkp i ρ=some (js a)/\μ a=some (.lst ds)/\f (ρ.set i (some (.list ds)))=some d/\R (.ok d) μ
def aqZ (g:LP->OP) (od:PyData):TR PyData:=fun _ μ R=>∃ a ds d,od=js a/\μ a=some (.lst ds)/\g [.list ds]=some d/\noL d=true/\R (.ok d) μ
theorem ajr {id:String}{g:LP->OP}{p:Pos} (hc:QV X (.builtin id) g) (hm0:X.mg x=none) (hv:bootBuiltins x=some (.builtin id)) (ho:PEC X e To) (hg:Gl X x:=by rfl) (hn0:x ≠ "__name__":=by decide) (hdb:(x == ("__debug__":Str))=false:=by decide)
  (he:starEach [e] X.env=(false,eval e X.env)::starEach [] X.env:=by rfl) (hpl:(backTo pos (starEach [] X.env)).any (·.1)=false:=by rfl):PEC X (.Call (.Name x p) [e] [] pos) (bindC To (aqZ g)):=by
 with_unfolding_all
  intro Kp s σ H Q I h
  obtain ⟨r,h1,h2⟩:=hc
  refine wpAny_Call_Name_kw (Qn I hg hm0 hv ?_ hn0 hdb)
  have pa:PA X [e] _:=qD (X:=X) ho zw he
  refine PyProof.Rows.callWith_builtin1 (thn (pa pos Kp s σ H (fun ws H1=>∃ y od,ws=[y]/\Rep X.K H1 od y/\AtC X σ H1 (aqZ g od) fun d H'=>∀ v,Rep X.K H' d v->Q v H') I ((AtC.bind h).imp fun od H1 _ ⟨s1,h1⟩ y ry=>⟨y,od,rfl,ry,h1⟩)) fun us s1 ⟨ws,H1,I1,r1,y,od,hws,rod,ρ,μ,R,en,cs,⟨l,ds,d,hd,hm,hf,hn,hR⟩,kk⟩=>?_) he hpl
  subst hws
  subst hd
  cases Rep.celOut rod
  obtain ⟨xs,h3,rs⟩:=cs l _ hm
  have sA:jy H1 (upd H1 l (.lst xs)):=jy.upd h3 rfl
  refine thn (h1 Kp s1 σ (upd H1 l (.lst xs)) [.ref l] us (fun v H3=>jr (upd H1 l (.lst xs)) H3/\Rep X.K H3 d v) (Inv.opened I1 (.l xs) h3) r1 (h2 [.list ds] d [.ref l] _ _ hf ⟨.ref l,[],rfl,⟨l,xs,rfl,jn,Reps.monoA sA _ _ rs⟩,rfl⟩ fun v H3 s3 r3=>⟨s3,r3⟩)) fun u s2 ⟨v,H3,I3,r,s3,r3⟩=>?_
  have e3:H3 l=some (.lst xs):=s3 _ _ jn
  have k1:=(kk (.ok d) _ hR:zK X H1 (fun d H'=>∀ v,Rep X.K H' d v->Q v H') (.ok d) _)
  refine ⟨v,upd H3 l (qk l xs),Inv.closed I3 (.l xs) e3 (Inv.nofrz I1 h3),r,k1 _ (ah8 h3 s3).1 (ac0 cs hm h3 s3) v (Rep.monoN (fun b u hb m=>?_) d v hn r3)⟩
  have:b ≠ l:=fun z=>by subst z; rw [e3] at hb; cases hb; exact m _ rfl
  rw [jq this]; exact hb
def asr (od:PyData):TR Bool:=fun _ μ R=>∃ a ds,od=js a/\μ a=some (.lst ds)/\R (.ok (!ds.isEmpty)) μ
theorem aoO (ho:PEC X e To) (he:∀ whole,isTrue e X.env whole=(do let v ←whole; standAt e.pos; holding [v] (truthy v)):=by intro _; rfl):PTC X e (bindC To asr):=by
 with_unfolding_all
  intro Kp s σ H Q I h
  refine isTrue_plain (thn (ho Kp s σ H (fun y H1=>∃ od,Rep X.K H1 od y/\AtC X σ H1 (asr od) Q) I ((AtC.bind h).imp fun od H1 _ ⟨s1,h1⟩ y ry=>⟨od,ry,h1⟩)) fun v s1 ⟨y,H1,I1,ry,od,rod,ρ,μ,R,en,cs,⟨l,ds,hd,hm,hR⟩,kk⟩=>?_) (he _)
  subst hd
  cases Rep.celOut rod
  obtain ⟨xs,h3,rs⟩:=cs l _ hm
  have ee:xs.isEmpty=ds.isEmpty:=by
   have:=rs.length
   cases xs <;> cases ds <;> first | rfl | simp at this
  refine thn (aqp Kp s1 σ (upd H1 l (.lst xs)) (.ref l) v (fun k H3=>k=!xs.isEmpty/\H3=upd H1 l (.lst xs)) (Inv.opened I1 (.l xs) h3) ry ⟨!xs.isEmpty,.inl ⟨xs,SqL.of jn,rfl⟩,rfl,rfl⟩) fun b s2 ⟨H3,I3,hb,e3⟩=>?_
  subst hb
  have k1:=(kk (.ok (!ds.isEmpty)) _ hR:zK X H1 Q (.ok (!ds.isEmpty)) _)
  have s3:jr (upd H1 l (.lst xs)) H3:=by rw [e3]; exact jr.refl _
  rw [ee]
  exact ⟨upd H3 l (qk l xs),Inv.closed I3 (.l xs) (s3 _ _ jn) (Inv.nofrz I1 h3),k1 _ (ah8 h3 s3).1 (ac0 cs hm h3 s3)⟩
theorem agP {k j n:Nat}{ps:List Str}{g:LP->OP}{p:Pos} (C:jm X.prog X.w X.K X.mg X.base x ps k n g) (hr:Room j X.A) (hkj:k<=j) (ha:PAC X (e::es) Tr)
  (hg:Gl X x:=by rfl) (hdb:(x == ("__debug__":Str))=false:=by decide) (he:starEach (e::es) X.env=(false,eval e X.env)::starEach es X.env:=by rfl)
  (hpl:(backTo pos (starEach es X.env)).any (·.1)=false:=by rfl):PEC X (.Call (.Name x p) (e::es) [] pos) (bindC Tr fun ds=>zx (if ds.length=n then g ds else none)):=by
 with_unfolding_all
  obtain ⟨f,fd,h1,h2,h3,h4⟩:=C
  exact PE.imp (aeL h1 (hr.mono hkj) hg h2 h3 h4 .nil adR ha hdb he hpl) fun σ H Q h=>(AtC.bind h).imp fun ds H1 _ ⟨s1,h1⟩ vs rv=>by
   obtain ⟨d,hd,k⟩:=h1.ret
   by_cases hn:ds.length=n
   ·rw [if_pos hn] at hd
    exact ⟨ds,d,hn,by rw [List.append_nil]; exact rv,hd,fun v H' s r=>k H' s v r⟩
   ·rw [if_neg hn] at hd; cases hd
def agQ (n:Nat) (g:LP->OP) (t:LP->Option Str) (ds:LP):TR PyData:=fun _ μ R=>ds.length=n/\((∃ d,g ds=some d/\R (.ok d) μ) ∨ ∃ c,t ds=some c/\R (.er c) μ)
theorem Zm {k k' j n:Nat}{ps:List Str}{g:LP->OP}{gx:LP->Option Str}{p:Pos} (hxe:X.ex=[]) (C:jm X.prog X.w X.K X.mg X.base x ps k n g) (C':qL X.prog X.w X.K X.mg X.base x ps k' n gx) (hr:Room j X.A) (hkj:k<=j) (hkj':k'<=j) (ha:PAC X (e::es) Tr)
  (hg:Gl X x:=by rfl) (hdb:(x == ("__debug__":Str))=false:=by decide) (he:starEach (e::es) X.env=(false,eval e X.env)::starEach es X.env:=by rfl)
  (hpl:(backTo pos (starEach es X.env)).any (·.1)=false:=by rfl):PEC X (.Call (.Name x p) (e::es) [] pos) (bindC Tr (agQ n g gx)):=by
 with_unfolding_all
  intro Kp s σ H Q I h
  obtain ⟨f,fd,F,hm,hk,hb⟩:=C
  obtain ⟨f',fd',F',hm',hk',hb'⟩:=C'
  rw [hm] at hm'
  have ef:f=f':=by cases hm'; rfl
  subst ef
  refine wpAny_Call_Name_kw (Qm I hg hm ?_ hdb)
  refine PySem.W.callWith_K (h₀:=X.base) I.ok.mod.kin hk (thn (ha pos Kp s σ H (fun vs H1=>∃ ds,Reps X.K H1 ds vs/\AtC X σ H1 (agQ n g gx ds) fun d H'=>∀ v,Rep X.K H' d v->Q v H') I ((AtC.bind h).imp fun ds H1 _ ⟨s1,h1⟩ vs rv=>⟨ds,rv,h1⟩)) fun us s1 ⟨vs,H1,I1,r,ds,rd,q⟩=>⟨I1.kIn,?_⟩) he hpl
  obtain ⟨ρ,μ,R,en,cs,⟨hn,hG⟩,kk⟩:=q
  rcases hG with ⟨d,hd,hR⟩ | ⟨c,hc,hR⟩
  ·have k1:=(kk (.ok d) _ hR:zK X H1 (fun d H'=>∀ v,Rep X.K H' d v->Q v H') (.ok d) _)
   exact aeK F (hr.mono hkj) hb .nil adR I1 r ⟨ds,d,hn,by rw [List.append_nil]; exact rd,hd,fun v H' s r=>k1 H' (jr.a s) (cs.mono s) v r⟩
  ·have sp:ah1 X.K X.mg n gx vs H1 (fun _ _=>False) (fun cls _ H'=>X.mg c=some cls/\jr H1 H'):=⟨ds,c,hn,rd,hc,fun C H' hC s2=>⟨hC,s2⟩⟩
   have hlu:(us++[]).length=ps.length:=by rw [List.append_nil,←r.length]; exact F'.len _ _ _ _ sp
   have hbd:=hb' s1 us I1.kIn hlu
   rw [List.append_nil] at hbd
   refine wpAny_call (codeAny_mono (F'.run X.A X.stack s1 H1 ⟨us,[]⟩ us vs _ _ (hr.mono hkj') I1.env0 hbd r sp) fun rs s' hq=>?_)
   cases rs with
   | error ev=>
    obtain ⟨e0,C,H',rfl,os,bare,un,hok,xc,hC,sm2⟩:=hq
    have J':Inv X Kp σ H' s':=I1.call' (ch:=[]) os un hok bare fun b z=>nomatch z
    have J0:Inv X [] σ H' s':=J'.pins_of fun p hp=>nomatch hp
    have k1:=(kk (.er c) _ hR:zK X H1 (fun d H'=>∀ v,Rep X.K H' d v->Q v H') (.er c) _)
    have x1:=Xc.of hxe I1 xc
    have t1:ae5 X H1 μ c (.ref e0) s':=⟨e0,C,σ,H',rfl,hC,J0,jr.a sm2,cs.mono sm2,x1⟩
    exact k1 (.ref e0) s' t1
   | ok fl=>
    cases fl with
    | ret u=>obtain ⟨v,H',_,_,_,_,_,z⟩:=hq; exact z.elim
    | next=>exact False.elim hq
    | brk=>exact False.elim hq
    | cont=>exact False.elim hq
theorem Zn {id:String}{g:LP->OP}{p:Pos} (hc:QV X (.builtin id) g) (hm:X.mg x=none) (hv:bootBuiltins x=some (.builtin id)) (ha:PAC X (e::es) Tr) (hg:Gl X x:=by rfl) (hn:x ≠ "__name__":=by decide) (hdb:(x == ("__debug__":Str))=false:=by decide)
  (he:starEach (e::es) X.env=(false,eval e X.env)::starEach es X.env:=by rfl) (hpl:(backTo pos (starEach es X.env)).any (·.1)=false:=by rfl):PEC X (.Call (.Name x p) (e::es) [] pos) (bindC Tr fun ds=>zx (g ds)):=by
 with_unfolding_all
  obtain ⟨r,h1,h2⟩:=hc
  exact PE.imp (aae h1 hg hm hv ha hn hdb he hpl) fun σ H Q h=>(AtC.bind h).imp fun ds H1 _ ⟨s1,h3⟩ vs rv=>by
   obtain ⟨d,hd,k⟩:=h3.ret
   exact h2 ds d vs H1 Q hd rv fun v H' s r=>k H' s v r
theorem abY {x1} (h:PAC X es Tr):PEC X (.Tuple es x1 pos) (bindC Tr fun ds=>zx (if few ds=true then some (.tuple ds) else none)):=by
 with_unfolding_all
  exact PE.imp (ahG h) fun σ H Q h=>(AtC.bind h).imp fun ds H1 _ ⟨s1,h3⟩ vs rv=>by
   obtain ⟨d,hd,k⟩:=h3.ret
   by_cases hf:few ds=true
   ·rw [if_pos hf] at hd; cases hd
    refine ⟨by rw [rv.length]; exact aa4 (by simpa [few] using hf),fun p hp=>?_⟩
    exact k _ (jM hp) (.ref p) ⟨p,vs,rfl,SqT.of jn,Reps.mono (jM hp) _ _ rv⟩
   ·rw [if_neg hf] at hd; cases hd
end
section
variable {X:Cx}{e a b c o tg src:Expr}{es:List Expr}{st:Stmt}{body:List Stmt}{S:TRS}{Tt:TR Bool}{Tr:TR (LP)}{pos:Pos}{x:Str}
def apU (nx:Rho->jx->Prop) (R:OutC->jx->Prop):OutC->jx->Prop
 | .nx ρ,μ=>nx ρ μ
 | .ct ρ,μ=>nx ρ μ
 | .bk ρ,μ=>R (.nx ρ) μ
 | .rt d,μ=>R (.rt d) μ
 | .er c,μ=>R (.er c) μ
def ZU (ga:PyData->Rho->Option Rho) (S:TRS):LP->TRS
 | []=>fun ρ μ R=>R (.nx ρ) μ
 | d::r=>fun ρ μ R=>∃ ρ1,ga d ρ=some ρ1/\S ρ1 μ (apU (fun ρ2 μ2=>ZU ga S r ρ2 μ2 R) R)
def atu (fi:Rho->Option (LP)) (ga:PyData->Rho->Option Rho) (S:TRS):TRS:=fun ρ μ R=>∃ ds,fi ρ=some ds/\ZU ga S ds ρ μ R
theorem ajs {fi:Rho->Option (LP)}{ga:PyData->Rho->Option Rho} (hp:PassesOwn (model X.prog X.w) X.A X.env X.xe) (hc:X.calm=true) (hi:PID X tg src fi) (hg:PGD X tg ga) (hb:Z6 X body S)
  (hs:∀ x,foldedSetIterable src X.env x=pure x:=by intro _; rfl):PSC X (.For tg src body [] pos) (atu fi ga S):=by
 with_unfolding_all
  refine PS.imp (ZY hp hc hi hg hb hs) fun D σ H ⟨ρ,μ,R,en,cs,⟨ds,h1,q'⟩,k⟩=>?_
  refine ⟨ρ,ds,en,h1,fun J H1 s1 Y=>?_⟩
  refine ⟨fun i m σ2 H2=>m=ds.length - i/\i<=ds.length/\∃ ρ2 μ2,jy H1 H2/\EnvR X.K H2 ρ2 σ2/\qf X.K H2 μ2/\ZU ga S (ds.drop i) ρ2 μ2 R,⟨ds.length,by simp,Nat.zero_le _,ρ,μ,jy.refl _,en.mono s1,cs.mono s1,by simpa using q'⟩,?_⟩
  rintro i m σ2 H2 ⟨rfl,hi,ρ2,μ2,sA,en2,cs2,q2⟩
  obtain ⟨g1,g2,g3⟩:=Y i H2 sA
  by_cases hlt:i<ds.length
  ·right
   rw [List.drop_eq_getElem_cons hlt] at q2
   obtain ⟨ρ4,h4,q3⟩:=q2
   refine ⟨g1 hlt,fun σ3 H3=>∃ ρ3 μ3,jy H1 H3/\EnvR X.K H3 ρ3 σ3/\qf X.K H3 μ3/\ZU ga S (ds.drop (i+1)) ρ3 μ3 R,fun σ3 H3 z=>⟨ds.length - (i+1),by omega,rfl,hlt,z⟩,fun x H3 y=>?_⟩
   obtain ⟨s3,r3⟩:=g3 x H3 y
   have r3':=r3 ds[i] (by simp [hlt])
   refine ⟨ρ2,ds[i],ρ4,en2.mono s3,r3',h4,fun σ5 H5 s5 en5=>?_⟩
   have s15:jy H1 H5:=(sA.trans (jr.a s3)).trans (jr.a s5)
   have s05:jy H H5:=(jr.a s1).trans s15
   refine ⟨ρ4,μ2,_,en5,(cs2.mono s3).mono s5,q3,fun o μ' r=>?_⟩
   cases o with
   | nx ρ6=>exact fun σ6 H6 s6 e6 c6=>⟨ρ6,μ',s15.trans s6,e6,c6,r⟩
   | ct ρ6=>exact fun σ6 H6 s6 e6 c6=>⟨ρ6,μ',s15.trans s6,e6,c6,r⟩
   | bk ρ6=>exact fun σ6 H6 s6 e6 c6=>(k (.nx ρ6) μ' r:zL X H D (.nx ρ6) μ') σ6 H6 (s05.trans s6) e6 c6
   | rt d=>exact fun v H6 s6 e6 c6=>(k (.rt d) μ' r:zL X H D (.rt d) μ') v H6 (s05.trans s6) e6 c6
   | er c=>exact fun ev s' t=>(k (.er c) μ' r:zL X H D (.er c) μ') ev s' (t.mono s05)
  ·left
   have hn:ds.drop i=[]:=List.drop_of_length_le (by omega)
   rw [hn] at q2
   exact ⟨g2 (by omega),(k (.nx ρ2) μ2 q2:zL X H D (.nx ρ2) μ2) σ2 H2 ((jr.a s1).trans sA) en2 cs2⟩
end
def QQ (R:Res PyData->jx->Prop):OutC->jx->Prop
 | .rt d,μ=>R (.ok d) μ
 | .nx _,μ=>R (.ok .none) μ
 | .er c,μ=>R (.er c) μ
 | _,_=>False
def qr (N:List Str) (T:TRS):GC3:=fun ds μ R=>T (jK N ds) μ (QQ R)
def ac1 (K:Fg) (n:Nat) (g:GC3):Sp:=fun vs H Q _=>∃ ds μ R,ds.length=n/\Reps K H ds vs/\qf K H μ/\g ds μ R/\(∀ d μ',R (.ok d) μ'->∀ v H',jy H H'->Rep K H' d v->qf K H' μ'->Q v H')/\∀ c μ',¬ R (.er c) μ'
def ZV (P:Program) (w:World) (K:Fg) (mg:SV) (base:Heap) (x:Str) (ps:List Str) (k n:Nat) (g:GC3):Prop:=
 ∃ (f:Addr) (fd:FuncData),FnOk P w K mg base CX0 k f fd ps (ac1 K n g)/\mg x=some (.ref f)/\PySem.W.keepIn K (.ref f)=true/\Jl K fd ps []
section
variable {P:Program}{w:World}{K:Fg}{mg:SV}{base:Heap}
theorem Z7 {x qual:Str}{st:Stmt}{f:Addr}{fd:FuncData}{N ps:List Str}{k:Nat}{T:TRS} (F:Fun K x qual st f fd) (S:FnScope N ps (je st))
  (body:∀ (Kc:Value) (A:Around) (Ko:List Env) (s:Shared) (H:Hp) (E:XK),Room k (A.deeper (envOfC qual (je st) s.heap.objs.size f Kc))->Z6 (zW (CXt P w) P w K mg base N qual (je st) f Kc A Ko s H E) (jR st) T):
  FnOk P w K mg base (CXt P w) (k+1) f fd ps (agN K mg ps.length (qr N T)):=by
 with_unfolding_all
  obtain ⟨oc,od,kV,doc,pm,an,Kc,ct,osl,rfl,lk,hcd⟩:=F.ex
  refine ah2 lk hcd S (fun vs H Q E h=>?_) fun A Ko s H vs Q E s1 hr h I=>?_
  ·obtain ⟨ds,μ,R,h1,h2,_⟩:=h
   rw [h2.length]; exact h1
  ·obtain ⟨ds,μ,R,h1,h2,h3,h4,h5,h6⟩:=h
   refine body Kc A Ko s H E hr [] s1 (L2.Jm N vs) H _ I ⟨jK N ds,μ,_,Qd h2,h3,h4,fun o μ' r=>?_⟩
   cases o with
   | rt d=>exact fun v H' sA rv c=>h5 d μ' r v H' sA rv c
   | nx ρ=>exact fun σ H' sA e c=>h5 .none μ' r .non H' sA rfl c
   | bk ρ=>exact r.elim
   | ct ρ=>exact r.elim
   | er c=>
    intro ev s' t
    obtain ⟨e,C,σ',H',rfl,hC,J,sm,cs',xc⟩:=t
    have T0:Top0 (zW (CXt P w) P w K mg base N qual (je st) f Kc A Ko s H E):=acR
    show wpAny (model P w) (A.deeper (envOfC qual (je st) s.heap.objs.size f Kc)) (leaving (envOfC qual (je st) s.heap.objs.size f Kc) (.ref e)) (fun _ s''=>CXt P w Ko H s E (.ref e) s'') (fun e' s''=>CXt P w Ko H s E e' s'') s'
    have n1:=abV (E:=fun _ _=>False) (A:=A.deeper (envOfC qual (je st) s.heap.objs.size f Kc)) T0 J.ok.frames J xc
    unfold leaving
    refine wpAny_bind (wpAny_mono n1 (fun _ s2 ⟨J2,t2⟩=>?_) fun _ _ z=>z.elim)
    have n2:=Jw (E:=fun _ _=>False) (A:=A.deeper (envOfC qual (je st) s.heap.objs.size f Kc)) none J2 t2
    refine wpAny_mono n2 (fun _ s3 ⟨J3,t3⟩=>?_) fun _ _ z=>z.elim
    obtain ⟨oe,ws,T,oT,ts,g1,g2,g3,g4,g5,g6,g7,g8,g9⟩:=t3.ob
    exact ⟨e,C,H',rfl,J3.os,J3.bare,J3.base,J3.hok,⟨t3.mine.un,t3.mine.new,oe,ws,T,oT,ts,g1,g2,g3,g4,g5,g6.un,g6.new,g7,g8,g9⟩,h6 c μ' r C H' hC sm cs'⟩
theorem amA {x qual:Str}{st:Stmt}{f:Addr}{fd:FuncData}{N ps:List Str}{k:Nat}{T:TRS} (F:Fun K x qual st f fd) (S:FnScope N ps (je st))
  (body:∀ (Kc:Value) (A:Around) (Ko:List Env) (s:Shared) (H:Hp) (E:XK),Room k (A.deeper (envOfC qual (je st) s.heap.objs.size f Kc))->Z6 (zW CX0 P w K mg base N qual (je st) f Kc A Ko s H E).nox (jR st) T):
  FnOk P w K mg base CX0 (k+1) f fd ps (ac1 K ps.length (qr N T)):=by
 with_unfolding_all
  refine F.ok S (fun vs H Q E h=>?_) (fun Kc A Ko s H vs Q E hr h=>?_)
  ·obtain ⟨ds,μ,R,h1,h2,_⟩:=h
   rw [h2.length]; exact h1
  ·obtain ⟨ds,μ,R,h1,h2,h3,h4,h5,h6⟩:=h
   refine ⟨_,body Kc A Ko s H E hr,jK N ds,μ,_,Qd h2,h3,h4,fun o μ' r=>?_⟩
   cases o with
   | rt d=>exact fun v H' sA rv c=>h5 d μ' r v H' sA rv c
   | nx ρ=>exact fun σ H' sA e c=>h5 .none μ' r .non H' sA rfl c
   | bk ρ=>exact r.elim
   | ct ρ=>exact r.elim
   | er c=>exact (h6 c μ' r).elim
end
section
variable {X:Cx}{e:Expr}{es:List Expr}{Tr:TR (LP)}{pos:Pos}{x:Str}
def atv (R:Res PyData->jx->Prop):Res PyData->jx->Prop
 | .ok d,μ=>R (.ok d) μ
 | .er _,_=>False
def ass (g:GC3) (n:Nat) (ds:LP):TR PyData:=fun _ μ R=>ds.length=n/\g ds μ (atv R)
theorem qA {k j n:Nat}{ps:List Str}{g:GC3}{p:Pos} (C:ZV X.prog X.w X.K X.mg X.base x ps k n g) (hr:Room j X.A) (hkj:k<=j) (ha:PAC X (e::es) Tr)
  (hg:Gl X x:=by rfl) (hdb:(x == ("__debug__":Str))=false:=by decide) (he:starEach (e::es) X.env=(false,eval e X.env)::starEach es X.env:=by rfl)
  (hpl:(backTo pos (starEach es X.env)).any (·.1)=false:=by rfl):PEC X (.Call (.Name x p) (e::es) [] pos) (bindC Tr (ass g n)):=by
 with_unfolding_all
  obtain ⟨f,fd,h1,h2,h3,h4⟩:=C
  exact PE.imp (aeL h1 (hr.mono hkj) hg h2 h3 h4 .nil adR ha hdb he hpl) fun σ H Q h=>(AtC.bind h).imp fun ds H1 _ ⟨s1,ρ,μ,R,en,cs,⟨hn,t⟩,k⟩ vs rv=>
   ⟨ds,μ,_,hn,by rw [List.append_nil]; exact rv,cs,t,fun d μ' r v H' s rd c=>(k (.ok d) μ' r:zK X H1 (fun d H'=>∀ v,Rep X.K H' d v->Q v H') (.ok d) μ') H' s c v rd,fun c μ' r=>r⟩
end
@[irreducible] def aoP (X:Cx) (st:Stmt) (T:TRS):Prop:=∀ (s:Shared) (σ:St) (H:Hp) (D:Ends),Inv X [] σ H s->AtS X σ H T D->wpAny (model X.prog X.w) X.A (exec st X.env) (SP X [] D) X.xe s
@[irreducible] def ac2 (X:Cx) (sts:List Stmt) (T:TRS):Prop:=∀ (s:Shared) (σ:St) (H:Hp) (D:Ends),Inv X [] σ H s->AtS X σ H T D->wpAny (model X.prog X.w) X.A (execs sts X.env) (SP X [] D) X.xe s
section
variable {X:Cx}{st b0:Stmt}{sts j8 tb hb:List Stmt}{S S':TRS}{G:RO}{pos:Pos}
theorem ajt (h:PSC X st S):aoP X st S:=by
 with_unfolding_all
  exact fun s σ H D I t=>h [] s σ H D I t
theorem Q5 (h:Z6 X sts S):ac2 X sts S:=by
 with_unfolding_all
  exact fun s σ H D I t=>h [] s σ H D I t
theorem zN (h1:aoP X st S) (h2:ac2 X j8 S'):ac2 X (st::j8) (Ja S S'):=by
 with_unfolding_all
  intro s σ H D I ⟨ρ,μ,R,en,cs,t,k⟩
  refine wpAny_execs_cons (thn (h1 s σ H { D with nx:=fun σ' H'=>AtS X σ' H' S' D } I ⟨ρ,μ,_,en,cs,t,fun o μ' r=>?_⟩) fun f s1 q=>?_)
  ·cases o with
   | nx ρ'=>exact fun σ' H' s e c=>⟨ρ',μ',R,e,c,r,fun o μ2 q=>(k o μ2 q).mono s⟩
   | rt d=>exact k (.rt d) μ' r
   | bk d=>exact k (.bk d) μ' r
   | ct d=>exact k (.ct d) μ' r
   | er d=>exact k (.er d) μ' r
  ·cases f with
   | next=>
    obtain ⟨σ',H',I',q⟩:=q
    exact h2 s1 σ' H' D I' q
   | ret v=>exact q
   | brk=>exact q
   | cont=>exact q
end
section
variable {P:Program}{w:World}{K:Fg}{mg:SV}{base:Heap}
theorem aq0 {x qual:Str}{st:Stmt}{f:Addr}{fd:FuncData}{N ps:List Str}{k:Nat}{T:TRS} (F:Fun K x qual st f fd) (S:FnScope N ps (je st))
  (body:∀ (Kc:Value) (A:Around) (Ko:List Env) (s:Shared) (H:Hp) (E:XK),Room k (A.deeper (envOfC qual (je st) s.heap.objs.size f Kc))->ac2 (zW CX0 P w K mg base N qual (je st) f Kc A Ko s H E) (jR st) T):
  FnOk P w K mg base CX0 (k+1) f fd ps (ac1 K ps.length (qr N T)):=by
 with_unfolding_all
  obtain ⟨oc,od,kV,doc,pm,an,Kc,ct,osl,rfl,lk,hcd⟩:=F.ex
  refine ah2 lk hcd S (fun vs H Q E h=>?_) fun A Ko s H vs Q E s1 hr h I=>?_
  ·obtain ⟨ds,μ,R,h1,h2,_⟩:=h
   rw [h2.length]; exact h1
  ·obtain ⟨ds,μ,R,h1,h2,h3,h4,h5,h6⟩:=h
   refine body Kc A Ko s H E hr s1 (L2.Jm N vs) H _ I ⟨jK N ds,μ,_,Qd h2,h3,h4,fun o μ' r=>?_⟩
   cases o with
   | rt d=>exact fun v H' sA rv c=>h5 d μ' r v H' sA rv c
   | nx ρ=>exact fun σ H' sA e c=>h5 .none μ' r .non H' sA rfl c
   | bk ρ=>exact r.elim
   | ct ρ=>exact r.elim
   | er c=>exact (h6 c μ' r).elim
def zy (K:Fg) (x m qual:Str) (st:Stmt):Prop:=
 ∃ (C f:Addr) (oc:Value) (od an:Option Addr) (kV doc pm Kc ct:Value) (osl:Array (Option Value)),PySem.W.nsIn K mainGlobals x=some (some (.ref C))/\PySem.W.findIn K (.ref C) m=some (some (.ref f))/\PySem.W.isFn K (.ref f)=true/\
  K.lookup f=some ⟨oc,od,.func (PySem.W.fnOf m qual (zR st) (jR st) (je st) .none kV doc pm an Kc ct),osl⟩/\PySem.W.codeIn K Kc qual=true/\PySem.W.keepIn K (.ref f)=true
theorem qB {x m qual:Str}{st:Stmt}{C f:Addr}{oc:Value}{od an:Option Addr}{kV doc pm Kc ct:Value}{osl:Array (Option Value)} (a:PySem.W.nsIn K mainGlobals x=some (some (.ref C))) (b:PySem.W.findIn K (.ref C) m=some (some (.ref f))) (i:PySem.W.isFn K (.ref f)=true)
  (l:K.lookup f=some ⟨oc,od,.func (PySem.W.fnOf m qual (zR st) (jR st) (je st) .none kV doc pm an Kc ct),osl⟩) (c:PySem.W.codeIn K Kc qual=true) (k:PySem.W.keepIn K (.ref f)=true):zy K x m qual st:=
 ⟨C,f,oc,od,an,kV,doc,pm,Kc,ct,osl,a,b,i,l,c,k⟩
def akA (K:Fg) (x:Str):Prop:=∃ C,PySem.W.nsIn K mainGlobals x=some (some (.ref C))/\Cls K C/\PySem.W.makesIn K C=true/\PySem.W.keepIn K (.ref C)=true
theorem aoQ {x:Str}{C:Addr} (a:PySem.W.nsIn K mainGlobals x=some (some (.ref C))) (b:PySem.W.plainGet K C Str.empty=true) (c:PySem.W.hasDictIn K C=true) (d:PySem.W.plainOver K C=true) (e:PySem.W.findIn K (.ref C) "__setattr__"=some (some (.builtin "object.__setattr__")))
  (f:PySem.W.makesIn K C=true) (g:PySem.W.keepIn K (.ref C)=true):akA K x:=⟨C,a,⟨b,c,d,e⟩,f,g⟩
theorem aoR {x f:Str}{C:Addr} (T:akA K x) (a:PySem.W.nsIn K mainGlobals x=some (some (.ref C))) (b:PySem.W.findIn K (.ref C) f=some none):qw K x f:=fun C' h=>by
 obtain ⟨D,d1,d2,_⟩:=T
 rw [a] at h; cases h
 rw [a] at d1; cases d1
 exact ⟨d2,b⟩
abbrev jX (x qual:Str) (st:Stmt) (ps:List Str):Prop:=∀ (kV doc pm:Value) (an:Option Addr) (Kc ct:Value) (us:List Value),us.length=ps.length->bindArgs (PySem.W.fnOf x qual (zR st) (jR st) (je st) .none kV doc pm an Kc ct) ⟨us,[]⟩=pure (ps.zip us)
theorem zy.met {x m qual:Str}{st:Stmt}{ps:List Str}{k n:Nat}{g:GC3} (T:zy K x m qual st) (Tc:akA K x) (hb:jX m qual st ps)
  (F:∀ (f:Addr) (fd:FuncData),Fun K m qual st f fd->FnOk P w K mg base (CXt P w) k f fd ps (agN K mg n g)):qK P w K mg base x m ps k n g:=by
 obtain ⟨C,f,oc,od,an,kV,doc,pm,Kc,ct,osl,a,b,i,l,c,kp⟩:=T
 obtain ⟨C',a',cl,_⟩:=Tc
 rw [a] at a'; cases a'
 have F1:=aa1 (st:=st) l c kp
 exact ⟨C,f,_,a,cl,⟨b,i,kp⟩,F f _ F1,F1.binds hb⟩
theorem zy.mak {h:Heap}{x qual:Str}{st:Stmt}{ps:List Str}{k n:Nat}{g:GC3} (T:zy K x "__init__" qual st) (Tc:akA K x) (X:K.In h) (G:h.Ns mainGlobals mg) (hb:jX "__init__" qual st ps)
  (F:∀ (f:Addr) (fd:FuncData),Fun K "__init__" qual st f fd->FnOk P w K mg base (CXt P w) k f fd ps (agN K mg n g)):amx P w K mg base x ps k n g:=by
 obtain ⟨C,f,oc,od,an,kV,doc,pm,Kc,ct,osl,a,b,i,l,c,kp⟩:=T
 obtain ⟨C',a',cl,mk,kc⟩:=Tc
 rw [a] at a'; cases a'
 have F1:=aa1 (st:=st) l c kp
 exact ⟨C,f,_,a,PySem.W.mg_of X G a,⟨mk,b,i,kc⟩,F f _ F1,F1.binds hb⟩
theorem jW.cal0 {h:Heap}{x:Str}{st:Stmt}{ps:List Str}{k n:Nat}{g:GC3} (T:jW K x st) (X:K.In h) (G:h.Ns mainGlobals mg)
  (hb:ju x st ps) (F:∀ (f:Addr) (fd:FuncData),Fun K x x st f fd->FnOk P w K mg base CX0 k f fd ps (ac1 K n g)):ZV P w K mg base x ps k n g:=by
 obtain ⟨f,oc,od,an,kV,doc,pm,Kc,ct,osl,a,l,c,kp⟩:=T
 have F1:=aa1 (st:=st) l c kp
 exact ⟨f,_,F f _ F1,PySem.W.mg_of X G a,kp,F1.binds hb⟩
end
section
variable {X:Cx}{e a b tg src:Expr}{es:List Expr}{Tr:TR (LP)}{S:TRS}{body:List Stmt}{pos:Pos}
end
section
variable {X:Cx}{e a b c tg src:Expr}{es:List Expr}{Ta Tb:TR PyData}{Tr:TR (LP)}{S:TRS}{body:List Stmt}{pos:Pos}{x:Str}
def tCI (X:Cx) (T:TR (LP)):TI:=fun σ H R=>AtC X σ H T fun ds H1=>∀ J,ahM X.K J ds H1->R J H1
@[irreducible] def PIC (X:Cx) (tg src:Expr) (T:TR (LP)):Prop:=PI X tg src (tCI X T)
theorem amB {ds d:LP} (h:aeS ds=some d):∃ j:Int,ds=[.int j]/\-(2 ^ 62)<=j/\j<2 ^ 62/\d=Jf 0 j.toNat:=by
 unfold aeS at h
 split at h
 ·split at h
  ·rename_i hj
   cases h
   exact ⟨_,rfl,hj.1,hj.2,rfl⟩
  ·cases h
 ·cases h
theorem QD {p:Pos} (hg:Gl X "range") (hm:X.mg "range"=none) (ha:PAC X [a] Tr) (hs:starEach [a] X.env=[(false,eval a X.env)]:=by rfl):PIC X tg (.Call (.Name "range" p) [a] [] pos) (bindC Tr fun ds=>zx (aeS ds)):=by
 with_unfolding_all
  refine PI.imp (Zi hg hm ha hs) fun σ H R h=>(AtC.bind h).imp fun ds H1 _ ⟨s1,h1⟩ vs rv=>?_
  obtain ⟨d,q',k⟩:=h1.ret
  obtain ⟨j,e0,h2,h3,e4⟩:=amB q'
  subst e0; subst e4
  obtain ⟨x,r,e1,e2,e3⟩:=rv
  cases (show x=V.int j from e2)
  cases (show r=[] from e3)
  exact ⟨j,e1,h2,h3,k H1 (jr.refl _) _ (aah 0 j.toNat)⟩
def ast (T:TR (LP)) (ga:PyData->Rho->Option Rho) (S:TRS):TRS:=zj T fun ds=>ZU ga S ds
theorem aaz {ga:PyData->Rho->Option Rho} (hp:PassesOwn (model X.prog X.w) X.A X.env X.xe) (hc:X.calm=true) (hi:PIC X tg src Tr) (hg:PGD X tg ga) (hb:Z6 X body S)
  (hs:∀ x,foldedSetIterable src X.env x=pure x:=by intro _; rfl):PSC X (.For tg src body [] pos) (ast Tr ga S):=by
 with_unfolding_all
  refine PS.imp (ZY hp hc hi hg hb hs) fun D σ H h=>(AtS.bind h).imp fun ds H1 _ ⟨s1,ρ,μ,R,en,cs,q',k⟩ J Y=>?_
  refine ⟨fun i m σ2 H2=>m=ds.length - i/\i<=ds.length/\∃ ρ2 μ2,jy H1 H2/\EnvR X.K H2 ρ2 σ2/\qf X.K H2 μ2/\ZU ga S (ds.drop i) ρ2 μ2 R,⟨ds.length,by simp,Nat.zero_le _,ρ,μ,jy.refl _,en,cs,by simpa using q'⟩,?_⟩
  rintro i m σ2 H2 ⟨rfl,hi,ρ2,μ2,sA,en2,cs2,q2⟩
  obtain ⟨g1,g2,g3⟩:=Y i H2 sA
  by_cases hlt:i<ds.length
  ·right
   rw [List.drop_eq_getElem_cons hlt] at q2
   obtain ⟨ρ4,h4,q3⟩:=q2
   refine ⟨g1 hlt,fun σ3 H3=>∃ ρ3 μ3,jy H1 H3/\EnvR X.K H3 ρ3 σ3/\qf X.K H3 μ3/\ZU ga S (ds.drop (i+1)) ρ3 μ3 R,fun σ3 H3 z=>⟨ds.length - (i+1),by omega,rfl,hlt,z⟩,fun x H3 y=>?_⟩
   obtain ⟨s3,r3⟩:=g3 x H3 y
   have r3':=r3 ds[i] (by simp [hlt])
   refine ⟨ρ2,ds[i],ρ4,en2.mono s3,r3',h4,fun σ5 H5 s5 en5=>?_⟩
   have s15:jy H1 H5:=(sA.trans (jr.a s3)).trans (jr.a s5)
   refine ⟨ρ4,μ2,_,en5,(cs2.mono s3).mono s5,q3,fun o μ' r=>?_⟩
   cases o with
   | nx ρ6=>exact fun σ6 H6 s6 e6 c6=>⟨ρ6,μ',s15.trans s6,e6,c6,r⟩
   | ct ρ6=>exact fun σ6 H6 s6 e6 c6=>⟨ρ6,μ',s15.trans s6,e6,c6,r⟩
   | bk ρ6=>exact fun σ6 H6 s6 e6 c6=>(k (.nx ρ6) μ' r:zL X H1 D (.nx ρ6) μ') σ6 H6 (s15.trans s6) e6 c6
   | rt d=>exact fun v H6 s6 e6 c6=>(k (.rt d) μ' r:zL X H1 D (.rt d) μ') v H6 (s15.trans s6) e6 c6
   | er c=>exact fun ev s' t=>(k (.er c) μ' r:zL X H1 D (.er c) μ') ev s' (t.mono s15)
  ·left
   have hn:ds.drop i=[]:=List.drop_of_length_le (by omega)
   rw [hn] at q2
   exact ⟨g2 (by omega),(k (.nx ρ2) μ2 q2:zL X H1 D (.nx ρ2) μ2) σ2 H2 sA en2 cs2⟩
end
def agR (K:Fg) (x f:Str):Prop:=∃ C,PySem.W.nsIn K mainGlobals x=some (some (.ref C))/\PySem.W.findIn K (.ref C) f=some none
theorem aaA {K:Fg}{x f:Str}{C:Addr} (a:PySem.W.nsIn K mainGlobals x=some (some (.ref C))) (b:PySem.W.findIn K (.ref C) f=some none):agR K x f:=⟨C,a,b⟩
theorem agR.cls {K:Fg}{x f:Str} (h:agR K x f) (T:akA K x):qw K x f:=by
 obtain ⟨C,a,b⟩:=h
 exact aoR T a b
section
variable {X:Cx}{tg src:Expr}{pos pos':Pos}
end
section
variable {X:Cx}
end
section
variable {X:Cx}
noncomputable def apV (ds:LP):OP:=match ds with
 | [.str z]=>if z.length<1000000 then some (.int z.length) else none
 | _=>none
theorem aoS:QV X (.builtin "len") apV:=by
 refine ⟨_,aeP,fun ds d xs H Q h r k=>?_⟩
 unfold apV at h
 split at h
 ·split at h
  ·rename_i hz
   cases h
   obtain ⟨x,q,z1,z2,z3⟩:=r
   cases (show q=[] from z3)
   cases (show x=_ from z2)
   exact ⟨_,z1,by rw [sizeLine_eq]; omega,k _ H (jr.refl H) rfl⟩
  ·cases h
 ·cases h
open Builtin Builtin.Str in
noncomputable def Z8:LP->Option (List Str)
 | []=>some []
 | .str x::r=>(Z8 r).map (x::·)
 | _=>none
theorem ad7 {K:Fg}{H:Hp}:∀ (ts:List Str),Reps K H (ts.map PyData.str) (ts.map V.str)
 | []=>rfl
 | t::ts=>⟨_,_,rfl,rfl,ad7 ts⟩
end
section
variable {X:Cx}{a b c:Expr}{fa fb fc:RP}{p2 pos:Pos}
noncomputable def aq1:PyData->PyData->OP
 | .str z,.int i=>if 0<=i/\i<1000000/\i<z.length then (z.cps[i.toNat]?).map fun c=> .str ⟨#[c]⟩ else none
 | _,_=>none
theorem aq2 (ha:PD X a fa) (hb:PD X b fb) (hs:agh b):PD X (.Subscript a b pos) (op2 aq1 fa fb):=by
 with_unfolding_all
  refine PE.imp (agi ha hb hs) fun σ H Q h=>alP (fun p q d x y H Q h rx ry k=>?_) h
  unfold aq1 at h
  split at h
  ·rename_i z i
   split at h
   ·rename_i hc
    cases h1:z.cps[i.toNat]? with
    | none=>simp [h1] at h
    | some c=>
     have:PyData.str ⟨#[c]⟩=d:=by simpa [h1] using h
     subst this
     cases (show x=_ from rx); cases (show y=_ from ry)
     exact ⟨z,i,c,rfl,rfl,hc.1,by omega,hc.2.2,h1,k _ H (jr.refl H) rfl⟩
   ·cases h
  ·cases h
theorem amC {K:Fg}{T:String} (hT:T="str") (d:PyData):PySem.W.kitOne K (.type (tyn d)) (.type T)=some (JD T d):=by
 subst hT
 cases d <;> first | rfl | (rename_i kvs; by_cases h:zH kvs=true <;> simp only [tyn,JD,h] <;> rfl)
theorem aoT {a:Expr}{fa:RP}{T:Str}{Tn:String}{p p2 pos:Pos} (hT:Tn="str") (hm1:X.mg "isinstance"=none) (hm2:X.mg T=none) (hv:bootBuiltins T=some (.type Tn)) (ha:PD X a fa)
  (hg1:Gl X "isinstance":=by rfl) (hg2:Gl X T:=by rfl) (hn:T ≠ "__name__":=by decide) (hd:(T == ("__debug__":Str))=false:=by decide)
  (he:starEach [a,.Name T p2] X.env=[(false,eval a X.env),(false,eval (.Name T p2) X.env)]:=by rfl) (he2:starEach [.Name T p2] X.env=[(false,eval (.Name T p2) X.env)]:=by rfl) (hpl:(backTo pos (starEach [.Name T p2] X.env)).any (·.1)=false:=by rfl):
  PD X (.Call (.Name "isinstance" p) [a,.Name T p2] [] pos) (fun ρ=>(fa ρ).bind fun d=>aal Tn d):=by
 with_unfolding_all
  have hT2:PE X (.Name T p2) (L2.tC (.ty Tn)):=aiV hg2 hm2 hv rfl hn hd
  refine PE.imp (aae (agx (T:=Tn)) hg1 hm1 (by decide +kernel) (qD ha (qD hT2 zw (by rw [he2]; rfl)) (by rw [he,he2])) (by decide) (by decide) (by rw [he,he2]) hpl) fun σ H Q ⟨ρ,d,en,q,k⟩=>?_
  cases h1:fa ρ with
  | none=>simp [h1] at q
  | some c=>
   obtain ⟨hF,rfl⟩:=agy (show aal Tn c=some d by simpa [h1] using q)
   exact ⟨ρ,c,en,h1,fun v H1 s1 r1=>⟨v,c,_,rfl,r1,hF,amC hT c,k _ H1 s1 rfl⟩⟩
end
theorem ad8 {H:Hp}{a:Addr}{ob:Obj}{ks:List (Key × V)} (h:H a=some (.frz ob (.dK ks))) (n:Str):aa2 H a (.str n) (Qq ks (Sum.inr n:Key)):= .inl ⟨ks,Sum.inr n,.inr ⟨ob,h⟩,rfl,rfl⟩
section
variable {X:Cx}{e a b c tg src:Expr}{es:List Expr}{fa fb fc:RP}{pos:Pos}
def apW (p q:PyData):OP:=match Qz p,q with
 | some r,.str n=>zJ r (Sum.inr n)
 | _,_=>none
def aju (neg:Bool) (q p:PyData):OP:=match Qz p,q with
 | some r,.str n=>some (.bool (if neg then !(zJ r (Sum.inr n)).isSome else (zJ r (Sum.inr n)).isSome))
 | _,_=>none
end
section
variable {X:Cx}{e a b c tg src:Expr}{es:List Expr}{st:Stmt}{sts j8 body:List Stmt}{fa fb fc:RP}{F G:RO}{pos:Pos}
def aq3 (P:Program) (w:World):V->V->V->Hp->(Hp->Prop)->Prop:=fun o k v H Q=>∃ a ks ob n,o= .ref a/\k= .str n/\H a=some (aao P w a ob ks)/\ks.length<sizeLine/\∀ ob',Q (upd H a (aao P w a ob' (putK ks (Sum.inr n) v)))
theorem akB (hu:X.A.units+1<cLine):anW X (aq3 X.prog X.w):=by
 intro Kp s σ H o k v ov iv u Q I ro rk rv ⟨a,ks,ob,n,e1,e2,h1,h2,q⟩
 subst e1; subst e2
 cases ro
 obtain ⟨t,rfl⟩:=rk
 refine ake hu (Inv.openD I h1) (akc.k (k:=Sum.inr n) jn h2) ⟨t,rfl⟩ rv fun s' I'=>?_
 obtain ⟨ob',I2⟩:=Inv.sealedD I' jn
 rw [zd,zd] at I2
 exact ⟨_,I2,q ob'⟩
end
noncomputable def sg (x:Str):List Nat:=x.cps.toList
theorem aq4 {x y:Str} (h:sg x=sg y):x=y:=Str.ext' (by
 have:=congrArg List.toArray h
 simpa [sg] using this)
noncomputable def ItU (x:Str):It:=
 ⟨fun i _=>i<x.cps.size,fun i H v H'=>H'=H/\∃ c,x.cps[i]?=some c/\v= .str ⟨#[c]⟩,fun i _=>x.cps.size<=i⟩
theorem akC {P:Program}{w:World}{K:Fg}{tg:Expr} (it:Addr) (x:Str) (t:Tok):Turn P w K tg (ItU x) [it] it (fun i h=>h.IsStrIter it "str_ascii_iterator" x t i) where
 mem:=by simp
 obj:=fun i h st b hb=>by
  have e:b=it:=by simpa using hb
  subst e
  obtain ⟨o,e,c,d⟩:=st
  exact ⟨o,e,fun v z=>by rw [d] at z; cases z⟩
 keep:=fun i h h' st k=>by
  obtain ⟨o,e,r⟩:=st
  exact ⟨o,k it (by simp) o e,r⟩
 item:=by
  intro X hP hw hK hc i Kp s σ H E I hf st hg
  subst hP hw hK
  have hg:i<x.cps.size:=hg
  obtain ⟨f0,f1,f2,f3,f4,f5⟩:=hf it (by simp)
  refine wpAny_pyNext_ascii_item st (c:=x.cps[i]) (by simp [hg]) fun h' st' sb=>?_
  have I1:Inv X Kp σ H { s with heap:=h',toks:=s.toks+1 }:=I.turned (t':=s.toks+1) (fun b o hb e=>(sb.2 b hb).trans e) f0 f1 f3 f4 f5
  obtain ⟨o,e,c,d⟩:=id st'
  exact ⟨_,rfl,aiX (s:={ s with heap:=h',toks:=s.toks+1 }) e c d (by decide) ⟨.str ⟨#[x.cps[i]]⟩,H,I1,⟨_,rfl⟩,⟨rfl,_,by simp [hg],rfl⟩,st',fun b hb=>(hf b hb).1⟩⟩
 done:=by
  intro X hP hw hK hc i Kp s σ H E I hf st hg
  subst hP hw hK
  have hg:x.cps.size<=i:=hg
  obtain ⟨f0,f1,f2,f3,f4,f5⟩:=hf it (by simp)
  exact wpAny_pyNext_ascii_end (I.ok.hd hc) st (by simp; omega) fun h' eb=>⟨rfl,I.turned (t':=s.toks) (fun b o hb e=>eb b o hb e) f0 f1 f3 f4 f5⟩
 self:=fun _ _ _ _ _ st h=>wpAny_pyIter_striter_ascii st h
noncomputable def ah9 (x:Str):Bool:=x.cps.all (· < 128)
noncomputable def abg (x:Str):LP:=x.cps.toList.map fun c=> .str ⟨#[c]⟩
section
variable {X:Cx}{e:Expr}{fa:RP}{tg:Expr}
def asu (tl:TE):TI:=fun σ H R=>tl σ H fun v H1=>∃ x,v= .str x/\ah9 x=true/\R (ItU x) H1
theorem aoU {l:Expr}{tl:TE} (hl:PE X l tl):PI X tg l (asu tl):=by
 intro Kp s σ H R I h
 refine thn (hl Kp s σ H _ I h) fun v s1 ⟨x,H1,I1,r1,q1⟩=>?_
 obtain ⟨z,rfl,ha,q⟩:=q1
 obtain ⟨t,rfl⟩:=r1
 refine wpAny_pyIter_ascii ha ?_
 refine ⟨s1.heap.objs.size,[s1.heap.objs.size],_,_,H1,rfl,I1.kept (t':=s1.toks) fun b o e=>Heap.get?_push_of_some _ e,akC _ z t,⟨_,Heap.get?_push_size _ rfl,rfl,rfl⟩,fun b hb=>?_,q⟩
 have e:b=s1.heap.objs.size:=by simpa using hb
 subst e
 exact I1.fpOk (Nat.le_refl _) (I1.hok.fresh (Nat.le_refl _))
def ae8:PyData->Option (LP)
 | .str x=>if ah9 x=true then some (abg x) else none
 | _=>none
def itU (fa:RP):Rho->Option (LP):=fun ρ=>(fa ρ).bind ae8
theorem aia {x:Str}{i:Nat}{d:PyData} (h:(abg x)[i]?=some d):∃ c,x.cps[i]?=some c/\d= .str ⟨#[c]⟩:=by
 unfold abg at h
 rw [List.getElem?_map] at h
 cases hc:x.cps.toList[i]? with
 | none=>rw [hc] at h; cases h
 | some c=>
  rw [hc] at h
  cases h
  exact ⟨c,by simpa using hc,rfl⟩
theorem ac3 (x:Str):(abg x).length=x.cps.size:=by unfold abg; simp
theorem amD (h:PD X e fa):PID X tg e (itU fa):=by
 with_unfolding_all
  refine PI.imp (aoU h) fun σ H R ⟨ρ,ds,en,q,k⟩=>?_
  cases h1:fa ρ with
  | none=>simp [itU,h1] at q
  | some d=>
   cases d with
   | str x=>
    by_cases ha:ah9 x=true
    ·have:abg x=ds:=by simpa [itU,h1,ae8,ha] using q
     subst this
     refine ⟨ρ,_,en,h1,fun v H1 s1 r1=>?_⟩
     cases (show v=_ from r1)
     refine ⟨x,rfl,ha,k _ H1 s1 fun i H2 s2=>⟨fun hi=>?_,fun hi=>?_,fun y H' z=>?_⟩⟩
     ·rw [ac3] at hi; exact hi
     ·rw [ac3] at hi; exact hi
     ·obtain ⟨z1,c,z2,z3⟩:=z
      subst z1
      refine ⟨jr.refl _,fun d hd=>?_⟩
      obtain ⟨c',e1,rfl⟩:=aia hd
      rw [z2] at e1; cases e1
      exact z3
    ·simp [itU,h1,ae8,ha] at q
   | _=>simp [itU,h1,ae8] at q
end
section
variable {X:Cx}
end
section
variable {prog:Program}{w:World}{A:Around}{E:Value->SP0}
end
section
variable {X:Cx}{es:List Expr}{pos:Pos}
end
section
variable {X:Cx}{a b:Expr}{fa fb:RP}{pos p1 p2 p3:Pos}{j:Nat}
end
noncomputable abbrev ltT (x y:Str):Bool:=decide (x.cps.toList<y.cps.toList)
def rkT (ts:List Str) (x:Str):Int:=((ts.filter fun y=>ltT y x).length:Int)
theorem amE {α:Type}{p q:α->Bool}:∀ {l:List α},(∀ x ∈ l,p x=true->q x=true)->(l.filter p).length<=(l.filter q).length
 | [],_=>Nat.le_refl _
 | x::l,h=>by
  have ih:=amE (l:=l) fun y hy=>h y (List.mem_cons_of_mem _ hy)
  by_cases hp:p x=true
  ·rw [List.filter_cons_of_pos hp,List.filter_cons_of_pos (h x List.mem_cons_self hp),List.length_cons,List.length_cons]; omega
  ·rw [List.filter_cons_of_neg hp]
   by_cases hq:q x=true
   ·rw [List.filter_cons_of_pos hq,List.length_cons]; omega
   ·rw [List.filter_cons_of_neg hq]; exact ih
theorem amF {α:Type}{p q:α->Bool}:∀ {l:List α},(∀ x ∈ l,p x=true->q x=true)->(∃ x ∈ l,q x=true/\p x=false)->(l.filter p).length<(l.filter q).length
 | [],_,⟨x,h,_⟩=>nomatch h
 | x::l,h,⟨y,hy,y1,y2⟩=>by
  have hl:∀ x ∈ l,p x=true->q x=true:=fun y hy=>h y (List.mem_cons_of_mem _ hy)
  rcases List.mem_cons.mp hy with e | hy
  ·rw [←e,List.filter_cons_of_neg (by rw [y2]; decide),List.filter_cons_of_pos y1,List.length_cons]
   have:=amE hl
   omega
  ·have ih:=amF hl ⟨y,hy,y1,y2⟩
   by_cases hp:p x=true
   ·rw [List.filter_cons_of_pos hp,List.filter_cons_of_pos (h x List.mem_cons_self hp),List.length_cons,List.length_cons]; omega
   ·rw [List.filter_cons_of_neg hp]
    by_cases hq:q x=true
    ·rw [List.filter_cons_of_pos hq,List.length_cons]; omega
    ·rw [List.filter_cons_of_neg hq]; exact ih
theorem ae9 {ts:List Str}{x y:Str} (hx:x ∈ ts) (h:ltT x y=true):rkT ts x<rkT ts y:=by
 have h':x.cps.toList<y.cps.toList:=of_decide_eq_true h
 have:=amF (p:=fun z=>ltT z x) (q:=fun z=>ltT z y) (l:=ts) (fun z _ hz=>decide_eq_true (List.lt_trans (of_decide_eq_true hz) h')) ⟨x,hx,h,decide_eq_false (List.lt_irrefl _)⟩
 unfold rkT
 omega
theorem ajv (x y:Str):ltT x y=true ∨ x=y ∨ ltT y x=true:=by
 by_cases h1:x.cps.toList<y.cps.toList
 ·exact .inl (decide_eq_true h1)
 ·by_cases h2:y.cps.toList<x.cps.toList
  ·exact .inr (.inr (decide_eq_true h2))
  ·exact .inr (.inl (aq4 (List.le_antisymm (List.not_lt.mp h2) (List.not_lt.mp h1))))
theorem aoV {ts:List Str}{x y:Str} (hx:x ∈ ts) (hy:y ∈ ts):rkT ts x<rkT ts y ↔ ltT x y=true:=by
 constructor
 ·intro h
  rcases ajv x y with z | z | z
  ·exact z
  ·rw [z] at h; omega
  ·have:=ae9 hy z; omega
 ·exact ae9 hx
theorem aoW {ts:List Str}{x y:Str} (hx:x ∈ ts) (hy:y ∈ ts) (h:rkT ts x=rkT ts y):x=y:=by
 rcases ajv x y with z | z | z
 ·have:=ae9 hx z; omega
 ·exact z
 ·have:=ae9 hy z; omega
section
variable {X:Cx}
def aq5:List V->Hp->VK->Prop:=fun xs H Q=>∃ d ob ks ts,xs=[.ref d]/\H d=some (.frz ob (.dK ks))/\ks.map (·.1)=ts.map (fun t=>(Sum.inr t:Key))/\ts.length<64/\∀ l,H l=none->Q (.ref l) (upd H l (.lst ((acW (rkT ts) ts).map V.str)))
theorem ac4:∀ (ts:List Str) (us:List Value),us.length=ts.length->(∀ (i:Nat) (u:Value),us[i]?=some u->∃ (x:Str) (t:Tok),ts[i]?=some x/\u=Value.str x t)->jJ (ts.map V.str) us
 | [],[],_,_=> .nil
 | [],_::_,h,_=>by cases h
 | _::_,[],h,_=>by cases h
 | t::ts,u::us,h,g=>by
  obtain ⟨x,tk,e1,e2⟩:=g 0 u rfl
  cases e1
  subst e2
  exact .cons ⟨tk,rfl⟩ (ac4 ts us (by simpa using h) fun i v hv=>g (i+1) v (by simpa using hv))
theorem aib (hc:X.calm=true):zV X (.builtin "sorted") aq5:=by
 intro Kp s σ H xs us0 Q I r ⟨d,ob,ks,ts,e,hq,hk,h64,q⟩
 subst e
 obtain ⟨u,rfl,rx⟩:=abw r
 cases rx
 have hh:=I.ok.hd hc
 obtain ⟨o0,z,nm,vs,rel,ob',es,ep,h4,h5,h6,h7⟩:=I.hok d _ hq
 rw [o0] at h4; cases h4
 have hl:=rel.length
 have hkl:ks.length=ts.length:=by have:=congrArg List.length hk; simpa using this
 have key:∀ (ks:List (Key × V)) (vs:List (Key × Value)) (ts:List Str),KV ks vs->ks.map (·.1)=ts.map (fun t=>(Sum.inr t:Key))->∀ (i:Nat) (k:Key) (x:Value),vs[i]?=some (k,x)->∃ t:Str,ts[i]?=some t/\k=Sum.inr t:=by
  intro ks
  induction ks with
  | nil=>intro vs ts r _ i k x e; cases r; simp at e
  | cons p ks ih=>
   intro vs ts r hk i k x e
   cases r with
   | cons r1 r2=>
    cases ts with
    | nil=>simp at hk
    | cons t ts=>
     rw [List.map_cons,List.map_cons] at hk
     obtain ⟨e1,e2⟩:=List.cons.inj hk
     cases i with
     | zero=>
      simp at e
      subst e
      have r0:=r1.1
      simp only at r0
      exact ⟨t,rfl,by rw [←r0,e1]⟩
     | succ i=>exact ih _ ts r2 e2 i k x (by simpa using e)
 have da:s.heap.DictAt (qu X.prog X.w) d vs ep:=⟨ob,es,o0,h5,h6,h7⟩
 refine Calls.call_function_entry kind_sorted plain_sorted entry_sorted (args_sorted1 _) ?_
 unfold Builtin.«sorted»
 refine wpAny_bind (m:=checkCount "sorted" 1 1 _) (wpAny_pure ?_)
 refine wpAny_bind (PySem.W.kdu_collect (PySem.W.kdl_dict (knd:=qu X.prog X.w) (kvs:=vs) (ep:=ep) nm) (by first | exact hh | simp [hh]) da (by rw [sizeLine_eq]; omega) fun h1 tk acc k1 it=>?_)
 generalize hus:acc.toList=us
 have lu:us.length=ts.length:=by rw [←hus,Array.length_toList,it.1]; omega
 have ku:∀ (i:Nat) (u:Value),us[i]?=some u->∃ (x:Str) (t:Tok),ts[i]?=some x/\u=Value.str x t:=fun i u hu=>by
  have:acc[i]?=some u:=by rw [←hus] at hu; simpa using hu
  obtain ⟨k,x,e1,e2⟩:=it.2 i u this
  obtain ⟨t,e3,e4⟩:=key ks vs ts rel hk i k x e1
  rw [e4,ahv] at e2
  rcases qy e2 with ⟨n,t',e5,_⟩ | ⟨y,t',e5,e6⟩
  ·cases e5
  ·cases e5; exact ⟨t,t',e3,e6⟩
 have rv:=ac4 ts us lu ku
 have small:us.length<=sizeLine:=by rw [sizeLine_eq]; omega
 refine wpAny_bind (wpAny_newList ?_ small)
 have fD:s.heap.get? h1.objs.size=none:=by
  cases e3:s.heap.get? h1.objs.size with
  | none=>rfl
  | some o=>exact absurd (Heap.lt_size (k1 _ _ e3)) (Nat.lt_irrefl _)
 have nH:H h1.objs.size=none:=by
  cases e3:H h1.objs.size with
  | none=>rfl
  | some o=>obtain ⟨u,z⟩:=qM.there (I.hok _ o e3); rw [fD] at z; cases z
 have hD:(h1.push (seqObj "list" us.toArray 0)).get? h1.objs.size=some (seqObj "list" us.toArray 0):=Heap.get?_push_size _ rfl
 have kpD:∀ b o,s.heap.get? b=some o->(h1.push (seqObj "list" us.toArray 0)).get? b=some o:=fun b o e=>Heap.get?_push_of_some _ (k1 b o e)
 obtain ⟨m,F⟩:=I.fr
 refine wpAny_bind (wpAny_holding (wpAny_call_entry (s:={ s with heap:=h1.push (seqObj "list" us.toArray 0),toks:=tk }) slot_list_sort ⟨_,hD,rfl⟩ entry_list_sort ?body (args_list_sort _)))
 case body=>
  by_cases h2:us.length<2
  ·rw [list_sort_plain]
   refine wpAny_bind (listItems_at hD rfl ?_)
   refine wpAny_bind (listUpdate_at hD rfl ?_ (by rw [List.size_toArray]; exact small) (Nat.zero_le _))
   obtain ⟨e1,ho1⟩:∃ e1,((h1.push (seqObj "list" us.toArray 0)).update h1.objs.size (Obj.mapSeq fun _=>(#[]:Array Value))).get? h1.objs.size=some (seqObj "list" #[] e1):=⟨_,get?_update_seq hD fun _=>#[]⟩
   refine wpAny_bind (seqEpoch_at ho1 rfl ?_)
   refine wpAny_bind (wpAny_newTuple ?_ small)
   refine wpAny_bind (wpAny_newList ?_ (Nat.zero_le _))
   refine wpAny_holding ?_
   dsimp only
   have hlt:us.toArray.size<2:=by rw [List.size_toArray]; exact h2
   rw [if_pos hlt,if_pos hlt]
   refine wpAny_bind (wpAny_pure ?_)
   rw [StateT.run_pure]
   refine wpAny_bind (wpAny_pure ?_)
   dsimp only
   have ho3:((((h1.push (seqObj "list" us.toArray 0)).update h1.objs.size (Obj.mapSeq fun _=>(#[]:Array Value))).push (seqObj "tuple" us.toArray 0)).push (seqObj "list" #[] 0)).get? h1.objs.size=some (seqObj "list" #[] e1):=Heap.get?_push_of_some _ (Heap.get?_push_of_some _ ho1)
   refine wpAny_bind (seqEpoch_at ho3 rfl ?_)
   rw [aou]
   refine wpAny_bind (listUpdate_at ho3 rfl ?_ (Nat.zero_le _) (by rw [List.size_toArray]; exact Nat.le_succ_of_le small))
   obtain ⟨c2,hc2⟩:=aeW (ws:=us.toArray) (show _=some (lob #[] e1) from ho3)
   simp only [bne_self_eq_false,zzL,zzN]
   refine wpAny_pure ⟨_,rfl,?_⟩
   refine wpAny_pure ⟨_,rfl,?_⟩
   have kp:∀ b o,s.heap.get? b=some o->(((((h1.push (seqObj "list" us.toArray 0)).update h1.objs.size (Obj.mapSeq fun _=>(#[]:Array Value))).push (seqObj "tuple" us.toArray 0)).push (seqObj "list" #[] 0)).update h1.objs.size (Obj.mapSeq fun _=>us.toArray)).get? b=some o:=fun b o q=>by
    have q1:=k1 b o q
    have lt1:b<h1.objs.size:=Heap.lt_size q1
    have u1:=Heap.SameBut.update (h1.push (seqObj "list" us.toArray 0)) h1.objs.size (Obj.mapSeq fun _=>(#[]:Array Value))
    have q2:=(u1.2 b (Nat.ne_of_lt lt1)).trans (Heap.get?_push_of_some _ q1)
    have q3:=Heap.get?_push_of_some { cls:= .type "list",data:= .seq (#[]:Array Value) } (Heap.get?_push_of_some { cls:= .type "tuple",data:= .seq us.toArray } q2)
    exact ((Heap.SameBut.update _ h1.objs.size (Obj.mapSeq fun _=>us.toArray)).2 b (Nat.ne_of_lt lt1)).trans q3
   have es1:acW (rkT ts) ts=ts:=by
    match ts,(show ts.length<2 by omega) with
    | [],_=>rfl
    | [t],_=>rfl
   refine ⟨.ref h1.objs.size,upd H h1.objs.size (.lst (ts.map V.str)),Inv.grownL (ys:=ts.map V.str) (I.tok tk) F.ns (F.kept kp).ns (fun b o _ e=>kp b o e) fD hc2 rv (by rw [List.length_map,sizeLine_eq]; omega),rfl,?_⟩
   have:=q h1.objs.size nH
   rw [es1] at this
   exact this
  ·have hL:X.env.locals<s.heap.objs.size:=F.ns.lt
   have N:News X.base X.env.locals s.heap (Jt X.base s.heap X.env.locals):=alj
   have tyS:∀ v ∈ us,∀ h,PySem.W.Looks (model X.prog X.w) h (typeOf v) (Value.type "str"):=fun v hv h=>by
    obtain ⟨i,hi,e⟩:=List.getElem_of_mem hv
    obtain ⟨x,t,_,rfl⟩:=ku i v (by rw [List.getElem?_eq_getElem hi,e])
    exact PySem.W.Looks.of_pure rfl
   have hLD:h1.objs.size ≠ X.env.locals:=fun z=>by
    obtain ⟨oL,esL,epL,hoL,_⟩:=F.ns
    have:=Heap.lt_size (k1 _ _ hoL)
    rw [z] at this
    exact absurd this (Nat.lt_irrefl _)
   refine PySem.W.kas_list_sort (T:=Value.type "str") (s:={ s with heap:=h1.push (seqObj "list" us.toArray 0),toks:=tk }) (h₀:=X.base) (L:=X.env.locals) (m:=m) (news:=Jt X.base s.heap X.env.locals) (F.kept kpD) (N.grown kpD) hD hLD
    (by
     cases e3:X.base.get? h1.objs.size with
     | none=>rfl
     | some o=>have:=F.keep _ o e3; rw [fD] at this; cases this)
    (fun p hp z=>by have:=(N p hp).1; rw [z,fD] at this; cases this) (by omega) (by omega) (fun e1 h' F' N' v hv=>tyS v hv h') (by decide) (by decide) fun e1 h' F' N'=>?_
   refine Srt.sort_ok (rk:=fun i=>rkT ts (ts.getD i Str.empty)) (n:=us.length) (s:={ s with heap:=h',toks:=tk }) (fun i j C hi hj hC=>?_) (by omega) fun p hp hs=>?_
   ·have gi:us[i]?=some us[i]:=List.getElem?_eq_getElem hi
    have gj:us[j]?=some us[j]:=List.getElem?_eq_getElem hj
    obtain ⟨x,t,ex,eu⟩:=ku i _ gi
    obtain ⟨y,t',ey,ev⟩:=ku j _ gj
    simp only [getD_some ex,getD_some ey] at hC
    show wpAny (model X.prog X.w) _ (keyLt' oneType' (us.getD i Value.none) (us.getD j Value.none)) C _ _
    rw [getD_some gi,getD_some gj,eu,ev]
    refine PySem.W.kas_lt_str ?_
    have:decide (rkT ts x<rkT ts y)=decide (x.cps.toList<y.cps.toList):=decide_eq_decide.mpr ((aoV (List.mem_of_getElem? ex) (List.mem_of_getElem? ey)).trans ⟨of_decide_eq_true,decide_eq_true⟩)
    rw [←this]; exact hC
   ·have mem:∀ i ∈ p.toList,i<us.length:=fun i hi=>by
     have:i ∈ (List.range us.length).toArray:=hp.mem_iff.mp (by simpa using hi)
     simpa using this
    have permN:p.toList.Perm (List.range us.length):=by simpa using hp.toList
    have hltD:∀ z ∈ Jt X.base s.heap X.env.locals,z.1 ≠ h1.objs.size:=fun z hz e=>by have:=(N z hz).1; rw [e,fD] at this; cases this
    refine PySem.W.KasFin.intro (news:=(h1.objs.size,seqObj "list" #[] e1)::Jt X.base s.heap X.env.locals) (g:=fun o'=>(h1.objs.size,o')::Jt X.base s.heap X.env.locals) F' N' (.head fun z hz=>hltD z hz) fun h2 c F2 N2=>?_
    have kp2:∀ b o,b ≠ X.env.locals->s.heap.get? b=some o->h2.get? b=some o:=fun b o hb e=>by
     cases e3:X.base.get? b with
     | some u=>have:=F.keep b u e3; rw [e] at this; cases this; exact F2.keep b _ e3
     | none=>exact (N2 (b,o) (List.mem_cons_of_mem _ (agc hb e3 e))).1
    have hD2:=(N2 (h1.objs.size,PySem.W.listOf (List.toArray (p.toList.map fun i=>us.getD i Value.none)) c) List.mem_cons_self).1
    have hqs:(p.toList.map fun i=>(ts.map V.str).getD i V.non)=(acW (rkT ts) ts).map V.str:=by
     have e1:(p.toList.map fun i=>(ts.map V.str).getD i V.non)=(p.toList.map fun i=>ts.getD i Str.empty).map V.str:=by
      rw [List.map_map]
      refine List.map_congr_left fun i hi=>?_
      have hi':=mem i hi
      have g1:ts[i]?=some (ts[i]'(by omega)):=List.getElem?_eq_getElem _
      show (ts.map V.str).getD i V.non=V.str (ts.getD i Str.empty)
      rw [getD_some g1]
      refine getD_some ?_
      rw [List.getElem?_map,g1]; rfl
     rw [e1]
     congr 1
     have e5:(List.range us.length).map (fun i=>ts.getD i Str.empty)=ts:=by
      apply List.ext_getElem?
      intro i
      rw [List.getElem?_map]
      by_cases hi:i<us.length
      ·rw [List.getElem?_range hi,List.getElem?_eq_getElem (show i<ts.length by omega)]
       show some (ts.getD i Str.empty)=_
       rw [getD_some (List.getElem?_eq_getElem (show i<ts.length by omega))]
      ·rw [List.getElem?_eq_none_iff.mpr (show (List.range us.length).length<=i by rw [List.length_range]; omega),List.getElem?_eq_none_iff.mpr (show ts.length<=i by omega)]
       rfl
     have pm:=permN.map (fun i=>ts.getD i Str.empty)
     rw [e5] at pm
     refine abF ?_ (aav (rkT ts) ts) (pm.trans (acX (rkT ts) ts).symm) fun x hx y hy h=>aoW (pm.mem_iff.mp hx) (pm.mem_iff.mp hy) h
     rw [List.pairwise_map,List.pairwise_iff_getElem]
     intro i j hi hj hij
     have hps:p.size=us.length:=hp.size
     have hi':i<p.size:=by simpa using hi
     have hj':j<p.size:=by simpa using hj
     have:=hs i j (Nat.le_of_lt hij) (by omega)
     simp only [Srt.val] at this
     have g1:p.getD i 0=p.toList[i]:=by simp [Array.getD,hi']
     have g2:p.getD j 0=p.toList[j]:=by simp [Array.getD,hj']
     rw [g1,g2] at this
     exact this
    have hln:(p.toList.map fun i=>(ts.map V.str).getD i V.non).length<=sizeLine:=by
     rw [List.length_map,permN.length_eq,List.length_range]; exact small
    have I2:=Inv.grownL (ys:=p.toList.map fun i=>(ts.map V.str).getD i V.non) (I.tok tk) F.ns F2.ns kp2 fD hD2 (akr rv _ mem) hln
    rw [hqs] at I2
    exact ⟨_,rfl,wpAny_pure ⟨_,rfl,.ref h1.objs.size,_,I2,rfl,q _ nH⟩⟩
def afa (ds:LP):OP:=match ds with
 | [p]=>(Qz p).bind fun r=>(Z8 (r.map (·.1))).bind fun ts=>if ts.length<64 then some (.list ((acW (rkT ts) ts).map .str)) else none
 | _=>none
theorem RepM.strs {K:Fg}{H:Hp}:∀ {r:List (PyData × PyData)}{ks:List (Key × V)}{ts:List Str},RepM K H r ks->Z8 (r.map (·.1))=some ts->ks.map (·.1)=ts.map (fun t=>(Sum.inr t:Key))
 | [],ks,ts,h,e=>by cases (show ks=[] from h); cases e; rfl
 | (k,c)::r,ks,ts,⟨i,x,s,h1,h2,h3,h4⟩,e=>by
  subst h1; subst h2
  cases i with
  | inl n=>simp [acD,Z8] at e
  | inr t=>
   have e':(Z8 (r.map (·.1))).map (t::·)=some ts:=e
   cases hr:Z8 (r.map (·.1)) with
   | none=>rw [hr] at e'; cases e'
   | some us=>
    rw [hr] at e'
    cases e'
    rw [List.map_cons,List.map_cons,RepM.strs h4 hr]
theorem amG (hc:X.calm=true):QV X (.builtin "sorted") afa:=by
 refine ⟨_,aib hc,fun ds d xs H Q h r k=>?_⟩
 unfold afa at h
 split at h
 ·rename_i p
  cases h1:Qz p with
  | none=>simp [h1] at h
  | some pr=>
   cases h2:Z8 (pr.map (·.1)) with
   | none=>simp [h1,h2] at h
   | some ts=>
    rw [h1,zzD,h2,zzD] at h
    by_cases h3:ts.length<64
    ·rw [if_pos h3] at h
     cases h
     obtain ⟨x,q,e1,e2,e3⟩:=r
     cases (show q=[] from e3)
     obtain ⟨a,ks,ob,g1,g2,g3⟩:=JL h1 e2
     subst g1
     exact ⟨a,ob,ks,ts,e1,g2,g3.strs h2,h3,fun l hl=>k _ _ (jM hl) ⟨l,_,rfl,jn,ad7 _⟩⟩
    ·rw [if_neg h3] at h; cases h
 ·cases h
end
section
variable {X:Cx}{e a b c:Expr}{pos:Pos}
def aoX:List V->Hp->VK->Prop:=fun xs H Q=>∃ d ob ks,xs=[.ref d]/\H d=some (.frz ob (.dK ks))/\∀ l,H l=none->Q (.ref l) (upd H l (.dK ks))
theorem agS:zV X (.type "dict") aoX:=by
 intro Kp s σ H xs us Q I r ⟨d,ob,ks,e,hq,q⟩
 subst e
 obtain ⟨u,rfl,rx⟩:=abw r
 cases rx
 obtain ⟨o0,z,nm,vs,rel,ob',es,ep,h4,h5⟩:=I.hok d _ hq
 have hl:=rel.length
 refine kt_call_dict (knd:=qu X.prog X.w) nm ⟨ob',es,ep,h4,h5⟩ (by omega) fun h' hm hs=>?_
 have kp:∀ b o,s.heap.get? b=some o->h'.get? b=some o:=fun b o e=>(hs.2 b (Nat.ne_of_lt (Heap.lt_size e))).trans (Heap.get?_push_of_some _ e)
 have nS:(s.heap.objs.size == sysModules)=false:=beq_false_of_ne (Nat.ne_of_gt (Inv.big I))
 exact ⟨.ref s.heap.objs.size,_,I.laid (t':=s.toks) (o:= .dK ks) kp (Nat.le_refl _) ⟨z,nS,vs,rel,hm⟩,rfl,q _ (I.hok.fresh (Nat.le_refl _))⟩
theorem amH:PD X (.Dict [] [] pos) (cst (.dict [(.none,.none)])):=by
 with_unfolding_all
  intro Kp s σ H Q I ⟨ρ,d,en,hf,k⟩
  cases hf
  refine thn (alN Kp s σ H (fun v H2=>∃ a,v= .ref a/\H a=none/\H2=upd H a (.dK [])) I (fun l hl=>⟨l,rfl,hl,rfl⟩)) fun u s1 ⟨v,H2,I2,r,a,e1,e2,e3⟩=>?_
  subst e1
  have e4:H2 a=some (.dK []):=by rw [e3]; exact jn
  obtain ⟨ob,I3⟩:=Inv.sealedD I2 e4
  have I6:=Inv.opened I3 (.d ob _) jn
  rw [zd,e3,zd] at I6
  exact ⟨.ref a,_,I6,r,k _ _ (jM e2) ⟨a,rfl,.inr (.inl ⟨[],ob,jn,rfl⟩)⟩⟩
def asv (i s j:Nat) (cls f1 f2:Str) (S:TRS):TRS:=fun ρ μ R=>∃ a fs r d n,lkp s ρ=some (js a)/\μ a=some (.ins cls fs)/\fs.lookup f1=some (.dict ((.none,.none)::r))/\fs.lookup f2=some d/\lkp j ρ=some (.str n)/\r.length<1000000/\i ≠ s/\i ≠ j/\i < ρ.length/\
 S (ρ.set i (some (.dict ((.none,.none)::Q0 r (Sum.inr n) d)))) μ R
theorem akD (i s j:Nat) {x y me cls f1 f2:Str}{S:TRS}{j8:List Stmt}{pos' p p1 p2 p3 pc ps pa ps' pa' pos2:Pos} (hu:X.A.units+1<cLine) (hN:X.N.Nodup) (hm:X.mg "dict"=none) (hv:bootBuiltins "dict"=some (.type "dict")) (hC1:qw X.K cls f1) (hC2:qw X.K cls f2) (hR:Z6 X j8 S)
  (hi:X.N[i]?=some x:=by rfl) (hsn:X.N[s]?=some me:=by rfl) (hj:X.N[j]?=some y:=by rfl) (hx:Loc X.env.scope x:=by first | exact Or.inl rfl | exact Or.inr rfl)
  (hs:swapsWith (.Call (.Name "dict" p) [.Attribute (.Name me ps) f1 pa] [] pc) (some (.Name x pos')) pos.line X.env=pure false:=by rfl)
  (hf:X.fn x=true ∨ X.env.scope.names.lookup x=some .local:=by first | exact .inl rfl | exact .inr rfl | assumption)
  (hg:Gl X "dict":=by rfl) (he:starEach [.Attribute (.Name me ps) f1 pa] X.env=(false,eval (.Attribute (.Name me ps) f1 pa) X.env)::starEach [] X.env:=by rfl) (hpl:(backTo pc (starEach [] X.env)).any (·.1)=false:=by rfl)
  (hvs:Vis X.env.scope me:=by first | exact Or.inl rfl | exact Or.inr (Or.inl rfl) | exact Or.inr (Or.inr rfl)) (hvx:Vis X.env.scope x:=by first | exact Or.inl rfl | exact Or.inr (Or.inl rfl) | exact Or.inr (Or.inr rfl)) (hvy:Vis X.env.scope y:=by first | exact Or.inl rfl | exact Or.inr (Or.inl rfl) | exact Or.inr (Or.inr rfl))
  (d1:(me == ("__debug__":Str))=false:=by decide) (d2:(me == ("__classdict__":Str))=false:=by decide) (d3:(x == ("__debug__":Str))=false:=by decide) (d4:(x == ("__classdict__":Str))=false:=by decide) (d5:(y == ("__debug__":Str))=false:=by decide) (d6:(y == ("__classdict__":Str))=false:=by decide)
  (hb1:attributeBase (.Name me ps) f1 X.env (eval (.Name me ps) X.env)=eval (.Name me ps) X.env:=by rfl) (hb2:attributeBase (.Name me ps') f2 X.env (eval (.Name me ps') X.env)=eval (.Name me ps') X.env:=by rfl)
  (ha:∀ v,assign (.Subscript (.Name x p1) (.Name y p2) p3) X.env v=(do
   let ov ←holding [v] (eval (.Name x p1) X.env)
   let iv ←holding [v,ov] (eval (.Name y p2) X.env)
   standAt p3
   holding [v,ov,iv] (setItem ov iv v)
   release [v,ov,iv] []):=by intro _; rfl)
  (hs2:swapsWithSole [.Subscript (.Name x p1) (.Name y p2) p3] (.Attribute (.Name me ps') f2 pa') pos2.line X.env=pure false:=by rfl) (hw2:swappedStores [.Subscript (.Name x p1) (.Name y p2) p3] (.Attribute (.Name me ps') f2 pa') X.env=pure none:=by rfl)
  (h12:(assignEach [.Subscript (.Name x p1) (.Name y p2) p3] X.env).map (·.2)=[assign (.Subscript (.Name x p1) (.Name y p2) p3) X.env]:=by rfl):
  Z6 X (.Assign [.Name x pos'] (.Call (.Name "dict" p) [.Attribute (.Name me ps) f1 pa] [] pc) pos :: .Assign [.Subscript (.Name x p1) (.Name y p2) p3] (.Attribute (.Name me ps') f2 pa') pos2::j8) (asv i s j cls f1 f2 S):=by
 with_unfolding_all
  have hR':PSs X j8 (fun D σ H=>∃ l ob ks,H l=some (aao X.prog X.w l ob ks)/\tCS X S D σ (upd H l (.frz ob (.dK ks)))):=by
   intro Kp s σ H D I ⟨l,ob,ks,h1,h2⟩
   exact hR Kp s σ _ D (Inv.opened I (.d ob ks) h1) h2
  have hd:PE X (.Call (.Name "dict" p) [.Attribute (.Name me ps) f1 pa] [] pc) (fun σ H Q=>arT X.K (anU s) f1 σ H fun v H1=>∃ d ob ks,v= .ref d/\H1 d=some (.frz ob (.dK ks))/\∀ l ob',H1 l=none->Q (.ref l) (upd H1 l (aao X.prog X.w l ob' ks))):=by
   intro Kp s0 σ H Q I h
   have W:=aa0 (X:=X) (pos:=pc) (p:=p) agS hg hm hv (qD (ahD (JB hsn hvs d1 d2) hb1) zw he) (by decide) (by decide) he hpl
   refine thn (W Kp s0 σ H (fun v H2=>∃ l ks H1,v= .ref l/\H1 l=none/\H2=upd H1 l (.dK ks)/\∀ ob',Q (.ref l) (upd H1 l (aao X.prog X.w l ob' ks))) I ?_) fun u s1 ⟨v,H2,I2,r,l,ks,H1,e1,e2,e3,e4⟩=>?_
   ·obtain ⟨v0,e0,a0,C,dx,fs,v,g1,g2,g3,g4,g5,d,ob,ks,g6,g7,g8⟩:=h
    exact ⟨v0,e0,a0,C,dx,fs,v,g1,g2,g3,g4,g5,d,ob,ks,by rw [g6],g7,fun l hl=>⟨l,ks,H,rfl,hl,rfl,fun ob'=>g8 l ob' hl⟩⟩
   ·subst e1
    have e5:H2 l=some (.dK ks):=by rw [e3]; exact jn
    obtain ⟨ob,I3⟩:=Inv.sealedD I2 e5
    rw [e3,zd] at I3
    exact ⟨.ref l,_,I3,r,e4 ob⟩
  refine PSs.imp (zU (ZX hN hi hx hd hs hf) (zU (ahw (ahD (JB hsn hvs d1 d2) hb2) (alx (JB hi hvx d3 d4) (JB hj hvy d5 d6) (akB hu) ha) hs2 hw2 h12) hR')) fun D σ H h=>?_
  obtain ⟨ρ,μ,R,en,cs,⟨ad,fs,r,d,n,q1,q2,q3,q4,q5,q6,q7,q8,q9,q10⟩,kk⟩:=h
  obtain ⟨C,dx,vs,h1,h2,h3⟩:=cs ad _ q2
  obtain ⟨w1,l1,r1⟩:=h3.look q3
  obtain ⟨w2,l2,r2⟩:=h3.look q4
  obtain ⟨a1,ks,ob,g1,g2,g3⟩:=JL (show Qz (.dict ((.none,.none)::r))=some r from rfl) r1
  subst g1
  obtain ⟨vs',es1,rs1⟩:=en.at' s _ (qJ q1)
  cases Rep.celOut rs1
  obtain ⟨vy,es2,rs2⟩:=en.at' j _ (qJ q5)
  cases (show vy=V.str n from rs2)
  refine ⟨_,es1,ad,C,dx,vs,_,rfl,h2,(hC1 C h1).1,(hC1 C h1).2,l1,a1,ob,ks,rfl,g2,fun l ob' hl=>?_⟩
  have nea:ad ≠ l:=fun z=>by rw [z,hl] at h2; cases h2
  have nes:i ≠ s:=q7
  have hil:i < σ.length:=by rw [←en.len]; exact q9
  have kl:=g3.length
  refine ⟨_,by rw [List.getElem?_set_ne nes]; exact es1,ad,C,dx,vs,w2,rfl,by rw [jq nea]; exact h2,(hC2 C h1).1,(hC2 C h1).2,l2,.ref l,by rw [List.getElem?_set_self hil],.str n,by rw [List.getElem?_set_ne q8]; exact es2,l,ks,ob',n,rfl,rfl,jn,by rw [kl]; exact Qy q6,fun ob2=>?_⟩
  refine ⟨l,ob2,putK ks (Sum.inr n) w2,jn,?_⟩
  rw [zd,zd]
  have sm:jr H (upd H l (.frz ob2 (.dK (putK ks (Sum.inr n) w2)))):=jM hl
  refine ⟨_,μ,R,⟨by simp [en.len],fun m z hz=>?_⟩,cs.mono sm,q10,fun o μ' hR'=>(kk o μ' hR').mono (jr.a sm)⟩
  by_cases hmi:i=m
  ·subst hmi
   rw [List.getElem?_set_self q9] at hz
   cases hz
   exact ⟨.ref l,by rw [List.getElem?_set_self hil],l,rfl,.inr (.inl ⟨_,ob2,jn,RepM.putK (Sum.inr n) (Rep.mono sm _ _ r2) (RepM.mono sm _ _ g3)⟩)⟩
  ·rw [List.getElem?_set_ne hmi] at hz ⊢
   obtain ⟨v,e1,e2⟩:=en.at' m z hz
   exact ⟨v,e1,Rep.mono sm _ _ e2⟩
end
section
variable {X:Cx}{e a b c o:Expr}{pos:Pos}{Ta Tb To:TR PyData}
theorem amI (hu:X.A.units+1<cLine) (ha:PEC X a Ta) (hb:PEC X b Tb) (hs:aqA b:=by intro _ _; rfl):PEC X (.Subscript a b pos) (opC apW Ta Tb):=by
 with_unfolding_all
  refine PE.imp (aof hu ha hb hs) fun σ H Q h=>ad5 (r:=fun x y H Q=>∃ ad v,x= .ref ad/\aa2 H ad y (some v)/\Q v H) (fun p q d x y H Q h rx ry k=>?_) h
  unfold apW at h
  split at h
  ·rename_i r n hp
   cases (show y=V.str n from ry)
   obtain ⟨ad,ks,ob,e1,e2,e3⟩:=JL hp rx
   rcases abc (Sum.inr n) e3 with ⟨z,_⟩ | ⟨d',v,z1,z2,z3⟩
   ·rw [z] at h; cases h
   ·rw [z1] at h; cases h
    exact ⟨ad,v,e1,by rw [←z2]; exact ad8 e2 n,k v H (jr.refl H) z3⟩
  ·cases h
theorem aq6 {neg:Bool}{p q d:PyData}{x y:V}{H:Hp}{Q:VK} (h:aju neg p q=some d) (rx:Rep X.K H p x) (ry:Rep X.K H q y) (k:∀ v H',jr H H'->Rep X.K H' d v->Q v H'):∃ ad ov,y= .ref ad/\aa2 H ad x ov/\Q (.bl (if neg then !ov.isSome else ov.isSome)) H:=by
 unfold aju at h
 split at h
 ·rename_i r n hp
  cases h
  cases (show x=V.str n from rx)
  obtain ⟨ad,ks,ob,e1,e2,e3⟩:=JL hp ry
  refine ⟨ad,_,e1,ad8 e2 n,k _ H (jr.refl H) ?_⟩
  rcases abc (Sum.inr n) e3 with ⟨z1,z2⟩ | ⟨d',x,z1,z2,z3⟩
  ·rw [z1,z2]; rfl
  ·rw [z1,z2]; rfl
 ·cases h
theorem aic (hu:X.A.units+1<cLine) (ha:PEC X a Ta) (hb:PEC X b Tb) (hm:behindInMarks .NotIn b=false:=by first | exact acx _ | with_unfolding_all rfl):PTC X (.Compare a [.NotIn] [b] pos) (aqV (opC (aju true) Ta Tb)):=by
 with_unfolding_all
  exact PT.imp (aqc (akf hu ha hb) hm) fun σ H Q h=>ad5 (r:=fun x y H Q=>∃ ad ov,y= .ref ad/\aa2 H ad x ov/\Q (.bl (!ov.isSome)) H) (fun p q d x y H Q h rx ry k=>aq6 (neg:=true) h rx ry k) (apP h)
theorem ac5 (ha:PEC X a Ta) (hb:PEC X b Tb) (hs:aeN b:=by intro _ _; rfl):PEC X (.Subscript a b pos) (opC dIx Ta Tb):=by
 with_unfolding_all
  obtain ⟨r,h1,h2⟩:=ixd (X:=X)
  exact PE.imp (apH h1 ha hb hs) fun σ H Q h=>ad5 h2 h
def atw (ga:PyData->Rho->Option Rho) (d:PyData):TRS:=fun ρ μ R=>∃ ρ',ga d ρ=some ρ'/\R (.nx ρ') μ
theorem aoY {tg:Expr}{ga:PyData->Rho->Option Rho} (he:PEC X e Ta) (hg:PGD X tg ga) (hs:swapsWithSole [tg] e pos.line X.env=pure false:=by rfl) (hw:swappedStores [tg] e X.env=pure none:=by rfl)
  (h1:(assignEach [tg] X.env).map (·.2)=[assign tg X.env]:=by rfl):PSC X (.Assign [tg] e pos) (zj Ta (atw ga)):=by
 with_unfolding_all
  exact PS.imp (ahw he hg hs hw h1) fun D σ H h=>(AtS.bind h).imp fun d H1 _ ⟨s1,ρ,μ,R,en,cs,⟨ρ',hg',hR⟩,k⟩ v rv=>⟨ρ,d,ρ',en,rv,hg',fun σ' H' s' e'=>k _ _ hR σ' H' (jr.a s') e' (cs.mono s')⟩
theorem akE:OpR X (compareOp .LtE) (fun x y H Q=>∃ i j,x= .str i/\y= .str j/\Q (.bl (!decide (j.cps.toList<i.cps.toList))) H):=by
 intro Kp s σ H x y v u Q I rx ry h
 obtain ⟨i,j,rfl,rfl,q⟩:=h
 obtain ⟨t,rfl⟩:=rx
 obtain ⟨t',rfl⟩:=ry
 exact PySem.P.le_str (aqo I q rfl)
noncomputable def asw:PyData->PyData->OP
 | .str i,.str j=>some (.bool (!decide (j.cps.toList<i.cps.toList)))
 | _,_=>none
theorem ajw:OpD X (compareOp .LtE) asw:=by
 refine ⟨_,akE,fun p q d x y H Q h rx ry k=>?_⟩
 unfold asw at h
 split at h
 ·cases h; cases (show x=_ from rx); cases (show y=_ from ry)
  exact ⟨_,_,rfl,rfl,k _ H (jr.refl H) rfl⟩
 ·cases h
theorem ajx {Tt:TR Bool}{S S':TRS}{l r:List Stmt} (hc:PTC X c Tt) (hl:ac2 X l S) (hr:ac2 X r S'):aoP X (.If c l r pos) (ifC Tt S S'):=by
 with_unfolding_all
  intro s σ H D I h
  refine wpAny_If (thn (hc [] s σ H (fun b H1=>AtS X σ H1 (if b=true then S else S') D) I ((AtS.bind h).imp fun b H1 _ ⟨s1,h1⟩=>h1)) fun d s1 ⟨H1,I1,q1⟩=>?_)
  cases d with
  | true=>exact hl s1 σ H1 D I1 q1
  | false=>exact hr s1 σ H1 D I1 q1
def asx (n:Nat) (y:Str) (G:RO) (R:OutC->jx->Prop):OutC->jx->Prop
 | .er c,μ=>c=y/\∃ d,G (ad1 n)=some (.rt d)/\R (.rt d) μ
 | o,μ=>R o μ
def asy (n:Nat) (y:Str) (S:TRS) (G:RO):TRS:=fun ρ μ R=>S ρ μ (asx n y G R)
theorem ad9 {y:Str}{np hpos:Pos}{n:Nat}{b0:Stmt}{tb hb:List Stmt}{S:TRS}{G:RO} (T0:Top0 X) (hN:X.N.length=n) (hE:Z5 X.K X.mg y) (hn:∀ E,Z6 (X.wish E) tb S) (hh:∀ e,abL (hX X e) (b0::hb) G)
  (hg:Gl X y:=by rfl) (hdb:(y == ("__debug__":Str))=false:=by decide):aoP X (.Try tb [.ExceptHandler (some (.Name y np)) none (b0::hb) hpos] [] [] pos) (asy n y S G):=by
 with_unfolding_all
  intro s σ H D I ⟨ρ,μ,R,en,cs0,t0,k⟩
  refine wpAny_Try_except ?_
  let E':Value->SP0:=fun ev s1=>wpAny (model X.prog X.w) X.A (noteFrame ev X.env) (fun _ s₂=>wpAny (model X.prog X.w) X.A (setFlight ev none) (fun _ s₃=>wpAny (model X.prog X.w) X.A (handleBy ev X.env [.ExceptHandler (some (.Name y np)) none (b0::hb) hpos]) (SP X [] D) X.xe s₃) X.xe s₂) X.xe s1
  refine wpAny_mono (hn E' [] s σ H D (I.wish E') ⟨ρ,μ,_,en,cs0,t0,fun o μ' r=>?_⟩) (fun f s1 z=>?_) fun _ _ z=>z
  ·cases o with
   | nx ρ'=>exact (k (.nx ρ') μ' r:zL X H D (.nx ρ') μ')
   | rt d=>exact (k (.rt d) μ' r:zL X H D (.rt d) μ')
   | bk d=>exact (k (.bk d) μ' r:zL X H D (.bk d) μ')
   | ct d=>exact (k (.ct d) μ' r:zL X H D (.ct d) μ')
   | er c=>
    obtain ⟨hy,d,hG,hR⟩:=r
    subst hy
    intro ev s1 t
    obtain ⟨e,C,σ1,H1,rfl,hm,J,sm,c1,xc⟩:=t
    have J0:=J.unwish
    have x0:=xc.unwish
    show wpAny _ X.A (noteFrame (.ref e) X.env) _ _ s1
    refine wpAny_mono (abV (E:=fun _ _=>False) T0 J0.ok.frames J0 x0) (fun _ s2 ⟨J2,t2⟩=>?_) fun _ _ z=>z.elim
    refine wpAny_mono (Jw (E:=fun _ _=>False) none J2 t2) (fun _ s3 ⟨J3,t3⟩=>?_) fun _ _ z=>z.elim
    have ok:=J3.ok
    obtain ⟨C',hm',hex⟩:=hE
    have hm0:X.mg c=some (.ref C):=hm
    rw [hm0] at hm'; cases hm'
    have fr:(X.A.mark (some (.ref e))).frames=some X.stack:=ok.frames
    have J4:Inv (hX X e) [] σ1 H1 s3:=Inv.asA J3 fr (fun z=>nomatch z)
    refine wpAny_handleBy_cons (codeAny_handlers_test ?_) (fun z=>nomatch z)
    refine Qm (X:=hX X e) J4 hg hm0 ?_ hdb
    obtain ⟨oe,ws,T,oT,ts,g1,g2,g3,g4,g5,g6,g7,g8,g9⟩:=t3.ob
    obtain ⟨bm,N,nm,qn,bs,hdct,sn,sub,ab,col,dd,k0',k1,k2,k3,k5,mN,hC,hNs,hni,TL⟩:=ajn J4.kIn hex
    obtain ⟨h3,gg3,d3,tk3,os3⟩:=s3
    refine wpAny_excMatches_sub_self hC g1 g2.1 (TL.hasType rfl) ?_
    refine codeAny_handlers_suite ?_
    refine wpAny_mono (Jw (A:=X.A.mark (some (.ref e))) (E:=fun _ _=>False) none J3 t3) (fun _ s5 ⟨J5,t5⟩=>?_) fun _ _ z=>z.elim
    have J6:Inv (hX X e) [] σ1 H1 s5:=Inv.asA J5 fr (fun z=>nomatch z)
    have eb:EnvR X.K H1 (ad1 n) σ1:=by rw [←hN,←J5.len]; exact aku
    have k1:=(k (.rt d) μ' hR:zL X H D (.rt d) μ')
    exact wpAny_mono (hh e [] s5 σ1 H1 D J6 ⟨ad1 n,.rt d,eb,hG,fun v H' sm' r=>k1 v H' (sm.trans (jr.a sm')) r (c1.mono sm')⟩) (fun f s6 z=>SP.ofA J5.ok z) fun _ _ z=>z.elim
  ·have z':=SP.unwish z
   cases f with
   | next=>exact wpAny_execs_nil z'
   | brk=>exact z'
   | cont=>exact z'
   | ret u=>exact z'
def apX (od:PyData):TR PyData:=fun _ μ R=>∃ a ds,od=js a/\μ a=some (.lst ds)/\∀ b,μ b=none->R (.ok (js b)) (zZ μ b (.lst ds))
theorem agT {p:Pos} (hm0:X.mg "list"=none) (hv:bootBuiltins "list"=some (.type "list")) (ho:PEC X e To) (hg:Gl X "list":=by rfl)
  (he:starEach [e] X.env=(false,eval e X.env)::starEach [] X.env:=by rfl) (hpl:(backTo pos (starEach [] X.env)).any (·.1)=false:=by rfl):PEC X (.Call (.Name "list" p) [e] [] pos) (bindC To apX):=by
 with_unfolding_all
  intro Kp s σ H Q I h
  refine wpAny_Call_Name_kw (Qn I hg hm0 hv ?_ (by decide) (by decide))
  have pa:PA X [e] _:=qD (X:=X) ho zw he
  refine PyProof.Rows.callWith_type1 (thn (pa pos Kp s σ H (fun ws H1=>∃ y od,ws=[y]/\Rep X.K H1 od y/\AtC X σ H1 (apX od) fun d H'=>∀ v,Rep X.K H' d v->Q v H') I ((AtC.bind h).imp fun od H1 _ ⟨s1,h1⟩ y ry=>⟨y,od,rfl,ry,h1⟩)) fun us s1 ⟨ws,H1,I1,r1,y,od,hws,rod,ρ,μ,R,en,cs,⟨l,ds,hd,hm,hR⟩,kk⟩=>?_) he hpl
  subst hws
  subst hd
  cases Rep.celOut rod
  obtain ⟨xs,h3,rs⟩:=cs l _ hm
  refine thn (aaf (X:=X) Kp s1 σ (upd H1 l (.lst xs)) [.ref l] us (fun v H3=>∃ m,v= .ref m/\H1 m=none/\m ≠ l/\H3=upd (upd H1 l (.lst xs)) m (.lst xs)) (Inv.opened I1 (.l xs) h3) r1 ⟨l,xs,rfl,.inl (SqL.of jn),fun m hm'=>⟨m,rfl,?_,?_,rfl⟩⟩) fun u s2 ⟨v,H3,I3,r,m,e1,e2,e3,e4⟩=>?_
  ·by_cases z:m=l
   ·rw [z,jn] at hm'; cases hm'
   ·rw [jq z] at hm'; exact hm'
  ·intro z; rw [z,jn] at hm'; cases hm'
  subst e1
  have f1:H3 m=some (.lst xs):=by rw [e4]; exact jn
  have nfm:∀ ob u,X.H₀ m ≠ some (.frz ob u):=fun ob u z=>by have:=I1.base.frzs _ _ _ z; rw [e2] at this; cases this
  have I4:=Inv.closed I3 (.l xs) f1 nfm
  have f2:upd H3 m (qk m xs) l=some (.lst xs):=by rw [jq e3.symm,e4,jq e3.symm]; exact jn
  have I5:=Inv.closed I4 (.l xs) f2 (Inv.nofrz I1 h3)
  have sm:jr H1 (upd (upd H3 m (qk m xs)) l (qk l xs)):=fun b o hb=>by
   by_cases z:b=l
   ·subst z; rw [jn,←hb,h3]
   ·have z2:b ≠ m:=fun w=>by rw [w,e2] at hb; cases hb
    rw [jq z,jq z2,e4,jq z2,jq z]; exact hb
  have k1:=(kk (.ok (js m)) _ (hR m (cs.free e2)):zK X H1 (fun d H'=>∀ v,Rep X.K H' d v->Q v H') (.ok (js m)) _)
  exact ⟨.ref m,_,I5,r,k1 _ (jr.a sm) (cs.put (jr.a sm) (fun b _ o q=>sm b o q) ⟨xs,by rw [jq e3]; exact jn,Reps.monoA (jr.a sm) _ _ rs⟩) (.ref m) (Rep.cel m)⟩
end
def aid (ga:PyData->Rho->Option Rho) (T:TR PyData):LP->LP->Rho->jx->(LP->jx->Prop)->Prop
 | [],acc=>fun _ μ R=>R acc μ
 | d::r,acc=>fun ρ μ R=>∃ ρ1,ga d ρ=some ρ1/\T ρ1 μ fun o μ'=>match o with
  | .ok y=>aid ga T r (acc++[y]) ρ1 μ' R
  | .er _=>False
def aq7 (fi:Rho->Option (LP)) (cap:List (Option Nat)) (ga:PyData->Rho->Option Rho) (T:TR PyData):TR PyData:=fun ρ μ R=>∃ ds,fi ρ=some ds/\few ds=true/\aid ga T ds [] (aa7 cap ρ) μ fun ys μ'=>R (.ok (.list ys)) μ'
def tC0 (K:Fg) (T:TR PyData):TE:=fun σ H Q=>∃ ρ μ R,EnvR K H ρ σ/\qf K H μ/\T ρ μ R/\(∀ d μ',R (.ok d) μ'->∀ H',jy H H'->qf K H' μ'->∀ v,Rep K H' d v->Q v H')/\∀ c μ',¬ R (.er c) μ'
theorem akF {X:Cx}{e:Expr}{T:TR PyData} (h:PEC X e T):PE X e (tC0 X.K T):=by
 with_unfolding_all
  exact PE.imp h fun σ H Q ⟨ρ,μ,R,en,cs,t,k1,k2⟩=>⟨ρ,μ,R,en,cs,t,fun o μ' r=>match o,r with
   | .ok d,r=>fun H' s c v rv=>k1 d μ' r H' s c v rv
   | .er c,r=>absurd r (k2 c μ')⟩
theorem amJ {X:Cx}{tg src:Expr}{el:Expr}{sc:Scope}{ps:Pos}{fi:Rho->Option (LP)}{ga:PyData->Rho->Option Rho}{T:TR PyData} (N':List Str) (cap:List (Option Nat)) (hc:X.calm=true) (hi:PID X tg src fi) (ok:CompOk X sc N' cap)
  (body:∀ cl C s0 H0 fp pn,PGD (blk X N' sc cl C s0 H0 fp pn) tg ga/\PEC (blk X N' sc cl C s0 H0 fp pn) el T)
  (hs:∀ x,foldedSetIterable src X.env x=pure x:=by intro _; rfl):PEC X (.ListComp el [⟨tg,src,[],0⟩] sc ps) (aq7 fi cap ga T):=by
 have body':∀ cl C s0 H0 fp pn,PE (blk X N' sc cl C s0 H0 fp pn) el (tC0 X.K T):=fun cl C s0 H0 fp pn=>akF (body cl C s0 H0 fp pn).2
 with_unfolding_all
  refine PE.imp (ajc (g:=tDG X.K ga) (tt:=apK) (te:=tC0 X.K T) hc hi ok (fun cl C s0 H0 fp pn=>⟨(body cl C s0 H0 fp pn).1,ajb,body' cl C s0 H0 fp pn⟩) hs) fun σ H Q ⟨ρ,μ,R,en,cs,⟨ds,h1,hf,q⟩,k⟩=>?_
  refine ⟨ρ,ds,en,h1,fun J H1 s1 Y=>?_⟩
  refine ⟨fun i m τ us H2=>m=ds.length - i/\i<=ds.length/\us.length<=i/\jy H1 H2/\∃ ρ2 μ2 zs,EnvR X.K H2 ρ2 τ/\qf X.K H2 μ2/\Reps X.K H2 zs us/\aid ga T (ds.drop i) zs ρ2 μ2 (fun ys μ'=>R (.ok (.list ys)) μ'),
   ⟨ds.length,by simp,Nat.zero_le _,Nat.le_refl _,jy.refl _,aa7 cap ρ,μ,[],(en.mono s1).cap cap,cs.mono s1,rfl,by simpa using q⟩,?_⟩
  rintro i m τ us H2 ⟨rfl,hi',hu,sA,ρ2,μ2,zs,en2,cs2,r2,q2⟩
  have hsm:us.length<sizeLine:=Nat.lt_of_le_of_lt (Nat.le_trans hu hi') (Nat.lt_of_lt_of_le (by simpa [few] using hf) (by rw [sizeLine_eq]; decide:1000000<=sizeLine))
  obtain ⟨g1,g2,g3⟩:=Y i H2 sA
  refine ⟨hsm,?_⟩
  by_cases hlt:i<ds.length
  ·right
   rw [List.drop_eq_getElem_cons hlt] at q2
   obtain ⟨ρ4,h4,q3⟩:=q2
   refine ⟨g1 hlt,fun x H3 y=>?_⟩
   obtain ⟨s3,r3⟩:=g3 x H3 y
   have r3':=r3 ds[i] (by simp [hlt])
   refine ⟨ρ2,ds[i],ρ4,en2.mono s3,r3',h4,fun σ5 H5 s5 en5=>?_⟩
   show tC0 X.K T σ5 H5 _
   have s25:jy H2 H5:=(jr.a s3).trans (jr.a s5)
   refine ⟨ρ4,μ2,_,en5,(cs2.mono s3).mono s5,q3,fun d μ' r H6 s6 c6 v rv=>?_,fun c μ' r=>r⟩
   exact ⟨ds.length - (i+1),by omega,rfl,hlt,by rw [List.length_append]; simp; omega,sA.trans (s25.trans s6),ρ4,μ',zs++[d],en5.monoA s6,c6,(Reps.monoA (s25.trans s6) _ _ r2).append ⟨v,[],rfl,rv,rfl⟩,r⟩
  ·left
   have hn:ds.drop i=[]:=List.drop_of_length_le (by omega)
   rw [hn] at q2
   refine ⟨g2 (by omega),fun l hl=>?_⟩
   have s3:jr H2 (upd H2 l (.lst us)):=jM hl
   exact (k (.ok (.list zs)) μ2 q2) _ ((jr.a s1).trans (sA.trans (jr.a s3))) (cs2.mono s3) _ ⟨l,us,rfl,jn,Reps.mono s3 _ _ r2⟩
section
variable {X:Cx}{e o:Expr}{es:List Expr}{To:TR PyData}{Tr:TR (LP)}{pos apos:Pos}{x m:Str}
end
section
variable {X:Cx}{e a b c o:Expr}{pos p2:Pos}{Ta Tb To:TR PyData}
end
end BX
end
local macro_rules
  | `(tactic| dsimp? [$xs,*])=>`(tactic| simp only [BX.jT,BX.ifS,BX.ifD,BX.ifX,BX.adx,BX.orB,BX.zA,BX.tst,BX.op2,BX.chn,BX.jN,BX.Z1,BX.Je,BX.jt,BX.jH,BX.lkp,BX.cst,BX.qG,BX.abM,BX.qS,BX.jQ,BX.qz,BX.nxX,BX.orX,BX.ah0,BX.aok,BX.asB,zzA,zzB,zzC,zzD,zzH,zzE,zzI,zzF,zzG,zzJ,zzK,zzL,zzM,zzN,$(⟨xs.elemsAndSeps⟩),*])
section
namespace Rods
open PySem L2 BX
open PyProof.Rows hiding St
noncomputable def top (i:Nat):Stmt:=PySem.Challenge.pw_beadrods_k73_whole_twins.main.body.getD i (.Pass ⟨0,0,0,0⟩)
structure Bare (mg:SV):Prop where
 isi:mg "isinstance"=none
 bool:mg "bool"=none
 int:mg "int"=none
 tuple:mg "tuple"=none
 zip:mg "zip"=none
 range:mg "range"=none
 all:mg "all"=none
 len:mg "len"=none
 max:mg "max"=none
 min:mg "min"=none
 sum:mg "sum"=none
 sorted:mg "sorted"=none
 abs:mg "abs"=none
 list:mg "list"=none
 enum:mg "enumerate"=none
 vale:mg "ValueError"=none
 str:mg "str"=none
 set:mg "set"=none
 dict:mg "dict"=none
theorem aoZ:bootBuiltins "bool"=some (.type "bool"):=by decide +kernel
theorem aq8:bootBuiltins "int"=some (.type "int"):=by decide +kernel
theorem Qh:bootBuiltins "tuple"=some (.type "tuple"):=by decide +kernel
theorem afb:bootBuiltins "list"=some (.type "list"):=by decide +kernel
theorem aq9:bootBuiltins "str"=some (.type "str"):=by decide +kernel
theorem ao0:bootBuiltins "dict"=some (.type "dict"):=by decide +kernel
theorem aie:bootBuiltins "all"=some (.builtin "all"):=by decide +kernel
theorem qV:bootBuiltins "len"=some (.builtin "len"):=by decide +kernel
theorem al4:bootBuiltins "max"=some (.builtin "max"):=by decide +kernel
theorem acJ:bootBuiltins "min"=some (.builtin "min"):=by decide +kernel
theorem akG:bootBuiltins "sorted"=some (.builtin "sorted"):=by decide +kernel
abbrev aaB:Stmt:=top 10
abbrev Zo:Stmt:=top 19
abbrev aaC:Stmt:=top 18
abbrev afc:Stmt:=top 21
abbrev zl (C:Program->World->Fg->(SV)->Heap->Prop) (qual:Str) (st:Stmt) (N:List Str) (k:Nat) (B:RO):Prop:=
 ∀ (P:Program) (w:World) (K:Fg) (mg:SV) (base:Heap) (f:Addr) (Kc:Value) (A:Around) (Ko:List Env) (s:Shared) (H:Hp) (E:XK),C P w K mg base->Room k (A.deeper (envOfC qual (je st) s.heap.objs.size f Kc))->
  abL (zW CX0 P w K mg base N qual (je st) f Kc A Ko s H E).nox (jR st) B
theorem aif:FnScope ["thing","least","most"] ["thing","least","most"] (je aaB):=⟨rfl,rfl,rfl,by decide +kernel,rfl,by decide +kernel,by decide +kernel⟩
def aaD:{ B:RO // zl (fun _ _ _ mg _=>Bare mg) "is_whole" aaB ["thing","least","most"] 0 B }:=
 ⟨_,fun P w K mg base f Kc A Ko s H E T hr=>
  jf (qt (zY (Z0 (qh (aa9 (.inl rfl) T.isi T.bool aoZ (ja 0))) (Qr (j9 (qh (aa9 (.inr (.inl rfl)) T.isi T.int aq8 (ja 0))))))) (jf (jz Jn) jo) jo)
  (jf (jz (agv aa8 aa8 (ja 1) (ja 0) (ja 2))) jo)⟩
def jU:LP->OP:=jC ["thing","least","most"] 3 aaD.1
theorem agU:FnScope ["manner","rod"] ["manner","rod"] (je Zo):=⟨rfl,rfl,rfl,by decide +kernel,rfl,by decide +kernel,by decide +kernel⟩
def abh:{ B:RO // zl (fun _ _ _ _ _=>True) "rod_worth" Zo ["manner","rod"] 0 B }:=
 ⟨_,fun P w K mg base f Kc A Ko s H E T hr=>
  jf (jz (jw jL (jw zv (jS (ja 1) jh) (jS (ja 0) jh)) (jS (ja 1) jh))) jo⟩
def qH:LP->OP:=jC ["manner","rod"] 2 abh.1
theorem amK:FnScope ["rod"] ["rod"] (je afc):=⟨rfl,rfl,rfl,by decide +kernel,rfl,by decide +kernel,by decide +kernel⟩
def aig:{ B:RO // zl (fun _ _ _ _ _=>True) "beads" afc ["rod"] 0 B }:=
 ⟨_,fun P w K mg base f Kc A Ko s H E T hr=>jf (jz (jw jL (jS (ja 0) jh) (jS (ja 0) jh))) jo⟩
def Ji:LP->OP:=jC ["rod"] 1 aig.1
noncomputable def J9 (i:Nat) (m:Nat):LP:=(List.range m).map fun (j:Nat)=>PyData.tuple [.int (i:Int),.int (j:Int)]
def QN (n m:Nat):LP:=(List.range n).flatMap fun (i:Nat)=>J9 i m
theorem agV (i m:Nat):J9 i (m+1)=J9 i m++[PyData.tuple [.int (i:Int),.int (m:Int)]]:=by simp [J9,List.range_succ]
theorem Z9 (n m:Nat):QN (n+1) m=QN n m++J9 n m:=by simp [QN,List.range_succ]
theorem agW (i m:Nat):noLs (J9 i m)=true:=acG fun d hd=>by
 obtain ⟨j,_,rfl⟩:=List.mem_map.mp hd
 simp [noL,noLs]
theorem akH (n m:Nat):noLs (QN n m)=true:=by
 induction n with
 | zero=>simp [QN,noLs]
 | succ n ih=>rw [Z9,QY,ih,agW]; rfl
theorem ajy (i m:Nat):(J9 i m).length=m:=by simp [J9]
theorem agX (n m:Nat):(QN n m).length=n*m:=by
 induction n with
 | zero=>simp [QN]
 | succ n ih=>rw [Z9,List.length_append,ih,ajy,Nat.succ_mul]
def JG (ds:LP):OP:=match ds with
 | [.tuple [.int u,.int _,.int l,.int _]]=>if 0<=u/\u<1000/\0<=l/\l<1000 then some (.list (QN (u+1).toNat (l+1).toNat)) else none
 | _=>none
theorem QE:FnScope ["manner","rods","upper","lower"] ["manner"] (je aaC):=⟨rfl,rfl,rfl,by decide +kernel,rfl,by decide +kernel,by decide +kernel⟩
section
variable {P:Program}{w:World}{K:Fg}{mg:SV}{base:Heap}
theorem aih {f:Addr}{fd:FuncData} (F:Fun K "all_rods" "all_rods" aaC f fd) (T:Bare mg):FnOk P w K mg base CX0 1 f fd ["manner"] (Pur K 1 JG):=by
 with_unfolding_all
  refine F.ok QE (fun vs H Q E h=>?_) (fun Kc A Ko s H vs Q E hr h=>?_)
  ·obtain ⟨ds,d,h1,h2,_⟩:=h
   rw [h2.length]; exact h1
  ·obtain ⟨ds,d,h1,h2,h3,k⟩:=h
   unfold JG at h3
   split at h3
   ·rename_i u e l b
    split at h3
    ·rename_i hb
     obtain ⟨hu0,hu1,hl0,hl1⟩:=hb
     cases h3
     refine ⟨_,zU (ZX (i:=1) QE.nd rfl (Or.inl rfl) (ahH zw))
      (zU (ZY PassesOwn.never rfl (Zi rfl T.range (jb (jw jL (jS (ja 0) jh) jh) jd)) (abQ (i:=2) QE.nd rfl (Or.inl rfl))
       (aeG (ZY PassesOwn.never rfl (Zi rfl T.range (jb (jw jL (jS (ja 0) jh) jh) jd)) (abQ (i:=3) QE.nd rfl (Or.inl rfl))
        (aeG (abP (alI PySem.F.plainAttrs_list PySem.F.slot_list_append PySem.F.type_list_append adQ (pv 1) (qD (ahG (qD (pv 2) (qD (pv 3) zw))) zw)))))))
      (aeG (aeH (pv 1)))),?_⟩
     obtain ⟨mv,rr,e1,em,e2⟩:=h2
     cases (show rr=[] from e2)
     subst e1
     have nm:noL (PyData.tuple [.int u,.int e,.int l,.int b])=true:=by simp [noL,noLs]
     refine ⟨Nat.zero_le _,fun p hp=>?_⟩
     have envr:∀ {H2:Hp} {x2 x3:Option V} {y:Option V},jr H H2->EnvR K H2 [some (PyData.tuple [.int u,.int e,.int l,.int b]),none,none,none] [some mv,y,x2,x3]:=fun {H2 x2 x3 y} s2=>
      ⟨rfl,fun i d q=>by
       cases i with
       | zero=>cases q; exact ⟨mv,rfl,Rep.mono s2 _ _ em⟩
       | succ i=>
        match i,q with
        | 0,q=>cases q
        | 1,q=>cases q
        | 2,q=>cases q
        | j+3,q=>simp at q⟩
     refine ⟨_,[.int (u+1)],envr (jM hp),by simp [jt,jH,op2,lkp,dIx,atI,ixN,cst,Jg],fun vs1 H1 s1 r1=>?_⟩
     obtain ⟨y1,q1,f1,f2,f3⟩:=r1
     cases (show y1=V.int (u+1) from f2)
     cases (show q1=[] from f3)
     subst f1
     refine ⟨u+1,rfl,by omega,by omega,adJ (n:=(u+1).toNat) (fun i σ H2=>∃ x2 x3 xs,σ=[some mv,some (.ref p),x2,x3]/\jr H H2/\H2 p=some (.lst xs)/\Reps K H2 (QN i (l+1).toNat) xs)
      ⟨none,none,[],rfl,(jM hp).trans s1,s1 _ _ jn,rfl⟩ ?_ ?_⟩
     ·rintro i σ H2 hi ⟨x2,x3,xs,rfl,s2,hp2,r2⟩
      refine ⟨_,[.int (l+1)],envr s2,by simp [jt,jH,op2,lkp,dIx,atI,ixN,cst,Jg],fun vs2 H3 s3 r3=>?_⟩
      obtain ⟨y2,q2,g1,g2,g3⟩:=r3
      cases (show y2=V.int (l+1) from g2)
      cases (show q2=[] from g3)
      subst g1
      refine ⟨l+1,rfl,by omega,by omega,adJ (n:=(l+1).toNat) (fun j σ H4=>∃ x3 ys,σ=[some mv,some (.ref p),some (.int (0+i)),x3]/\jr H H4/\H4 p=some (.lst ys)/\Reps K H4 (QN i (l+1).toNat++J9 i j) ys)
       ⟨x3,xs,rfl,s2.trans s3,s3 _ _ hp2,by simpa [J9] using Reps.mono s3 _ _ r2⟩ ?_ ?_⟩
      ·rintro j σ H4 hj ⟨x3',ys,rfl,s4,hp4,r4⟩
       have hlen:ys.length<sizeLine:=by
        rw [r4.length,List.length_append,agX,ajy,sizeLine_eq]
        have h1:i*(l+1).toNat<=1000*1001:=Nat.mul_le_mul (by omega) (by omega)
        omega
       refine ⟨_,rfl,.inl ⟨rfl,ys,SqL.of hp4⟩,_,rfl,_,rfl,by show 2<=sizeLine; rw [sizeLine_eq]; decide,fun q hq=>?_⟩
       have npq:p ≠ q:=qQ hp4 hq
       refine ⟨p,ys,.ref q,rfl,rfl,by rw [jq npq]; exact hp4,hlen,?_⟩
       have t1:zI H4 (upd (upd H4 q (.tup [.int (0+(i:Int)),.int (0+(j:Int))])) p (.lst (ys++[.ref q]))):=
        (jr.n (jM hq)).trans (zI.upd (xs:=ys) (by rw [jq npq]; exact hp4))
       refine ⟨_,ys++[.ref q],rfl,fun c o hc=>?_,jn,?_⟩
       ·have hc4:=s4 c o hc
        rw [jq (qQ hc hp),jq (qQ hc4 hq)]
        exact hc4
       ·rw [agV,←List.append_assoc]
        refine (Reps.monoN t1 _ _ (by rw [QY,akH,agW]; rfl) r4).append ⟨.ref q,[],rfl,⟨q,_,rfl,SqT.of (by rw [jq (Ne.symm npq)]; exact jn),?_⟩,rfl⟩
        exact ⟨_,_,rfl,by show _=V.int _; rw [Int.zero_add],_,_,rfl,by show _=V.int _; rw [Int.zero_add],rfl⟩
      ·rintro σ H4 ⟨x3',ys,rfl,s4,hp4,r4⟩
       exact ⟨_,x3',ys,rfl,s4,hp4,by rw [Z9]; exact r4⟩
     ·rintro σ H2 ⟨x2,x3,xs,rfl,s2,hp2,r2⟩
      exact ⟨_,rfl,k _ _ s2 ⟨p,xs,rfl,hp2,r2⟩⟩
    ·cases h3
   ·cases h3
end
abbrev Zp:Stmt:=top 15
abbrev Zq:Stmt:=top 14
noncomputable abbrev CC:=Program->World->Fg->(SV)->Heap->Prop
structure CHasAll (P:Program) (w:World) (K:Fg) (mg:SV) (base:Heap):Prop where
 t:Bare mg
 allRods:jm P w K mg base "all_rods" ["manner"] 1 1 JG
 rodWorth:jm P w K mg base "rod_worth" ["manner","rod"] 1 2 qH
theorem aea:FnScope ["manner","worths"] ["manner"] (je Zp):=⟨rfl,rfl,rfl,by decide +kernel,rfl,by decide +kernel,by decide +kernel⟩
theorem nd2:(["rod","manner"]:List Str).Nodup:=by decide +kernel
theorem nd3:(["digit","worths"]:List Str).Nodup:=by decide +kernel
def afd:{ B:RO // zl CHasAll "has_all_digits" Zp ["manner","worths"] 1 B }:=
 ⟨_,fun P w K mg base f Kc A Ko s H E C hr=>
  jf (qe 1 aea.nd (Zk ["rod","manner"] [none,some 0] rfl (QT (jl C.allRods hr (Nat.le_refl _) (jb (ja 0) jd) (jc jk))) (Qv (je Zp) ["manner","worths"] (by decide +kernel))
   fun cl C' s0 H0 fp pn=>⟨qd 0 nd2,QU,jl C.rodWorth hr (Nat.le_refl _) (jb (ja 1) (jb (ja 0) jd)) (jc (jc jk))⟩))
  (jf (jz (j4 (ahO rfl) C.t.all aie (jb (Zk ["digit","worths"] [none,some 1] rfl (Z2 rfl C.t.range (jb (jS (ja 0) jh) jd)) (Qv (je Zp) ["manner","worths"] (by decide +kernel))
   fun cl C' s0 H0 fp pn=>⟨qd 0 nd3,QU,alQ (alT hr.units) (ja 0) (ja 1)⟩) jd))) jo)⟩
abbrev ac6:Stmt:=top 16
abbrev Qi:Stmt:=top 20
abbrev abZ:Stmt:=top 22
def GC (K:Fg) (mg:SV) (x:Str) (d:PyData):Prop:=∃ v u,mg x=some u/\jV v u/\∀ H,Rep K H d v
theorem QO {X:Cx}{pos:Pos}{x:Str}{d:PyData} (c:GC X.K X.mg x d) (hg:Gl X x:=by rfl) (hd:(x == ("__debug__":Str))=false:=by decide):PD X (.Name x pos) (cst d):=by
 with_unfolding_all
  obtain ⟨v,u,h1,h2,h3⟩:=c
  exact aoi hg h1 h2 h3 hd
def aaE:LP->OP:=jC ["manner","worths"] 1 afd.1
structure CIsManner (P:Program) (w:World) (K:Fg) (mg:SV) (base:Heap):Prop where
 t:Bare mg
 least:GC K mg "LEAST_PARTS" (.tuple [.int 0,.int 1,.int 0,.int 2])
 most:GC K mg "MOST_PARTS" (.tuple [.int 3,.int 16,.int 12,.int 16])
 isWhole:jm P w K mg base "is_whole" ["thing","least","most"] 1 3 jU
 hasAll:jm P w K mg base "has_all_digits" ["manner"] 2 1 aaE
theorem JM:FnScope ["thing","part","least","most"] ["thing"] (je Zq):=⟨rfl,rfl,rfl,by decide +kernel,rfl,by decide +kernel,by decide +kernel⟩
def abi:{ B:RO // zl CIsManner "is_manner" Zq ["thing","part","least","most"] 2 B }:=
 ⟨_,fun P w K mg base f Kc A Ko s H E C hr=>
  jf (qt (zY (Z0 (j9 (qh (aa9 (.inr (.inr rfl)) C.t.isi C.t.tuple Qh (ja 0)))) (Qr (jY (J8 hr.units) (j4 zb C.t.len qV (jb (ja 0) jd)) (j4 zb C.t.len qV (jb (QO C.most) jd)))))) (jf (jz Jn) jo) jo)
  (jf (aje PassesOwn.never rfl (al0 C.t.zip (jb (ja 0) (jb (QO C.least) (jb (QO C.most) jd)))) (ajd (n:=3) rfl (Qc (qd 1 JM.nd) (Qc (qd 2 JM.nd) (Qc (qd 3 JM.nd) agt))))
   (jf (qt (j9 (qh (jl C.isWhole hr (by decide) (jb (ja 1) (jb (ja 2) (jb (ja 3) jd))) (jc (jc (jc jk)))))) (jf (jz Jn) jo) jo) jo))
  (jf (jz (jl C.hasAll hr (Nat.le_refl _) (jb (ja 0) jd) (jc jk))) jo))⟩
def qZ:LP->OP:=jC ["thing","part","least","most"] 1 abi.1
structure CCheck (P:Program) (w:World) (K:Fg) (mg:SV) (base:Heap):Prop where
 isManner:jm P w K mg base "is_manner" ["thing"] 3 1 qZ
theorem agY:FnScope ["thing"] ["thing"] (je ac6):=⟨rfl,rfl,rfl,by decide +kernel,rfl,by decide +kernel,by decide +kernel⟩
def aii:{ B:RO // zl CCheck "check_manner" ac6 ["thing"] 3 B }:=
 ⟨_,fun P w K mg base f Kc A Ko s H E C hr=>
  jf (qt (j9 (qh (jl C.isManner hr (Nat.le_refl _) (jb (ja 0) jd) (jc jk)))) zf jo) jo⟩
def Q6:LP->OP:=jC ["thing"] 1 aii.1
structure CRodsWith (P:Program) (w:World) (K:Fg) (mg:SV) (base:Heap):Prop where
 allRods:jm P w K mg base "all_rods" ["manner"] 1 1 JG
 rodWorth:jm P w K mg base "rod_worth" ["manner","rod"] 1 2 qH
theorem agZ:FnScope ["manner","worth"] ["manner","worth"] (je Qi):=⟨rfl,rfl,rfl,by decide +kernel,rfl,by decide +kernel,by decide +kernel⟩
theorem nd4:(["rod","manner","worth"]:List Str).Nodup:=by decide +kernel
def abj:{ B:RO // zl CRodsWith "rods_with" Qi ["manner","worth"] 1 B }:=
 ⟨_,fun P w K mg base f Kc A Ko s H E C hr=>
  jf (jz (Zk ["rod","manner","worth"] [none,some 0,some 1] rfl (QT (jl C.allRods hr (Nat.le_refl _) (jb (ja 0) jd) (jc jk))) (Qv (je Qi) ["manner","worth"] (by decide +kernel))
   fun cl C' s0 H0 fp pn=>⟨qd 0 nd4,alS (jY (qT hr.units) (jl C.rodWorth hr (Nat.le_refl _) (jb (ja 1) (jb (ja 0) jd)) (jc (jc jk))) (ja 2)),ja 0⟩)) jo⟩
def Zr:LP->OP:=jC ["manner","worth"] 2 abj.1
structure CFewest (P:Program) (w:World) (K:Fg) (mg:SV) (base:Heap):Prop where
 t:Bare mg
 rodsWith:jm P w K mg base "rods_with" ["manner","worth"] 2 2 Zr
 beads:jm P w K mg base "beads" ["rod"] 1 1 Ji
theorem akI:FnScope ["manner","worth"] ["manner","worth"] (je abZ):=⟨rfl,rfl,rfl,by decide +kernel,rfl,by decide +kernel,by decide +kernel⟩
def afe:{ B:RO // zl CFewest "fewest_beads" abZ ["manner","worth"] 2 B }:=
 ⟨_,fun P w K mg base f Kc A Ko s H E C hr=>
  jf (jz (al5 rfl C.beads hr (Nat.le_refl _) C.t.min (jl C.rodsWith hr (by decide) (jb (ja 0) (jb (ja 1) jd)) (jc (jc jk))))) jo⟩
def JN:LP->OP:=jC ["manner","worth"] 2 afe.1
abbrev JH:Stmt:=top 28
abbrev zE:Stmt:=top 29
abbrev Jb:Stmt:=top 30
abbrev Jx:Stmt:=top 31
abbrev asz (C:CC) (qual:Str) (st:Stmt) (N:List Str) (k:Nat) (sts:List Stmt) (B:RO):Prop:=
 ∀ (P:Program) (w:World) (K:Fg) (mg:SV) (base:Heap) (f:Addr) (Kc:Value) (A:Around) (Ko:List Env) (s:Shared) (H:Hp) (E:XK),C P w K mg base->Room k (A.deeper (envOfC qual (je st) s.heap.objs.size f Kc))->
  abL (zW CX0 P w K mg base N qual (je st) f Kc A Ko s H E).nox sts B
abbrev amL (own:Nat) (C:CC) (qual:Str) (st:Stmt) (N:List Str) (k:Nat) (sts:List Stmt) (B:RO):Prop:=
 ∀ (P:Program) (w:World) (K:Fg) (mg:SV) (base:Heap) (f:Addr) (Kc:Value) (A:Around) (Ko:List Env) (s:Shared) (H:Hp) (E:XK),C P w K mg base->Room k (A.deeper (envOfC qual (je st) s.heap.objs.size f Kc))->
  adC (zW CX0 P w K mg base N qual (je st) f Kc A Ko s H E).nox (some own) sts B
noncomputable def Ju:Stmt->List Stmt
 | .For _ _ b _ _=>b
 | _=>[]
noncomputable def adD (l:List Stmt) (i:Nat):Stmt:=l.getD i (.Pass ⟨0,0,0,0⟩)
structure CNum (P:Program) (w:World) (K:Fg) (mg:SV) (base:Heap):Prop where
 rodWorth:jm P w K mg base "rod_worth" ["manner","rod"] 1 2 qH
noncomputable abbrev ao1:List Str:=["manner","setting","number","rod"]
theorem aff:FnScope ao1 ["manner","setting"] (je Jx):=⟨rfl,rfl,rfl,by decide +kernel,rfl,by decide +kernel,by decide +kernel⟩
def afg:{ B:RO // asz CNum "number_on" Jx ao1 1 (Ju (adD (jR Jx) 1)) B }:=
 ⟨_,fun P w K mg base f Kc A Ko s H E C hr=>
  jf (qe 2 aff.nd (jw jL (jw zv (ja 2) (jS (ja 0) jh)) (jl C.rodWorth hr (Nat.le_refl _) (jb (ja 0) (jb (ja 3) jd)) (jc (jc jk))))) jo⟩
def ao2:{ B:RO // zl CNum "number_on" Jx ao1 1 B }:=
 ⟨_,fun P w K mg base f Kc A Ko s H E C hr=>
  jf (qe 2 aff.nd jh) (jf (aje PassesOwn.never rfl (aeR (ja 1)) (qd 3 aff.nd) (afg.2 P w K mg base f Kc A Ko s H E C hr)) (jf (jz (ja 2)) jo))⟩
def QF:LP->OP:=jC ao1 2 ao2.1
structure CChkRods (P:Program) (w:World) (K:Fg) (mg:SV) (base:Heap):Prop where
 isWhole:jm P w K mg base "is_whole" ["thing","least","most"] 1 3 jU
 most:GC K mg "MOST_RODS" (.int 4)
theorem ac7:FnScope ["rods"] ["rods"] (je JH):=⟨rfl,rfl,rfl,by decide +kernel,rfl,by decide +kernel,by decide +kernel⟩
def aaF:{ B:RO // zl CChkRods "check_rods" JH ["rods"] 1 B }:=
 ⟨_,fun P w K mg base f Kc A Ko s H E C hr=>
  jf (qt (j9 (qh (jl C.isWhole hr (Nat.le_refl _) (jb (ja 0) (jb jh (jb (QO C.most) jd))) (jc (jc (jc jk)))))) zf jo) jo⟩
def Jc:LP->OP:=jC ["rods"] 1 aaF.1
structure CChkNum (P:Program) (w:World) (K:Fg) (mg:SV) (base:Heap):Prop where
 isWhole:jm P w K mg base "is_whole" ["thing","least","most"] 1 3 jU
 most:GC K mg "MOST_NUMBER" (.int 99999)
theorem aeb:FnScope ["number"] ["number"] (je zE):=⟨rfl,rfl,rfl,by decide +kernel,rfl,by decide +kernel,by decide +kernel⟩
def ab0:{ B:RO // zl CChkNum "check_number" zE ["number"] 1 B }:=
 ⟨_,fun P w K mg base f Kc A Ko s H E C hr=>
  jf (qt (j9 (qh (jl C.isWhole hr (Nat.le_refl _) (jb (ja 0) (jb jh (jb (QO C.most) jd))) (jc (jc (jc jk)))))) zf jo) jo⟩
def qW:LP->OP:=jC ["number"] 1 ab0.1
structure CAsked (P:Program) (w:World) (K:Fg) (mg:SV) (base:Heap):Prop where
 check:jm P w K mg base "check_manner" ["thing"] 4 1 Q6
 rods:jm P w K mg base "check_rods" ["rods"] 2 1 Jc
 num:jm P w K mg base "check_number" ["number"] 2 1 qW
theorem ag0:FnScope ["manner","rods","number"] ["manner","rods","number"] (je Jb):=⟨rfl,rfl,rfl,by decide +kernel,rfl,by decide +kernel,by decide +kernel⟩
def aij:{ B:RO // zl CAsked "check_asked" Jb ["manner","rods","number"] 4 B }:=
 ⟨_,fun P w K mg base f Kc A Ko s H E C hr=>
  jf (j6 (jl C.check hr (Nat.le_refl _) (jb (ja 0) jd) (jc jk)))
  (jf (j6 (jl C.rods hr (by decide) (jb (ja 1) jd) (jc jk)))
  (jf (j6 (jl C.num hr (by decide) (jb (ja 2) jd) (jc jk))) jo))⟩
def aaa:LP->OP:=jC ["manner","rods","number"] 3 aij.1
abbrev afh:Stmt:=top 17
abbrev zO:Stmt:=top 26
abbrev zt:Stmt:=top 27
abbrev aaG:Stmt:=top 32
abbrev Zs:Stmt:=top 33
abbrev Zt:Stmt:=top 34
noncomputable abbrev ao3:List Str:=["base","rods","number","digits","left"]
noncomputable def akJ:Stmt->List Stmt
 | .While _ b _ _=>b
 | _=>[]
theorem afi:FnScope ao3 ["base","rods","number"] (je Zt):=⟨rfl,rfl,rfl,by decide +kernel,rfl,by decide +kernel,by decide +kernel⟩
def aab:{ B:RO // amL 3 (fun _ _ _ mg _=>Bare mg) "digits_by_rods" Zt ao3 0 (akJ (adD (jR Zt) 2)) B }:=
 ⟨_,fun P w K mg base f Kc A Ko s H E C hr=>
  j7 (ae0 (ahZ 3 jh (jw JJ (ja 4) (ja 0))))
  (j7 (JK 4 afi.nd (jw JC (ja 4) (ja 0))) JE)⟩
def ao4:{ B:RO // zl (fun _ _ _ mg _=>Bare mg) "digits_by_rods" Zt ao3 0 B }:=
 ⟨_,fun P w K mg base f Kc A Ko s H E C hr=>
  acN (acQ 3 afi.nd (acP jd)
  (j7 (JK 4 afi.nd (ja 2))
  (j7 (aks 10 PassesOwn.never (jY QW (j4 zb C.len qV (jb (ja 3) jd)) (jw Qu (ja 1) jh)) (aab.2 P w K mg base f Kc A Ko s H E C hr))
  (j7 (aeY (jw jL (Qt (jb (ja 4) jd)) (ja 3))) JE))))⟩
def abO:LP->OP:=jC ao3 3 ao4.1
structure CPlainR (P:Program) (w:World) (K:Fg) (mg:SV) (base:Heap):Prop where
 t:Bare mg
 dig:jm P w K mg base "digits_by_rods" ["base","rods","number"] 1 3 abO
 fewest:jm P w K mg base "fewest_beads" ["manner","worth"] 3 2 JN
noncomputable abbrev Zu:List Str:=["manner","rods","number","digits"]
theorem Zv:FnScope Zu ["manner","rods","number"] (je Zs):=⟨rfl,rfl,rfl,by decide +kernel,rfl,by decide +kernel,by decide +kernel⟩
theorem ndd:(["digit","manner"]:List Str).Nodup:=by decide +kernel
def Zw:{ B:RO // zl CPlainR "plain_rods" Zs Zu 3 B }:=
 ⟨_,fun P w K mg base f Kc A Ko s H E C hr=>
  jf (qe 3 Zv.nd (jl C.dig hr (by decide) (jb (jS (ja 0) jh) (jb (ja 1) (jb (ja 2) jd))) (jc (jc (jc jk)))))
  (jf (qt (jY alU (jS (ja 3) jh) (jS (ja 0) jh)) zf jo)
  (jf (jz (adV agD C.t.tuple Qh (jb (Zk ["digit","manner"] [none,some 0] rfl (QT (ja 3)) (Qv (je Zs) Zu (by decide +kernel))
   fun cl C' s0 H0 fp pn=>⟨qd 0 ndd,QU,jl C.fewest hr (Nat.le_refl _) (jb (ja 1) (jb (ja 0) jd)) (jc (jc jk))⟩) jd))) jo))⟩
def JO:LP->OP:=jC Zu 3 Zw.1
structure CPlainS (P:Program) (w:World) (K:Fg) (mg:SV) (base:Heap):Prop where
 asked:jm P w K mg base "check_asked" ["manner","rods","number"] 5 3 aaa
 rods:jm P w K mg base "plain_rods" ["manner","rods","number"] 4 3 JO
theorem aec:FnScope ["manner","rods","number"] ["manner","rods","number"] (je aaG):=⟨rfl,rfl,rfl,by decide +kernel,rfl,by decide +kernel,by decide +kernel⟩
def afj:{ B:RO // zl CPlainS "plain_setting" aaG ["manner","rods","number"] 5 B }:=
 ⟨_,fun P w K mg base f Kc A Ko s H E C hr=>
  jf (j6 (jl C.asked hr (Nat.le_refl _) (jb (ja 0) (jb (ja 1) (jb (ja 2) jd))) (jc (jc (jc jk)))))
  (jf (jz (jl C.rods hr (by decide) (jb (ja 0) (jb (ja 1) (jb (ja 2) jd))) (jc (jc (jc jk))))) jo)⟩
def JP:LP->OP:=jC ["manner","rods","number"] 3 afj.1
structure CIsRod (P:Program) (w:World) (K:Fg) (mg:SV) (base:Heap):Prop where
 t:Bare mg
 isWhole:jm P w K mg base "is_whole" ["thing","least","most"] 1 3 jU
theorem amM:FnScope ["manner","thing"] ["manner","thing"] (je afh):=⟨rfl,rfl,rfl,by decide +kernel,rfl,by decide +kernel,by decide +kernel⟩
def abk:{ B:RO // zl CIsRod "is_rod" afh ["manner","thing"] 1 B }:=
 ⟨_,fun P w K mg base f Kc A Ko s H E C hr=>
  jf (qt (zY (Z0 (j9 (qh (aa9 (.inr (.inr rfl)) C.t.isi C.t.tuple Qh (ja 1)))) (Qr (jY (J8 hr.units) (j4 zb C.t.len qV (jb (ja 1) jd)) jh)))) (jf (jz Jn) jo) jo)
  (jf (jz (amd (jl C.isWhole hr (Nat.le_refl _) (jb (jS (ja 1) jh) (jb jh (jb (jS (ja 0) jh) jd))) (jc (jc (jc jk)))) (amc (jl C.isWhole hr (Nat.le_refl _) (jb (jS (ja 1) jh) (jb jh (jb (jS (ja 0) jh) jd))) (jc (jc (jc jk))))))) jo)⟩
def Qa:LP->OP:=jC ["manner","thing"] 2 abk.1
structure CIsSet (P:Program) (w:World) (K:Fg) (mg:SV) (base:Heap):Prop where
 t:Bare mg
 check:jm P w K mg base "check_manner" ["thing"] 4 1 Q6
 isRod:jm P w K mg base "is_rod" ["manner","thing"] 2 2 Qa
 most:GC K mg "MOST_RODS" (.int 4)
theorem ag1:FnScope ["manner","thing"] ["manner","thing"] (je zO):=⟨rfl,rfl,rfl,by decide +kernel,rfl,by decide +kernel,by decide +kernel⟩
theorem ndp:(["part","manner"]:List Str).Nodup:=by decide +kernel
def abl:{ B:RO // zl CIsSet "is_setting" zO ["manner","thing"] 4 B }:=
 ⟨_,fun P w K mg base f Kc A Ko s H E C hr=>
  jf (j6 (jl C.check hr (Nat.le_refl _) (jb (ja 0) jd) (jc jk)))
  (jf (qt (zY (Z0 (j9 (qh (aa9 (.inr (.inr rfl)) C.t.isi C.t.tuple Qh (ja 1)))) (Qr (j9 (adX aa8 aa8 jh (j4 zb C.t.len qV (jb (ja 1) jd)) (QO C.most)))))) (jf (jz Jn) jo) jo)
  (jf (jz (j4 (ahO rfl) C.t.all aie (jb (Zk ["part","manner"] [none,some 0] rfl (aeR (ja 1)) (Qv (je zO) ["manner","thing"] (by decide +kernel))
   fun cl C' s0 H0 fp pn=>⟨qd 0 ndp,QU,jl C.isRod hr (by decide) (jb (ja 1) (jb (ja 0) jd)) (jc (jc jk))⟩) jd))) jo))⟩
def ac8:LP->OP:=jC ["manner","thing"] 2 abl.1
structure CChkSet (P:Program) (w:World) (K:Fg) (mg:SV) (base:Heap):Prop where
 isSet:jm P w K mg base "is_setting" ["manner","thing"] 5 2 ac8
theorem aed:FnScope ["manner","thing"] ["manner","thing"] (je zt):=⟨rfl,rfl,rfl,by decide +kernel,rfl,by decide +kernel,by decide +kernel⟩
def ab1:{ B:RO // zl CChkSet "check_setting" zt ["manner","thing"] 5 B }:=
 ⟨_,fun P w K mg base f Kc A Ko s H E C hr=>
  jf (qt (j9 (qh (jl C.isSet hr (Nat.le_refl _) (jb (ja 0) (jb (ja 1) jd)) (jc (jc jk))))) zf jo) jo⟩
def qF:LP->OP:=jC ["manner","thing"] 2 ab1.1
abbrev ajz:Stmt:=top 56
abbrev afk:Stmt:=top 57
abbrev ab2:Stmt:=top 58
theorem ao5:FnScope ["_law_script","_law_k"] ["_law_script","_law_k"] (je ajz):=⟨rfl,rfl,rfl,by decide +kernel,rfl,by decide +kernel,by decide +kernel⟩
def ajA:{ B:RO // zl (fun _ _ _ mg _=>Bare mg) "_law_cell" ajz ["_law_script","_law_k"] 0 B }:=
 ⟨_,fun P w K mg base f Kc A Ko s H E C hr=>
  jf (qt (jY (qT hr.units) (ja 0) (Qt jd)) (jf (jz (jw zv jh (ja 1))) jo) jo)
  (jf (jz (jw jL (jS (ja 0) (jw JJ (ja 1) (j4 zb C.len qV (jb (ja 0) jd)))) (jw zv jh (jw JC (ja 1) (j4 zb C.len qV (jb (ja 0) jd)))))) jo)⟩
def ag2:LP->OP:=jC ["_law_script","_law_k"] 2 ajA.1
structure CDrawn (P:Program) (w:World) (K:Fg) (mg:SV) (base:Heap):Prop where
 cell:jm P w K mg base "_law_cell" ["_law_script","_law_k"] 1 2 ag2
theorem ac9:FnScope ["_law_script","_law_k","_law_many","_law_cell_here"] ["_law_script","_law_k","_law_many"] (je afk):=⟨rfl,rfl,rfl,by decide +kernel,rfl,by decide +kernel,by decide +kernel⟩
def aik:{ B:RO // zl CDrawn "_law_drawn" afk ["_law_script","_law_k","_law_many","_law_cell_here"] 1 B }:=
 ⟨_,fun P w K mg base f Kc A Ko s H E C hr=>
  jf (qe 3 ac9.nd (jw JJ (jw jL (jw zv (jw JJ (jl C.cell hr (Nat.le_refl _) (jb (ja 0) (jb (ja 1) jd)) (jc (jc jk))) jh) jh) (jw zv jh (jw jL (ja 1) jh))) jh))
  (jf (qe 3 ac9.nd (jw JJ (jw jL (jw zv (ja 3) (ja 3)) (jw JC (ja 3) jh)) jh))
  (jf (jz (jw JJ (jw JC (jw JJ (jw jL (jw zv (ja 3) (ja 3)) (jw JC (ja 3) jh)) jh) jh) (ja 2))) jo))⟩
def QG:LP->OP:=jC ["_law_script","_law_k","_law_many","_law_cell_here"] 3 aik.1
noncomputable abbrev afl:List Str:=["_law_script","_law_at","_law_known","_law_way","_law_each","_law_upper","_law_lower"]
structure CManner (P:Program) (w:World) (K:Fg) (mg:SV) (base:Heap):Prop where
 t:Bare mg
 drawn:jm P w K mg base "_law_drawn" ["_law_script","_law_k","_law_many"] 2 3 QG
theorem zP:FnScope afl ["_law_script","_law_at"] (je ab2):=⟨rfl,rfl,rfl,by decide +kernel,rfl,by decide +kernel,by decide +kernel⟩
noncomputable def jp (a b c d:Int):PyData:= .tuple [.int a,.int b,.int c,.int d]
def abm:LP:=[jp 1 5 4 10,jp 2 5 5 10,jp 0 1 9 10,jp 1 5 5 10,jp 0 1 10 10,jp 1 2 1 4,jp 0 1 1 2]
def abn:LP:=[jp 1 4 3 8,jp 1 3 2 5,jp 3 4 3 16,jp 2 3 2 7,jp 1 1 1 3]
def ab3:{ B:RO // zl CManner "_law_manner" ab2 afl 2 B }:=
 ⟨_,fun P w K mg base f Kc A Ko s H E C hr=>
  jf (qe 2 zP.nd (ahW 3 (.list abm) (by kernel_rfl)))
  (jf (qe 2 zP.nd (jw jL (ja 2) (ahW 3 (.list abn) (by kernel_rfl))))
  (jf (qe 3 zP.nd (jl C.drawn hr (Nat.le_refl _) (jb (ja 0) (jb (ja 1) (jb (jw zv jh (j4 zb C.t.len qV (jb (ja 2) jd))) jd))) (jc (jc (jc jk)))))
  (jf (qt (jY QW (ja 3) (j4 zb C.t.len qV (jb (ja 2) jd))) (jf (jz (jS (ja 2) (ja 3))) jo) jo)
  (jf (qe 4 zP.nd (jw jL jh (jl C.drawn hr (Nat.le_refl _) (jb (ja 0) (jb (jw jL (ja 1) jh) (jb jh jd))) (jc (jc (jc jk))))))
  (jf (qe 5 zP.nd (jl C.drawn hr (Nat.le_refl _) (jb (ja 0) (jb (jw jL (ja 1) jh) (jb jh jd))) (jc (jc (jc jk)))))
  (jf (qe 6 zP.nd (jw jL (j4 (aop rfl) C.t.max al4 (jb (jw Qu (ja 4) jh) (jb jh jd))) (jl C.drawn hr (Nat.le_refl _) (jb (ja 0) (jb (jw jL (ja 1) jh) (jb jh jd))) (jc (jc (jc jk))))))
  (jf (jz (Qs (jb (ja 5) (jb (ja 4) (jb (ja 6) (jb (jw jL jh (jl C.drawn hr (Nat.le_refl _) (jb (ja 0) (jb (jw jL (ja 1) jh) (jb (j4 (aeU rfl) C.t.min acJ (jb jh (jb (jw jL (jw zv (ja 5) (ja 4)) (ja 6)) jd))) jd))) (jc (jc (jc jk))))) jd)))))) jo)))))))⟩
def Zx:LP->OP:=jC afl 2 ab3.1
abbrev Jq (C:CC) (qual:Str) (st:Stmt) (N:List Str) (k:Nat) (Fx:Rho->Option Str):Prop:=
 ∀ (P:Program) (w:World) (K:Fg) (mg:SV) (base:Heap) (f:Addr) (Kc:Value) (A:Around) (Ko:List Env) (s:Shared) (H:Hp) (E:XK),C P w K mg base->Room k (A.deeper (envOfC qual (je st) s.heap.objs.size f Kc))->
  abN (zW (CXt P w) P w K mg base N qual (je st) f Kc A Ko s H E) (jR st) Fx
abbrev aaH:Stmt:=top 50
abbrev ag3:Stmt:=top 49
abbrev Zy:Stmt:=top 48
abbrev sDA:Stmt:=top 47
abbrev ail:Stmt:=top 46
abbrev amN:Stmt:=top 45
abbrev aaI:Stmt:=top 43
abbrev ada:Stmt:=top 44
structure CEnough (P:Program) (w:World) (K:Fg) (mg:SV) (base:Heap):Prop where
 num:jm P w K mg base "number_on" ["manner","setting"] 2 2 QF
theorem aee:FnScope ["manner","setting","number"] ["manner","setting","number"] (je aaH):=⟨rfl,rfl,rfl,by decide +kernel,rfl,by decide +kernel,by decide +kernel⟩
def ab4:{ B:RO // zl CEnough "check_enough" aaH ["manner","setting","number"] 2 B }:=
 ⟨_,fun P w K mg base f Kc A Ko s H E C hr=>
  (jf (qt (jY ahN (ja 2) (jl C.num hr (by decide) (jb (ja 0) (jb (ja 1) jd)) (jc (jc jk)))) zf jo)
  jo)⟩
def ab5:LP->OP:=jC ["manner","setting","number"] 3 ab4.1
structure CLess (P:Program) (w:World) (K:Fg) (mg:SV) (base:Heap):Prop where
 t:Bare mg
 chkSet:jm P w K mg base "check_setting" ["manner","thing"] 6 2 qF
 chkNum:jm P w K mg base "check_number" ["number"] 2 1 qW
 enough:jm P w K mg base "check_enough" ["manner","setting","number"] 3 3 ab5
 plainR:jm P w K mg base "plain_rods" ["manner","rods","number"] 4 3 JO
 num:jm P w K mg base "number_on" ["manner","setting"] 2 2 QF
theorem ajB:FnScope ["manner","setting","number"] ["manner","setting","number"] (je ag3):=⟨rfl,rfl,rfl,by decide +kernel,rfl,by decide +kernel,by decide +kernel⟩
def aef:{ B:RO // zl CLess "less" ag3 ["manner","setting","number"] 6 B }:=
 ⟨_,fun P w K mg base f Kc A Ko s H E C hr=>
  (jf (j6 (jl C.chkSet hr (by decide) (jb (ja 0) (jb (ja 1) jd)) (jc (jc jk))))
  (jf (j6 (jl C.chkNum hr (by decide) (jb (ja 2) jd) (jc jk)))
  (jf (j6 (jl C.enough hr (by decide) (jb (ja 0) (jb (ja 1) (jb (ja 2) jd))) (jc (jc (jc jk)))))
  (jf (jz (jl C.plainR hr (by decide) (jb (ja 0) (jb (j4 zb C.t.len qV (jb (ja 1) jd)) (jb (jw Qu (jl C.num hr (by decide) (jb (ja 0) (jb (ja 1) jd)) (jc (jc jk))) (ja 2)) jd))) (jc (jc (jc jk)))))
  jo))))⟩
def aeg:LP->OP:=jC ["manner","setting","number"] 3 aef.1
noncomputable abbrev ao6:List Str:=["setting","changes","now","rod","fresh"]
theorem afm:FnScope ao6 ["setting","changes"] (je Zy):=⟨rfl,rfl,rfl,by decide +kernel,rfl,by decide +kernel,by decide +kernel⟩
def adb:{ B:RO // amL 2 (fun _ _ _ mg _=>Bare mg) "behind_changes" Zy ao6 0 (Ju (adD (jR Zy) 1)) B }:=
 ⟨_,fun P w K mg base f Kc A Ko s H E C hr=>
  (j7 (amj 2 (ja 3) (ja 4)) JE)⟩
def ao7:{ B:RO // zl (fun _ _ _ mg _=>Bare mg) "behind_changes" Zy ao6 0 B }:=
 ⟨_,fun P w K mg base f Kc A Ko s H E C hr=>
  acN (acQ 2 afm.nd (akt C.list afb (jb (ja 0) jd))
  (j7 (ajm PassesOwn.never rfl (QT (ja 1)) (aeZ (n:=2) rfl (Jv 3 afm.nd (Jv 4 afm.nd acO))) (adb.2 P w K mg base f Kc A Ko s H E C hr))
  (j7 (aeY (adV agD C.tuple Qh (jb (ja 2) jd))) JE)))⟩
def aim:LP->OP:=jC ao6 2 ao7.1
structure CDA (g:LP->OP) (d:Nat) (P:Program) (w:World) (K:Fg) (mg:SV) (base:Heap):Prop where
 rodWorth:jm P w K mg base "rod_worth" ["manner","rod"] 1 2 qH
 fewest:jm P w K mg base "fewest_beads" ["manner","worth"] 3 2 JN
 self:jm P w K mg base "digit_added" ["manner","setting","rod","digit"] (d+3) 4 g
noncomputable abbrev nDA:List Str:=["manner","setting","rod","digit","whole","ahead"]
theorem ag4:FnScope nDA ["manner","setting","rod","digit"] (je sDA):=⟨rfl,rfl,rfl,by decide +kernel,rfl,by decide +kernel,by decide +kernel⟩
def bDA (g:LP->OP) (d:Nat):{ B:RO // zl (CDA g d) "digit_added" sDA nDA (d+3) B }:=
 ⟨_,fun P w K mg base f Kc A Ko s H E C hr=>
  (jf (qt (jY (qT hr.units) (ja 3) jh) (jf (jz (Qt jd)) jo) jo)
  (jf (qt (jY QW (ja 2) jh) zf jo)
  (jf (qe 4 ag4.nd (jw jL (jl C.rodWorth hr (by omega) (jb (ja 0) (jb (jS (ja 1) (ja 2)) jd)) (jc (jc jk))) (ja 3)))
  (jf (qe 5 ag4.nd (jl C.self hr (by omega) (jb (ja 0) (jb (ja 1) (jb (jw Qu (ja 2) jh) (jb (jw JC (ja 4) (jS (ja 0) jh)) jd)))) (jc (jc (jc (jc jk))))))
  (jf (jz (jw jL (ja 5) (Qt (jb (Qs (jb (ja 2) (jb (jl C.fewest hr (by omega) (jb (ja 0) (jb (jw JJ (ja 4) (jS (ja 0) jh)) jd)) (jc (jc jk))) jd))) jd))))
  jo)))))⟩
def gDA:Nat->LP->OP
 | 0=>fun _=>none
 | d+1=>jC nDA 4 (bDA (gDA d) d).1
structure CCbd (x:Str) (g:LP->OP) (P:Program) (w:World) (K:Fg) (mg:SV) (base:Heap):Prop where
 t:Bare mg
 dig:jm P w K mg base "digits_by_rods" ["base","rods","number"] 1 3 abO
 beh:jm P w K mg base "behind_changes" ["setting","changes"] 1 2 aim
 fn:jm P w K mg base x ["manner","setting","rod","digit"] 9 4 g
noncomputable abbrev akK:List Str:=["manner","setting","number","digit_changes","changes","now","rod","digit","several"]
theorem zF:FnScope akK ["manner","setting","number","digit_changes"] (je ail):=⟨rfl,rfl,rfl,by decide +kernel,rfl,by decide +kernel,by decide +kernel⟩
def zm (x:Str) (g:LP->OP):{ B:RO // amL 4 (CCbd x g) "changes_by_digits" ail akK 9 (Ju (adD (jR ail) 2)) B }:=
 ⟨_,fun P w K mg base f Kc A Ko s H E C hr=>
  (j7 (JK 8 zF.nd (agK 3 C.fn hr (by decide) (jb (ja 0) (jb (ja 5) (jb (ja 6) (jb (ja 7) jd)))) (jc (jc (jc (jc jk))))))
  (j7 (JK 5 zF.nd (jl C.beh hr (by decide) (jb (ja 5) (jb (ja 8) jd)) (jc (jc jk))))
  (j7 (ae0 (ad0 4 (ja 8)))
  JE)))⟩
def akL (x:Str) (g:LP->OP):{ B:RO // zl (CCbd x g) "changes_by_digits" ail akK 9 B }:=
 ⟨_,fun P w K mg base f Kc A Ko s H E C hr=>
  acN (acQ 4 zF.nd (acP jd)
  (j7 (JK 5 zF.nd (ja 1))
  (j7 (ajm PassesOwn.never rfl (agI C.t.enum (jb (jl C.dig hr (by decide) (jb (jS (ja 0) jh) (jb (j4 zb C.t.len qV (jb (ja 1) jd)) (jb (ja 2) jd))) (jc (jc (jc jk)))) jd)) (aeZ (n:=2) rfl (Jv 6 zF.nd (Jv 7 zF.nd acO))) ((zm x g).2 P w K mg base f Kc A Ko s H E C hr))
  (j7 (aeY (ja 4)) JE))))⟩
def ara (x:Str) (g:LP->OP):LP->OP:=jC akK 4 (akL x g).1
abbrev gCA:LP->OP:=ara "digit_added" (gDA 6)
structure CChA (P:Program) (w:World) (K:Fg) (mg:SV) (base:Heap):Prop where
 cbd:jm P w K mg base "changes_by_digits" ["manner","setting","number","digit_changes"] 10 4 gCA
 fn:GC K mg "digit_added" (fnD "digit_added")
theorem amO:FnScope ["manner","setting","number"] ["manner","setting","number"] (je amN):=⟨rfl,rfl,rfl,by decide +kernel,rfl,by decide +kernel,by decide +kernel⟩
def akM:{ B:RO // zl CChA "changes_adding" amN ["manner","setting","number"] 10 B }:=
 ⟨_,fun P w K mg base f Kc A Ko s H E C hr=>
  (jf (jz (jl C.cbd hr (by decide) (jb (ja 0) (jb (ja 1) (jb (ja 2) (jb (QO C.fn) jd)))) (jc (jc (jc (jc jk))))))
  jo)⟩
def ag5:LP->OP:=jC ["manner","setting","number"] 3 akM.1
structure CAdding (P:Program) (w:World) (K:Fg) (mg:SV) (base:Heap):Prop where
 chkSet:jm P w K mg base "check_setting" ["manner","thing"] 6 2 qF
 chkNum:jm P w K mg base "check_number" ["number"] 2 1 qW
 chA:jm P w K mg base "changes_adding" ["manner","setting","number"] 11 3 ag5
theorem aeh:FnScope ["manner","setting","number"] ["manner","setting","number"] (je aaI):=⟨rfl,rfl,rfl,by decide +kernel,rfl,by decide +kernel,by decide +kernel⟩
def ab6:{ B:RO // zl CAdding "adding" aaI ["manner","setting","number"] 11 B }:=
 ⟨_,fun P w K mg base f Kc A Ko s H E C hr=>
  (jf (j6 (jl C.chkSet hr (by decide) (jb (ja 0) (jb (ja 1) jd)) (jc (jc jk))))
  (jf (j6 (jl C.chkNum hr (by decide) (jb (ja 2) jd) (jc jk)))
  (jf (jz (jl C.chA hr (by decide) (jb (ja 0) (jb (ja 1) (jb (ja 2) jd))) (jc (jc (jc jk)))))
  jo)))⟩
def JQ:LP->OP:=jC ["manner","setting","number"] 3 ab6.1
structure CAdded (P:Program) (w:World) (K:Fg) (mg:SV) (base:Heap):Prop where
 adding:jm P w K mg base "adding" ["manner","setting","number"] 12 3 JQ
 beh:jm P w K mg base "behind_changes" ["setting","changes"] 1 2 aim
theorem ag6:FnScope ["manner","setting","number"] ["manner","setting","number"] (je ada):=⟨rfl,rfl,rfl,by decide +kernel,rfl,by decide +kernel,by decide +kernel⟩
def afn:{ B:RO // zl CAdded "added" ada ["manner","setting","number"] 12 B }:=
 ⟨_,fun P w K mg base f Kc A Ko s H E C hr=>
  (jf (jz (jl C.beh hr (by decide) (jb (ja 1) (jb (jl C.adding hr (by decide) (jb (ja 0) (jb (ja 1) (jb (ja 2) jd))) (jc (jc (jc jk)))) jd)) (jc (jc jk))))
  jo)⟩
def Q7:LP->OP:=jC ["manner","setting","number"] 3 afn.1
structure XDA (g:LP->OP) (t:LP->Option Str) (d:Nat) (P:Program) (w:World) (K:Fg) (mg:SV) (base:Heap):Prop where
 n:CDA g d P w K mg base
 err:Z5 K mg "TooGreat"
 self:qL P w K mg base "digit_added" ["manner","setting","rod","digit"] (d+3) 4 t
def xDA (g:LP->OP) (t:LP->Option Str) (d:Nat):{ F:Rho->Option Str // Jq (XDA g t d) "digit_added" sDA nDA (d+3) F }:=
 ⟨_,fun P w K mg base f Kc A Ko s H E C hr=>
  (zS (qm (qt (jY (qT hr.units) (ja 3) jh) (jf (jz (Qt jd)) jo) jo) (jA (Q1 (jY QW (ja 2) jh) (jA (qO rfl C.err rfl)) zg)))
  (qm (qt (jY (qT hr.units) (ja 3) jh) (jf (jz (Qt jd)) jo) jo) (qm (qt (jY QW (ja 2) jh) zf jo) (qm (qe 4 ag4.nd (jw jL (jl C.n.rodWorth hr (by omega) (jb (ja 0) (jb (jS (ja 1) (ja 2)) jd)) (jc (jc jk))) (ja 3))) (jA (aoB (qi rfl C.self hr (by omega) (jb (ja 0) (jb (ja 1) (jb (jw Qu (ja 2) jh) (jb (jw JC (ja 4) (jS (ja 0) jh)) jd)))) (jc (jc (jc (jc jk)))))))))))⟩
def tDA:Nat->LP->Option Str
 | 0=>fun _=>none
 | d+1=>zi nDA 4 (xDA (gDA d) (tDA d) d).1
structure XCbd (x:Str) (g:LP->OP) (t:LP->Option Str) (P:Program) (w:World) (K:Fg) (mg:SV) (base:Heap):Prop where
 n:CCbd x g P w K mg base
 fn:qL P w K mg base x ["manner","setting","rod","digit"] 9 4 t
def asC (x:Str) (g:LP->OP) (t:LP->Option Str):{ F:Rho->Option Str // Jq (XCbd x g t) "changes_by_digits" ail akK 9 F }:=
 ⟨_,fun P w K mg base f Kc A Ko s H E C hr=>
  (ams (akw 4 zF.nd (acP jd)
  (ah5 (JK 5 zF.nd (ja 1))
  (acU (amt acR rfl (fun W=>agI C.n.t.enum (jb (jl C.n.dig hr (by decide) (jb (jS (ja 0) jh) (jb (j4 zb C.n.t.len qV (jb (ja 1) jd)) (jb (ja 2) jd))) (jc (jc (jc jk)))) jd)) (fun W=>aeZ (n:=2) rfl (Jv 6 zF.nd (Jv 7 zF.nd acO)))
   (fun W=>(j7 (JK 8 zF.nd (agK 3 C.n.fn hr (by decide) (jb (ja 0) (jb (ja 5) (jb (ja 6) (jb (ja 7) jd)))) (jc (jc (jc (jc jk))))))
  (j7 (JK 5 zF.nd (jl C.n.beh hr (by decide) (jb (ja 5) (jb (ja 8) jd)) (jc (jc jk))))
  (j7 (ae0 (ad0 4 (ja 8)))
  JE))))
   (fun W=>acU (amr (akx 3 rfl C.fn hr (by decide) (jb (ja 0) (jb (ja 5) (jb (ja 6) (jb (ja 7) jd)))) (jc (jc (jc (jc jk))))))))))))⟩
def tCA:LP->Option Str:=zi akK 4 (asC "digit_added" (gDA 6) (tDA 6)).1
structure XChA (P:Program) (w:World) (K:Fg) (mg:SV) (base:Heap):Prop where
 n:CChA P w K mg base
 thr:qL P w K mg base "changes_by_digits" ["manner","setting","number","digit_changes"] 10 4 tCA
def ao8:{ F:Rho->Option Str // Jq XChA "changes_adding" amN ["manner","setting","number"] 10 F }:=
 ⟨_,fun P w K mg base f Kc A Ko s H E C hr=>
  (jA (aas (qi rfl C.thr hr (by decide) (jb (ja 0) (jb (ja 1) (jb (ja 2) (jb (QO C.n.fn) jd)))) (jc (jc (jc (jc jk)))))))⟩
def amP:LP->Option Str:=zi ["manner","setting","number"] 3 ao8.1
noncomputable def afo (k:Bool):PyData:= .str (if k=true then "lower" else "upper")
def mv (r:Int) (k:Bool) (c:Int):PyData:= .tuple [.int r,afo k,.int c]
section
variable {u e l b:Int}
noncomputable def dig (b:Int) (r:Nat) (n:Int) (i:Nat):Int:=if 0<i then n / b ^ (r - 1 - i) % b else n / b ^ (r - 1 - i)
end
noncomputable abbrev amQ:List Str:=["NoManner","NoSetting","NoNumber","NoMove","NoName","TooGreat","Nothing"]
abbrev JR:Stmt:=top 38
structure CNamesBeads (P:Program) (w:World) (K:Fg) (mg:SV) (base:Heap):Prop where
 t:Bare mg
 c_isWhole:jm P w K mg base "is_whole" ["thing","least","most"] 1 3 jU
 k_DECKS:GC K mg "DECKS" (.tuple [.str "upper",.str "lower"])
noncomputable abbrev Q8:List Str:=["setting","thing"]
theorem adE:FnScope Q8 ["setting","thing"] (je JR):=⟨rfl,rfl,rfl,by decide +kernel,rfl,by decide +kernel,by decide +kernel⟩
def zn:{ B:RO // zl CNamesBeads "names_beads" JR Q8 1 B }:=
 ⟨_,fun P w K mg base f Kc A Ko s H E C hr=>
  (jf (qt (zY (Z0 (j9 (qh (aa9 (.inr (.inr rfl)) C.t.isi C.t.tuple Qh (ja 1)))) (Qr (jY (J8 hr.units) (j4 zb C.t.len qV (jb (ja 1) jd)) jh)))) (jf (jz Jn)
  jo) jo)
  (jf (qt (zY (Z0 (j9 (qh (jl C.c_isWhole hr (by decide) (jb (jS (ja 1) jh) (jb jh (jb (jw Qu (j4 zb C.t.len qV (jb (ja 0) jd)) jh) jd))) (jc (jc (jc jk)))))) (Qr (jY (adW hr.units) (jS (ja 1) jh) (QO C.k_DECKS))))) (jf (jz Jn)
  jo) jo)
  (jf (jz (amd (jl C.c_isWhole hr (by decide) (jb (jS (ja 1) jh) (jb (ahU jh) (jb jh jd))) (jc (jc (jc jk)))) (amc (alQ (J8 hr.units) (jS (ja 1) jh) jh))))
  jo)))⟩
def JS:LP->OP:=jC Q8 2 zn.1
abbrev ab7:Stmt:=top 39
structure CPushed (P:Program) (w:World) (K:Fg) (mg:SV) (base:Heap):Prop where
 tr:True
noncomputable abbrev afp:List Str:=["rod","deck","by"]
theorem akN:FnScope afp ["rod","deck","by"] (je ab7):=⟨rfl,rfl,rfl,by decide +kernel,rfl,by decide +kernel,by decide +kernel⟩
def aaJ:{ B:RO // zl CPushed "pushed" ab7 afp 0 B }:=
 ⟨_,fun P w K mg base f Kc A Ko s H E C hr=>
  (jf (qt (jY (qT hr.units) (ja 1) zM) (jf (jz (Qs (jb (jw jL (jS (ja 0) jh) (ja 2)) (jb (jS (ja 0) jh) jd))))
  jo) jo)
  (jf (jz (Qs (jb (jS (ja 0) jh) (jb (jw jL (jS (ja 0) jh) (ja 2)) jd))))
  jo))⟩
def ab8:LP->OP:=jC afp 3 aaJ.1
abbrev aaK:Stmt:=top 37
structure CCanMove (P:Program) (w:World) (K:Fg) (mg:SV) (base:Heap):Prop where
 c_NamesBeads:jm P w K mg base "names_beads" ["setting","thing"] 2 2 JS
 c_isRod:jm P w K mg base "is_rod" ["manner","thing"] 2 2 Qa
 c_Pushed:jm P w K mg base "pushed" ["rod","deck","by"] 1 3 ab8
noncomputable abbrev adc:List Str:=["manner","setting","thing"]
theorem ain:FnScope adc ["manner","setting","thing"] (je aaK):=⟨rfl,rfl,rfl,by decide +kernel,rfl,by decide +kernel,by decide +kernel⟩
def aaL:{ B:RO // zl CCanMove "can_move" aaK adc 2 B }:=
 ⟨_,fun P w K mg base f Kc A Ko s H E C hr=>
  (jf (qt (j9 (qh (jl C.c_NamesBeads hr (by decide) (jb (ja 1) (jb (ja 2) jd)) (jc (jc jk))))) (jf (jz Jn)
  jo) jo)
  (jf (jz (jl C.c_isRod hr (by decide) (jb (ja 0) (jb (jl C.c_Pushed hr (by decide) (jb (jS (ja 1) (jS (ja 2) jh)) (jb (jS (ja 2) jh) (jb (jS (ja 2) jh) jd))) (jc (jc (jc jk)))) jd)) (jc (jc jk))))
  jo))⟩
def Q9:LP->OP:=jC adc 3 aaL.1
abbrev JT:Stmt:=top 40
structure CBehindMove (P:Program) (w:World) (K:Fg) (mg:SV) (base:Heap):Prop where
 c_Pushed:jm P w K mg base "pushed" ["rod","deck","by"] 1 3 ab8
noncomputable abbrev Za:List Str:=["setting","move","at"]
theorem ZW:FnScope Za ["setting","move"] (je JT):=⟨rfl,rfl,rfl,by decide +kernel,rfl,by decide +kernel,by decide +kernel⟩
def JU:{ B:RO // zl CBehindMove "behind_move" JT Za 1 B }:=
 ⟨_,fun P w K mg base f Kc A Ko s H E C hr=>
  (jf (qe 2 ZW.nd (jS (ja 1) jh))
  (jf (jz (jw jL (jw jL (amm (ja 0) (ja 2)) (Qs (jb (jl C.c_Pushed hr (by decide) (jb (jS (ja 0) (ja 2)) (jb (jS (ja 1) jh) (jb (jS (ja 1) jh) jd))) (jc (jc (jc jk)))) jd))) (ah3 (ja 0) (jw jL (ja 2) jh))))
  jo))⟩
def JV:LP->OP:=jC Za 2 JU.1
abbrev add:Stmt:=top 41
structure CMoved (P:Program) (w:World) (K:Fg) (mg:SV) (base:Heap):Prop where
 c_chkSet:jm P w K mg base "check_setting" ["manner","thing"] 6 2 qF
 c_CanMove:jm P w K mg base "can_move" ["manner","setting","thing"] 3 3 Q9
 c_BehindMove:jm P w K mg base "behind_move" ["setting","move"] 2 2 JV
noncomputable abbrev ade:List Str:=["manner","setting","move"]
theorem ag7:FnScope ade ["manner","setting","move"] (je add):=⟨rfl,rfl,rfl,by decide +kernel,rfl,by decide +kernel,by decide +kernel⟩
def afq:{ B:RO // zl CMoved "moved" add ade 6 B }:=
 ⟨_,fun P w K mg base f Kc A Ko s H E C hr=>
  (jf (j6 (jl C.c_chkSet hr (by decide) (jb (ja 0) (jb (ja 1) jd)) (jc (jc jk))))
  (jf (qt (j9 (qh (jl C.c_CanMove hr (by decide) (jb (ja 0) (jb (ja 1) (jb (ja 2) jd))) (jc (jc (jc jk)))))) (jf akh
  jo) jo)
  (jf (jz (jl C.c_BehindMove hr (by decide) (jb (ja 1) (jb (ja 2) jd)) (jc (jc jk))))
  jo)))⟩
def abo:LP->OP:=jC ade 3 afq.1
structure XCheck (P:Program) (w:World) (K:Fg) (mg:SV) (base:Heap):Prop where
 c_isManner:jm P w K mg base "is_manner" ["thing"] 3 1 qZ
 e_NoManner:Z5 K mg "NoManner"
def afr:{ F:Rho->Option Str // Jq XCheck "check_manner" ac6 ["thing"] 3 F }:=
 ⟨_,fun P w K mg base f Kc A Ko s H E C hr=>
  (jA (Q1 (j9 (qh (jl C.c_isManner hr (by decide) (jb (ja 0) jd) (jc jk)))) (jA (qO rfl C.e_NoManner rfl)) zg))⟩
def afs:LP->Option Str:=zi ["thing"] 1 afr.1
structure XIsSet (P:Program) (w:World) (K:Fg) (mg:SV) (base:Heap):Prop where
 x_check:qL P w K mg base "check_manner" ["thing"] 4 1 afs
def aft:{ F:Rho->Option Str // Jq XIsSet "is_setting" zO ["manner","thing"] 4 F }:=
 ⟨_,fun P w K mg base f Kc A Ko s H E C hr=>
  (jA (zh (qi rfl C.x_check hr (by decide) (jb (ja 0) jd) (jc jk))))⟩
def aio:LP->Option Str:=zi ["manner","thing"] 2 aft.1
structure XChkSet (P:Program) (w:World) (K:Fg) (mg:SV) (base:Heap):Prop where
 c_isSet:jm P w K mg base "is_setting" ["manner","thing"] 5 2 ac8
 x_isSet:qL P w K mg base "is_setting" ["manner","thing"] 5 2 aio
 e_NoSetting:Z5 K mg "NoSetting"
def ab9:{ F:Rho->Option Str // Jq XChkSet "check_setting" zt ["manner","thing"] 5 F }:=
 ⟨_,fun P w K mg base f Kc A Ko s H E C hr=>
  (jA (aqU (aoJ (aoI (aoH (qi rfl C.x_isSet hr (by decide) (jb (ja 0) (jb (ja 1) jd)) (jc (jc jk)))))) (Q1 (j9 (qh (jl C.c_isSet hr (by decide) (jb (ja 0) (jb (ja 1) jd)) (jc (jc jk))))) (jA (qO rfl C.e_NoSetting rfl)) zg)))⟩
def JW:LP->Option Str:=zi ["manner","thing"] 2 ab9.1
structure XChkRods (P:Program) (w:World) (K:Fg) (mg:SV) (base:Heap):Prop where
 c_isWhole:jm P w K mg base "is_whole" ["thing","least","most"] 1 3 jU
 k_MOST_RODS:GC K mg "MOST_RODS" (.int 4)
 e_NoNumber:Z5 K mg "NoNumber"
def aaM:{ F:Rho->Option Str // Jq XChkRods "check_rods" JH ["rods"] 1 F }:=
 ⟨_,fun P w K mg base f Kc A Ko s H E C hr=>
  (jA (Q1 (j9 (qh (jl C.c_isWhole hr (by decide) (jb (ja 0) (jb jh (jb (QO C.k_MOST_RODS) jd))) (jc (jc (jc jk)))))) (jA (qO rfl C.e_NoNumber rfl)) zg))⟩
def adf:LP->Option Str:=zi ["rods"] 1 aaM.1
structure XChkNum (P:Program) (w:World) (K:Fg) (mg:SV) (base:Heap):Prop where
 c_isWhole:jm P w K mg base "is_whole" ["thing","least","most"] 1 3 jU
 k_MOST_NUMBER:GC K mg "MOST_NUMBER" (.int 99999)
 e_NoNumber:Z5 K mg "NoNumber"
def aca:{ F:Rho->Option Str // Jq XChkNum "check_number" zE ["number"] 1 F }:=
 ⟨_,fun P w K mg base f Kc A Ko s H E C hr=>
  (jA (Q1 (j9 (qh (jl C.c_isWhole hr (by decide) (jb (ja 0) (jb jh (jb (QO C.k_MOST_NUMBER) jd))) (jc (jc (jc jk)))))) (jA (qO rfl C.e_NoNumber rfl)) zg))⟩
def QH:LP->Option Str:=zi ["number"] 1 aca.1
structure XAsked (P:Program) (w:World) (K:Fg) (mg:SV) (base:Heap):Prop where
 c_chkRods:jm P w K mg base "check_rods" ["rods"] 2 1 Jc
 c_check:jm P w K mg base "check_manner" ["thing"] 4 1 Q6
 x_check:qL P w K mg base "check_manner" ["thing"] 4 1 afs
 x_chkRods:qL P w K mg base "check_rods" ["rods"] 2 1 adf
 x_chkNum:qL P w K mg base "check_number" ["number"] 2 1 QH
def afu:{ F:Rho->Option Str // Jq XAsked "check_asked" Jb ["manner","rods","number"] 4 F }:=
 ⟨_,fun P w K mg base f Kc A Ko s H E C hr=>
  (zS (jA (zh (qi rfl C.x_check hr (by decide) (jb (ja 0) jd) (jc jk)))) (qm (j6 (jl C.c_check hr (by decide) (jb (ja 0) jd) (jc jk)))
  (zS (jA (zh (qi rfl C.x_chkRods hr (by decide) (jb (ja 1) jd) (jc jk)))) (qm (j6 (jl C.c_chkRods hr (by decide) (jb (ja 1) jd) (jc jk)))
  (jA (zh (qi rfl C.x_chkNum hr (by decide) (jb (ja 2) jd) (jc jk))))))))⟩
def aip:LP->Option Str:=zi ["manner","rods","number"] 3 afu.1
structure XPlainR (P:Program) (w:World) (K:Fg) (mg:SV) (base:Heap):Prop where
 c_digits:jm P w K mg base "digits_by_rods" ["base","rods","number"] 1 3 abO
 e_TooGreat:Z5 K mg "TooGreat"
def acb:{ F:Rho->Option Str // Jq XPlainR "plain_rods" Zs Zu 3 F }:=
 ⟨_,fun P w K mg base f Kc A Ko s H E C hr=>
  (qm (qe 3 Zv.nd (jl C.c_digits hr (by decide) (jb (jS (ja 0) jh) (jb (ja 1) (jb (ja 2) jd))) (jc (jc (jc jk)))))
  (jA (Q1 (jY alU (jS (ja 3) jh) (jS (ja 0) jh)) (jA (qO rfl C.e_TooGreat rfl)) zg)))⟩
def aaN:LP->Option Str:=zi Zu 3 acb.1
structure XPlainS (P:Program) (w:World) (K:Fg) (mg:SV) (base:Heap):Prop where
 c_asked:jm P w K mg base "check_asked" ["manner","rods","number"] 5 3 aaa
 x_asked:qL P w K mg base "check_asked" ["manner","rods","number"] 5 3 aip
 x_plainR:qL P w K mg base "plain_rods" ["manner","rods","number"] 4 3 aaN
def ajC:{ F:Rho->Option Str // Jq XPlainS "plain_setting" aaG ["manner","rods","number"] 5 F }:=
 ⟨_,fun P w K mg base f Kc A Ko s H E C hr=>
  (zS (jA (zh (qi rfl C.x_asked hr (by decide) (jb (ja 0) (jb (ja 1) (jb (ja 2) jd))) (jc (jc (jc jk)))))) (qm (j6 (jl C.c_asked hr (by decide) (jb (ja 0) (jb (ja 1) (jb (ja 2) jd))) (jc (jc (jc jk)))))
  (jA (aas (qi rfl C.x_plainR hr (by decide) (jb (ja 0) (jb (ja 1) (jb (ja 2) jd))) (jc (jc (jc jk))))))))⟩
def ajD:LP->Option Str:=zi ["manner","rods","number"] 3 ajC.1
structure XEnough (P:Program) (w:World) (K:Fg) (mg:SV) (base:Heap):Prop where
 c_num:jm P w K mg base "number_on" ["manner","setting"] 2 2 QF
 e_TooGreat:Z5 K mg "TooGreat"
def acd:{ F:Rho->Option Str // Jq XEnough "check_enough" aaH ["manner","setting","number"] 2 F }:=
 ⟨_,fun P w K mg base f Kc A Ko s H E C hr=>
  (jA (Q1 (jY ahN (ja 2) (jl C.c_num hr (by decide) (jb (ja 0) (jb (ja 1) jd)) (jc (jc jk)))) (jA (qO rfl C.e_TooGreat rfl)) zg))⟩
def afv:LP->Option Str:=zi ["manner","setting","number"] 3 acd.1
structure XAdding (P:Program) (w:World) (K:Fg) (mg:SV) (base:Heap):Prop where
 c_chkNum:jm P w K mg base "check_number" ["number"] 2 1 qW
 c_chkSet:jm P w K mg base "check_setting" ["manner","thing"] 6 2 qF
 x_chkSet:qL P w K mg base "check_setting" ["manner","thing"] 6 2 JW
 x_chkNum:qL P w K mg base "check_number" ["number"] 2 1 QH
 x_chA:qL P w K mg base "changes_adding" ["manner","setting","number"] 11 3 amP
def ace:{ F:Rho->Option Str // Jq XAdding "adding" aaI ["manner","setting","number"] 11 F }:=
 ⟨_,fun P w K mg base f Kc A Ko s H E C hr=>
  (zS (jA (zh (qi rfl C.x_chkSet hr (by decide) (jb (ja 0) (jb (ja 1) jd)) (jc (jc jk))))) (qm (j6 (jl C.c_chkSet hr (by decide) (jb (ja 0) (jb (ja 1) jd)) (jc (jc jk))))
  (zS (jA (zh (qi rfl C.x_chkNum hr (by decide) (jb (ja 2) jd) (jc jk)))) (qm (j6 (jl C.c_chkNum hr (by decide) (jb (ja 2) jd) (jc jk)))
  (jA (aas (qi rfl C.x_chA hr (by decide) (jb (ja 0) (jb (ja 1) (jb (ja 2) jd))) (jc (jc (jc jk))))))))))⟩
def acf:LP->Option Str:=zi ["manner","setting","number"] 3 ace.1
structure XAdded (P:Program) (w:World) (K:Fg) (mg:SV) (base:Heap):Prop where
 c_beh:jm P w K mg base "behind_changes" ["setting","changes"] 1 2 aim
 x_adding:qL P w K mg base "adding" ["manner","setting","number"] 12 3 acf
def afw:{ F:Rho->Option Str // Jq XAdded "added" ada ["manner","setting","number"] 12 F }:=
 ⟨_,fun P w K mg base f Kc A Ko s H E C hr=>
  (jA (aas (amq C.c_beh (amp (ja 1) (amo (qi rfl C.x_adding hr (by decide) (jb (ja 0) (jb (ja 1) (jb (ja 2) jd))) (jc (jc (jc jk)))))))))⟩
def adg:LP->Option Str:=zi ["manner","setting","number"] 3 afw.1
structure XLess (P:Program) (w:World) (K:Fg) (mg:SV) (base:Heap):Prop where
 t:Bare mg
 c_num:jm P w K mg base "number_on" ["manner","setting"] 2 2 QF
 c_enough:jm P w K mg base "check_enough" ["manner","setting","number"] 3 3 ab5
 c_chkNum:jm P w K mg base "check_number" ["number"] 2 1 qW
 c_chkSet:jm P w K mg base "check_setting" ["manner","thing"] 6 2 qF
 x_chkSet:qL P w K mg base "check_setting" ["manner","thing"] 6 2 JW
 x_chkNum:qL P w K mg base "check_number" ["number"] 2 1 QH
 x_enough:qL P w K mg base "check_enough" ["manner","setting","number"] 3 3 afv
 x_plainR:qL P w K mg base "plain_rods" ["manner","rods","number"] 4 3 aaN
def ajE:{ F:Rho->Option Str // Jq XLess "less" ag3 ["manner","setting","number"] 6 F }:=
 ⟨_,fun P w K mg base f Kc A Ko s H E C hr=>
  (zS (jA (zh (qi rfl C.x_chkSet hr (by decide) (jb (ja 0) (jb (ja 1) jd)) (jc (jc jk))))) (qm (j6 (jl C.c_chkSet hr (by decide) (jb (ja 0) (jb (ja 1) jd)) (jc (jc jk))))
  (zS (jA (zh (qi rfl C.x_chkNum hr (by decide) (jb (ja 2) jd) (jc jk)))) (qm (j6 (jl C.c_chkNum hr (by decide) (jb (ja 2) jd) (jc jk)))
  (zS (jA (zh (qi rfl C.x_enough hr (by decide) (jb (ja 0) (jb (ja 1) (jb (ja 2) jd))) (jc (jc (jc jk)))))) (qm (j6 (jl C.c_enough hr (by decide) (jb (ja 0) (jb (ja 1) (jb (ja 2) jd))) (jc (jc (jc jk)))))
  (jA (aas (qi rfl C.x_plainR hr (by decide) (jb (ja 0) (jb (j4 zb C.t.len qV (jb (ja 1) jd)) (jb (jw Qu (jl C.c_num hr (by decide) (jb (ja 0) (jb (ja 1) jd)) (jc (jc jk))) (ja 2)) jd))) (jc (jc (jc jk))))))))))))⟩
def ag8:LP->Option Str:=zi ["manner","setting","number"] 3 ajE.1
structure XMoved (P:Program) (w:World) (K:Fg) (mg:SV) (base:Heap):Prop where
 c_CanMove:jm P w K mg base "can_move" ["manner","setting","thing"] 3 3 Q9
 c_chkSet:jm P w K mg base "check_setting" ["manner","thing"] 6 2 qF
 x_chkSet:qL P w K mg base "check_setting" ["manner","thing"] 6 2 JW
 e_NoMove:Z5 K mg "NoMove"
def amR:{ F:Rho->Option Str // Jq XMoved "moved" add ade 6 F }:=
 ⟨_,fun P w K mg base f Kc A Ko s H E C hr=>
  (zS (jA (zh (qi rfl C.x_chkSet hr (by decide) (jb (ja 0) (jb (ja 1) jd)) (jc (jc jk))))) (qm (j6 (jl C.c_chkSet hr (by decide) (jb (ja 0) (jb (ja 1) jd)) (jc (jc jk))))
  (jA (Q1 (j9 (qh (jl C.c_CanMove hr (by decide) (jb (ja 0) (jb (ja 1) (jb (ja 2) jd))) (jc (jc (jc jk)))))) (jA (qO rfl C.e_NoMove rfl)) zg))))⟩
def amS:LP->Option Str:=zi ade 3 amR.1
abbrev aaO:Stmt:=top 53
structure CIsName (P:Program) (w:World) (K:Fg) (mg:SV) (base:Heap):Prop where
 t:Bare mg
 k_MOST_LETTERS:GC K mg "MOST_LETTERS" (.int 6)
noncomputable abbrev acg:List Str:=["thing"]
theorem akO:FnScope acg ["thing"] (je aaO):=⟨rfl,rfl,rfl,by decide +kernel,rfl,by decide +kernel,by decide +kernel⟩
theorem amT:(["letter"]:List Str).Nodup:=by decide +kernel
def ajF:{ B:RO // zl CIsName "is_name" aaO acg 0 B }:=
 ⟨_,fun P w K mg base f Kc A Ko s H E C hr=>
  (jf (qt (zY (Z0 (j9 (qh (aoT rfl C.t.isi C.t.str aq9 (ja 0)))) (Qr (j9 (adX aa8 aa8 jh (j4 aoS C.t.len qV (jb (ja 0) jd)) (QO C.k_MOST_LETTERS)))))) (jf (jz Jn)
  jo) jo)
  (jf (jz (j4 (ahO rfl) C.t.all aie (jb (Zk ["letter"] [none] rfl (amD (ja 0)) (Qv (je aaO) acg (by decide +kernel))
   fun cl C' s0 H0 fp pn=>⟨(qd 0 amT),QU,(agv ajw ajw zM (ja 0) zM)⟩) jd)))
  jo))⟩
def Zz:LP->OP:=jC acg 1 ajF.1
abbrev JI (C:CC) (qual:Str) (st:Stmt) (N:List Str) (k:Nat) (T:TRS):Prop:=
 ∀ (P:Program) (w:World) (K:Fg) (mg:SV) (base:Heap) (f:Addr) (Kc:Value) (A:Around) (Ko:List Env) (s:Shared) (H:Hp) (E:XK),C P w K mg base->Room k (A.deeper (envOfC qual (je st) s.heap.objs.size f Kc))->
  Z6 (zW (CXt P w) P w K mg base N qual (je st) f Kc A Ko s H E) (jR st) T
abbrev aaP (C:CC) (qual:Str) (st:Stmt) (N:List Str) (k:Nat) (sts:List Stmt) (T:TRS):Prop:=
 ∀ (P:Program) (w:World) (K:Fg) (mg:SV) (base:Heap) (f:Addr) (Kc:Value) (A:Around) (Ko:List Env) (s:Shared) (H:Hp) (E:XK),C P w K mg base->Room k (A.deeper (envOfC qual (je st) s.heap.objs.size f Kc))->
  Z6 (zW CX0 P w K mg base N qual (je st) f Kc A Ko s H E).nox sts T
abbrev asD (C:CC) (qual:Str) (st:Stmt) (N:List Str) (k:Nat) (T:TRS):Prop:=
 ∀ (P:Program) (w:World) (K:Fg) (mg:SV) (base:Heap) (f:Addr) (Kc:Value) (A:Around) (Ko:List Env) (s:Shared) (H:Hp) (E:XK),C P w K mg base->Room k (A.deeper (envOfC qual (je st) s.heap.objs.size f Kc))->
  ac2 (zW CX0 P w K mg base N qual (je st) f Kc A Ko s H E) (jR st) T
abbrev afx:Stmt:=qR (top 54) 0
structure CMInit (P:Program) (w:World) (K:Fg) (mg:SV) (base:Heap):Prop where
 f_now:qw K "Bench" "now"
 f_manner:qw K "Bench" "manner"
 f_kept:qw K "Bench" "kept"
 f_done:qw K "Bench" "done"
 f_undone:qw K "Bench" "undone"
 c_plainS:jm P w K mg base "plain_setting" ["manner","rods","number"] 6 3 JP
 x_plainS:qL P w K mg base "plain_setting" ["manner","rods","number"] 6 3 ajD
noncomputable abbrev aiq:List Str:=["self","manner","rods"]
theorem amU:FnScope aiq ["self","manner","rods"] (je afx):=⟨rfl,rfl,rfl,by decide +kernel,rfl,by decide +kernel,by decide +kernel⟩
def afy:{ B:TRS // JI CMInit "Bench.__init__" afx aiq 6 B }:=
 ⟨_,fun P w K mg base f Kc A Ko s H E C hr=>
  (ji (zq C.f_now (jg (ja 0)) (Zm rfl C.c_plainS C.x_plainS hr (by decide) (by decide) (jj (jg (ja 1)) (jj (jg (ja 2)) (jj (jg jh) jE)))))
  (ji (zq C.f_manner (jg (ja 0)) (jg (ja 1)))
  (ji (zq C.f_kept (jg (ja 0)) (jg amH))
  (ji (zq C.f_done (jg (ja 0)) (ajq (acP jd)))
  (ji (zq C.f_undone (jg (ja 0)) (ajq (acP jd)))
  jv)))))⟩
def afz:GC3:=qr aiq afy.1
abbrev ZA:Stmt:=qR (top 54) 1
structure CMSetting (P:Program) (w:World) (K:Fg) (mg:SV) (base:Heap):Prop where
 f_now:qw K "Bench" "now"
noncomputable abbrev abp:List Str:=["self"]
theorem ag9:FnScope abp ["self"] (je ZA):=⟨rfl,rfl,rfl,by decide +kernel,rfl,by decide +kernel,by decide +kernel⟩
def abq:{ B:TRS // JI CMSetting "Bench.setting" ZA abp 0 B }:=
 ⟨_,fun P w K mg base f Kc A Ko s H E C hr=>
  (ji (qo (jP C.f_now (jg (ja 0))))
  jv)⟩
def Qj:GC3:=qr abp abq.1
abbrev ach:Stmt:=qR (top 54) 2
structure CMValue (P:Program) (w:World) (K:Fg) (mg:SV) (base:Heap):Prop where
 f_manner:qw K "Bench" "manner"
 f_now:qw K "Bench" "now"
 c_num:jm P w K mg base "number_on" ["manner","setting"] 2 2 QF
noncomputable abbrev afA:List Str:=["self"]
theorem akP:FnScope afA ["self"] (je ach):=⟨rfl,rfl,rfl,by decide +kernel,rfl,by decide +kernel,by decide +kernel⟩
def afB:{ B:TRS // JI CMValue "Bench.value" ach afA 2 B }:=
 ⟨_,fun P w K mg base f Kc A Ko s H E C hr=>
  (ji (qo (agP C.c_num hr (by decide) (jj (jP C.f_manner (jg (ja 0))) (jj (jP C.f_now (jg (ja 0))) jE))))
  jv)⟩
def JX:GC3:=qr afA afB.1
abbrev afC:Stmt:=qR (top 54) 9
structure CMGoOn (P:Program) (w:World) (K:Fg) (mg:SV) (base:Heap):Prop where
 f_done:qw K "Bench" "done"
 f_now:qw K "Bench" "now"
 f_kept:qw K "Bench" "kept"
 f_undone:qw K "Bench" "undone"
 m_value:qK P w K mg base "Bench" "value" ["self"] 3 1 JX
noncomputable abbrev air:List Str:=["self","word","fresh","kept"]
theorem amV:FnScope air ["self","word","fresh","kept"] (je afC):=⟨rfl,rfl,rfl,by decide +kernel,rfl,by decide +kernel,by decide +kernel⟩
def ais:{ B:TRS // JI CMGoOn "Bench.go_on" afC air 3 B }:=
 ⟨_,fun P w K mg base f Kc A Ko s H E C hr=>
  (ji (zD (acZ (jP C.f_done (jg (ja 0))) (abY (jj (jg (ja 1)) (jj (jP C.f_now (jg (ja 0))) (jj (jP C.f_kept (jg (ja 0))) jE))))))
  (ji (zD (akz (jP C.f_undone (jg (ja 0)))))
  (ji (zq C.f_now (jg (ja 0)) (jg (ja 2)))
  (ji (zq C.f_kept (jg (ja 0)) (jg (ja 3)))
  (ji (qo (jF rfl C.m_value hr (by decide) (jg (ja 0))))
  jv)))))⟩
def Zb:GC3:=qr air ais.1
abbrev ajG:Stmt:=qR (top 54) 3
structure CMAdd (P:Program) (w:World) (K:Fg) (mg:SV) (base:Heap):Prop where
 f_manner:qw K "Bench" "manner"
 f_now:qw K "Bench" "now"
 f_kept:qw K "Bench" "kept"
 m_go_on:qK P w K mg base "Bench" "go_on" ["self","word","fresh","kept"] 4 4 Zb
 c_added:jm P w K mg base "added" ["manner","setting","number"] 13 3 Q7
 x_added:qL P w K mg base "added" ["manner","setting","number"] 13 3 adg
noncomputable abbrev amW:List Str:=["self","number"]
theorem ao9:FnScope amW ["self","number"] (je ajG):=⟨rfl,rfl,rfl,by decide +kernel,rfl,by decide +kernel,by decide +kernel⟩
def ajH:{ B:TRS // JI CMAdd "Bench.add" ajG amW 13 B }:=
 ⟨_,fun P w K mg base f Kc A Ko s H E C hr=>
  (ji (qo (qP rfl C.m_go_on hr (by decide) (jg (ja 0)) (jj (jg zM) (jj (Zm rfl C.c_added C.x_added hr (by decide) (by decide) (jj (jP C.f_manner (jg (ja 0))) (jj (jP C.f_now (jg (ja 0))) (jj (jg (ja 1)) jE)))) (jj (jP C.f_kept (jg (ja 0))) jE)))))
  jv)⟩
def aei:GC3:=qr amW ajH.1
abbrev afD:Stmt:=qR (top 54) 4
structure CMTake (P:Program) (w:World) (K:Fg) (mg:SV) (base:Heap):Prop where
 f_manner:qw K "Bench" "manner"
 f_now:qw K "Bench" "now"
 f_kept:qw K "Bench" "kept"
 m_go_on:qK P w K mg base "Bench" "go_on" ["self","word","fresh","kept"] 4 4 Zb
 c_less:jm P w K mg base "less" ["manner","setting","number"] 7 3 aeg
 x_less:qL P w K mg base "less" ["manner","setting","number"] 7 3 ag8
noncomputable abbrev ait:List Str:=["self","number"]
theorem amX:FnScope ait ["self","number"] (je afD):=⟨rfl,rfl,rfl,by decide +kernel,rfl,by decide +kernel,by decide +kernel⟩
def afE:{ B:TRS // JI CMTake "Bench.take" afD ait 7 B }:=
 ⟨_,fun P w K mg base f Kc A Ko s H E C hr=>
  (ji (qo (qP rfl C.m_go_on hr (by decide) (jg (ja 0)) (jj (jg zM) (jj (Zm rfl C.c_less C.x_less hr (by decide) (by decide) (jj (jP C.f_manner (jg (ja 0))) (jj (jP C.f_now (jg (ja 0))) (jj (jg (ja 1)) jE)))) (jj (jP C.f_kept (jg (ja 0))) jE)))))
  jv)⟩
def abr:GC3:=qr ait afE.1
abbrev afF:Stmt:=qR (top 54) 5
structure CMPush (P:Program) (w:World) (K:Fg) (mg:SV) (base:Heap):Prop where
 f_manner:qw K "Bench" "manner"
 f_now:qw K "Bench" "now"
 f_kept:qw K "Bench" "kept"
 m_go_on:qK P w K mg base "Bench" "go_on" ["self","word","fresh","kept"] 4 4 Zb
 c_Moved:jm P w K mg base "moved" ["manner","setting","move"] 7 3 abo
 x_Moved:qL P w K mg base "moved" ["manner","setting","move"] 7 3 amS
noncomputable abbrev aiu:List Str:=["self","move"]
theorem amY:FnScope aiu ["self","move"] (je afF):=⟨rfl,rfl,rfl,by decide +kernel,rfl,by decide +kernel,by decide +kernel⟩
def aiv:{ B:TRS // JI CMPush "Bench.push" afF aiu 7 B }:=
 ⟨_,fun P w K mg base f Kc A Ko s H E C hr=>
  (ji (qo (qP rfl C.m_go_on hr (by decide) (jg (ja 0)) (jj (jg zM) (jj (Zm rfl C.c_Moved C.x_Moved hr (by decide) (by decide) (jj (jP C.f_manner (jg (ja 0))) (jj (jP C.f_now (jg (ja 0))) (jj (jg (ja 1)) jE)))) (jj (jP C.f_kept (jg (ja 0))) jE)))))
  jv)⟩
def afG:GC3:=qr aiu aiv.1
abbrev afH:Stmt:=qR (top 54) 6
structure CMKeep (P:Program) (w:World) (K:Fg) (mg:SV) (base:Heap):Prop where
 f_kept:qw K "Bench" "kept"
 f_now:qw K "Bench" "now"
 m_go_on:qK P w K mg base "Bench" "go_on" ["self","word","fresh","kept"] 4 4 Zb
 t:Bare mg
 c_IsName:jm P w K mg base "is_name" ["thing"] 1 1 Zz
 e_NoName:Z5 K mg "NoName"
noncomputable abbrev aiw:List Str:=["self","name","kept"]
theorem aha:FnScope aiw ["self","name"] (je afH):=⟨rfl,rfl,rfl,by decide +kernel,rfl,by decide +kernel,by decide +kernel⟩
def afI:{ B:TRS // JI CMKeep "Bench.keep" afH aiw 4 B }:=
 ⟨_,fun P w K mg base f Kc A Ko s H E C hr=>
  (ji (QC (abe (j9 (qh (jl C.c_IsName hr (by decide) (jb (ja 1) jd) (jc jk))))) (ji (abf (qO rfl C.e_NoName rfl))
  jv) jv)
  (akD 2 0 1 hr.units1 aha.nd C.t.dict ao0 C.f_kept C.f_now
  (ji (qo (qP rfl C.m_go_on hr (by decide) (jg (ja 0)) (jj (jg zM) (jj (jP C.f_now (jg (ja 0))) (jj (jg (ja 2)) jE)))))
  jv)))⟩
def adh:GC3:=qr aiw afI.1
abbrev aaQ:Stmt:=qR (top 54) 7
structure CMRecall (P:Program) (w:World) (K:Fg) (mg:SV) (base:Heap):Prop where
 f_kept:qw K "Bench" "kept"
 m_go_on:qK P w K mg base "Bench" "go_on" ["self","word","fresh","kept"] 4 4 Zb
 c_IsName:jm P w K mg base "is_name" ["thing"] 1 1 Zz
 e_NoName:Z5 K mg "NoName"
noncomputable abbrev adi:List Str:=["self","name"]
theorem aix:FnScope adi ["self","name"] (je aaQ):=⟨rfl,rfl,rfl,by decide +kernel,rfl,by decide +kernel,by decide +kernel⟩
def aaR:{ B:TRS // JI CMRecall "Bench.recall" aaQ adi 4 B }:=
 ⟨_,fun P w K mg base f Kc A Ko s H E C hr=>
  (ji (QC (aax (ae6 (abe (j9 (qh (jl C.c_IsName hr (by decide) (jb (ja 1) jd) (jc jk))))) (abW (aic hr.units1 (jg (ja 1)) (jP C.f_kept (jg (ja 0))))))) (ji (abf (qO rfl C.e_NoName rfl))
  jv) jv)
  (ji (qo (qP rfl C.m_go_on hr (by decide) (jg (ja 0)) (jj (jg zM) (jj (amI hr.units1 (jP C.f_kept (jg (ja 0))) (jg (ja 1))) (jj (jP C.f_kept (jg (ja 0))) jE)))))
  jv))⟩
def adj:GC3:=qr adi aaR.1
abbrev aci:Stmt:=qR (top 54) 8
structure CMNames (P:Program) (w:World) (K:Fg) (mg:SV) (base:Heap):Prop where
 f_kept:qw K "Bench" "kept"
 t:Bare mg
noncomputable abbrev afJ:List Str:=["self"]
theorem akQ:FnScope afJ ["self"] (je aci):=⟨rfl,rfl,rfl,by decide +kernel,rfl,by decide +kernel,by decide +kernel⟩
def afK:{ B:TRS // JI CMNames "Bench.names" aci afJ 0 B }:=
 ⟨_,fun P w K mg base f Kc A Ko s H E C hr=>
  (ji (qo (Zn (amG rfl) C.t.sorted akG (jj (jP C.f_kept (jg (ja 0))) jE)))
  jv)⟩
def QI:GC3:=qr afJ afK.1
abbrev acj:Stmt:=qR (top 54) 12
structure CMCross (P:Program) (w:World) (K:Fg) (mg:SV) (base:Heap):Prop where
 f_now:qw K "Bench" "now"
 f_kept:qw K "Bench" "kept"
 e_Nothing:Z5 K mg "Nothing"
noncomputable abbrev afL:List Str:=["self","source","goal","step"]
theorem aej:FnScope afL ["self","source","goal"] (je acj):=⟨rfl,rfl,rfl,by decide +kernel,rfl,by decide +kernel,by decide +kernel⟩
def ack:{ B:TRS // JI CMCross "Bench.cross" acj afL 0 B }:=
 ⟨_,fun P w K mg base f Kc A Ko s H E C hr=>
  (ji (QC (aoM (aoO (jg (ja 1)))) (ji (abf (qO rfl C.e_Nothing rfl))
  jv) jv)
  (ji (QB 3 aej.nd (aoN (jg (ja 1))))
  (ji (zD (acZ (jg (ja 2)) (abY (jj (jg (jS (ja 3) jh)) (jj (jP C.f_now (jg (ja 0))) (jj (jP C.f_kept (jg (ja 0))) jE))))))
  (ji (zq C.f_now (jg (ja 0)) (jg (jS (ja 3) jh)))
  (ji (zq C.f_kept (jg (ja 0)) (jg (jS (ja 3) jh)))
  (ji (Jh (jz (jS (ja 3) jh)))
  jv))))))⟩
def acl:GC3:=qr afL ack.1
abbrev afM:Stmt:=qR (top 54) 10
structure CMBack (P:Program) (w:World) (K:Fg) (mg:SV) (base:Heap):Prop where
 f_done:qw K "Bench" "done"
 f_undone:qw K "Bench" "undone"
 m_cross:qK P w K mg base "Bench" "cross" ["self","source","goal"] 1 3 acl
noncomputable abbrev aiy:List Str:=["self"]
theorem amZ:FnScope aiy ["self"] (je afM):=⟨rfl,rfl,rfl,by decide +kernel,rfl,by decide +kernel,by decide +kernel⟩
def aiz:{ B:TRS // JI CMBack "Bench.back" afM aiy 1 B }:=
 ⟨_,fun P w K mg base f Kc A Ko s H E C hr=>
  (ji (qo (qP rfl C.m_cross hr (by decide) (jg (ja 0)) (jj (jP C.f_done (jg (ja 0))) (jj (jP C.f_undone (jg (ja 0))) jE))))
  jv)⟩
def adk:GC3:=qr aiy aiz.1
abbrev acm:Stmt:=qR (top 54) 11
structure CMForth (P:Program) (w:World) (K:Fg) (mg:SV) (base:Heap):Prop where
 f_undone:qw K "Bench" "undone"
 f_done:qw K "Bench" "done"
 m_cross:qK P w K mg base "Bench" "cross" ["self","source","goal"] 1 3 acl
noncomputable abbrev afN:List Str:=["self"]
theorem akR:FnScope afN ["self"] (je acm):=⟨rfl,rfl,rfl,by decide +kernel,rfl,by decide +kernel,by decide +kernel⟩
def afO:{ B:TRS // JI CMForth "Bench.forth" acm afN 1 B }:=
 ⟨_,fun P w K mg base f Kc A Ko s H E C hr=>
  (ji (qo (qP rfl C.m_cross hr (by decide) (jg (ja 0)) (jj (jP C.f_undone (jg (ja 0))) (jj (jP C.f_done (jg (ja 0))) jE))))
  jv)⟩
def aaS:GC3:=qr afN afO.1
abbrev acn:Stmt:=qR (top 54) 13
structure CMSteps (P:Program) (w:World) (K:Fg) (mg:SV) (base:Heap):Prop where
 f_done:qw K "Bench" "done"
 f_undone:qw K "Bench" "undone"
 t:Bare mg
noncomputable abbrev afP:List Str:=["self"]
theorem akS:FnScope afP ["self"] (je acn):=⟨rfl,rfl,rfl,by decide +kernel,rfl,by decide +kernel,by decide +kernel⟩
def afQ:{ B:TRS // JI CMSteps "Bench.steps" acn afP 0 B }:=
 ⟨_,fun P w K mg base f Kc A Ko s H E C hr=>
  (ji (qo (abY (jj (ajr zb C.t.len qV (jP C.f_done (jg (ja 0)))) (jj (ajr zb C.t.len qV (jP C.f_undone (jg (ja 0)))) jE))))
  jv)⟩
def ZB:GC3:=qr afP afQ.1
abbrev afR:Stmt:=qR (top 54) 14
structure CMTwin (P:Program) (w:World) (K:Fg) (mg:SV) (base:Heap):Prop where
 f_manner:qw K "Bench" "manner"
 f_now:qw K "Bench" "now"
 f_kept:qw K "Bench" "kept"
 f_done:qw K "Bench" "done"
 f_undone:qw K "Bench" "undone"
 mk_Bench:amx P w K mg base "Bench" ["self","manner","rods"] 7 3 afz
 t:Bare mg
noncomputable abbrev aiA:List Str:=["self","other"]
theorem ahb:FnScope aiA ["self"] (je afR):=⟨rfl,rfl,rfl,by decide +kernel,rfl,by decide +kernel,by decide +kernel⟩
def afS:{ B:TRS // JI CMTwin "Bench.twin" afR aiA 8 B }:=
 ⟨_,fun P w K mg base f Kc A Ko s H E C hr=>
  (ji (QB 1 ahb.nd (agO rfl C.mk_Bench hr (by decide) (jj (jP C.f_manner (jg (ja 0))) (jj (Zn zb C.t.len qV (jj (jP C.f_now (jg (ja 0))) jE)) jE))))
  (ji (zq C.f_now (jg (ja 1)) (jP C.f_now (jg (ja 0))))
  (ji (zq C.f_kept (jg (ja 1)) (jP C.f_kept (jg (ja 0))))
  (ji (zq C.f_done (jg (ja 1)) (agT C.t.list afb (jP C.f_done (jg (ja 0)))))
  (ji (zq C.f_undone (jg (ja 1)) (agT C.t.list afb (jP C.f_undone (jg (ja 0)))))
  (ji (Jh (jz (ja 1)))
  jv))))))⟩
def aiB:GC3:=qr aiA afS.1
abbrev afT:Stmt:=top 59
structure CLStep (P:Program) (w:World) (K:Fg) (mg:SV) (base:Heap):Prop where
 m_add:qK P w K mg base "Bench" "add" ["self","number"] 14 2 aei
 m_value:qK P w K mg base "Bench" "value" ["self"] 3 1 JX
 m_take:qK P w K mg base "Bench" "take" ["self","number"] 8 2 abr
 m_setting:qK P w K mg base "Bench" "setting" ["self"] 1 1 Qj
 m_push:qK P w K mg base "Bench" "push" ["self","move"] 8 2 afG
 m_names:qK P w K mg base "Bench" "names" ["self"] 1 1 QI
 m_keep:qK P w K mg base "Bench" "keep" ["self","name"] 5 2 adh
 m_recall:qK P w K mg base "Bench" "recall" ["self","name"] 5 2 adj
 t:Bare mg
 c_drawn:jm P w K mg base "_law_drawn" ["_law_script","_law_k","_law_many"] 2 3 QG
 e_TooGreat:Z5 K mg "TooGreat"
noncomputable abbrev aiC:List Str:=["_law_script","_law_at","_law_bench","_law_manner_here","_law_way","_law_number","_law_upper","_law_lower","_law_move","_law_name"]
theorem Jd:FnScope aiC ["_law_script","_law_at","_law_bench","_law_manner_here"] (je afT):=⟨rfl,rfl,rfl,by decide +kernel,rfl,by decide +kernel,by decide +kernel⟩
def zc:{ B:TRS // asD CLStep "_law_step" afT aiC 14 B }:=
 ⟨_,fun P w K mg base f Kc A Ko s H E C hr=>
  (zN (ajt (Jh (qe 4 Jd.nd (jl C.c_drawn hr (by decide) (jb (ja 0) (jb (ja 1) (jb jh jd))) (jc (jc (jc jk)))))))
  (zN (ajx (abe (jY QW (ja 4) jh)) (zN (ajt (Jh (qe 5 Jd.nd (jl C.c_drawn hr (by decide) (jb (ja 0) (jb (jw jL (ja 1) jh) (jb (jw jL jh (jS (ja 3) jh)) jd))) (jc (jc (jc jk)))))))
  (zN (ad9 (n:=10) acR rfl C.e_TooGreat
   (fun E'=>(ji (qo (zT (qT hr.units) (qP rfl C.m_add hr (by decide) (jg (ja 2)) (jj (jg (ja 5)) jE)) (jF rfl C.m_value hr (by decide) (jg (ja 2)))))
  jv))
   (fun e=>(jf (jz Jn)
  jo)))
  (Q5 jv))) (Q5 jv))
  (zN (ajx (abe (jY (qT hr.units) (ja 4) jh)) (zN (ad9 (n:=10) acR rfl C.e_TooGreat
   (fun E'=>(ji (qo (zT (qT hr.units) (qP rfl C.m_take hr (by decide) (jg (ja 2)) (jj (agP C.c_drawn hr (by decide) (jj (jg (ja 0)) (jj (jg (jw jL (ja 1) jh)) (jj (aoL jL (jg jh) (Zn (aeU rfl) C.t.min acJ (jj (jg jh) (jj (jF rfl C.m_value hr (by decide) (jg (ja 2))) jE)))) jE)))) jE)) (jF rfl C.m_value hr (by decide) (jg (ja 2)))))
  jv))
   (fun e=>(jf (jz Jn)
  jo)))
  (Q5 jv)) (Q5 jv))
  (Q5 (ji (QC (abe (jY (qT hr.units) (ja 4) jh)) (ji (aoY (ac5 (jF rfl C.m_setting hr (by decide) (jg (ja 2))) (jg jh)) (ajd (n:=2) rfl (Qc (qd 6 Jd.nd) (Qc (qd 7 Jd.nd) agt))))
  (ji (Jh (qe 8 Jd.nd (apL (jY ahN (ja 7) jh) (Qs (jb jh (jb zM (jb (ahU jh) jd)))) (Qs (jb jh (jb zM (jb (apL (jY QW (ja 6) (jS (ja 3) jh)) jh (ahU jh)) jd)))))))
  (ji (Jh (qt (zY (aoj (jY (qT hr.units) (ja 7) jh) (alR (jY (qT hr.units) (jS (ja 3) jh) jh)))) (jf (qe 8 Jd.nd (ahW 2 (.tuple [.int 0,.str "lower",.int 1]) (by kernel_rfl)))
  jo) jo))
  (ji (qo (zT (qT hr.units) (qP rfl C.m_push hr (by decide) (jg (ja 2)) (jj (jg (ja 8)) jE)) (jF rfl C.m_value hr (by decide) (jg (ja 2)))))
  jv)))) jv)
  (ji (Jh (qe 9 Jd.nd (aq2 zM (jl C.c_drawn hr (by decide) (jb (ja 0) (jb (jw jL (ja 1) jh) (jb jh jd))) (jc (jc (jc jk)))) (by intro _ _; rfl))))
  (ji (QC (aax (ae6 (abe (jY QW (ja 4) jh)) (abW (QA (adW hr.units) (jg (ja 9)) (jF rfl C.m_names hr (by decide) (jg (ja 2))))))) (ji (qo (abX (zT (qT hr.units) (qP rfl C.m_keep hr (by decide) (jg (ja 2)) (jj (jg (ja 9)) jE)) (jF rfl C.m_value hr (by decide) (jg (ja 2)))) (ajp (zT (alT hr.units) (jg (ja 9)) (jF rfl C.m_names hr (by decide) (jg (ja 2)))))))
  jv) jv)
  (ji (qo (zT (qT hr.units) (qP rfl C.m_recall hr (by decide) (jg (ja 2)) (jj (jg (ja 9)) jE)) (jF rfl C.m_value hr (by decide) (jg (ja 2)))))
  jv))))))))⟩
def aac:GC3:=qr aiC zc.1
abbrev ahc:Stmt:=top 60
structure CLNow (P:Program) (w:World) (K:Fg) (mg:SV) (base:Heap):Prop where
 m_setting:qK P w K mg base "Bench" "setting" ["self"] 1 1 Qj
 m_value:qK P w K mg base "Bench" "value" ["self"] 3 1 JX
 m_names:qK P w K mg base "Bench" "names" ["self"] 1 1 QI
 m_steps:qK P w K mg base "Bench" "steps" ["self"] 1 1 ZB
noncomputable abbrev am0:List Str:=["_law_bench"]
theorem apa:FnScope am0 ["_law_bench"] (je ahc):=⟨rfl,rfl,rfl,by decide +kernel,rfl,by decide +kernel,by decide +kernel⟩
def ajI:{ B:TRS // aaP CLNow "_law_now" ahc am0 3 (jR ahc) B }:=
 ⟨_,fun P w K mg base f Kc A Ko s H E C hr=>
  (ji (qo (abY (jj (jF rfl C.m_setting hr (by decide) (jg (ja 0))) (jj (jF rfl C.m_value hr (by decide) (jg (ja 0))) (jj (jF rfl C.m_names hr (by decide) (jg (ja 0))) (jj (jF rfl C.m_steps hr (by decide) (jg (ja 0))) jE))))))
  jv)⟩
def ahd:GC3:=qr am0 ajI.1
abbrev aad:Stmt:=top 61
structure CLDone (P:Program) (w:World) (K:Fg) (mg:SV) (base:Heap):Prop where
 k_LStep:ZV P w K mg base "_law_step" ["_law_script","_law_at","_law_bench","_law_manner_here"] 15 4 aac
 k_LNow:ZV P w K mg base "_law_now" ["_law_bench"] 4 1 ahd
 t:Bare mg
noncomputable abbrev afU:List Str:=["_law_script","_law_bench","_law_manner_here","_law_k"]
theorem ahe:FnScope afU ["_law_script","_law_bench","_law_manner_here"] (je aad):=⟨rfl,rfl,rfl,by decide +kernel,rfl,by decide +kernel,by decide +kernel⟩
def afV:{ B:TRS // aaP CLDone "_law_done" aad afU 15 (Ju (adD (jR aad) 0)) B }:=
 ⟨_,fun P w K mg base f Kc A Ko s H E C hr=>
  (ji (zD (qA C.k_LStep hr (by decide) (jj (jg (ja 0)) (jj (jg (jw jL jh (jw zv jh (ja 3)))) (jj (jg (ja 1)) (jj (jg (ja 2)) jE))))))
  jv)⟩
def afW:{ B:TRS // aaP CLDone "_law_done" aad afU 15 (jR aad) B }:=
 ⟨_,fun P w K mg base f Kc A Ko s H E C hr=>
  (ji (ajs PassesOwn.never rfl (Z2 rfl C.t.range (jb jh jd)) (qd 3 ahe.nd) (afV.2 P w K mg base f Kc A Ko s H E C hr))
  (ji (qo (qA C.k_LNow hr (by decide) (jj (jg (ja 1)) jE)))
  jv))⟩
def aiD:GC3:=qr afU afW.1
abbrev ZO:Stmt:=top 62
structure CLaw (P:Program) (w:World) (K:Fg) (mg:SV) (base:Heap):Prop where
 m_keep:qK P w K mg base "Bench" "keep" ["self","name"] 5 2 adh
 m_steps:qK P w K mg base "Bench" "steps" ["self"] 1 1 ZB
 m_back:qK P w K mg base "Bench" "back" ["self"] 2 1 adk
 m_twin:qK P w K mg base "Bench" "twin" ["self"] 9 1 aiB
 m_forth:qK P w K mg base "Bench" "forth" ["self"] 2 1 aaS
 m_names:qK P w K mg base "Bench" "names" ["self"] 1 1 QI
 m_value:qK P w K mg base "Bench" "value" ["self"] 3 1 JX
 mk_Bench:amx P w K mg base "Bench" ["self","manner","rods"] 7 3 afz
 k_LStep:ZV P w K mg base "_law_step" ["_law_script","_law_at","_law_bench","_law_manner_here"] 15 4 aac
 k_LNow:ZV P w K mg base "_law_now" ["_law_bench"] 4 1 ahd
 k_LDone:ZV P w K mg base "_law_done" ["_law_script","_law_bench","_law_manner_here"] 16 3 aiD
 t:Bare mg
 c_manner:jm P w K mg base "_law_manner" ["_law_script","_law_at"] 3 2 Zx
 c_drawn:jm P w K mg base "_law_drawn" ["_law_script","_law_k","_law_many"] 2 3 QG
noncomputable abbrev afX:List Str:=["_law_script","_law_manner_here","_law_bench","_law_k","_law_turn","_law_before","_law_twin","_law_third","_law_there"]
theorem Jj:FnScope afX ["_law_script"] (je ZO):=⟨rfl,rfl,rfl,by decide +kernel,rfl,by decide +kernel,by decide +kernel⟩
theorem am1:(["_law_one"]:List Str).Nodup:=by decide +kernel
def am2:{ B:TRS // aaP CLaw "law" ZO afX 16 (Ju (adD (jR ZO) 3)) B }:=
 ⟨_,fun P w K mg base f Kc A Ko s H E C hr=>
  (ji (zD (qA C.k_LStep hr (by decide) (jj (jg (ja 0)) (jj (jg (jw jL jh (jw zv jh (ja 3)))) (jj (jg (ja 2)) (jj (jg (ja 1)) jE))))))
  jv)⟩
def am3:{ B:TRS // aaP CLaw "law" ZO afX 16 (Ju (adD (jR ZO) 4)) B }:=
 ⟨_,fun P w K mg base f Kc A Ko s H E C hr=>
  (ji (zD (jF rfl C.m_back hr (by decide) (jg (ja 2))))
  jv)⟩
def am4:{ B:TRS // aaP CLaw "law" ZO afX 16 (Ju (adD (jR ZO) 12)) B }:=
 ⟨_,fun P w K mg base f Kc A Ko s H E C hr=>
  (ji (zD (jF rfl C.m_forth hr (by decide) (jg (ja 7))))
  jv)⟩
def am5:{ B:TRS // aaP CLaw "law" ZO afX 16 (Ju (adD (jR ZO) 13)) B }:=
 ⟨_,fun P w K mg base f Kc A Ko s H E C hr=>
  (ji (QC (aax (ae6 (QA (J8 hr.units) (jF rfl C.m_back hr (by decide) (jg (ja 6))) (jF rfl C.m_back hr (by decide) (jg (ja 2)))) (abW (QA (J8 hr.units) (qA C.k_LNow hr (by decide) (jj (jg (ja 6)) jE)) (qA C.k_LNow hr (by decide) (jj (jg (ja 2)) jE)))))) (ji (Jh (jz Jn))
  jv) jv)
  jv)⟩
def am6:{ B:TRS // aaP CLaw "law" ZO afX 16 (Ju (adD (jR ZO) 14)) B }:=
 ⟨_,fun P w K mg base f Kc A Ko s H E C hr=>
  (ji (zD (jF rfl C.m_back hr (by decide) (jg (ja 7))))
  jv)⟩
def apb:{ B:TRS // aaP CLaw "law" ZO afX 16 (jR ZO) B }:=
 ⟨_,fun P w K mg base f Kc A Ko s H E C hr=>
  (ji (Jh (qe 1 Jj.nd (jl C.c_manner hr (by decide) (jb (ja 0) (jb jh jd)) (jc (jc jk)))))
  (ji (QB 2 Jj.nd (agO rfl C.mk_Bench hr (by decide) (jj (jg (ja 1)) (jj (jg (jw jL jh (jl C.c_drawn hr (by decide) (jb (ja 0) (jb jh (jb jh jd))) (jc (jc (jc jk)))))) jE))))
  (ji (zD (qP rfl C.m_keep hr (by decide) (jg (ja 2)) (jj (jg zM) jE)))
  (ji (ajs PassesOwn.never rfl (Z2 rfl C.t.range (jb (jw jL jh (jl C.c_drawn hr (by decide) (jb (ja 0) (jb jh (jb jh jd))) (jc (jc (jc jk))))) jd)) (qd 3 Jj.nd) (am2.2 P w K mg base f Kc A Ko s H E C hr))
  (ji (aaz PassesOwn.never rfl (QD rfl C.t.range (jj (Zn (aeU rfl) C.t.min acJ (jj (ac5 (jF rfl C.m_steps hr (by decide) (jg (ja 2))) (jg jh)) (jj (jg (jl C.c_drawn hr (by decide) (jb (ja 0) (jb jh (jb jh jd))) (jc (jc (jc jk))))) jE))) jE)) (qd 4 Jj.nd) (am3.2 P w K mg base f Kc A Ko s H E C hr))
  (ji (QB 5 Jj.nd (qA C.k_LNow hr (by decide) (jj (jg (ja 2)) jE)))
  (ji (QB 6 Jj.nd (jF rfl C.m_twin hr (by decide) (jg (ja 2))))
  (ji (QB 7 Jj.nd (jF rfl C.m_twin hr (by decide) (jg (ja 6))))
  (ji (QC (QA (J8 hr.units) (amJ ["_law_one"] [none] rfl (aoG (Qs (jb (ja 6) (jb (ja 7) jd)))) (Qv (je ZO) afX (by decide +kernel))
   fun cl C' s0 H0 fp pn=>⟨(qd 0 am1),(qA C.k_LNow hr (by decide) (jj (jg (ja 0)) jE))⟩) (jg (jw amk (Qt (jb (ja 5) jd)) jh))) (ji (Jh (jz Jn))
  jv) jv)
  (ji (QB 8 Jj.nd (qA C.k_LDone hr (by decide) (jj (jg (ja 0)) (jj (jg (ja 2)) (jj (jg (ja 1)) jE)))))
  (ji (QC (aax (ae6 (QA (J8 hr.units) (qA C.k_LNow hr (by decide) (jj (jg (ja 6)) jE)) (jg (ja 5))) (abW (QA (J8 hr.units) (qA C.k_LDone hr (by decide) (jj (jg (ja 0)) (jj (jg (ja 6)) (jj (jg (ja 1)) jE)))) (jg (ja 8)))))) (ji (Jh (jz Jn))
  jv) jv)
  (ji (QC (QA (J8 hr.units) (qA C.k_LNow hr (by decide) (jj (jg (ja 7)) jE)) (jg (ja 5))) (ji (Jh (jz Jn))
  jv) jv)
  (ji (aaz PassesOwn.never rfl (QD rfl C.t.range (jj (ac5 (jF rfl C.m_steps hr (by decide) (jg (ja 7))) (jg jh)) jE)) (qd 4 Jj.nd) (am4.2 P w K mg base f Kc A Ko s H E C hr))
  (ji (aaz PassesOwn.never rfl (QD rfl C.t.range (jj (ac5 (jF rfl C.m_steps hr (by decide) (jg (ja 6))) (jg jh)) jE)) (qd 4 Jj.nd) (am5.2 P w K mg base f Kc A Ko s H E C hr))
  (ji (aaz PassesOwn.never rfl (QD rfl C.t.range (jj (ac5 (jF rfl C.m_steps hr (by decide) (jg (ja 7))) (jg jh)) jE)) (qd 4 Jj.nd) (am6.2 P w K mg base f Kc A Ko s H E C hr))
  (ji (qo (abX (zT (qT hr.units) (jF rfl C.m_value hr (by decide) (jg (ja 7))) (jg jh)) (abX (zT (qT hr.units) (jF rfl C.m_value hr (by decide) (jg (ja 6))) (jg jh)) (abX (zT (qT hr.units) (jF rfl C.m_names hr (by decide) (jg (ja 7))) (jg (Qt jd))) (ajp (zT (qT hr.units) (jF rfl C.m_steps hr (by decide) (jg (ja 2))) (jF rfl C.m_steps hr (by decide) (jg (ja 6)))))))))
  jv))))))))))))))))⟩
def am7:GC3:=qr afX apb.1
theorem j5 (i a b:Int):jU [.int i,.int a,.int b]=some (.bool (decide (a<=i) && decide (i<=b))):=by
 by_cases h:a<=i <;> simp [jU,jC,aaD,jK,jT,ifS,orB,tst,lkp,JD,tyn,asB,zA,chn,zp,qG,qz,h]
theorem QJ (u e l b x y:Int) (h:-18446744073709551616<x/\x<18446744073709551616):qH [.tuple [.int u,.int e,.int l,.int b],.tuple [.int x,.int y]]=some (.int (x*e+y)):=by
 simp [qH,jC,abh,jK,jT,op2,lkp,dIx,atI,ixN,qG,qz,cst,aai,Jg,h]
theorem akT (x y:Int):Ji [.tuple [.int x,.int y]]=some (.int (x+y)):=by
 simp [Ji,jC,aig,jK,jT,op2,lkp,dIx,atI,ixN,qG,qz,cst,Jg]
theorem aiE {n:Nat}{i:Int} (h0:0<=i) (h:i.toNat<n):ixN n i=some i.toNat:=by
 unfold ixN
 rw [if_pos h0,if_pos (by omega)]
noncomputable def okN (u e l b:Int):Bool:=decide (0<=u) && decide (u<=3) && decide (1<=e) && decide (e<=5) && decide (e - 1<=l) && decide (1<=l) && decide (l<=11) && decide (2<=b) && decide (b<=16) && decide (b<=u*e+l+1)
def ze (u l:Int):LP:=QN (u+1).toNat (l+1).toNat
noncomputable def jZ (e:Int):PyData->Int
 | .tuple [.int x,.int y]=>x*e+y
 | _=>-1
def fpr (m:PyData) (d:Int):Int × Int:=match JN [m,.int d] with
 | some (.tuple [.int x,.int y])=>(x,y)
 | _=>(0,0)
noncomputable def pr (p:Int × Int):PyData:= .tuple [.int p.1,.int p.2]
def jI (ps:List (Int × Int)):PyData:= .tuple (ps.map pr)
noncomputable def okP (u l:Int) (p:Int × Int):Bool:=decide (0<=p.1) && decide (p.1<=u) && decide (0<=p.2) && decide (p.2<=l)
def okS (u l:Int) (ps:List (Int × Int)):Bool:=decide (1<=ps.length) && decide (ps.length<=4) && ps.all (okP u l)
noncomputable def wt (e:Int) (p:Int × Int):Int:=p.1*e+p.2
def val (b e:Int) (ps:List (Int × Int)):Int:=ps.foldl (fun n p=>n*b+wt e p) 0
def small (b e:Int) (ps:List (Int × Int)):Bool:=ps.all fun p=>decide (wt e p<b)
noncomputable def dgl (b:Int):Nat->Int->List Int
 | 0,_=>[]
 | 1,n=>[n]
 | k+2,n=>dgl b (k+1) (n / b)++[n % b]
def pln (m:PyData) (b:Int) (r:Nat) (n:Int):List (Int × Int):=(dgl b r n).map (fpr m)
noncomputable def f00:Int × Int:=(0,0)
def asE (e:Int):List Int->LP->List Int
 | c,[]=>c
 | c,r::rs=>asE e (c.set (jZ e r).toNat (c.getD (jZ e r).toNat 0+1)) rs
def asF (u e l:Int):List Int:=asE e (List.replicate (u*e+l+1).toNat 0) (ze u l)
def cnt (u e l n:Int):Int:=((ze u l).filter fun r=>jZ e r == n).length
noncomputable def okM (u e l b:Int):Bool:=decide (0<=u) && decide (u<=3) && decide (1<=e) && decide (e<=5) && decide (e - 1<=l) && decide (1<=l) && decide (l<=10) && decide (2<=b) && decide (b<=16) && decide (b<=u*e+l+1)
theorem aek {n m:Nat}{d:PyData} (h:d ∈ QN n m):∃ i j:Nat,i<n/\j<m/\d= .tuple [.int i,.int j]:=by
 obtain ⟨i,hi,hd⟩:=List.mem_flatMap.mp h
 obtain ⟨j,hj,rfl⟩:=List.mem_map.mp hd
 exact ⟨i,j,List.mem_range.mp hi,List.mem_range.mp hj,rfl⟩
theorem JY (i:Int):okD (.int i)=true:=by simp [okD,PyData.canLay0,PyData.depth]
theorem abG {u e l b:Int} (hu:0<=u) (hu':u<100) (hl:0<=l) (hl':l<100):JG [jp u e l b]=some (.list (ze u l)):=by
 simp [JG,jp,ze,hu,hl,show u<1000 by omega,show l<1000 by omega]
theorem ahf {u l:Int} (hu':u<100) (hl':l<100):few (ze u l)=true:=by
 simp only [few,ze,agX,decide_eq_true_eq]
 have:(u+1).toNat*(l+1).toNat<=100*100:=Nat.mul_le_mul (by omega) (by omega)
 omega
theorem ael {u e l b:Int} (hu':u<100) {d:PyData} (h:d ∈ ze u l):qH [jp u e l b,d]=some (.int (jZ e d)):=by
 obtain ⟨i,j,hi,hj,rfl⟩:=aek h
 exact QJ u e l b i j (by omega)
theorem am8 (ns:List Int):okD (.list (ns.map PyData.int))=true:=by
 have h1:∀ ns:List Int,PyData.canLayAll0 (ns.map PyData.int)=true:=fun ns=>by
  induction ns with
  | nil=>rfl
  | cons n ns ih=>simp [PyData.canLayAll0,PyData.canLay0,ih]
 have h2:∀ ns:List Int,PyData.depthAll (ns.map PyData.int)=0:=fun ns=>by
  induction ns with
  | nil=>rfl
  | cons n ns ih=>simp [PyData.depthAll,PyData.depth,ih]
 simp [okD,PyData.canLay0,h1,PyData.depth,h2]
theorem am9 (ns:List Int) (d:Int):(ns.map PyData.int).any (fun z=>PyData.eqv z (.int d))=ns.any (fun z=>z == d):=by
 induction ns with
 | nil=>rfl
 | cons n ns ih=>simp only [List.map_cons,List.any_cons,ih]; rfl
theorem aco {α:Type} (f:α->Bool):∀ xs:List α,bls (xs.map fun d=>PyData.bool (f d))=some (xs.map f)
 | []=>rfl
 | x::xs=>by simp [bls,asB,aco f xs]
theorem ix3 (u e l b:Int):dIx (jp u e l b) (.int 3)=some (.int b):=rfl
theorem ZC {j:Int} (h:0<=j) (h':j<1000000):aeS [.int j]=some (Jf 0 j.toNat):=by
 unfold aeS
 exact if_pos (by omega)
theorem ZD (a b:Int):PyData.eqv (.int a) (.int b)=(a == b):=by unfold PyData.eqv; rfl
theorem adl {u e l b:Int} (hu:0<=u) (hu':u<100) (hl:0<=l) (hl':l<100) (hb:0<=b) (hb':b<100):aaE [jp u e l b]=some (.bool ((List.range b.toNat).all fun d=>((ze u l).map (jZ e)).any fun z=>z == (d:Int))):=by
 have h1:=abG (e:=e) (b:=b) hu hu' hl hl'
 have h2:=ahf hu' hl'
 have h4:few (Jf 0 b.toNat)=true:=by simp [few,Jf]; omega
 simp only [aaE,jC,afd,jK,jT,qG,ZR,itL,jN,jt,jH,lkp,QS,List.length_cons,List.length_nil,zzM,List.map_cons,List.map_nil,List.cons_append,List.nil_append,zzA,zzC,zzD,zzE,h1,h2,aa7,qS]
 rw [Qe (fun d=> .int (jZ e d))]
 ·simp only [jQ,qz,op2,cst,lkp,zzD,zzE,zzF,zzG,List.replicate,List.length_cons,List.length_nil,zzA,zzB,zzC,ix3,ZC hb (show b<1000000 by omega),h4,zzM]
  rw [Qe (fun d=> .bool (((ze u l).map (jZ e)).any fun z=>z == (aaj d).getD 0))]
  ·have:(Jf 0 b.toNat).map (fun d=>PyData.bool (((ze u l).map (jZ e)).any fun z=>z == (aaj d).getD 0))=(List.range b.toNat).map fun (d:Nat)=>PyData.bool (((ze u l).map (jZ e)).any fun z=>z == (d:Int)):=by
    simp [Jf,aaj,Function.comp_def]
   simp only [zzE,zzD,this,alW,aco (fun (d:Nat)=>((ze u l).map (jZ e)).any fun z=>z == (d:Int)),List.all_map,Function.comp_def,id]
  ·intro d hd
   obtain ⟨k,_,rfl⟩:=List.mem_map.mp hd
   have h5:(ze u l).map (fun d=>PyData.int (jZ e d))=((ze u l).map (jZ e)).map PyData.int:=by simp
   have h6:=am8 ((ze u l).map (jZ e))
   simp only [op2,lkp,zzG,zzA,zzB,zzC,zzD,dIn,JY,h5,h6,am9]
   simp [aaj]
 ·intro d hd
  simp [jN,jt,jH,lkp,ael (b:=b) (e:=e) hu' hd]
theorem afY {u e l b:Int} (hu:0<=u) (hu':u<=3) (he:1<=e) (he':e<=16) (hl:0<=l) (hl':l<=12) (hb:2<=b) (hb':b<=16):qZ [jp u e l b]=aaE [jp u e l b]:=by
 have g:=adl (e:=e) hu (by omega) hl (by omega) (show 0<=b by omega) (by omega)
 have w1:jU [.int u,.int 0,.int 3]=some (.bool true):=by rw [j5]; simp [hu,hu']
 have w2:jU [.int e,.int 1,.int 16]=some (.bool true):=by rw [j5]; simp [he,he']
 have w3:jU [.int l,.int 0,.int 12]=some (.bool true):=by rw [j5]; simp [hl,hl']
 have w4:jU [.int b,.int 2,.int 16]=some (.bool true):=by rw [j5]; simp [hb,hb']
 have z:ajh [jp u e l b,.tuple [.int 0,.int 1,.int 0,.int 2],.tuple [.int 3,.int 16,.int 12,.int 16]]=some [.tuple [.int u,.int 0,.int 3],.tuple [.int e,.int 1,.int 16],.tuple [.int l,.int 0,.int 12],.tuple [.int b,.int 2,.int 16]]:=rfl
 rw [g]
 rw [show jp u e l b= .tuple [.int u,.int e,.int l,.int b] from rfl] at g z ⊢
 simp [qZ,jC,abi,jK,jT,ifS,orB,zA,tst,JD,tyn,asB,lkp,op2,jN,jt,jH,zB,cst,dNe,JY,ZD,qz,aa6,z,ql,zz,jG,qv,jQ,w1,w2,w3,w4,qG,g]
theorem Qk {m:PyData} (h:qZ [m]=some (.bool true)):Q6 [m]=some .none:=by
 simp [Q6,jC,aii,jK,jT,ifS,zA,tst,asB,jN,jt,jH,lkp,h,qz]
theorem aaT:few []=true:=by simp [few]
theorem add_int (i j:Int):Jg (.int i) (.int j)=some (.int (i+j)):=rfl
theorem za {i j:Int} (h:-1000000000000<i/\i<1000000000000):aai (.int i) (.int j)=some (.int (i*j)):=by
 unfold aai; exact if_pos (.inl ⟨by omega,by omega⟩)
theorem acp {i j:Int} (h:0<j):aki (.int i) (.int j)=some (.int (i % j)):=by unfold aki; exact if_pos h
theorem Zc {i j:Int} (h:0<j) (h':j<1000000000):acE (.int i) (.int j)=some (.int (i / j)):=by unfold acE; exact if_pos ⟨h,by omega⟩
theorem ana (ns:List Int) (hn:ns.length<1000000) (k:Int) (hk:0<=k):∃ c,ag2 [scr ns,.int k]=some (.int c):=by
 cases ns with
 | nil=>
  refine ⟨7*k,?_⟩
  simp [ag2,jC,ajA,jK,jT,ifS,tst,op2,lkp,Je,jH,few,dEq,scr,zH,asB,qG,cst,za,qz]
 | cons n ns=>
  have hl:0<(((n::ns).map fun n=>(PyData.int n,PyData.none)).length:Int):=by simp
  have hl':(((n::ns).map fun n=>(PyData.int n,PyData.none)).length:Int)<1000000:=by simp at hn ⊢; omega
  have hsc:=adU (n::ns)
  have e1:dEq (scr (n::ns)) (.list [])=some (.bool false):=by
   show (if zH ((n::ns).map fun n=>(PyData.int n,PyData.none))=true then some (PyData.bool ((n::ns).map fun n=>(PyData.int n,PyData.none)).isEmpty) else none)=_
   rw [if_pos hsc]; rfl
  have e2:zB [scr (n::ns)]=some (.int (((n::ns).map fun n=>(PyData.int n,PyData.none)).length)):=by
   show (if zH ((n::ns).map fun n=>(PyData.int n,PyData.none))=true then some (PyData.int ((n::ns).map fun n=>(PyData.int n,PyData.none)).length) else none)=_
   rw [if_pos hsc]
  generalize hL:(((n::ns).map fun n=>(PyData.int n,PyData.none)).length:Int)=L at*
  have h0:0<=k % L:=Int.emod_nonneg _ (by omega)
  have h1:k % L<L:=Int.emod_lt_of_pos _ hl
  have e3:∃ c,dIx (scr (n::ns)) (.int (k % L))=some (.int c):=by
   have hlen:((n::ns).map fun n=>(PyData.int n,PyData.none)).length<1000000:=by omega
   have hlt:(k % L).toNat<((n::ns).map fun n=>(PyData.int n,PyData.none)).length:=by omega
   have hx:ixN ((n::ns).map fun n=>(PyData.int n,PyData.none)).length (k % L)=some (k % L).toNat:=aiE h0 hlt
   refine ⟨((n::ns)[(k % L).toNat]'(by simpa using hlt)),?_⟩
   show (if ((n::ns).map fun n=>(PyData.int n,PyData.none)).length<1000000/\zH ((n::ns).map fun n=>(PyData.int n,PyData.none))=true then (atI ((n::ns).map fun n=>(PyData.int n,PyData.none)) (k % L)).map (·.1) else none)=_
   rw [if_pos ⟨hlen,hsc⟩]
   unfold atI
   rw [hx,zzD,List.getElem?_eq_getElem hlt,zzE,List.getElem_map]
  obtain ⟨c,e3⟩:=e3
  refine ⟨c+6553*(k / L),?_⟩
  simp [ag2,jC,ajA,jK,jT,ifS,tst,op2,lkp,Je,jH,few,asB,qG,cst,qz,jN,jt,e1,e2,e3,acp hl,Zc hl (show L<1000000000 by omega),za,add_int]
theorem qI (ns:List Int) (hn:ns.length<1000000) (k m:Int) (hk:0<=k) (hm:0<m):∃ r,QG [scr ns,.int k,.int m]=some (.int r)/\0<=r/\r<m:=by
 obtain ⟨c,hc⟩:=ana ns hn k hk
 generalize h1:(c % 2147483563*69069+104723*(k+1)) % 2147483563=a
 generalize h2:(a*a+a / 3) % 2147483399=d
 have ha:0<=a/\a<2147483563:=by rw [←h1]; exact ⟨Int.emod_nonneg _ (by omega),Int.emod_lt_of_pos _ (by omega)⟩
 have hd:0<=d/\d<2147483399:=by rw [←h2]; exact ⟨Int.emod_nonneg _ (by omega),Int.emod_lt_of_pos _ (by omega)⟩
 have hc':0<=c % 2147483563/\c % 2147483563<2147483563:=⟨Int.emod_nonneg _ (by omega),Int.emod_lt_of_pos _ (by omega)⟩
 refine ⟨(d*d+d / 7) % 2147483647 / 11 % m,?_,Int.emod_nonneg _ (by omega),Int.emod_lt_of_pos _ hm⟩
 have m1:aai (.int (c % 2147483563)) (.int 69069)=some (.int (c % 2147483563*69069)):=za (by omega)
 have m2:aai (.int 104723) (.int (k+1))=some (.int (104723*(k+1))):=za (by omega)
 have m3:aai (.int a) (.int a)=some (.int (a*a)):=za (by omega)
 have m4:aai (.int d) (.int d)=some (.int (d*d)):=za (by omega)
 simp [QG,jC,aik,jK,jT,qS,jQ,op2,lkp,jH,qG,cst,qz,jN,jt,hc,m1,m2,m3,m4,acp,Zc,add_int,h1,h2,hm]
theorem anb (w:Int) (h0:0<=w) (h:w<12):∃ u e l b,dIx (.list (abm++abn)) (.int w)=some (jp u e l b)/\okM u e l b=true:=by
 obtain ⟨n,rfl⟩:=Int.eq_ofNat_of_zero_le h0
 have hn:n<12:=by omega
 have:∀ n<12,∃ u e l b,dIx (.list (abm++abn)) (.int (n:Nat))=some (jp u e l b)/\okM u e l b=true:=by
  intro n hn
  match n,hn with
  | 0,_=>exact ⟨_,_,_,_,rfl,by decide⟩
  | 1,_=>exact ⟨_,_,_,_,rfl,by decide⟩
  | 2,_=>exact ⟨_,_,_,_,rfl,by decide⟩
  | 3,_=>exact ⟨_,_,_,_,rfl,by decide⟩
  | 4,_=>exact ⟨_,_,_,_,rfl,by decide⟩
  | 5,_=>exact ⟨_,_,_,_,rfl,by decide⟩
  | 6,_=>exact ⟨_,_,_,_,rfl,by decide⟩
  | 7,_=>exact ⟨_,_,_,_,rfl,by decide⟩
  | 8,_=>exact ⟨_,_,_,_,rfl,by decide⟩
  | 9,_=>exact ⟨_,_,_,_,rfl,by decide⟩
  | 10,_=>exact ⟨_,_,_,_,rfl,by decide⟩
  | 11,_=>exact ⟨_,_,_,_,rfl,by decide⟩
  | k+12,h=>omega
 exact this n hn
theorem aiF (ns:List Int) (hn:ns.length<1000000) (k:Int) (hk:0<=k):∃ u e l b,Zx [scr ns,.int k]=some (jp u e l b)/\okM u e l b=true:=by
 obtain ⟨w,hw,hw0,hw1⟩:=qI ns hn k 24 hk (by omega)
 have a1:Jg (.list abm) (.list abn)=some (.list (abm++abn)):=rfl
 have a2:zB [.list (abm++abn)]=some (.int 12):=rfl
 have a3:aai (.int 2) (.int 12)=some (.int 24):=rfl
 by_cases hlt:w<12
 ·obtain ⟨u,e,l,b,h1,h2⟩:=anb w hw0 hlt
  refine ⟨u,e,l,b,?_,h2⟩
  simp [Zx,jC,ab3,jK,jT,qS,jQ,op2,lkp,jH,qG,cst,qz,jN,jt,ifS,tst,asB,a1,a2,a3,hw,zp,hlt,h1]
 ·obtain ⟨r1,e1,p1,q1⟩:=qI ns hn (k+1) 5 (by omega) (by omega)
  obtain ⟨r2,e2,p2,q2⟩:=qI ns hn (k+2) 4 (by omega) (by omega)
  obtain ⟨r3,e3,p3,q3⟩:=qI ns hn (k+3) 4 (by omega) (by omega)
  generalize hlo:(if (1:Int) > 1+r1 - 1 then 1 else 1+r1 - 1)+r3=lo
  have hlo1:1<=lo/\r1<=lo/\lo<=10:=by
   rw [←hlo]; split <;> omega
  have hue:0<=r2*(1+r1)/\r2*(1+r1)<=3*5:=⟨Int.mul_nonneg p2 (by omega),Int.mul_le_mul (by omega) (by omega) (by omega) (by omega)⟩
  generalize hmn:(if r2*(1+r1)+lo<15 then r2*(1+r1)+lo else 15)=mn
  have hmn1:0<mn/\mn<=15/\mn<=r2*(1+r1)+lo:=by
   rw [←hmn]; split <;> omega
  obtain ⟨r4,e4,p4,q4⟩:=qI ns hn (k+4) mn (by omega) (by omega)
  refine ⟨r2,1+r1,lo,2+r4,?_,?_⟩
  ·have m1:aai (.int r2) (.int (1+r1))=some (.int (r2*(1+r1))):=za (by omega)
   have x1:alV [.int (1+r1 - 1),.int 1]=some (.int (if (1:Int) > 1+r1 - 1 then 1 else 1+r1 - 1)):=rfl
   have x2:agw [.int 15,.int (r2*(1+r1)+lo)]=some (.int (if r2*(1+r1)+lo<15 then r2*(1+r1)+lo else 15)):=rfl
   have x3:ady (.int (1+r1)) (.int 1)=some (.int (1+r1 - 1)):=rfl
   simp only [Zx,jC,ab3,jK,jT,qS,jQ,op2,lkp,jH,qG,cst,qz,jN,jt,ifS,tst,asB,a1,a2,a3,hw,zp,hlt,zzD,zzE,zzF,zzG,List.replicate,List.length_cons,List.length_nil,zzM,List.map_cons,List.map_nil,List.cons_append,List.nil_append,zzA,zzB,zzC,add_int,e1,e2,e3,m1,x1,x2,x3,decide_false,hlo,hmn,e4]
   simp [e1,e2,e3,m1,x1,x2,x3,hlo,hmn,e4,add_int,lkp,Z1,jt,jH,few,jp]
   simp only [Z1,jt,jH,lkp,op2,jN,cst,zzD,zzE,zzA,zzB,zzC,add_int,m1,x2,hmn,e4]
   simp
  ·have:=hue.1
   simp [okM]
   omega
noncomputable def isInt (t:Int):PyData->Bool
 | .int x=>x == t
 | _=>false
def arb (u e l:Int):Bool:=
 isInt (u*e+l) (aqK none ((ze u l).map (jZ e))) &&
 ((List.range (u*e+l+1).toNat).all fun n=>(ze u l).any fun r=>jZ e r == (n:Int)) &&
 ((ze u l).all fun r=>decide (0<=jZ e r) && decide (jZ e r<=u*e+l)) &&
 decide (asF u e l=(List.range (u*e+l+1).toNat).map fun (n:Nat)=>cnt u e l n)
def zo:Bool:=(List.range 4).all fun (i:Nat)=>(List.range 5).all fun (j:Nat)=>(List.range 11).all fun (k:Nat)=>decide (k+1<j) || arb i (j+1) (k+1)
structure Chk (u e l:Int):Prop where
 most:aqK none ((ze u l).map (jZ e))= .int (u*e+l)
 dig:∀ n:Nat,n<(u*e+l+1).toNat->((ze u l).any fun r=>jZ e r == (n:Int))=true
 rng:∀ r ∈ ze u l,0<=jZ e r/\jZ e r<=u*e+l
 lst:asF u e l=(List.range (u*e+l+1).toNat).map fun (n:Nat)=>cnt u e l n
theorem arc {u e l:Int} (h:arb u e l=true):Chk u e l:=by
 simp only [arb,Bool.and_eq_true,List.all_eq_true,decide_eq_true_eq] at h
 obtain ⟨⟨⟨h1,h2⟩,h3⟩,h4⟩:=h
 refine ⟨?_,fun n hn=>h2 n (List.mem_range.mpr hn),fun r hr=>h3 r hr,h4⟩
 generalize aqK none ((ze u l).map (jZ e))=x at h1
 cases x <;> simp [isInt] at h1
 rw [h1]
theorem qx {u e l b:Int} (h:okN u e l b=true):0<=u/\u<=3/\1<=e/\e<=5/\e - 1<=l/\1<=l/\l<=11/\2<=b/\b<=16/\b<=u*e+l+1:=by
 simp only [okN,Bool.and_eq_true,decide_eq_true_eq] at h
 omega
theorem ard {u e l b:Int} (H:zo=true) (h:okN u e l b=true):Chk u e l:=by
 obtain ⟨a1,a2,a3,a4,a5,a6,a7,_⟩:=qx h
 simp only [zo,List.all_eq_true,Bool.or_eq_true,decide_eq_true_eq] at H
 have:=H u.toNat (List.mem_range.mpr (by omega)) (e - 1).toNat (List.mem_range.mpr (by omega)) (l - 1).toNat (List.mem_range.mpr (by omega))
 rcases this with z | z
 ·exfalso; omega
 ·rw [show ((u.toNat:Nat):Int)=u by omega,show (((e - 1).toNat:Nat):Int)+1=e by omega,show (((l - 1).toNat:Nat):Int)+1=l by omega] at z
  exact arc z
theorem apc {u e l b:Int} (h:okM u e l b=true):okN u e l b=true:=by
 simp only [okM,okN,Bool.and_eq_true,decide_eq_true_eq] at h ⊢
 omega
theorem anc {u e l b:Int} (H:zo=true) (h:okN u e l b=true) {n:Int} (h0:0<=n) (hn:n<b):((ze u l).any fun r=>jZ e r == n)=true:=by
 obtain ⟨a1,a2,a3,a4,a5,a6,a7,a8,a9,a10⟩:=qx h
 have:=(ard H h).dig n.toNat (by omega)
 rw [show ((n.toNat:Nat):Int)=n by omega] at this
 exact this
def Zd (u e l w:Int):LP:=(ze u l).filter fun r=>jZ e r == w
theorem afZ {u e l b w:Int} (hu:0<=u) (hu':u<100) (hl:0<=l) (hl':l<100):Zr [jp u e l b,.int w]=some (.list (Zd u e l w)):=by
 have h1:=abG (e:=e) (b:=b) hu hu' hl hl'
 have h2:=ahf hu' hl'
 simp only [Zr,jC,abj,jK,jT,qG,ZR,itL,jN,jt,jH,lkp,QS,List.length_cons,List.length_nil,zzM,List.map_cons,List.map_nil,List.cons_append,List.nil_append,zzA,zzC,zzD,zzE,h1,h2,aa7]
 rw [acH (fun d=>jZ e d == w) id]
 ·simp [Zd]
 ·intro d hd
  simp [tst,op2,jN,jt,jH,lkp,ael (b:=b) (e:=e) hu' hd,dEq,JY,PyData.eqv,asB]
 ·intro d hd _
  simp [lkp]
theorem abt (kf:PyData->Int):∀ (r:LP) (d:PyData),ZT kf d r=d ∨ ZT kf d r ∈ r
 | [],d=> .inl rfl
 | x::r,d=>by
  unfold ZT
  split
  ·rcases abt kf r x with z | z
   ·exact .inr (by rw [z]; exact List.mem_cons_self)
   ·exact .inr (List.mem_cons_of_mem _ z)
  ·rcases abt kf r d with z | z
   ·exact .inl z
   ·exact .inr (List.mem_cons_of_mem _ z)
def Ze (m:PyData) (d:Int):PyData:=pr (fpr m d)
theorem Jy {u e l b:Int} (H:zo=true) (h:okN u e l b=true) {d:Int} (h0:0<=d) (hd:d<b):
  JN [jp u e l b,.int d]=some (Ze (jp u e l b) d)/\wt e (fpr (jp u e l b) d)=d/\okP u l (fpr (jp u e l b) d)=true:=by
 obtain ⟨a1,a2,a3,a4,a5,a6,a7,a8,a9,a10⟩:=qx h
 have hw:=afZ (e:=e) (b:=b) (w:=d) a1 (show u<100 by omega) (show 0<=l by omega) (show l<100 by omega)
 have any:=anc H h h0 hd
 have rods:∀ r ∈ Zd u e l d,∃ i j:Nat,r= .tuple [.int i,.int j]/\(i:Int)*e+j=d/\(i:Int)<=u/\(j:Int)<=l:=fun r hr=>by
  obtain ⟨h1,h2⟩:=List.mem_filter.mp hr
  obtain ⟨i,j,q1,q2,rfl⟩:=aek h1
  exact ⟨i,j,rfl,by simpa [jZ] using h2,by omega,by omega⟩
 have kb:∀ i j:Nat,Ji [.tuple [.int i,.int j]]=some (.int (i+j)):=fun i j=>akT i j
 have hk:acI Ji (Zd u e l d)=true:=List.all_eq_true.mpr fun r hr=>by
  obtain ⟨i,j,rfl,_,_⟩:=rods r hr
  rw [kb]; rfl
 have mem:adA (aan Ji) none (Zd u e l d) ∈ Zd u e l d:=by
  cases hr:Zd u e l d with
  | nil=>
   exfalso
   obtain ⟨r,h1,h2⟩:=List.any_eq_true.mp any
   have:r ∈ Zd u e l d:=List.mem_filter.mpr ⟨h1,h2⟩
   rw [hr] at this; cases this
  | cons r rs=>
   show ZT (aan Ji) r rs ∈ r::rs
   rcases abt (aan Ji) rs r with z | z
   ·rw [z]; exact List.mem_cons_self
   ·exact List.mem_cons_of_mem _ z
 obtain ⟨i,j,e1,e2,e3,e4⟩:=rods _ mem
 have g:JN [jp u e l b,.int d]=some (.tuple [.int i,.int j]):=by
  have hm:aba Ji (.list (Zd u e l d))=some (.tuple [.int i,.int j]):=by
   show (if acI Ji (Zd u e l d)=true then some (adA (aan Ji) none (Zd u e l d)) else none)=_
   rw [if_pos hk,e1]
  simp [JN,jC,afe,jK,jT,jN,jt,jH,lkp,qG,hw,hm]
 have f:fpr (jp u e l b) d=((i:Int),(j:Int)):=by unfold fpr; rw [g]
 unfold Ze
 rw [f]
 refine ⟨g,e2,?_⟩
 simp only [okP,Bool.and_eq_true,decide_eq_true_eq]
 exact ⟨⟨⟨by omega,e3⟩,by omega⟩,e4⟩
end Rods
theorem Rods.allN_true:Rods.zo=true:=by decide +kernel
namespace Rods
open PySem L2 BX
open PyProof.Rows hiding St
theorem ZE {tc:Rho->Option Bool}{F:RO}{n:Nat}{ρ ρ':Rho} (h:tc ρ=some true) (h':F ρ=some (.nx ρ')):zC tc F (n+1) ρ=zC tc F n ρ':=by
 show (tc ρ).bind _=_
 rw [h,h']
 rfl
theorem acq {tc:Rho->Option Bool}{F:RO}{n:Nat}{ρ:Rho} (h:tc ρ=some false):zC tc F (n+1) ρ=some (.nx ρ):=by
 show (tc ρ).bind _=_
 rw [h]
 rfl
theorem qC {F G:RO}{ρ ρ1:Rho} (h:F ρ=some (.nx ρ1)):jT F G ρ=G ρ1:=by
 unfold jT
 rw [h]
 rfl
theorem qN {N:List Str}{n:Nat}{B:RO}{ds:LP}{d:PyData} (hl:ds.length=n) (h:B (jK N ds)=some (.rt d)):jC N n B ds=some d:=by
 unfold jC
 rw [if_pos hl,h]
def tcD:Rho->Option Bool:=tst (op2 (zp fun i j=>decide (i<j)) (jN zB (jt (lkp 3) jH)) (op2 ady (lkp 1) (cst (.int 1))))
theorem aem {b k:Int}{r n:OP}{ds:LP} (hb:0<b) (hb':b<=16) (hl:ds.length<1000):
  aab.1 [some (.int b),r,n,some (.list ds),some (.int k)]=some (.nx [some (.int b),r,n,some (.list (.int (k % b)::ds)),some (.int (k / b))]):=by
 have m1:∀ i:Int,aki (.int i) (.int b)=some (.int (i % b)):=fun i=>acp hb
 have m2:∀ i:Int,acE (.int i) (.int b)=some (.int (i / b)):=fun i=>Zc hb (by omega)
 have hl':ds.length<1000000:=by omega
 simp [aab,jT,amb,asg,aoy,op2,lkp,cst,m1,m2,noL,hl',qS,jQ,brw,hid,qz]
theorem Qb {b:OP}{r:Int}{n k:OP}{ds:LP}:tcD [b,some (.int r),n,some (.list ds),k]=some (decide ((ds.length:Int)<r - 1)):=by
 simp [tcD,tst,op2,jN,jt,jH,lkp,cst,zB,ady,zp,asB]
theorem af0 {b r n:Int}{ds:LP}{k:Int} (hl:zC tcD aab.1 10 [some (.int b),some (.int r),some (.int n),some (.list []),some (.int n)]=some (.nx [some (.int b),some (.int r),some (.int n),some (.list ds),some (.int k)]))
  (hd:ds.length<100) (hn:noLs ds=true):abO [.int b,.int r,.int n]=some (.list (.int k::ds)):=by
 have f0:few []=true:=aaT
 have f1:few [PyData.int k]=true:=by rw [few]; exact decide_eq_true (by show 1<1000000; decide)
 have f2:few ([PyData.int k]++ds)=true:=by
  rw [few]
  refine decide_eq_true ?_
  rw [List.length_append,List.length_singleton]
  omega
 have e:ao4.1 [some (.int b),some (.int r),some (.int n),none,none]=some (.rt (.list (.int k::ds))):=by
  simp only [ao4]
  show abb 3 (Je jH) (jT (qS (brw (some 3) (lkp 2)) (jQ 4)) (jT (zC tcD aab.1 10) (jT (qG (op2 Jg (Je (jt (lkp 4) jH)) (lkp 3))) qz))) _=_
  have h2:jT (zC tcD aab.1 10) (jT (qG (op2 Jg (Je (jt (lkp 4) jH)) (lkp 3))) qz) [some (.int b),some (.int r),some (.int n),some (.list []),some (.int n)]=some (.rt (.list (.int k::ds))):=by
   unfold jT
   rw [hl]
   simp only [zzD,qG,op2,Je,jt,jH,lkp,zzA,zzB,zzC,zzE,f1,zzM,Jg,f2]
   rfl
  have h1:qS (brw (some 3) (lkp 2)) (jQ 4) [some (.int b),some (.int r),some (.int n),some (.list []),none]=some (.nx [some (.int b),some (.int r),some (.int n),some (.list []),some (.int n)]):=rfl
  have h3:jT (qS (brw (some 3) (lkp 2)) (jQ 4)) (jT (zC tcD aab.1 10) (jT (qG (op2 Jg (Je (jt (lkp 4) jH)) (lkp 3))) qz)) [some (.int b),some (.int r),some (.int n),some (.list []),none]=some (.rt (.list (.int k::ds))):=by
   rw [←h2]
   conv=>lhs; unfold jT
   rw [h1]
   rfl
  unfold abb
  simp only [Je,jH,zzD,f0,zzM,List.length_cons,List.length_nil]
  rw [if_pos (by decide)]
  simp only [zzF,zzG,h3,zzD]
 exact qN rfl e
theorem acr {b n:Int} (hb:0<b) (hb':b<=16) {r:Nat} (h1:1<=r) (h4:r<=4):abO [.int b,.int (r:Int),.int n]=some (.list ((dgl b r n).map .int)):=by
 have:r=1 ∨ r=2 ∨ r=3 ∨ r=4:=by omega
 rcases this with e | e | e | e <;> subst e
 ·refine af0 (ds:=[]) (k:=n) ?_ (by simp) (by simp [noLs,noL])
  rw [acq (Qb.trans (by rfl))]
 ·refine af0 (ds:=[.int (n % b)]) (k:=n / b) ?_ (by simp) (by simp [noLs,noL])
  rw [ZE (Qb.trans (by rfl)) (aem hb hb' (by simp)),acq (Qb.trans (by rfl))]
 ·refine af0 (ds:=[.int (n / b % b),.int (n % b)]) (k:=n / b / b) ?_ (by simp) (by simp [noLs,noL])
  rw [ZE (Qb.trans (by rfl)) (aem hb hb' (by simp)),ZE (Qb.trans (by rfl)) (aem hb hb' (by simp)),acq (Qb.trans (by rfl))]
 ·refine af0 (ds:=[.int (n / b / b % b),.int (n / b % b),.int (n % b)]) (k:=n / b / b / b) ?_ (by simp) (by simp [noLs,noL])
  rw [ZE (Qb.trans (by rfl)) (aem hb hb' (by simp)),ZE (Qb.trans (by rfl)) (aem hb hb' (by simp)),ZE (Qb.trans (by rfl)) (aem hb hb' (by simp)),acq (Qb.trans (by rfl))]
theorem pw1 (b:Int):b ^ 1=b:=by rw [Int.pow_succ,Int.pow_zero,Int.one_mul]
theorem adm {b:Int} (hb:0<b):∀ r:Nat,0<b ^ r
 | 0=>by simp
 | r+1=>by rw [Int.pow_succ]; exact Int.mul_pos (adm hb r) hb
theorem apY {b:Int} (h0:0<b) (h:b<=16):∀ r:Nat,b ^ r<=16 ^ r
 | 0=>by simp
 | r+1=>by
  rw [Int.pow_succ,Int.pow_succ]
  exact Int.mul_le_mul (apY h0 h r) h (by omega) (Int.le_of_lt (adm (by decide) r))
theorem are {b:Int} (h0:0<b) (h:b<=16) {r:Nat} (hr:r<=4):b ^ r<=65536:=by
 have:r=0 ∨ r=1 ∨ r=2 ∨ r=3 ∨ r=4:=by omega
 have:=apY h0 h r
 rcases ‹r=0 ∨ _› with e | e | e | e | e <;> subst e <;> first | (exact Int.le_trans this (by decide))
theorem aaU (b:Int) (k:Nat) (n:Int):dgl b (k+2) n=dgl b (k+1) (n / b)++[n % b]:=rfl
theorem ZF (b:Int):∀ (r:Nat) (n:Int),(dgl b r n).length=r
 | 0,_=>rfl
 | 1,_=>rfl
 | k+2,n=>by rw [aaU,List.length_append,ZF b (k+1)]; rfl
theorem abu {b n:Int} (hb:0<b) {k:Nat} (h:n<b ^ (k+1)):n / b<b ^ k:=
 Int.ediv_lt_of_lt_mul hb (by rw [←Int.pow_succ]; exact h)
theorem af1 {b:Int} (hb:0<b):∀ (r:Nat) (n:Int),0<=n->n<b ^ r->∀ d ∈ dgl b r n,0<=d/\d<b
 | 0,n,_,_,d,hd=>by cases hd
 | 1,n,h0,h1,d,hd=>by
  rw [show dgl b 1 n=[n] from rfl,List.mem_singleton] at hd
  subst hd
  exact ⟨h0,by rw [pw1] at h1; exact h1⟩
 | k+2,n,h0,h1,d,hd=>by
  rw [aaU] at hd
  rcases List.mem_append.mp hd with q | q
  ·exact af1 hb (k+1) (n / b) (Int.ediv_nonneg h0 (by omega)) (abu hb h1) d q
  ·rw [List.mem_singleton] at q
   subst q
   exact ⟨Int.emod_nonneg _ (by omega),Int.emod_lt_of_pos _ hb⟩
theorem aaV {b:Int} (hb:0<b):∀ (k:Nat) (n:Int),0<=n->∃ x r,dgl b (k+1) n=x::r/\(n<b ^ (k+1)->x<b)/\(b ^ (k+1)<=n->b<=x)
 | 0,n,h0=>⟨n,[],rfl,fun h=>by rw [Nat.zero_add,pw1] at h; exact h,fun h=>by rw [Nat.zero_add,pw1] at h; exact h⟩
 | k+1,n,h0=>by
  obtain ⟨x,r,e,h1,h2⟩:=aaV hb k (n / b) (Int.ediv_nonneg h0 (by omega))
  refine ⟨x,r++[n % b],?_,fun h=>h1 (abu hb h),fun h=>h2 ?_⟩
  ·rw [aaU,e]; rfl
  ·refine Int.le_ediv_of_mul_le hb ?_
   rw [←Int.pow_succ]; exact h
theorem ane (b e:Int) (ps:List (Int × Int)) (p:Int × Int):val b e (ps++[p])=val b e ps*b+wt e p:=by simp [val]
section
variable {u e l b:Int}
theorem ajJ (H:zo=true) (h:okN u e l b=true):∀ (r:Nat) (n:Int),1<=r->0<=n->n<b ^ r->val b e (pln (jp u e l b) b r n)=n
 | 0,n,h1,_,_=>by omega
 | 1,n,_,h0,hn=>by
  have:=(Jy H h h0 (show n<b by rw [pw1] at hn; exact hn)).2.1
  show 0*b+wt e (fpr (jp u e l b) n)=n
  rw [this]; omega
 | k+2,n,_,h0,hn=>by
  obtain ⟨a1,a2,a3,a4,a5,a6,a7,a8,a9,a10⟩:=qx h
  have hb:0<b:=by omega
  have ih:=ajJ H h (k+1) (n / b) (by omega) (Int.ediv_nonneg h0 (by omega)) (abu hb hn)
  have hd:=(Jy H h (d:=n % b) (Int.emod_nonneg _ (by omega)) (Int.emod_lt_of_pos _ hb)).2.1
  unfold pln at ih ⊢
  rw [aaU,List.map_append,List.map_singleton,ane,ih,hd,Int.mul_comm]
  exact Int.mul_ediv_add_emod n b
theorem af2 (m:PyData) (b:Int) (r:Nat) (n:Int):(pln m b r n).length=r:=by rw [pln,List.length_map,ZF]
theorem anf (H:zo=true) (h:okN u e l b=true) {r:Nat}{n:Int} (h1:1<=r) (h4:r<=4) (h0:0<=n) (hn:n<b ^ r):okS u l (pln (jp u e l b) b r n)=true:=by
 obtain ⟨a1,a2,a3,a4,a5,a6,a7,a8,a9,a10⟩:=qx h
 simp only [okS,Bool.and_eq_true,decide_eq_true_eq,af2]
 refine ⟨⟨h1,h4⟩,List.all_eq_true.mpr fun p hp=>?_⟩
 obtain ⟨d,hd,rfl⟩:=List.mem_map.mp hp
 obtain ⟨d0,d1⟩:=af1 (show 0<b by omega) r n h0 hn d hd
 exact (Jy H h d0 d1).2.2
theorem Jz {u l:Int}{p:Int × Int} (h:okP u l p=true):0<=p.1/\p.1<=u/\0<=p.2/\p.2<=l:=by
 simp only [okP,Bool.and_eq_true,decide_eq_true_eq] at h
 exact ⟨h.1.1.1,h.1.1.2,h.1.2,h.2⟩
theorem ang {e u l:Int} (he:1<=e) {p:Int × Int} (h:okP u l p=true):0<=wt e p:=by
 obtain ⟨h1,h2,h3,h4⟩:=Jz h
 have:=Int.mul_nonneg h1 (show 0<=e by omega)
 unfold wt; omega
theorem apZ {e u l:Int} (he:1<=e) (he5:e<=5) (hu:u<=3) (hl:l<=11) {p:Int × Int} (h:okP u l p=true):wt e p<=26:=by
 obtain ⟨h1,h2,h3,h4⟩:=Jz h
 have:p.1*e<=3*5:=Int.mul_le_mul (by omega) he5 (by omega) (by omega)
 unfold wt; omega
theorem ajK {b e u l:Int} (h2:2<=b) (hb:b<=16) (he:1<=e) (he5:e<=5) (hu:u<=3) (hl:l<=11):∀ (ps:List (Int × Int)) (acc:Int),ps.all (okP u l)=true->0<=acc->0<=ps.foldl (fun n p=>n*b+wt e p) acc/\ps.foldl (fun n p=>n*b+wt e p) acc+30<=(acc+30)*16 ^ ps.length
 | [],acc,_,h=>⟨h,by simp⟩
 | p::ps,acc,hp,h=>by
  rw [List.all_cons,Bool.and_eq_true] at hp
  have w0:=ang he hp.1
  have w1:=apZ he he5 hu hl hp.1
  have ha:0<=acc*b:=Int.mul_nonneg h (by omega)
  have hb2:acc*b<=acc*16:=Int.mul_le_mul_of_nonneg_left hb h
  obtain ⟨h1,h3⟩:=ajK h2 hb he he5 hu hl ps (acc*b+wt e p) hp.2 (by omega)
  refine ⟨h1,Int.le_trans h3 ?_⟩
  rw [List.length_cons,Int.pow_succ,Int.mul_comm (16 ^ ps.length) 16,←Int.mul_assoc]
  refine Int.mul_le_mul_of_nonneg_right ?_ (Int.le_of_lt (adm (by decide) _))
  omega
theorem arf (h:okN u e l b=true) {ps:List (Int × Int)} (hp:ps.all (okP u l)=true):0<=val b e ps:=by
 obtain ⟨a1,a2,a3,a4,a5,a6,a7,a8,a9,a10⟩:=qx h
 exact (ajK a8 a9 a3 a4 a2 a7 ps 0 hp (by omega)).1
end
theorem JZ {ds:LP} (h:ds.length<10000):few ds=true:=by
 rw [few]
 refine decide_eq_true ?_
 omega
theorem akU {u e l b:Int} (H:zo=true) (h:okN u e l b=true):qZ [jp u e l b]=some (.bool true):=by
 obtain ⟨a1,a2,a3,a4,a5,a6,a7,a8,a9,a10⟩:=qx h
 rw [afY a1 a2 a3 (by omega) (by omega) (by omega) a8 a9,adl a1 (by omega) (by omega) (by omega) (by omega) (by omega)]
 congr 2
 refine List.all_eq_true.mpr fun d hd=>?_
 have:=anc H h (n:=(d:Int)) (by omega) (by have:=List.mem_range.mp hd; omega)
 simpa [List.any_map,Function.comp_def] using this
theorem abv {u l:Int}{ps:List (Int × Int)} (h:okS u l ps=true):1<=ps.length/\ps.length<=4/\ps.all (okP u l)=true:=by
 simp only [okS,Bool.and_eq_true,decide_eq_true_eq] at h
 exact ⟨h.1.1,h.1.2,h.2⟩
theorem arh {u l:Int}{ps:List (Int × Int)} (h1:1<=ps.length) (h2:ps.length<=4) (h3:ps.all (okP u l)=true):okS u l ps=true:=by
 simp only [okS,Bool.and_eq_true,decide_eq_true_eq]
 exact ⟨⟨h1,h2⟩,h3⟩
section
variable {u e l b:Int}{ps qs:List (Int × Int)}
theorem ahg (h:okN u e l b=true) {S:PyData}:∀ (qs:List (Int × Int)) (acc:Int) (x:OP),qs.all (okP u l)=true->0<=acc->(acc+30)*16 ^ qs.length<=1000000000->
  ∃ y,ql (jQ 3) afg.1 (qs.map pr) [some (jp u e l b),some S,some (.int acc),x]=some (.nx [some (jp u e l b),some S,some (.int (qs.foldl (fun n p=>n*b+wt e p) acc)),y])
 | [],acc,x,_,_,_=>⟨x,rfl⟩
 | q::qs,acc,x,hq,h0,hB=>by
  obtain ⟨a1,a2,a3,a4,a5,a6,a7,a8,a9,a10⟩:=qx h
  rw [List.all_cons,Bool.and_eq_true] at hq
  obtain ⟨q1,q2,q3,q4⟩:=Jz hq.1
  have w0:=ang a3 hq.1
  have w1:=apZ a3 a4 a2 a7 hq.1
  have hp:=adm (b:=16) (by decide) qs.length
  rw [List.length_cons,Int.pow_succ,Int.mul_comm (16 ^ qs.length) 16,←Int.mul_assoc] at hB
  have ha:0<=acc*b:=Int.mul_nonneg h0 (by omega)
  have hb2:acc*b<=acc*16:=Int.mul_le_mul_of_nonneg_left a9 h0
  have hB':(acc*b+wt e q+30)*16 ^ qs.length<=1000000000:=Int.le_trans (Int.mul_le_mul_of_nonneg_right (by omega) (Int.le_of_lt hp)) hB
  have hacc:acc<=1000000000:=by
   have h1:(acc+30)*16*1<=(acc+30)*16*16 ^ qs.length:=Int.mul_le_mul_of_nonneg_left (by omega) (by omega)
   omega
  have m1:aai (.int acc) (.int b)=some (.int (acc*b)):=za ⟨by omega,by omega⟩
  have w':qH [jp u e l b,pr q]=some (.int (wt e q)):=QJ u e l b q.1 q.2 (by omega)
  have step:afg.1 [some (jp u e l b),some S,some (.int acc),some (pr q)]=some (.nx [some (jp u e l b),some S,some (.int (acc*b+wt e q)),some (pr q)]):=by
   simp only [afg,jT,qS,op2,jN,jt,jH,lkp,cst,jQ,zzA,zzB,zzC,zzD,zzE,ix3,m1,w',add_int,zzF,zzG,qz]
  obtain ⟨y,hy⟩:=ahg h (S:=S) qs (acc*b+wt e q) (some (pr q)) hq.2 (by omega) hB'
  refine ⟨y,?_⟩
  rw [List.map_cons]
  simp only [ql,jQ,zzD,zzF,zzG,step]
  exact hy
theorem ajL (h:okN u e l b=true) (h4:ps.length<=4) (hp:ps.all (okP u l)=true):QF [jp u e l b,jI ps]=some (.int (val b e ps)):=by
 have hB:(0+30:Int)*16 ^ ps.length<=1000000000:=by
  have:=are (b:=16) (by decide) (by decide) h4
  omega
 obtain ⟨y,hy⟩:=ahg h (S:=jI ps) ps 0 none hp (by omega) hB
 refine qN rfl ?_
 show ao2.1 [some (jp u e l b),some (jI ps),none,none]=_
 simp only [ao2]
 refine (qC (ρ1:=[some (jp u e l b),some (jI ps),some (.int 0),none]) ?_).trans ?_
 ·simp only [qS,cst,jQ,zzD,zzE,zzF,zzG]
 refine (qC (ρ1:=[some (jp u e l b),some (jI ps),some (.int (val b e ps)),y]) ?_).trans ?_
 ·show (itT (lkp 1) _).bind _=_
  rw [show itT (lkp 1) [some (jp u e l b),some (jI ps),some (.int 0),none]=some (ps.map pr) from rfl]
  exact hy
 rfl
theorem akV {p:Int × Int} (hp:okP u l p=true):Qa [jp u e l b,pr p]=some (.bool true):=by
 obtain ⟨q1,q2,q3,q4⟩:=Jz hp
 have w1:jU [.int p.1,.int 0,.int u]=some (.bool true):=by rw [j5]; simp [q1,q2]
 have w2:jU [.int p.2,.int 0,.int l]=some (.bool true):=by rw [j5]; simp [q3,q4]
 simp [Qa,jC,abk,jK,jT,ifS,orB,zA,tst,JD,tyn,asB,lkp,op2,jN,jt,jH,zB,cst,dNe,JY,ZD,qz,qG,ae1,pr,jp,dIx,atI,ixN,w1,w2]
theorem akW (H:zo=true) (h:okN u e l b=true) (hs:okS u l ps=true):ac8 [jp u e l b,jI ps]=some (.bool true):=by
 obtain ⟨h1,h4,hp⟩:=abv hs
 have g0:=Qk (akU H h)
 have hf:few (ps.map pr)=true:=JZ (by rw [List.length_map]; omega)
 have c1:zp (fun i j=>decide (i<=j)) (.int 1) (.int ((ps.map pr).length:Int))=some (.bool true):=by
  show some (PyData.bool (decide ((1:Int)<=((ps.map pr).length:Int))))=_
  rw [decide_eq_true (by rw [List.length_map]; omega)]
 have c2:zp (fun i j=>decide (i<=j)) (.int ((ps.map pr).length:Int)) (.int 4)=some (.bool true):=by
  show some (PyData.bool (decide (((ps.map pr).length:Int)<=4)))=_
  rw [decide_eq_true (by rw [List.length_map]; omega)]
 refine qN rfl ?_
 show abl.1 [some (jp u e l b),some (jI ps)]=_
 simp only [abl]
 refine (qC (ρ1:=[some (jp u e l b),some (jI ps)]) ?_).trans ?_
 ·simp only [abM,jN,jt,jH,lkp,zzA,zzB,zzC,zzD,zzE,g0]
 refine (qC (ρ1:=[some (jp u e l b),some (jI ps)]) ?_).trans ?_
 ·simp [ifS,orB,zA,tst,JD,tyn,asB,lkp,jI,chn,jN,jt,jH,zB,cst,qz]
  simp [List.length_map] at c1 c2
  simp [c1,c2]
  rfl
 simp only [jT,qG,jN,jt,jH,ZR,itT,lkp,jI,aa5,zzA,zzB,zzC,zzD,zzE,hf,zzM,aa7,List.map_cons,List.map_nil,zzH]
 rw [Qe (fun _=> .bool true)]
 ·have:bls ((ps.map pr).map fun _=>PyData.bool true)=some ((ps.map pr).map fun _=>true):=aco (fun _=>true) _
  simp only [zzE,zzD,alW,this]
  simp
 ·intro d hd
  obtain ⟨p,hp',rfl⟩:=List.mem_map.mp hd
  simp [jN,jt,jH,lkp,akV (e:=e) (b:=b) (List.all_eq_true.mp hp p hp')]
theorem anh (H:zo=true) (h:okN u e l b=true) (hs:okS u l ps=true):qF [jp u e l b,jI ps]=some .none:=by
 have g:=akW H h hs
 simp [qF,jC,ab1,jK,jT,ifS,zA,tst,asB,jN,jt,jH,lkp,g,qz]
end
theorem ani {n:Int} (h0:0<=n) (h1:n<=99999):qW [.int n]=some .none:=by
 have w:jU [.int n,.int 0,.int 99999]=some (.bool true):=by rw [j5]; simp [h0,h1]
 simp [qW,jC,ab0,jK,jT,ifS,zA,tst,asB,jN,jt,jH,lkp,cst,w,qz]
theorem anj {n:Int} (h0:1<=n) (h1:n<=4):Jc [.int n]=some .none:=by
 have w:jU [.int n,.int 1,.int 4]=some (.bool true):=by rw [j5]; simp [h0,h1]
 simp [Jc,jC,aaF,jK,jT,ifS,zA,tst,asB,jN,jt,jH,lkp,cst,w,qz]
section
variable {u e l b:Int}{ps qs:List (Int × Int)}
theorem ZG (i j:Int):dEq (.int i) (.int j)=some (.bool (decide (i=j))):=by
 have:(i == j)=decide (i=j):=rfl
 simp only [dEq,JY,ZD,and_self,zzM,this]
theorem ank {b:Int}{r:Nat}{n x:Int}{xs:List Int} (h4:r<=4) (hx:dgl b r n=x::xs):dIx (.list ((dgl b r n).map .int)) (.int 0)=some (.int x):=by
 have hl:=ZF b r n
 have hlt:((dgl b r n).map PyData.int).length<1000000:=by rw [List.length_map,hl]; omega
 show (if ((dgl b r n).map PyData.int).length<1000000 then atI ((dgl b r n).map PyData.int) 0 else none)=_
 rw [if_pos hlt,hx]
 simp [atI,ixN]
theorem adn (H:zo=true) (h:okN u e l b=true) {r:Nat}{n:Int} (h1:1<=r) (h4:r<=4) (h0:0<=n) (hn:n<b ^ r):JO [jp u e l b,.int (r:Int),.int n]=some (jI (pln (jp u e l b) b r n)):=by
 obtain ⟨a1,a2,a3,a4,a5,a6,a7,a8,a9,a10⟩:=qx h
 have hb:0<b:=by omega
 have hd:=acr (n:=n) hb a9 h1 h4
 have hg:=af1 hb r n h0 hn
 have hl:=ZF b r n
 obtain ⟨k,rfl⟩:∃ k,r=k+1:=⟨r - 1,by omega⟩
 obtain ⟨x,xs,hx,hx1,_⟩:=aaV hb k n h0
 have hi:=ank h4 hx
 have hc:zp (fun i j=>decide (j<=i)) (.int x) (.int b)=some (.bool false):=by
  show some (PyData.bool (decide (b<=x)))=_
  rw [decide_eq_false (by have:=hx1 hn; omega)]
 have hf:few ((dgl b (k+1) n).map .int)=true:=JZ (by rw [List.length_map,hl]; omega)
 generalize hr:((k+1:Nat):Int)=rr at hd ⊢
 refine qN rfl ?_
 show Zw.1 [some (jp u e l b),some (.int rr),some (.int n),none]=_
 simp only [Zw]
 refine (qC (ρ1:=[some (jp u e l b),some (.int rr),some (.int n),some (.list ((dgl b (k+1) n).map .int))]) ?_).trans ?_
 ·simp only [qS,jN,jt,jH,op2,lkp,cst,jQ,zzA,zzB,zzC,zzD,zzE,ix3,hd,zzF,zzG]
 refine (qC (ρ1:=[some (jp u e l b),some (.int rr),some (.int n),some (.list ((dgl b (k+1) n).map .int))]) ?_).trans ?_
 ·simp only [ifS,tst,op2,lkp,cst,zzA,zzB,zzC,zzD,hi,ix3,hc,asB,zzL,zzN,qz]
 simp only [jT,qG,jN,jt,jH,ZR,itL,lkp,QS,zzA,zzB,zzC,zzD,zzE,hf,zzM,aa7,List.map_cons,List.map_nil,zzH]
 rw [Qe (fun d=>Ze (jp u e l b) ((aaj d).getD 0))]
 ·simp [ae2,jI,pln,Ze,aaj,Function.comp_def]
 ·intro d hd
  obtain ⟨i,hi,rfl⟩:=List.mem_map.mp hd
  simp [jN,jt,jH,lkp,aaj,(Jy H h (hg i hi).1 (hg i hi).2).1]
theorem aaW (ps:List (Int × Int)):zB [jI ps]=some (.int (ps.length:Int)):=by
 show some (PyData.int ((ps.map pr).length:Int))=_
 rw [List.length_map]
end
end Rods
namespace BX
open PySem PySem.Spec L2
open PyProof.Rows hiding St
theorem Zf {n j:Nat}{d:PyData} (h:(Jf 0 n)[j]?=some d):j<n/\d= .int j:=by
 simp only [Jf,List.getElem?_map] at h
 cases hj:(List.range n)[j]? with
 | none=>rw [hj] at h; cases h
 | some k=>
  rw [hj] at h
  obtain ⟨h1,h2⟩:=List.getElem?_eq_some_iff.mp hj
  simp at h1 h2
  subst h2
  simp at h
  exact ⟨h1,h.symm⟩
theorem Zg (n:Nat):(Jf 0 n).length=n:=by simp [Jf]
end BX
namespace Rods
open PySem L2 BX
open PyProof.Rows hiding St
section
variable {u e l b:Int}
theorem akX (H:zo=true) (h:okN u e l b=true) {r n:Int} (h1:1<=r) (h4:r<=4) (h0:0<=n) (hn:n<=99999):aaa [jp u e l b,.int r,.int n]=some .none:=by
 have g1:=Qk (akU H h)
 have g2:Jc [.int r]=some .none:=anj h1 h4
 have g3:qW [.int n]=some .none:=ani h0 hn
 simp [aaa,jC,aij,jK,jT,abM,jN,jt,jH,lkp,g1,g2,g3,qz]
end
section
variable {u e l b:Int}{ps qs:List (Int × Int)}
theorem ajM {xs ys:LP} (hx:xs ≠ [] ∨ True) (hl:xs.length+ys.length<10000):Jg (.tuple xs) (.tuple ys)=some (.tuple (xs++ys)):=by
 cases xs with
 | nil=>rfl
 | cons x xs=>
  have hf:few ((x::xs)++ys)=true:=JZ (by rw [List.length_append]; exact hl)
  show (if few ((x::xs)++ys)=true then some (PyData.tuple ((x::xs)++ys)) else none)=_
  rw [if_pos hf]
theorem zG {N:List Str}{n:Nat}{F:Rho->Option Str}{ds:LP} (hl:ds.length=n):zi N n F ds=F (jK N ds):=by
 unfold zi
 rw [if_pos hl]
end
section
variable {u e l b:Int}
def QR (m:PyData) (c:Nat × Int):PyData:= .tuple [.int (c.1:Int),Ze m c.2]
theorem ajN {g:LP->OP}{k:Nat}{m S:PyData}{r:Int}:(jC nDA 4 (bDA g k).1) [m,S,.int r,.int 0]=some (.list []):=by
 have e0:=ZG 0 0
 rw [decide_eq_true rfl] at e0
 refine qN rfl ?_
 show (bDA g k).1 [some m,some S,some (.int r),some (.int 0),none,none]=_
 simp only [bDA,jT,ifS,tst,op2,qG,Je,jH,lkp,cst,zzA,zzB,zzC,zzD,zzE,e0,asB,zzM,aaT]
theorem asG {g:LP->OP}{k:Nat}{m S R F:PyData}{A:LP}{r w dg b:Int} (hd:dg ≠ 0) (hr:0<=r) (hx:dIx S (.int r)=some R) (hw:qH [m,R]=some (.int w)) (hs:g [m,S,.int (r - 1),.int ((w+dg) / b)]=some (.list A)) (hb:dIx m (.int 3)=some (.int b)) (b0:0<b) (b1:b<=16)
  (hf:JN [m,.int ((w+dg) % b)]=some F) (hA:A.length<1000):(jC nDA 4 (bDA g k).1) [m,S,.int r,.int dg]=some (.list (A++[.tuple [.int r,F]])):=by
 have e0:=ZG dg 0
 rw [decide_eq_false hd] at e0
 have s1:ady (.int r) (.int 1)=some (.int (r - 1)):=rfl
 have a0:Jg (.int w) (.int dg)=some (.int (w+dg)):=rfl
 have q1:acE (.int (w+dg)) (.int b)=some (.int ((w+dg) / b)):=Zc b0 (by omega)
 have q2:aki (.int (w+dg)) (.int b)=some (.int ((w+dg) % b)):=acp b0
 have c0:zp (fun i j=>decide (i<j)) (.int r) (.int 0)=some (.bool false):=by
  show some (PyData.bool (decide (r<0)))=_
  rw [decide_eq_false (by omega)]
 have f1:few [PyData.int r,F]=true:=JZ (by simp)
 have f2:few [PyData.tuple [PyData.int r,F]]=true:=JZ (by simp)
 have a1:Jg (.list A) (.list [.tuple [.int r,F]])=some (.list (A++[.tuple [.int r,F]])):=by
  show (if few (A++[.tuple [.int r,F]])=true then some (PyData.list (A++[.tuple [.int r,F]])) else none)=_
  rw [if_pos (JZ (by rw [List.length_append,List.length_singleton]; omega))]
 refine qN rfl ?_
 show (bDA g k).1 [some m,some S,some (.int r),some (.int dg),none,none]=_
 simp only [bDA]
 refine (qC (ρ1:=[some m,some S,some (.int r),some (.int dg),none,none]) ?_).trans ?_
 ·simp only [ifS,tst,op2,lkp,cst,zzA,zzB,zzC,zzD,zzE,e0,asB,zzL,zzN,qz]
 refine (qC (ρ1:=[some m,some S,some (.int r),some (.int dg),none,none]) ?_).trans ?_
 ·simp only [ifS,tst,op2,lkp,cst,zzA,zzB,zzC,zzD,zzE,c0,asB,zzL,zzN,qz]
 refine (qC (ρ1:=[some m,some S,some (.int r),some (.int dg),some (.int (w+dg)),none]) ?_).trans ?_
 ·simp only [qS,op2,jN,jt,jH,lkp,jQ,zzA,zzB,zzC,zzD,zzE,hx,hw,a0,zzF,zzG]
 refine (qC (ρ1:=[some m,some S,some (.int r),some (.int dg),some (.int (w+dg)),some (.list A)]) ?_).trans ?_
 ·simp only [qS,op2,jN,jt,jH,lkp,cst,jQ,zzA,zzB,zzC,zzD,zzE,s1,hb,q1,hs,zzF,zzG]
 simp only [jT,qG,op2,Je,Z1,jN,jt,jH,lkp,cst,zzA,zzB,zzC,zzD,zzE,hb,q2,hf,f1,f2,zzM,a1]
end
theorem apd (m:PyData) (c:Nat × Int):noL (QR m c)=true:=by simp [QR,Ze,pr,noL,noLs]
theorem anl (m:PyData) (cs:List (Nat × Int)):noLs (cs.map (QR m))=true:=acG fun d hd=>by
 obtain ⟨c,_,rfl⟩:=List.mem_map.mp hd
 exact apd m c
section
variable {u e l b:Int}
theorem ari {x:Str}{g:LP->OP}{m S N now now':PyData}{ch es:LP}{i dg:Int}{x8:OP} (hg:g [m,now,.int i,.int dg]=some (.list es)) (hb:aim [now,.list es]=some now') (hn:noLs es=true) (hl:ch.length+es.length<1000000):
  (zm x g).1 [some m,some S,some N,some (fnD x),some (.list ch),some now,some (.int i),some (.int dg),x8]=some (.nx [some m,some S,some N,some (fnD x),some (.list (ch++es)),some now',some (.int i),some (.int dg),some (.list es)]):=by
 have hF:=acS x
 have hx:aox (some (.list ch)) (some (.list es))=some (.list (ch++es)):=by
  show (if noLs es=true/\ch.length+es.length<1000000 then some (PyData.list (ch++es)) else none)=_
  rw [if_pos ⟨hn,hl⟩]
 simp only [zm]
 refine (qC (ρ1:=[some m,some S,some N,some (fnD x),some (.list ch),some now,some (.int i),some (.int dg),some (.list es)]) ?_).trans ?_
 ·simp only [qS,brw,hid,ah4,jt,jH,lkp,jQ,zzA,zzB,zzC,zzD,zzE,hF,zzM,hg,zzF,zzG]
 refine (qC (ρ1:=[some m,some S,some N,some (fnD x),some (.list ch),some now',some (.int i),some (.int dg),some (.list es)]) ?_).trans ?_
 ·simp only [qS,brw,hid,jN,jt,jH,lkp,jQ,zzA,zzB,zzC,zzD,zzE,hb,zzF,zzG]
 refine (qC (ρ1:=[some m,some S,some N,some (fnD x),some (.list (ch++es)),some now',some (.int i),some (.int dg),some (.list es)]) ?_).trans rfl
 simp only [amb,ase,lkp,zzA,zzB,zzC,zzD,zzE,hx,zzF,zzG]
theorem ZH {N:List Str}{n:Nat}{B:RO}{ds:LP} (h:B (jK N ds)=none):jC N n B ds=none:=by
 unfold jC
 split
 ·rw [h]
 ·rfl
theorem anm {m S C:PyData}{n:Int} (ct:gCA [m,S,.int n,fnD "digit_added"]=some C):ag5 [m,S,.int n]=some C:=by
 refine qN rfl ?_
 show akM.1 [some m,some S,some (.int n)]=_
 simp only [akM,jT,qG,jN,jt,jH,lkp,cst,zzA,zzB,zzC,zzD,zzE,ct]
end
theorem arj {g:LP->OP}{t:LP->Option Str}{k:Nat}{m S:PyData}{r dg:Int} (hd:dg ≠ 0) (hr:r<0):(jC nDA 4 (bDA g k).1) [m,S,.int r,.int dg]=none/\(zi nDA 4 (xDA g t k).1) [m,S,.int r,.int dg]=some ("TooGreat":Str):=by
 have e0:=ZG dg 0
 rw [decide_eq_false hd] at e0
 have c0:zp (fun i j=>decide (i<j)) (.int r) (.int 0)=some (.bool true):=by
  show some (PyData.bool (decide (r<0)))=_
  rw [decide_eq_true hr]
 constructor
 ·refine ZH ?_
  show (bDA g k).1 [some m,some S,some (.int r),some (.int dg),none,none]=_
  simp only [bDA]
  refine (qC (ρ1:=[some m,some S,some (.int r),some (.int dg),none,none]) ?_).trans ?_
  ·simp only [ifS,tst,op2,lkp,cst,zzA,zzB,zzC,zzD,zzE,e0,asB,zzL,zzN,qz]
  simp only [jT,ifS,tst,op2,lkp,cst,zzA,zzB,zzC,zzD,zzE,c0,asB,zzM,aok,zzH]
 ·refine (zG rfl).trans ?_
  show (xDA g t k).1 [some m,some S,some (.int r),some (.int dg),none,none]=_
  simp only [xDA,orX,nxX,ifX,ifS,tst,op2,lkp,cst,zzA,zzB,zzC,zzD,zzE,e0,asB,zzL,zzN,qz,c0,zzM]
theorem ark {g:LP->OP}{t:LP->Option Str}{k:Nat}{m S R:PyData}{r w dg b:Int}{c:Str} (hd:dg ≠ 0) (hr:0<=r) (hx:dIx S (.int r)=some R) (hw:qH [m,R]=some (.int w)) (hb:dIx m (.int 3)=some (.int b)) (b0:0<b) (b1:b<=16)
  (hs:g [m,S,.int (r - 1),.int ((w+dg) / b)]=none) (ht:t [m,S,.int (r - 1),.int ((w+dg) / b)]=some c):(jC nDA 4 (bDA g k).1) [m,S,.int r,.int dg]=none/\(zi nDA 4 (xDA g t k).1) [m,S,.int r,.int dg]=some c:=by
 have e0:=ZG dg 0
 rw [decide_eq_false hd] at e0
 have s1:ady (.int r) (.int 1)=some (.int (r - 1)):=rfl
 have a0:Jg (.int w) (.int dg)=some (.int (w+dg)):=rfl
 have q1:acE (.int (w+dg)) (.int b)=some (.int ((w+dg) / b)):=Zc b0 (by omega)
 have c0:zp (fun i j=>decide (i<j)) (.int r) (.int 0)=some (.bool false):=by
  show some (PyData.bool (decide (r<0)))=_
  rw [decide_eq_false (by omega)]
 constructor
 ·refine ZH ?_
  show (bDA g k).1 [some m,some S,some (.int r),some (.int dg),none,none]=_
  simp only [bDA]
  refine (qC (ρ1:=[some m,some S,some (.int r),some (.int dg),none,none]) ?_).trans ?_
  ·simp only [ifS,tst,op2,lkp,cst,zzA,zzB,zzC,zzD,zzE,e0,asB,zzL,zzN,qz]
  refine (qC (ρ1:=[some m,some S,some (.int r),some (.int dg),none,none]) ?_).trans ?_
  ·simp only [ifS,tst,op2,lkp,cst,zzA,zzB,zzC,zzD,zzE,c0,asB,zzL,zzN,qz]
  refine (qC (ρ1:=[some m,some S,some (.int r),some (.int dg),some (.int (w+dg)),none]) ?_).trans ?_
  ·simp only [qS,op2,jN,jt,jH,lkp,jQ,zzA,zzB,zzC,zzD,zzE,hx,hw,a0,zzF,zzG]
  simp only [jT,qS,op2,jN,jt,jH,lkp,cst,jQ,zzA,zzB,zzC,zzD,zzE,s1,hb,q1,hs,zzH]
 ·refine (zG rfl).trans ?_
  show (xDA g t k).1 [some m,some S,some (.int r),some (.int dg),none,none]=_
  simp only [xDA,orX,nxX,ifX,ah0,ifS,tst,op2,lkp,cst,zzA,zzB,zzC,zzD,zzE,e0,asB,zzL,zzN,qz,c0,qS,jN,jt,jH,jQ,hx,hw,a0,zzF,zzG,s1,hb,q1,ht]
section
variable {u e l b:Int}
abbrev fxC (x:Str) (t:LP->Option Str):Rho->Option Str:=aqR (some 4) (acV 3 x t (jt (lkp 0) (jt (lkp 5) (jt (lkp 6) (jt (lkp 7) jH)))))
theorem ape {x:Str}{g:LP->OP}{t:LP->Option Str}{m S N now:PyData}{ch:LP}{i dg:Int}{x8:OP}{c:Str} (hg:g [m,now,.int i,.int dg]=none) (ht:t [m,now,.int i,.int dg]=some c):
  (zm x g).1 [some m,some S,some N,some (fnD x),some (.list ch),some now,some (.int i),some (.int dg),x8]=none/\fxC x t [some m,some S,some N,some (fnD x),some (.list ch),some now,some (.int i),some (.int dg),x8]=some c:=by
 have hF:=acS x
 constructor
 ·simp only [zm,jT,qS,brw,hid,ah4,jt,jH,lkp,zzA,zzB,zzC,zzD,zzE,hF,zzM,hg,zzF,zzG,zzH]
 ·simp only [fxC,aqR,hid,acV,jt,jH,lkp,zzA,zzB,zzC,zzD,zzE,hF,zzM,ht,zzF,zzG]
theorem arl {m S:PyData}{n:Int}{c:Str} (n1:gCA [m,S,.int n,fnD "digit_added"]=none) (n2:tCA [m,S,.int n,fnD "digit_added"]=some c):ag5 [m,S,.int n]=none/\amP [m,S,.int n]=some c:=by
 constructor
 ·refine ZH ?_
  show akM.1 [some m,some S,some (.int n)]=_
  simp only [akM,jT,qG,jN,jt,jH,lkp,cst,zzA,zzB,zzC,zzD,zzE,n1,zzI,zzH]
 ·refine (zG rfl).trans ?_
  show ao8.1 [some m,some S,some (.int n)]=_
  simp only [ao8,jt,jH,lkp,cst,zzA,zzB,zzC,zzD,zzE,n2]
end
section
variable {u e l b:Int}{ps qs:List (Int × Int)}
theorem aiG (h:okN u e l b=true) {r:Nat}{n:Int} (h1:1<=r) (h4:r<=4) (h0:0<=n) (hn:b ^ r<=n):aaN [jp u e l b,.int (r:Int),.int n]=some ("TooGreat":Str):=by
 obtain ⟨a1,a2,a3,a4,a5,a6,a7,a8,a9,a10⟩:=qx h
 have hb:0<b:=by omega
 have hd:=acr (n:=n) hb a9 h1 h4
 obtain ⟨k,rfl⟩:∃ k,r=k+1:=⟨r - 1,by omega⟩
 obtain ⟨x,xs,hx,_,hx2⟩:=aaV hb k n h0
 have hi:=ank h4 hx
 have hc:zp (fun i j=>decide (j<=i)) (.int x) (.int b)=some (.bool true):=by
  show some (PyData.bool (decide (b<=x)))=_
  rw [decide_eq_true (hx2 hn)]
 generalize hr:((k+1:Nat):Int)=rr at hd ⊢
 refine (zG rfl).trans ?_
 show acb.1 [some (jp u e l b),some (.int rr),some (.int n),none]=_
 simp only [acb,nxX,qS,jN,jt,jH,op2,lkp,cst,jQ,zzA,zzB,zzC,zzD,zzE,ix3,hd,zzF,zzG,ifX,tst,hi,hc,asB,zzM]
end
theorem asH (ds:LP) (k:Nat):ae3 ds none (some (k:Int))=ds.take k:=by
 unfold ae3
 rw [HT.sIx_none,HT.sIx_nat,List.drop_zero,Nat.sub_zero]
 by_cases h:k<=ds.length
 ·rw [Nat.min_eq_left h]
 ·rw [Nat.min_eq_right (by omega),List.take_of_length_le (by omega),List.take_of_length_le (by omega)]
theorem apf (ds:LP) (k:Nat):ae3 ds (some (k:Int)) none=ds.drop k:=by
 unfold ae3
 rw [HT.sIx_none,HT.sIx_nat]
 by_cases h:k<=ds.length
 ·rw [Nat.min_eq_left h,List.take_of_length_le (by rw [List.length_drop]; omega)]
 ·rw [Nat.min_eq_right (by omega),List.drop_of_length_le (by omega),List.drop_of_length_le (by omega),List.take_nil]
noncomputable def whB (a b:Int):PyData->Bool
 | .int i=>decide (a<=i) && decide (i<=b)
 | _=>false
theorem abH (d:PyData) (hd:noD d=true) (a b:Int):jU [d,.int a,.int b]=some (.bool (whB a b d)):=by
 cases d with
 | int i=>exact j5 i a b
 | dict k=>simp [noD] at hd
 | _=>simp [jU,jC,aaD,jK,jT,ifS,orB,tst,lkp,JD,tyn,asB,zA,chn,zp,qG,qz,whB,cst]
def adF (u l:Int):PyData->Bool
 | .tuple [x,y]=>whB 0 u x && whB 0 l y
 | _=>false
theorem ann {ds:LP} (h:noDs ds=true):∀ d ∈ ds,noD d=true:=by
 induction ds with
 | nil=>intro d hd; cases hd
 | cons x xs ih=>
  have h':noD x=true/\noDs xs=true:=by simpa [noDs] using h
  intro d hd
  rcases List.mem_cons.mp hd with rfl | q
  ·exact h'.1
  ·exact ih h'.2 d q
section
variable {u e l b:Int}
theorem akY (d:PyData) (hd:noD d=true) (h:∀ x y,d ≠ .tuple [x,y]):Qa [jp u e l b,d]=some (.bool false):=by
 cases d with
 | dict k=>simp [noD] at hd
 | tuple ds=>
  have hl:¬ (ds.length:Int)=2:=fun z=>by
   have z':ds.length=2:=by omega
   match ds,z' with
   | [x,y],_=>exact h x y rfl
  simp [Qa,jC,abk,jK,jT,ifS,orB,zA,tst,JD,tyn,asB,lkp,op2,jN,jt,jH,zB,cst,dNe,JY,ZD,qz,qG,hl]
 | _=>simp [Qa,jC,abk,jK,jT,ifS,orB,zA,tst,JD,tyn,asB,lkp,op2,jN,jt,jH,zB,cst,dNe,JY,ZD,qz,qG]
theorem aen (d:PyData) (hd:noD d=true):Qa [jp u e l b,d]=some (.bool (adF u l d)):=by
 by_cases h:∃ x y,d= .tuple [x,y]
 ·obtain ⟨x,y,rfl⟩:=h
  have hx:noD x=true/\noD y=true:=by simpa [noD,noDs] using hd
  have w1:=abH x hx.1 0 u
  have w2:=abH y hx.2 0 l
  cases c1:whB 0 u x <;> rw [c1] at w1 <;> simp [Qa,jC,abk,jK,jT,ifS,orB,zA,tst,JD,tyn,asB,lkp,op2,jN,jt,jH,zB,cst,dNe,JY,ZD,qz,qG,ae1,jp,dIx,atI,ixN,w1,w2,adF,c1]
 ·rw [akY d hd fun x y z=>h ⟨x,y,z⟩]
  congr 2
  unfold adF
  split
  ·exact absurd ⟨_,_,rfl⟩ h
  ·rfl
def adG (u l:Int):PyData->Bool
 | .tuple ds=>decide (1<=ds.length) && decide (ds.length<=4) && ds.all (adF u l)
 | _=>false
theorem aeo (hm:Q6 [jp u e l b]=some .none) (d:PyData) (hd:noD d=true):ac8 [jp u e l b,d]=some (.bool (adG u l d)):=by
 refine qN rfl ?_
 show abl.1 [some (jp u e l b),some d]=_
 simp only [abl]
 refine (qC (ρ1:=[some (jp u e l b),some d]) ?_).trans ?_
 ·simp only [abM,jN,jt,jH,lkp,zzA,zzB,zzC,zzD,zzE,hm]
 cases d with
 | dict k=>simp [noD] at hd
 | tuple ds=>
  by_cases h1:1<=ds.length
  ·by_cases h4:ds.length<=4
   ·have hf:few ds=true:=JZ (by omega)
    have c1:zp (fun i j=>decide (i<=j)) (.int 1) (.int (ds.length:Int))=some (.bool true):=by
     show some (PyData.bool (decide ((1:Int)<=(ds.length:Int))))=_
     rw [decide_eq_true (by omega)]
    have c2:zp (fun i j=>decide (i<=j)) (.int (ds.length:Int)) (.int 4)=some (.bool true):=by
     show some (PyData.bool (decide ((ds.length:Int)<=4)))=_
     rw [decide_eq_true (by omega)]
    refine (qC (ρ1:=[some (jp u e l b),some (.tuple ds)]) ?_).trans ?_
    ·simp [ifS,orB,zA,tst,JD,tyn,asB,lkp,chn,jN,jt,jH,zB,cst,qz,c1,c2]
    simp only [jT,qG,jN,jt,jH,ZR,itT,lkp,aa5,zzA,zzB,zzC,zzD,zzE,hf,zzM,aa7,List.map_cons,List.map_nil,zzH]
    rw [Qe (fun d=> .bool (adF u l d))]
    ·have:bls (ds.map fun d=>PyData.bool (adF u l d))=some (ds.map (adF u l)):=aco (adF u l) _
     simp only [zzE,zzD,alW,this,adG,decide_eq_true h1,decide_eq_true h4,Bool.true_and,List.all_map,Function.comp_def,id]
    ·intro d hd'
     simp [jN,jt,jH,lkp,aen (e:=e) (b:=b) d (ann (by simpa [noD] using hd) d hd')]
   ·have c1:zp (fun i j=>decide (i<=j)) (.int 1) (.int (ds.length:Int))=some (.bool true):=by
     show some (PyData.bool (decide ((1:Int)<=(ds.length:Int))))=_
     rw [decide_eq_true (by omega)]
    have c2:zp (fun i j=>decide (i<=j)) (.int (ds.length:Int)) (.int 4)=some (.bool false):=by
     show some (PyData.bool (decide ((ds.length:Int)<=4)))=_
     rw [decide_eq_false (by omega)]
    simp [jT,ifS,orB,zA,tst,JD,tyn,asB,lkp,chn,jN,jt,jH,zB,cst,qz,c1,c2,qG,adG,h4]
  ·have c1:zp (fun i j=>decide (i<=j)) (.int 1) (.int (ds.length:Int))=some (.bool false):=by
    show some (PyData.bool (decide ((1:Int)<=(ds.length:Int))))=_
    rw [decide_eq_false (by omega)]
   simp [jT,ifS,orB,zA,tst,JD,tyn,asB,lkp,chn,jN,jt,jH,zB,cst,qz,c1,qG,adG,h1]
 | _=>simp [jT,ifS,orB,zA,tst,JD,tyn,asB,lkp,chn,jN,jt,jH,cst,qz,qG,adG]
theorem aiH (hm:Q6 [jp u e l b]=some .none) (d:PyData) (hd:noD d=true) (hs:adG u l d=true):qF [jp u e l b,d]=some .none:=by
 have g:=aeo (e:=e) hm d hd
 rw [hs] at g
 simp [qF,jC,ab1,jK,jT,ifS,zA,tst,asB,jN,jt,jH,lkp,g,qz]
end
theorem aep {d:PyData} (h:qZ [d]=some (.bool true)):afs [d]=none:=by
 refine (zG rfl).trans ?_
 show afr.1 [some d]=_
 simp [afr,ifX,zA,tst,asB,jN,jt,jH,lkp,h,ah0]
theorem akZ {m d:PyData} (h:qZ [m]=some (.bool true)):aio [m,d]=none:=by
 have g:=aep h
 refine (zG rfl).trans ?_
 show aft.1 [some m,some d]=_
 simp [aft,jN,jt,jH,lkp,g]
theorem aiI {u e l b:Int} (hM:qZ [jp u e l b]=some (.bool true)) {d:PyData} (hd:noD d=true) (hs:adG u l d=true):JW [jp u e l b,d]=none:=by
 have g:=aeo (e:=e) (Qk hM) d hd
 rw [hs] at g
 have g2:=akZ (d:=d) hM
 refine (zG rfl).trans ?_
 show ab9.1 [some (jp u e l b),some d]=_
 simp [ab9,orX,ifX,zA,tst,asB,jN,jt,jH,lkp,g,g2,ah0]
theorem ajO {u l:Int} (p:Int × Int):adF u l (pr p)=okP u l p:=by
 simp [adF,pr,whB,okP,Bool.and_assoc]
theorem aeq {u l:Int} (ps:List (Int × Int)):adG u l (jI ps)=okS u l ps:=by
 simp only [adG,jI,okS,List.length_map,List.all_map]
 congr 2
 funext p
 exact ajO p
theorem ajP:∀ ps:List (Int × Int),noDs (ps.map pr)=true
 | []=>rfl
 | p::ps=>by simp [noDs,noD,pr,ajP ps]
theorem ado (ps:List (Int × Int)):noD (jI ps)=true:=by
 simp [noD,jI,ajP]
noncomputable abbrev rfd (i:Int):PyData:= .tuple [.str "refused",.int i]
theorem zQ {N:List Str}{n:Nat}{F:Rho->Option Str}{ds:LP}{c:Option Str} (hl:ds.length=n) (h:F (jK N ds)=c):zi N n F ds=c:=(zG hl).trans h
section
variable {u e l b:Int}{ps qs:List (Int × Int)}
theorem aiJ (h:okN u e l b=true) {r:Nat}{n:Int} (h1:1<=r) (h4:r<=4) (h0:0<=n) (hn:b ^ r<=n):JO [jp u e l b,.int (r:Int),.int n]=none:=by
 obtain ⟨a1,a2,a3,a4,a5,a6,a7,a8,a9,a10⟩:=qx h
 have hb:0<b:=by omega
 have hd:=acr (n:=n) hb a9 h1 h4
 obtain ⟨k,rfl⟩:∃ k,r=k+1:=⟨r - 1,by omega⟩
 obtain ⟨x,xs,hx,_,hx2⟩:=aaV hb k n h0
 have hi:=ank h4 hx
 have hc:zp (fun i j=>decide (j<=i)) (.int x) (.int b)=some (.bool true):=by
  show some (PyData.bool (decide (b<=x)))=_
  rw [decide_eq_true (hx2 hn)]
 generalize hr:((k+1:Nat):Int)=rr at hd ⊢
 refine ZH ?_
 show Zw.1 [some (jp u e l b),some (.int rr),some (.int n),none]=none
 dsimp? [Zw,ix3,hd,hi,hc]
end
noncomputable def dg (b:Int):Nat->Int->List Int
 | 0,_=>[]
 | k+1,n=>if 0<n then dg b k (n / b)++[n % b] else []
theorem aiK {i:Int} (h:0<=i/\i<=99999):qW [.int i]=some .none/\QH [.int i]=none:=by
 have gw:=j5 i 0 99999
 rw [decide_eq_true h.1,decide_eq_true h.2] at gw
 constructor
 ·simp [qW,jC,ab0,jK,jT,ifS,zA,tst,asB,cst,jN,jt,jH,lkp,gw,qz]
 ·refine zQ rfl ?_
  show aca.1 [some (.int i)]=_
  simp [aca,orX,ifX,zA,tst,asB,cst,jN,jt,jH,lkp,gw,ah0]
theorem apg {i:Int} (h:1<=i/\i<=4):Jc [.int i]=some .none/\adf [.int i]=none:=by
 have gw:=j5 i 1 4
 rw [decide_eq_true h.1,decide_eq_true h.2] at gw
 constructor
 ·simp [Jc,jC,aaF,jK,jT,ifS,zA,tst,asB,cst,jN,jt,jH,lkp,gw,qz]
 ·refine zQ rfl ?_
  show aaM.1 [some (.int i)]=_
  simp [aaM,orX,ifX,zA,tst,asB,cst,jN,jt,jH,lkp,gw,ah0]
theorem arm {ds:LP} (h:ds.length<50):few ds=true:=JZ (by omega)
theorem fw1 {a:PyData}:few [a]=true:=arm (by simp)
theorem fw2 {a b:PyData}:few [a,b]=true:=arm (by simp)
theorem fw3 {a b c:PyData}:few [a,b,c]=true:=arm (by simp)
theorem n2:dNe (rfd 2) (rfd 2)=some (.bool false):=by kernel_rfl
theorem ng1:ahT (.int 1)=some (.int (-1)):=rfl
def shl (n:Nat) (d:PyData):Prop:=d.canLay0=true/\d.depth<=n
theorem acs {ds:LP}:PyData.canLayAll0 ds=true ↔ ∀ d ∈ ds,d.canLay0=true:=by
 induction ds with
 | nil=>simp [PyData.canLayAll0]
 | cons x xs ih=>simp [PyData.canLayAll0,ih]
theorem act {ds:LP}{n:Nat}:PyData.depthAll ds<=n ↔ ∀ d ∈ ds,d.depth<=n:=by
 induction ds with
 | nil=>simp [PyData.depthAll]
 | cons x xs ih=>simp only [PyData.depthAll,List.mem_cons,forall_eq_or_imp,←ih]; omega
theorem af3 {n:Nat}{ds:LP}:shl (n+1) (.tuple ds) ↔ ∀ d ∈ ds,shl n d:=by
 constructor
 ·rintro ⟨h1,h2⟩ d hd
  refine ⟨acs.mp (by simpa [PyData.canLay0] using h1) d hd,act.mp ?_ d hd⟩
  simp only [PyData.depth] at h2; omega
 ·intro h
  refine ⟨by simp only [PyData.canLay0]; exact acs.mpr fun d hd=>(h d hd).1,?_⟩
  have:=act.mpr fun d hd=>(h d hd).2
  simp only [PyData.depth]; omega
theorem aph {n:Nat}{ds:LP}:shl (n+1) (.list ds) ↔ ∀ d ∈ ds,shl n d:=by
 constructor
 ·rintro ⟨h1,h2⟩ d hd
  refine ⟨acs.mp (by simpa [PyData.canLay0] using h1) d hd,act.mp ?_ d hd⟩
  simp only [PyData.depth] at h2; omega
 ·intro h
  refine ⟨by simp only [PyData.canLay0]; exact acs.mpr fun d hd=>(h d hd).1,?_⟩
  have:=act.mpr fun d hd=>(h d hd).2
  simp only [PyData.depth]; omega
theorem ano {n:Nat}{d:PyData} (h:shl n d) (hn:n<30):okD d=true:=by
 unfold okD
 rw [h.1,decide_eq_true (show d.depth<30 by have:=h.2; omega)]; rfl
theorem ajQ (i:Int):shl 1 (.int i):=⟨rfl,by simp [PyData.depth]⟩
theorem arn (p:Int × Int):shl 2 (pr p):=af3.mpr fun d hd=>by
 simp only [List.mem_cons,List.not_mem_nil,or_false] at hd
 rcases hd with rfl | rfl <;> exact ajQ _
theorem api (ps:List (Int × Int)):shl 3 (jI ps):=af3.mpr fun d hd=>by
 obtain ⟨p,_,rfl⟩:=List.mem_map.mp hd
 exact arn p
theorem af4 {ps:List (Int × Int)}{i:Nat}{p:Int × Int} (h4:ps.length<=4) (hd:ps[i]?=some p):dIx (jI ps) (.int (i:Int))=some (pr p):=by
 have hi:i<ps.length:=(List.getElem?_eq_some_iff.mp hd).1
 show (if (ps.map pr).length<1000000 then atI (ps.map pr) (i:Int) else none)=_
 rw [if_pos (by rw [List.length_map]; omega)]
 unfold atI
 rw [aiE (by omega) (by rw [List.length_map]; simpa using hi),zzD,List.getElem?_map]
 rw [show ((i:Int)).toNat=i by simp,hd]; rfl
section
variable {m s t:PyData}{c:Str}
theorem anp {d:PyData} (g:qF [m,s]=some .none) (k:Q9 [m,s,t]=some (.bool true)) (bm:JV [s,t]=some d):abo [m,s,t]=some d:=by
 refine qN rfl ?_
 show afq.1 [some m,some s,some t]=_
 dsimp? [afq,g,k,bm]
end
noncomputable def shP (p:Int × Int) (k:Bool) (c:Int):Int × Int:=if k=true then (p.1,p.2+c) else (p.1+c,p.2)
theorem atx {x y z:PyData}:dIx (.tuple [x,y,z]) (.int 0)=some x:=rfl
theorem aty {x y z:PyData}:dIx (.tuple [x,y,z]) (.int 1)=some y:=rfl
theorem atz {x y z:PyData}:dIx (.tuple [x,y,z]) (.int 2)=some z:=rfl
theorem lnt {x y z:PyData}:zB [.tuple [x,y,z]]=some (.int 3):=rfl
theorem itt {xs:LP}:aal "tuple" (.tuple xs)=some (.bool true):=rfl
theorem apj:dNe (.int 3) (.int 3)=some (.bool false):=by kernel_rfl
theorem asI (k:Bool):dIn true (afo k) (.tuple [.str "upper",.str "lower"])=some (.bool false):=by cases k <;> kernel_rfl
theorem apk {c:Int} (hc:c=1 ∨ c=-1):jU [.int c,.int (-1),.int 1]=some (.bool true)/\dNe (.int c) (.int 0)=some (.bool true)/\dIn true (.int c) (.tuple [.int 1,.int (-1)])=some (.bool false)/\aal "bool" (.int c)=some (.bool false):=by
 rcases hc with rfl | rfl <;> exact ⟨by kernel_rfl,by kernel_rfl,by kernel_rfl,rfl⟩
section
variable {u e l b:Int}{ps:List (Int × Int)}
theorem anq (x y z:PyData) {X Y Z N:Bool} (ln:zB [jI ps]=some (.int (ps.length:Int))) (wx:jU [x,.int 0,.int ((ps.length:Int) - 1)]=some (.bool X)) (iy:X=true->dIn true y (.tuple [.str "upper",.str "lower"])=some (.bool !Y)) (wz:X=true->Y=true->jU [z,.int (-1),.int 1]=some (.bool Z)) (nz:X=true->Y=true->Z=true->dNe z (.int 0)=some (.bool N)):JS [jI ps,.tuple [x,y,z]]=some (.bool (X && Y && Z && N)):=by
 have sb:ady (.int (ps.length:Int)) (.int 1)=some (.int ((ps.length:Int) - 1)):=rfl
 have e0:=atx (x:=x) (y:=y) (z:=z)
 have e1:=aty (x:=x) (y:=y) (z:=z)
 have e2:=atz (x:=x) (y:=y) (z:=z)
 have e3:=lnt (x:=x) (y:=y) (z:=z)
 have e4:=itt (xs:=[x,y,z])
 generalize PyData.tuple [x,y,z]=D at*
 generalize (ps.length:Int)=n at*
 refine qN rfl ?_
 show zn.1 [some (jI ps),some D]=_
 cases X with
 | false=>dsimp? [zn,e0,e3,e4,apj,ln,sb,wx,Bool.false_and]
 | true=>
  have iy:=iy rfl
  cases Y with
  | false=>dsimp? [zn,e0,e1,e3,e4,apj,ln,sb,wx,iy,Bool.false_and,Bool.true_and]
  | true=>
   have wz:=wz rfl rfl
   cases Z with
   | false=>dsimp? [zn,ae1,e0,e1,e2,e3,e4,apj,ln,sb,wx,iy,wz,ng1,Bool.false_and,Bool.true_and]
   | true=>
    have nz:=nz rfl rfl rfl
    dsimp? [zn,ae1,e0,e1,e2,e3,e4,apj,ln,sb,wx,iy,wz,nz,ng1,Bool.false_and,Bool.true_and]
theorem atA {r:Nat} (hr:r<ps.length):jU [.int (r:Int),.int 0,.int ((ps.length:Int) - 1)]=some (.bool true):=by
 rw [j5,decide_eq_true (by omega),decide_eq_true (by omega)]; rfl
end
theorem aer (p:Int × Int) (k:Bool) (c:Int):ab8 [pr p,afo k,.int c]=some (pr (shP p k c)):=by
 have i0:dIx (pr p) (.int 0)=some (.int p.1):=rfl
 have i1:dIx (pr p) (.int 1)=some (.int p.2):=rfl
 have a1:Jg (.int p.1) (.int c)=some (.int (p.1+c)):=rfl
 have a2:Jg (.int p.2) (.int c)=some (.int (p.2+c)):=rfl
 refine qN rfl ?_
 show aaJ.1 [some (pr p),some (afo k),some (.int c)]=_
 cases k with
 | false=>
  have q:dEq (afo false) (.str "upper")=some (.bool true):=by kernel_rfl
  dsimp? [aaJ,q,i0,i1,a1,fw2]
  rfl
 | true=>
  have q:dEq (afo true) (.str "upper")=some (.bool false):=by kernel_rfl
  dsimp? [aaJ,q,i0,i1,a2,fw2]
  rfl
theorem aes {α:Type}:∀ (ps:List α) (r:Nat) (q:α),r<ps.length->ps.set r q=ps.take r++[q]++ps.drop (r+1)
 | [],r,q,h=>by simp at h
 | p::ps,0,q,h=>rfl
 | p::ps,r+1,q,h=>by
  simp only [zzF,List.take_succ_cons,List.drop_succ_cons,List.cons_append]
  rw [aes ps r q (by simpa using h)]
section
variable {u e l b:Int}{ps:List (Int × Int)}
theorem atB {r:Nat} (hr:r<ps.length) (h4:ps.length<=4) (q:Int × Int):∃ A1 A2 A3,agH (jI ps) none (some (r:Int))=some A1/\Jg A1 (.tuple [pr q])=some A2/\agH (jI ps) (some ((r:Int)+1)) none=some A3/\Jg A2 A3=some (jI (ps.set r q)):=by
 refine ⟨.tuple ((ps.map pr).take r),.tuple ((ps.map pr).take r++[pr q]),.tuple ((ps.map pr).drop (r+1)),?_,?_,?_,?_⟩
 ·show some (PyData.tuple (ae3 _ none (some (r:Int))))=_
  rw [asH]
 ·exact ajM (.inr trivial) (by rw [List.length_take,List.length_map]; simp; omega)
 ·show some (PyData.tuple (ae3 _ (some ((r:Int)+1)) none))=_
  rw [show (r:Int)+1=((r+1:Nat):Int) by omega,apf]
 ·rw [ajM (.inr trivial) (by rw [List.length_append,List.length_take,List.length_drop,List.length_map]; simp only [List.length_cons,List.length_nil]; omega),aes ps r q hr]
  show some (PyData.tuple _)=some (PyData.tuple (List.map pr _))
  rw [List.map_append,List.map_append,List.map_take,List.map_drop]; rfl
theorem ajR (hs:okS u l ps=true) (r:Nat) {q:Int × Int} (hq:okP u l q=true):okS u l (ps.set r q)=true:=by
 obtain ⟨h1,h4,hp⟩:=abv hs
 refine arh (by rw [List.length_set]; exact h1) (by rw [List.length_set]; exact h4) (List.all_eq_true.mpr fun x hx=>?_)
 rcases List.mem_or_eq_of_mem_set hx with z | rfl
 ·exact List.all_eq_true.mp hp x z
 ·exact hq
end
structure Th (u e l b:Int) (ps:List (Int × Int)) (d:PyData) (o:Option (List (Int × Int))):Prop where
 cm:Q9 [jp u e l b,jI ps,d]=some (.bool o.isSome)
 bm:∀ qs,o=some qs->JV [jI ps,d]=some (jI qs)/\okS u l qs=true
section
variable {u e l b:Int}{ps:List (Int × Int)}
theorem asJ (hs:okS u l ps=true) {r:Nat}{p:Int × Int} (hp:ps[r]?=some p) (k:Bool) {c:Int} (hc:c=1 ∨ c=-1):Th u e l b ps (mv (r:Int) k c) (if okP u l (shP p k c)=true then some (ps.set r (shP p k c)) else none):=by
 obtain ⟨h1,h4,hall⟩:=abv hs
 obtain ⟨hr,hpe⟩:=List.getElem?_eq_some_iff.mp hp
 have hpo:okP u l p=true:=List.all_eq_true.mp hall p (by rw [←hpe]; exact List.getElem_mem _)
 have hpo':0<=p.1/\p.1<=u/\0<=p.2/\p.2<=l:=by simp only [okP,Bool.and_eq_true,decide_eq_true_eq] at hpo; omega
 obtain ⟨f1,f2,f3,f4⟩:=apk hc
 have ixT:=af4 h4 hp
 have k1:=anq (X:=true) (Y:=true) (Z:=true) (N:=true) (.int (r:Int)) (afo k) (.int c) (aaW ps) (atA hr) (fun _=>asI k) (fun _ _=>f1) (fun _ _ _=>f2)
 obtain ⟨A1,A2,A3,s1,s2,s3,s4⟩:=atB hr h4 (shP p k c)
 have gr:=aen (u:=u) (e:=e) (l:=l) (b:=b) (pr (shP p k c)) rfl
 rw [ajO] at gr
 refine ⟨?_,fun qs z=>?_⟩
 ·have e0:dIx (mv (r:Int) k c) (.int 0)=some (.int (r:Int)):=rfl
  have e1:dIx (mv (r:Int) k c) (.int 1)=some (afo k):=rfl
  have e2:dIx (mv (r:Int) k c) (.int 2)=some (.int c):=rfl
  have pu:=aer p k c
  have k1':JS [jI ps,mv (r:Int) k c]=some (.bool true):=k1
  have io:(if okP u l (shP p k c)=true then some (ps.set r (shP p k c)) else none).isSome=okP u l (shP p k c):=by split <;> simp_all
  rw [io]
  generalize mv (r:Int) k c=D at*
  generalize okP u l (shP p k c)=OK at*
  generalize pr (shP p k c)=Q at*
  refine qN rfl ?_
  show aaL.1 [some (jp u e l b),some (jI ps),some D]=_
  dsimp? [aaL,k1',e0,e1,e2,ixT,pu,gr]
 ·by_cases ho:okP u l (shP p k c)=true
  ·rw [if_pos ho] at z
   cases z
   refine ⟨?_,ajR hs r ho⟩
   have e0:dIx (mv (r:Int) k c) (.int 0)=some (.int (r:Int)):=rfl
   have e1:dIx (mv (r:Int) k c) (.int 1)=some (afo k):=rfl
   have e2:dIx (mv (r:Int) k c) (.int 2)=some (.int c):=rfl
   have a1:Jg (.int (r:Int)) (.int 1)=some (.int ((r:Int)+1)):=rfl
   have pu:=aer p k c
   generalize mv (r:Int) k c=D at*
   generalize pr (shP p k c)=Q at*
   generalize jI (ps.set r (shP p k c))=R at*
   refine qN rfl ?_
   show JU.1 [some (jI ps),some D,none]=_
   dsimp? [JU,ad2,Zl,inI,e0,e1,e2,a1,ixT,pu,s1,fw1,s2,s3,s4]
  ·rw [if_neg ho] at z; cases z
theorem asK (H:zo=true) (h:okN u e l b=true) (hs:okS u l ps=true):qF [jp u e l b,jI ps]=some .none/\True:=by
 have hM:=akU H h
 have hb:adG u l (jI ps)=true:=by rw [aeq]; exact hs
 exact ⟨aiH (Qk hM) _ (ado ps) hb,trivial⟩
theorem anr (H:zo=true) (h:okN u e l b=true) {ps qs:List (Int × Int)}{d:PyData} (hs:okS u l ps=true) (t:Th u e l b ps d (some qs)):abo [jp u e l b,jI ps,d]=some (jI qs):=
 anp (asK H h hs).1 t.cm (t.bm _ rfl).1
end
theorem atC {tt:Rho->Option Bool}{A B:RO}{ρ:Rho} (h:tt ρ=some true):ifS tt A B ρ=A ρ:=by
 show (tt ρ).bind _=_
 rw [h]; rfl
theorem aro {tt:Rho->Option Bool}{A:RO}{ρ:Rho} (h:tt ρ=some false):ifS tt A (fun ρ=>some (.nx ρ)) ρ=some (.nx ρ):=by
 show (tt ρ).bind _=_
 rw [h]; rfl
theorem qU {i:Nat}{f:RP}{ρ:Rho}{d:PyData} (h:f ρ=some d):qS f (jQ i) ρ=some (.nx (ρ.set i (some d))):=by
 show (f ρ).bind _=_
 rw [h]; rfl
theorem qj {g:PyData->PyData->OP}{f1 f2:RP}{ρ:Rho}{x y z:PyData} (h1:f1 ρ=some x) (h2:f2 ρ=some y) (h3:g x y=some z):op2 g f1 f2 ρ=some z:=by
 show (f1 ρ).bind _=_
 rw [h1,zzD,h2,zzD,h3]
theorem qX {g:LP->OP}{fs:Rho->Option (LP)}{ρ:Rho}{ds:LP}{d:PyData} (h1:fs ρ=some ds) (h2:g ds=some d):jN g fs ρ=some d:=by
 show (fs ρ).bind _=_
 rw [h1,zzD,h2]
theorem qg {f:RP}{fs:Rho->Option (LP)}{ρ:Rho}{d:PyData}{ds:LP} (h1:f ρ=some d) (h2:fs ρ=some ds):jt f fs ρ=some (d::ds):=by
 unfold jt
 rw [h1,zzD,h2]; rfl
theorem QK {f:RP}{ρ:Rho}{c:Bool} (h:f ρ=some (.bool c)):tst f ρ=some c:=by
 show (f ρ).bind _=_
 rw [h]; rfl
section
variable {u e l b:Int}
theorem ahh (h:okN u e l b=true) {p:Int × Int} (hp:okP u l p=true):qH [jp u e l b,pr p]=some (.int (wt e p)):=by
 obtain ⟨a1,a2,a3,a4,a5,a6,a7,a8,a9,a10⟩:=qx h
 obtain ⟨q1,q2,q3,q4⟩:=Jz hp
 exact QJ u e l b p.1 p.2 ⟨by omega,by omega⟩
end
noncomputable abbrev PL:=List (Int × Int)
noncomputable abbrev z00:Int × Int:=(0,0)
def chg (b e:Int) (ps:PL):Nat->Int->Option (List (Nat × Int))
 | 0,dg=>if dg=0 then some [] else none
 | i+1,dg=>if dg=0 then some [] else (chg b e ps i ((wt e (ps.getD i z00)+dg) / b)).map fun cs=>cs++[(i,(wt e (ps.getD i z00)+dg) % b)]
theorem af5 {b e:Int}{ps:PL}:∀ (i:Nat) (dg:Int) (cs:List (Nat × Int)),chg b e ps i dg=some cs->cs.length<=i
 | 0,dg,cs,h=>by
  unfold chg at h
  split at h
  ·cases h; exact Nat.le_refl _
  ·cases h
 | i+1,dg,cs,h=>by
  unfold chg at h
  split at h
  ·cases h; exact Nat.zero_le _
  ·cases hc:chg b e ps i ((wt e (ps.getD i z00)+dg) / b) with
   | none=>rw [hc] at h; cases h
   | some c1=>
    rw [hc] at h
    cases h
    have:=af5 i _ c1 hc
    simp only [List.length_append,List.length_cons,List.length_nil]; omega
section
variable {u e l b:Int}
theorem asL (H:zo=true) (h:okN u e l b=true) {ps:PL} (hk:ps.all (okP u l)=true) (h4:ps.length<=4):∀ (i k:Nat) (dg:Int),i<=ps.length->0<=dg->
  (∀ cs,chg b e ps i dg=some cs->gDA (i+1+k) [jp u e l b,jI ps,.int ((i:Int) - 1),.int dg]=some (.list (cs.map (QR (jp u e l b)))))/\
  (chg b e ps i dg=none->gDA (i+1+k) [jp u e l b,jI ps,.int ((i:Int) - 1),.int dg]=none/\tDA (i+1+k) [jp u e l b,jI ps,.int ((i:Int) - 1),.int dg]=some ("TooGreat":Str)):=by
 obtain ⟨a1,a2,a3,a4,a5,a6,a7,a8,a9,a10⟩:=qx h
 have hb:0<b:=by omega
 intro i
 induction i with
 | zero=>
  intro k dg hi d0
  rw [show 0+1+k=k+1 by omega]
  by_cases hz:dg=0
  ·subst hz
   refine ⟨fun cs hc=>?_,fun hc=>?_⟩
   ·have:cs=[]:=by rw [chg,if_pos rfl] at hc; exact (Option.some.inj hc).symm
    subst this
    exact ajN
   ·rw [chg,if_pos rfl] at hc; cases hc
  ·refine ⟨fun cs hc=>?_,fun _=>arj hz (by omega)⟩
   rw [chg,if_neg hz] at hc; cases hc
 | succ i ih=>
  intro k dg hi d0
  rw [show i+1+1+k=(i+1+k)+1 by omega,show (((i+1:Nat):Int) - 1)=(i:Int) by omega]
  by_cases hz:dg=0
  ·subst hz
   refine ⟨fun cs hc=>?_,fun hc=>?_⟩
   ·have:cs=[]:=by rw [chg,if_pos rfl] at hc; exact (Option.some.inj hc).symm
    subst this
    exact ajN
   ·rw [chg,if_pos rfl] at hc; cases hc
  have hd:ps[i]?=some (ps.getD i z00):=by
   rw [List.getD_eq_getElem?_getD,List.getElem?_eq_getElem (by omega)]; rfl
  have hpk:okP u l (ps.getD i z00)=true:=List.all_eq_true.mp hk _ (List.mem_of_getElem? hd)
  generalize hp:ps.getD i z00=p at hd hpk
  have w0:=ang a3 hpk
  have c0:0<=(wt e p+dg) / b:=Int.ediv_nonneg (by omega) (by omega)
  have m0:0<=(wt e p+dg) % b:=Int.emod_nonneg _ (by omega)
  have m1:(wt e p+dg) % b<b:=Int.emod_lt_of_pos _ hb
  have fw:=Jy H h m0 m1
  obtain ⟨ih1,ih2⟩:=ih k ((wt e p+dg) / b) (by omega) c0
  refine ⟨fun cs hc=>?_,fun hc=>?_⟩
  ·rw [chg,if_neg hz,hp] at hc
   cases hq:chg b e ps i ((wt e p+dg) / b) with
   | none=>rw [hq] at hc; cases hc
   | some c1=>
    rw [hq] at hc
    cases hc
    have hl:=af5 i _ c1 hq
    rw [List.map_append]
    exact asG (g:=gDA (i+1+k)) hz (by omega) (af4 h4 hd) (ahh h hpk) (ih1 c1 hq) rfl hb a9 fw.1 (by rw [List.length_map]; omega)
  ·rw [chg,if_neg hz,hp] at hc
   cases hq:chg b e ps i ((wt e p+dg) / b) with
   | some c1=>rw [hq] at hc; cases hc
   | none=>
    obtain ⟨n1,n2⟩:=ih2 hq
    exact ark (g:=gDA (i+1+k)) (t:=tDA (i+1+k)) hz (by omega) (af4 h4 hd) (ahh h hpk) rfl hb a9 n1 n2
def zu (m:PyData) (cs:List (Nat × Int)) (ps:List (Int × Int)):List (Int × Int):=cs.foldl (fun ps c=>ps.set c.1 (fpr m c.2)) ps
theorem ak0 (m:PyData) (a c:List (Nat × Int)) (ps:List (Int × Int)):zu m (a++c) ps=zu m c (zu m a ps):=by unfold zu; rw [List.foldl_append]
theorem ZI (m:PyData):∀ (cs:List (Nat × Int)) (ps:List (Int × Int)),(zu m cs ps).length=ps.length
 | [],_=>rfl
 | c::cs,ps=>by
  show (zu m cs (ps.set c.1 (fpr m c.2))).length=_
  rw [ZI m cs,List.length_set]
theorem ak1 {m:PyData}{S C:OP}{ps:List (Int × Int)}{i:Nat}{d:Int} (hi:i<ps.length):
  adb.1 [S,C,some (.list (ps.map pr)),some (.int (i:Int)),some (Ze m d)]=some (.nx [S,C,some (.list ((ps.set i (fpr m d)).map pr)),some (.int (i:Int)),some (Ze m d)]):=by
 have hx:ixN (ps.map pr).length (i:Int)=some i:=by
  rw [aiE (by omega) (by rw [List.length_map]; simpa using hi)]; simp
 have e1:(ps.map pr).set i (Ze m d)=(ps.set i (fpr m d)).map pr:=by rw [List.map_set]; rfl
 simp only [adb,jT,aoz,amh,brw,hid,lkp,zzF,zzG,zzA,zzB,zzC,hx,zzE,zzD,qz,e1]
theorem aet {m:PyData}{S C:OP}:∀ (cs:List (Nat × Int)) (ps:List (Int × Int)) (x3 x4:OP),(∀ c ∈ cs,c.1<ps.length)->
  ∃ y3 y4,ql (zz 2 (jG (jQ 3) (jG (jQ 4) qv))) adb.1 (cs.map (QR m)) [S,C,some (.list (ps.map pr)),x3,x4]=some (.nx [S,C,some (.list ((zu m cs ps).map pr)),y3,y4])
 | [],ps,x3,x4,_=>⟨x3,x4,rfl⟩
 | c::cs,ps,x3,x4,h=>by
  obtain ⟨y3,y4,ih⟩:=aet (m:=m) (S:=S) (C:=C) cs (ps.set c.1 (fpr m c.2)) (some (.int (c.1:Int))) (some (Ze m c.2)) fun q hq=>by rw [List.length_set]; exact h q (List.mem_cons_of_mem _ hq)
  refine ⟨y3,y4,?_⟩
  have st:=ak1 (m:=m) (S:=S) (C:=C) (ps:=ps) (i:=c.1) (d:=c.2) (h c List.mem_cons_self)
  rw [List.map_cons,ql]
  show ((zz 2 (jG (jQ 3) (jG (jQ 4) qv))) (.tuple [.int (c.1:Int),Ze m c.2]) _).bind _=_
  simp only [zz,jG,qv,jQ,List.length_cons,List.length_nil,zzM,zzD,zzF,zzG,st]
  exact ih
theorem ahi {m:PyData}{cs:List (Nat × Int)}{ps:List (Int × Int)} (h:∀ c ∈ cs,c.1<ps.length):aim [jI ps,.list (cs.map (QR m))]=some (jI (zu m cs ps)):=by
 obtain ⟨y3,y4,lp⟩:=aet (m:=m) (S:=some (jI ps)) (C:=some (.list (cs.map (QR m)))) cs ps none none h
 refine qN rfl ?_
 show ao7.1 [some (jI ps),some (.list (cs.map (QR m))),none,none,none]=_
 have dl:abU [jI ps]=some (.list (ps.map pr)):=rfl
 have dt:ae2 [.list ((zu m cs ps).map pr)]=some (jI (zu m cs ps)):=rfl
 simp only [ao7,abb,jN,jt,jH,lkp,zzA,zzC,zzD,zzE,dl,List.length_cons,List.length_nil,zzF,zzG]
 rw [if_pos (by omega)]
 have fr:aa6 (fun ρ=>itL (lkp 1) (hid (some 2) ρ)) (zz 2 (jG (jQ 3) (jG (jQ 4) qv))) adb.1 [some (jI ps),some (.list (cs.map (QR m))),some (.list (ps.map pr)),none,none]=some (.nx [some (jI ps),some (.list (cs.map (QR m))),some (.list ((zu m cs ps).map pr)),y3,y4]):=by
  simp only [aa6,itL,hid,lkp,zzF,zzG,zzA,zzB,zzC,zzD,QS]
  exact lp
 rw [qC fr]
 simp only [jT,qG,jN,jt,jH,lkp,zzA,zzB,zzC,zzD,zzE,dt]
end
theorem ak2 {x:Str}{g:LP->OP}{m S N:PyData}{b:Int}{r:Int}{dl ch:LP}{y5 y6 y7 y8:OP} (i3:dIx m (.int 3)=some (.int b)) (hl:zB [S]=some (.int r)) (hd:abO [.int b,.int r,N]=some (.list dl))
  (lp:ql (zz 2 (jG (jQ 6) (jG (jQ 7) qv))) (zm x g).1 (Jp 0 dl) [some m,some S,some N,some (fnD x),some (.list []),some S,none,none,none]=some (.nx [some m,some S,some N,some (fnD x),some (.list ch),y5,y6,y7,y8])):
  ara x g [m,S,N,fnD x]=some (.list ch):=by
 refine qN rfl ?_
 show (akL x g).1 [some m,some S,some N,some (fnD x),none,none,none,none,none]=_
 have st1:qS (brw (some 4) (lkp 1)) (jQ 5) [some m,some S,some N,some (fnD x),some (.list []),none,none,none,none]=some (.nx [some m,some S,some N,some (fnD x),some (.list []),some S,none,none,none]):=by
  simp only [qS,brw,hid,lkp,jQ,zzA,zzB,zzC,zzD,zzE,zzF,zzG]
 have st2:aa6 (fun ρ=>(jt (jN abO (jt (op2 dIx (lkp 0) (cst (PyData.int 3))) (jt (jN zB (jt (lkp 1) jH)) (jt (lkp 2) jH)))) jH (hid (some 4) ρ)).bind aau) (zz 2 (jG (jQ 6) (jG (jQ 7) qv))) (zm x g).1 [some m,some S,some N,some (fnD x),some (.list []),some S,none,none,none]=some (.nx [some m,some S,some N,some (fnD x),some (.list ch),y5,y6,y7,y8]):=by
  simp only [aa6,jN,op2,jt,jH,hid,lkp,cst,zzA,zzB,zzC,zzD,zzE,zzF,zzG,i3,hl,hd,aau]
  exact lp
 simp only [akL,abb,Je,jH,zzD,aaT,zzM,List.length_cons,List.length_nil,zzF,zzG]
 rw [if_pos (by omega),qC st1,qC st2]
 simp only [jT,qG,lkp,zzA,zzB,zzC,zzD,zzE]
theorem ak3 {x:Str}{g:LP->OP}{m S N:PyData}{b:Int}{r:Int}{dl:LP} (i3:dIx m (.int 3)=some (.int b)) (hl:zB [S]=some (.int r)) (hd:abO [.int b,.int r,N]=some (.list dl))
  (lp:ql (zz 2 (jG (jQ 6) (jG (jQ 7) qv))) (zm x g).1 (Jp 0 dl) [some m,some S,some N,some (fnD x),some (.list []),some S,none,none,none]=none):ara x g [m,S,N,fnD x]=none:=by
 refine ZH ?_
 show (akL x g).1 [some m,some S,some N,some (fnD x),none,none,none,none,none]=_
 have st1:qS (brw (some 4) (lkp 1)) (jQ 5) [some m,some S,some N,some (fnD x),some (.list []),none,none,none,none]=some (.nx [some m,some S,some N,some (fnD x),some (.list []),some S,none,none,none]):=by
  simp only [qS,brw,hid,lkp,jQ,zzA,zzB,zzC,zzD,zzE,zzF,zzG]
 have st2:aa6 (fun ρ=>(jt (jN abO (jt (op2 dIx (lkp 0) (cst (PyData.int 3))) (jt (jN zB (jt (lkp 1) jH)) (jt (lkp 2) jH)))) jH (hid (some 4) ρ)).bind aau) (zz 2 (jG (jQ 6) (jG (jQ 7) qv))) (zm x g).1 [some m,some S,some N,some (fnD x),some (.list []),some S,none,none,none]=none:=by
  simp only [aa6,jN,op2,jt,jH,hid,lkp,cst,zzA,zzB,zzC,zzD,zzE,zzF,zzG,i3,hl,hd,aau]
  exact lp
 simp only [akL,abb,Je,jH,zzD,aaT,zzM,List.length_cons,List.length_nil,zzF,zzG]
 rw [if_pos (by omega),qC st1]
 unfold jT
 rw [st2]; rfl
abbrev itC:Rho->Option (LP):=fun ρ=>(jt (jN abO (jt (op2 dIx (lkp 0) (cst (PyData.int 3))) (jt (jN zB (jt (lkp 1) jH)) (jt (lkp 2) jH)))) jH (hid (some 4) ρ)).bind aau
theorem ak4 {m S N:PyData}{b:Int}{r:Int}{dl:LP}{c:Str} (i3:dIx m (.int 3)=some (.int b)) (hl:zB [S]=some (.int r)) (hd:abO [.int b,.int r,N]=some (.list dl))
  (lp:Qf (zz 2 (jG (jQ 6) (jG (jQ 7) qv))) (zm "digit_added" (gDA 6)).1 (fxC "digit_added" (tDA 6)) (Jp 0 dl) [some m,some S,some N,some (fnD "digit_added"),some (.list []),some S,none,none,none]=some c):tCA [m,S,N,fnD "digit_added"]=some c:=by
 refine (zG rfl).trans ?_
 show ah6 4 (Je jH) (nxX (qS (brw (some 4) (lkp 1)) (jQ 5)) (agL itC (zz 2 (jG (jQ 6) (jG (jQ 7) qv))) (zm "digit_added" (gDA 6)).1 (fxC "digit_added" (tDA 6)))) [some m,some S,some N,some (fnD "digit_added"),none,none,none,none,none]=_
 have st1:qS (brw (some 4) (lkp 1)) (jQ 5) [some m,some S,some N,some (fnD "digit_added"),some (.list []),none,none,none,none]=some (.nx [some m,some S,some N,some (fnD "digit_added"),some (.list []),some S,none,none,none]):=by
  simp only [qS,brw,hid,lkp,jQ,zzA,zzB,zzC,zzD,zzE,zzF,zzG]
 have st2:agL itC (zz 2 (jG (jQ 6) (jG (jQ 7) qv))) (zm "digit_added" (gDA 6)).1 (fxC "digit_added" (tDA 6)) [some m,some S,some N,some (fnD "digit_added"),some (.list []),some S,none,none,none]=some c:=by
  simp only [agL,itC,jN,op2,jt,jH,hid,lkp,cst,zzA,zzB,zzC,zzD,zzE,zzF,zzG,i3,hl,hd,aau]
  exact lp
 have nw:ah6 4 (Je jH) (nxX (qS (brw (some 4) (lkp 1)) (jQ 5)) (agL itC (zz 2 (jG (jQ 6) (jG (jQ 7) qv))) (zm "digit_added" (gDA 6)).1 (fxC "digit_added" (tDA 6)))) [some m,some S,some N,some (fnD "digit_added"),none,none,none,none,none]=nxX (qS (brw (some 4) (lkp 1)) (jQ 5)) (agL itC (zz 2 (jG (jQ 6) (jG (jQ 7) qv))) (zm "digit_added" (gDA 6)).1 (fxC "digit_added" (tDA 6))) [some m,some S,some N,some (fnD "digit_added"),some (.list []),none,none,none,none]:=by
  unfold ah6
  simp only [Je,jH,zzD,aaT,zzM,List.length_cons,List.length_nil,zzF,zzG]
  rw [if_pos (by omega)]
 rw [nw]
 unfold nxX
 rw [st1,zzD]
 exact st2
section
variable {u e l b:Int}
theorem aiL {ps:PL} (hb:0<b):∀ (i:Nat) (dg:Int) (cs:List (Nat × Int)),chg b e ps i dg=some cs->∀ c ∈ cs,c.1<i/\0<=c.2/\c.2<b
 | 0,dg,cs,h=>by
  unfold chg at h
  split at h
  ·cases h; exact fun c hc=>nomatch hc
  ·cases h
 | i+1,dg,cs,h=>by
  unfold chg at h
  split at h
  ·cases h; exact fun c hc=>nomatch hc
  ·cases hq:chg b e ps i ((wt e (ps.getD i z00)+dg) / b) with
   | none=>rw [hq] at h; cases h
   | some c1=>
    rw [hq] at h
    cases h
    intro c hc
    rcases List.mem_append.mp hc with z | z
    ·obtain ⟨q1,q2⟩:=aiL hb i _ c1 hq c z
     exact ⟨by omega,q2⟩
    ·rw [List.mem_singleton.mp z]
     exact ⟨Nat.lt_succ_self _,Int.emod_nonneg _ (by omega),Int.emod_lt_of_pos _ hb⟩
theorem adp (H:zo=true) (h:okN u e l b=true):∀ (cs:List (Nat × Int)) (ps:PL),(∀ c ∈ cs,0<=c.2/\c.2<b)->ps.all (okP u l)=true->(zu (jp u e l b) cs ps).all (okP u l)=true
 | [],ps,_,hk=>hk
 | c::cs,ps,hc,hk=>by
  have fw:=Jy H h (hc c List.mem_cons_self).1 (hc c List.mem_cons_self).2
  refine adp H h cs (ps.set c.1 (fpr (jp u e l b) c.2)) (fun d hd=>hc d (List.mem_cons_of_mem _ hd)) ?_
  refine List.all_eq_true.mpr fun p hp=>?_
  rcases List.mem_or_eq_of_mem_set hp with q | q
  ·exact List.all_eq_true.mp hk p q
  ·rw [q]; exact fw.2.2
def QL (M:PyData) (b e:Int):List Int->Nat->PL->Option (List (Nat × Int) × PL)
 | [],_,ps=>some ([],ps)
 | d::ds,i,ps=>(chg b e ps (i+1) d).bind fun cs=>(QL M b e ds (i+1) (zu M cs ps)).map fun q=>(cs++q.1,q.2)
theorem ajS (H:zo=true) (h:okN u e l b=true) {r:Nat} (h4:r<=4) {S N:PyData}:∀ (ds:List Int) (i:Nat) (ps:PL) (acc:List (Nat × Int)) (x6 x7 x8:OP),i+ds.length=r->ps.length=r->ps.all (okP u l)=true->(∀ d ∈ ds,0<=d)->acc.length<=10*i->
  (∀ res,QL (jp u e l b) b e ds i ps=some res->∃ y6 y7 y8,ql (zz 2 (jG (jQ 6) (jG (jQ 7) qv))) (zm "digit_added" (gDA 6)).1 (Jp i (ds.map .int)) [some (jp u e l b),some S,some N,some (fnD "digit_added"),some (.list (acc.map (QR (jp u e l b)))),some (jI ps),x6,x7,x8]=some (.nx [some (jp u e l b),some S,some N,some (fnD "digit_added"),some (.list ((acc++res.1).map (QR (jp u e l b)))),some (jI res.2),y6,y7,y8]))/\
  (QL (jp u e l b) b e ds i ps=none->ql (zz 2 (jG (jQ 6) (jG (jQ 7) qv))) (zm "digit_added" (gDA 6)).1 (Jp i (ds.map .int)) [some (jp u e l b),some S,some N,some (fnD "digit_added"),some (.list (acc.map (QR (jp u e l b)))),some (jI ps),x6,x7,x8]=none/\
   Qf (zz 2 (jG (jQ 6) (jG (jQ 7) qv))) (zm "digit_added" (gDA 6)).1 (fxC "digit_added" (tDA 6)) (Jp i (ds.map .int)) [some (jp u e l b),some S,some N,some (fnD "digit_added"),some (.list (acc.map (QR (jp u e l b)))),some (jI ps),x6,x7,x8]=some ("TooGreat":Str))
 | [],i,ps,acc,x6,x7,x8,_,_,_,_,_=>⟨fun res hr=>by cases hr; exact ⟨x6,x7,x8,by rw [List.append_nil]; rfl⟩,fun hr=>nomatch hr⟩
 | d::ds,i,ps,acc,x6,x7,x8,hi,hl,hk,hd,ha=>by
  obtain ⟨a1,a2,a3,a4,a5,a6,a7,a8,a9,a10⟩:=qx h
  have hb:0<b:=by omega
  rw [List.length_cons] at hi
  have en:Jp i ((d::ds).map PyData.int)= .tuple [.int (i:Int),.int d]::Jp (i+1) (ds.map .int):=rfl
  rw [en]
  obtain ⟨e1,e2⟩:=asL H h hk (by omega) (i+1) (6 - (i+2)) d (by omega) (hd d List.mem_cons_self)
  rw [show i+1+1+(6 - (i+2))=6 by omega,show (((i+1:Nat):Int) - 1)=(i:Int) by omega] at e1 e2
  cases hq:chg b e ps (i+1) d with
  | none=>
   obtain ⟨n1,n2⟩:=e2 hq
   have an:QL (jp u e l b) b e (d::ds) i ps=none:=by rw [QL,hq]; rfl
   refine ⟨fun res hr=>(by rw [an] at hr; cases hr),fun _=>?_⟩
   obtain ⟨c1,c2⟩:=ape (x:="digit_added") (S:=S) (N:=N) (x8:=x8) (ch:=acc.map (QR (jp u e l b))) n1 n2
   refine ⟨?_,?_⟩
   ·rw [ql]
    simp only [zz,jG,qv,jQ,List.length_cons,List.length_nil,zzM,zzD,zzF,zzG,c1,zzH]
   ·rw [Qf]
    simp only [zz,jG,qv,jQ,List.length_cons,List.length_nil,zzM,zzD,zzF,zzG,c1]
    exact c2
  | some cs=>
   have run:=e1 cs hq
   have ok:=aiL (e:=e) hb (i+1) d cs hq
   have cl:=af5 (i+1) d cs hq
   have bh:=ahi (m:=jp u e l b) (cs:=cs) (ps:=ps) fun c hc=>by have:=(ok c hc).1; omega
   have ci:=ari (x:="digit_added") (g:=gDA 6) (S:=S) (N:=N) (x8:=x8) (ch:=acc.map (QR (jp u e l b))) run bh (anl _ cs) (by rw [List.length_map,List.length_map]; omega)
   obtain ⟨f1,f2⟩:=ajS H h h4 (S:=S) (N:=N) ds (i+1) (zu (jp u e l b) cs ps) (acc++cs) (some (.int (i:Int))) (some (.int d)) (some (.list (cs.map (QR (jp u e l b))))) (by omega) (by rw [ZI]; exact hl) (adp H h cs ps (fun c hc=>(ok c hc).2) hk) (fun x hx=>hd x (List.mem_cons_of_mem _ hx)) (by rw [List.length_append]; omega)
   rw [List.map_append] at f1 f2
   have ad:QL (jp u e l b) b e (d::ds) i ps=(QL (jp u e l b) b e ds (i+1) (zu (jp u e l b) cs ps)).map fun q=>(cs++q.1,q.2):=by rw [QL,hq]; rfl
   refine ⟨fun res hr=>?_,fun hr=>?_⟩
   ·rw [ad] at hr
    cases hs:QL (jp u e l b) b e ds (i+1) (zu (jp u e l b) cs ps) with
    | none=>rw [hs] at hr; cases hr
    | some q=>
     rw [hs] at hr
     cases hr
     obtain ⟨y6,y7,y8,l1⟩:=f1 q hs
     refine ⟨y6,y7,y8,?_⟩
     rw [ql]
     simp only [zz,jG,qv,jQ,List.length_cons,List.length_nil,zzM,zzD,zzF,zzG,ci]
     rw [l1,List.append_assoc]
   ·rw [ad] at hr
    cases hs:QL (jp u e l b) b e ds (i+1) (zu (jp u e l b) cs ps) with
    | some q=>rw [hs] at hr; cases hr
    | none=>
     obtain ⟨l1,l2⟩:=f2 hs
     refine ⟨?_,?_⟩
     ·rw [ql]
      simp only [zz,jG,qv,jQ,List.length_cons,List.length_nil,zzM,zzD,zzF,zzG,ci]
      exact l1
     ·rw [Qf]
      simp only [zz,jG,qv,jQ,List.length_cons,List.length_nil,zzM,zzD,zzF,zzG,ci]
      exact l2
theorem asM (H:zo=true) (h:okN u e l b=true) {ps:PL}{n:Int}{r:Nat} (hr:ps.length=r) (h1:1<=r) (h4:r<=4) (hk:ps.all (okP u l)=true) (n0:0<=n) (nn:∀ d ∈ dgl b r n,0<=d):
  (∀ res,QL (jp u e l b) b e (dgl b r n) 0 ps=some res->ag5 [jp u e l b,jI ps,.int n]=some (.list (res.1.map (QR (jp u e l b)))))/\
  (QL (jp u e l b) b e (dgl b r n) 0 ps=none->ag5 [jp u e l b,jI ps,.int n]=none/\amP [jp u e l b,jI ps,.int n]=some ("TooGreat":Str)):=by
 obtain ⟨a1,a2,a3,a4,a5,a6,a7,a8,a9,a10⟩:=qx h
 have hb:0<b:=by omega
 have gd:=acr (n:=n) hb a9 h1 h4
 have i3:dIx (jp u e l b) (.int 3)=some (.int b):=rfl
 have sl:zB [jI ps]=some (.int (r:Int)):=by
  have:=aaW ps
  rw [hr] at this; exact this
 obtain ⟨c1,c2⟩:=ajS H h h4 (S:=jI ps) (N:= .int n) (dgl b r n) 0 ps [] none none none (by rw [ZF]; omega) hr hk nn (Nat.zero_le _)
 refine ⟨fun res hres=>?_,fun hres=>?_⟩
 ·obtain ⟨y6,y7,y8,l1⟩:=c1 res hres
  exact anm (ak2 i3 sl gd l1)
 ·obtain ⟨l1,l2⟩:=c2 hres
  exact arl (ak3 i3 sl gd l1) (ak4 i3 sl gd l2)
theorem ajT (hb:0<b):∀ (k:Nat) (n:Int),dgl b (k+1) n=(List.range (k+1)).map (dig b (k+1) n)
 | 0,n=>by
  show [n]=_
  simp [dig]
 | k+1,n=>by
  show dgl b (k+1) (n / b)++[n % b]=_
  rw [ajT hb k (n / b),List.range_succ (n:=k+1),List.map_append]
  congr 1
  ·apply List.map_congr_left
   intro i hi
   have hi:=List.mem_range.mp hi
   have e1:k+1+1 - 1 - i=(k+1 - 1 - i)+1:=by omega
   have e2:n / b ^ (k+1+1 - 1 - i)=n / b / b ^ (k+1 - 1 - i):=by
    rw [e1,Int.pow_succ,Int.mul_comm,Int.ediv_ediv_of_nonneg (by omega)]
   unfold dig
   rw [e2]
  ·simp [dig]
theorem arp (hb:0<b) {r:Nat}{n:Int} (n0:0<=n) (i:Nat):0<=dig b r n i:=by
 have:=adm hb (r - 1 - i)
 unfold dig
 split
 ·exact Int.emod_nonneg _ (by omega)
 ·exact Int.ediv_nonneg n0 (by omega)
end
section
variable {m s t d C:PyData}{c:Str}
theorem arq (g:qF [m,s]=some .none) (g2:qW [t]=some .none) (g3:ag5 [m,s,t]=some C):JQ [m,s,t]=some C:=by
 simp [JQ,jC,ab6,jK,jT,abM,qG,jN,jt,jH,lkp,g,g2,g3]
theorem asN (g:qF [m,s]=some .none) (x:JW [m,s]=none) (g2:qW [t]=some .none) (x2:QH [t]=none) (g3:ag5 [m,s,t]=none) (x3:amP [m,s,t]=some c):JQ [m,s,t]=none/\acf [m,s,t]=some c:=by
 constructor
 ·simp [JQ,jC,ab6,jK,jT,abM,qG,jN,jt,jH,lkp,g,g2,g3]
 ·refine zQ rfl ?_
  show ace.1 [some m,some s,some t]=_
  simp [ace,orX,nxX,abM,jN,jt,jH,lkp,g,x,g2,x2,x3]
theorem ans (g:JQ [m,s,t]=some C) (g2:aim [s,C]=some d):Q7 [m,s,t]=some d:=by
 simp [Q7,jC,afn,jK,jT,qG,jN,jt,jH,lkp,g,g2]
theorem apl (g:JQ [m,s,t]=none) (x:acf [m,s,t]=some c):Q7 [m,s,t]=none/\adg [m,s,t]=some c:=by
 constructor
 ·simp [Q7,jC,afn,jK,jT,qG,jN,jt,jH,lkp,g]
 ·refine zQ rfl ?_
  show afw.1 [some m,some s,some t]=_
  simp [afw,aoD,jN,jt,jH,lkp,x]
end
section
variable {u e l b:Int}
theorem ahj {M:PyData}:∀ (ds:List Int) (i:Nat) (ps:PL) (res:List (Nat × Int) × PL),QL M b e ds i ps=some res->res.2=zu M res.1 ps
 | [],i,ps,res,h=>by cases h; rfl
 | d::ds,i,ps,res,h=>by
  rw [QL] at h
  cases hq:chg b e ps (i+1) d with
  | none=>rw [hq] at h; cases h
  | some cs=>
   rw [hq,zzD] at h
   cases hs:QL M b e ds (i+1) (zu M cs ps) with
   | none=>rw [hs] at h; cases h
   | some q=>
    rw [hs] at h
    cases h
    show q.2=zu M (cs++q.1) ps
    rw [ak0,ahj ds (i+1) _ q hs]
theorem ajU {M:PyData} (hb:0<b):∀ (ds:List Int) (i:Nat) (ps:PL) (res:List (Nat × Int) × PL),QL M b e ds i ps=some res->∀ c ∈ res.1,c.1<i+ds.length/\0<=c.2/\c.2<b
 | [],i,ps,res,h,c,hc=>by cases h; cases hc
 | d::ds,i,ps,res,h,c,hc=>by
  rw [QL] at h
  cases hq:chg b e ps (i+1) d with
  | none=>rw [hq] at h; cases h
  | some cs=>
   rw [hq,zzD] at h
   cases hs:QL M b e ds (i+1) (zu M cs ps) with
   | none=>rw [hs] at h; cases h
   | some q=>
    rw [hs] at h
    cases h
    rw [List.length_cons]
    rcases List.mem_append.mp hc with z | z
    ·have:=aiL (e:=e) hb (i+1) d cs hq c z
     exact ⟨by omega,this.2⟩
    ·have:=ajU hb ds (i+1) _ q hs c z
     exact ⟨by omega,this.2⟩
theorem apm (hb:0<b) {r:Nat} (h1:1<=r) (m:Int) (m0:0<=m):∀ d ∈ dgl b r m,0<=d:=fun d hd=>by
 obtain ⟨k,rfl⟩:∃ k,r=k+1:=⟨r - 1,by omega⟩
 rw [ajT hb k m] at hd
 obtain ⟨i,_,rfl⟩:=List.mem_map.mp hd
 exact arp hb m0 i
theorem ant (H:zo=true) (h:okN u e l b=true) {r n:Int} (h1:1<=r) (h4:r<=4) (h0:0<=n) (hn:n<=99999):aaa [jp u e l b,.int r,.int n]=some .none/\aip [jp u e l b,.int r,.int n]=none:=by
 refine ⟨akX H h h1 h4 h0 hn,?_⟩
 have g:=Qk (akU H h)
 have x:=aep (akU H h)
 obtain ⟨g2,x2⟩:=apg ⟨h1,h4⟩
 obtain ⟨g3,x3⟩:=aiK ⟨h0,hn⟩
 refine zQ rfl ?_
 show afu.1 [some (jp u e l b),some (.int r),some (.int n)]=_
 simp [afu,orX,nxX,abM,jN,jt,jH,lkp,g,x,g2,x2,g3,x3]
end
section
variable {u e l b:Int}{ps:PL}
theorem ZJ (hs:okS u l ps=true):1<=ps.length/\ps.length<=4/\ps.all (okP u l)=true:=by
 unfold okS at hs
 simp only [Bool.and_eq_true,decide_eq_true_eq] at hs
 exact ⟨hs.1.1,hs.1.2,hs.2⟩
theorem apn {N:List Str}{n:Nat}{B:RO}{ds:LP}{ρ:Rho} (hl:ds.length=n) (h:B (jK N ds)=some (.nx ρ)):jC N n B ds=some .none:=by
 unfold jC
 rw [if_pos hl,h]
theorem aeu {M S:PyData}{n v:Int} (g:QF [M,S]=some (.int v)) (hv:n<=v):ab5 [M,S,.int n]=some .none/\afv [M,S,.int n]=none:=by
 have c1:zp (fun i j=>decide (j<i)) (.int n) (.int v)=some (.bool false):=by
  show some (PyData.bool (decide (v<n)))=_
  rw [decide_eq_false (by omega)]
 constructor
 ·refine apn (ρ:=[some M,some S,some (.int n)]) rfl ?_
  show ab4.1 [some M,some S,some (.int n)]=_
  dsimp? [ab4,g,c1]
 ·refine zQ rfl ?_
  show acd.1 [some M,some S,some (.int n)]=_
  dsimp? [acd,g,c1]
theorem arr {M S:PyData}{n v:Int}{r:PyData}{c:Str} (ck:qF [M,S]=some .none) (tk:JW [M,S]=none) (gn:qW [.int n]=some .none) (xn:QH [.int n]=none) (g:QF [M,S]=some (.int v)) (hv:n<=v) (ln:zB [S]=some r) (p1:JO [M,r,.int (v - n)]=none) (p2:aaN [M,r,.int (v - n)]=some c):aeg [M,S,.int n]=none/\ag8 [M,S,.int n]=some c:=by
 obtain ⟨e1,e2⟩:=aeu g hv
 have s1:ady (.int v) (.int n)=some (.int (v - n)):=rfl
 constructor
 ·refine ZH ?_
  show aef.1 [some M,some S,some (.int n)]=_
  dsimp? [aef,ck,gn,e1,g,ln,s1,p1]
 ·refine zQ rfl ?_
  show ajE.1 [some M,some S,some (.int n)]=_
  dsimp? [ajE,ck,tk,gn,xn,e1,e2,g,ln,s1,p2]
theorem apo {M S D:PyData}{n v:Int}{r:PyData} (ck:qF [M,S]=some .none) (gn:qW [.int n]=some .none) (g:QF [M,S]=some (.int v)) (hv:n<=v) (ln:zB [S]=some r) (p1:JO [M,r,.int (v - n)]=some D):aeg [M,S,.int n]=some D:=by
 obtain ⟨e1,e2⟩:=aeu g hv
 have s1:ady (.int v) (.int n)=some (.int (v - n)):=rfl
 refine qN rfl ?_
 show aef.1 [some M,some S,some (.int n)]=_
 dsimp? [aef,ck,gn,e1,g,ln,s1,p1]
end
section
variable {m r n:PyData}{c:Str}
end
section
variable {u e l b:Int}{ps:PL}
theorem ck2 (H:zo=true) (h:okN u e l b=true) (hs:okS u l ps=true):qF [jp u e l b,jI ps]=some .none/\JW [jp u e l b,jI ps]=none:=
 ⟨anh H h hs,aiI (akU H h) (ado ps) (by rw [aeq]; exact hs)⟩
end
def sh (n:Nat) (d:PyData):Prop:=shl n d/\noD d=true
theorem ahk {ds:LP} (h:∀ d ∈ ds,noD d=true):noDs ds=true:=by
 induction ds with
 | nil=>rfl
 | cons d ds ih=>
  show (noD d && noDs ds)=true
  rw [h d List.mem_cons_self,ih fun x hx=>h x (List.mem_cons_of_mem _ hx)]; rfl
theorem anu {n:Nat}{ds:LP} (h:∀ d ∈ ds,sh n d):sh (n+1) (.list ds):=⟨aph.mpr fun d hd=>(h d hd).1,ahk fun d hd=>(h d hd).2⟩
theorem aiM {n:Nat}{ds:LP} (h:∀ d ∈ ds,sh n d):sh (n+1) (.tuple ds):=⟨af3.mpr fun d hd=>(h d hd).1,ahk fun d hd=>(h d hd).2⟩
theorem af6 {n m:Nat}{d:PyData} (h:sh n d) (hm:n<=m):sh m d:=⟨⟨h.1.1,Nat.le_trans h.1.2 hm⟩,h.2⟩
theorem aiN (i:Int):sh 1 (.int i):=⟨ajQ i,rfl⟩
theorem apq (ps:List (Int × Int)):sh 3 (jI ps):=⟨api ps,ado ps⟩
def Jr (M s K:PyData) (p q:Addr):Cell:= .ins "Bench" [("now",s),("manner",M),("kept",K),("done",js p),("undone",js q)]
structure Bn (μ:jx) (a p q:Addr) (M s K:PyData) (D U:LP):Prop where
 ap:a ≠ p
 aq:a ≠ q
 pq:p ≠ q
 ha:μ a=some (Jr M s K p q)
 hp:μ p=some (.lst D)
 hq:μ q=some (.lst U)
def Jk (μ μ':jx) (a p q:Addr):Prop:=∀ x,x ≠ a->x ≠ p->x ≠ q->μ' x=μ x
noncomputable def stp (w:Str) (s K:PyData):PyData:= .tuple [.str w,s,K]
section
variable {M s s' v n r K K':PyData}{a p q:Addr}{μ:jx}{R:Res PyData->jx->Prop}{D U:LP}{c w:Str}
theorem ap0 {tc:Rho->Option Bool}{ρ:Rho} (h:tc ρ=some true):zA tc ρ=some false:=by simp [zA,h]
theorem m_value (b:Bn μ a p q M s K D U) (g:QF [M,s]=some v) (hR:R (.ok v) μ):JX [js a] μ R:=by
 simp only [JX,qr,afB,Ja,zj,BX.bindC,zk,zx,JF,aay,rtC]
 exact ⟨_,rfl,a,_,M,rfl,b.ha,rfl,_,rfl,a,_,s,rfl,b.ha,rfl,_,rfl,_,rfl,_,rfl,v,g,hR⟩
theorem m_setting (b:Bn μ a p q M s K D U) (hR:R (.ok s) μ):Qj [js a] μ R:=by
 simp only [Qj,qr,abq,Ja,zj,BX.bindC,zk,zx,JF,aay,rtC]
 exact ⟨_,rfl,a,_,s,rfl,b.ha,rfl,hR⟩
theorem m_names (b:Bn μ a p q M s K D U) (g:afa [K]=some v) (hR:R (.ok v) μ):QI [js a] μ R:=by
 simp only [QI,qr,afK,Ja,zj,BX.bindC,zk,zx,JF,aay,rtC]
 exact ⟨_,rfl,a,_,K,rfl,b.ha,rfl,_,rfl,_,rfl,v,g,hR⟩
theorem m_steps (b:Bn μ a p q M s K D U) (hR:R (.ok (.tuple [.int (D.length:Int),.int (U.length:Int)])) μ):ZB [js a] μ R:=by
 simp only [ZB,qr,afQ,Ja,zj,BX.bindC,zk,zx,JF,aay,rtC,aqZ]
 exact ⟨_,rfl,a,_,_,rfl,b.ha,rfl,p,D,_,rfl,b.hp,rfl,rfl,_,rfl,a,_,_,rfl,b.ha,rfl,q,U,_,rfl,b.hq,rfl,rfl,_,rfl,_,rfl,_,rfl,_,rfl,hR⟩
theorem m_go_on (b:Bn μ a p q M s K D U) (hl:D.length<1000000) (g:QF [M,s']=some v) (k:∀ μ',Bn μ' a p q M s' K' (D++[stp w s K]) []->Jk μ μ' a p q->R (.ok v) μ'):Zb [js a,.str w,s',K'] μ R:=by
 have h1:zZ μ p (.lst (D++[stp w s K])) a=some (Jr M s K p q):=by rw [jB b.ap]; exact b.ha
 have h2:zZ μ p (.lst (D++[stp w s K])) q=some (.lst U):=by rw [jB (Ne.symm b.pq)]; exact b.hq
 have h3:zZ (zZ μ p (.lst (D++[stp w s K]))) q (.lst []) a=some (Jr M s K p q):=by rw [jB b.aq]; exact h1
 simp only [Zb,qr,ais,Ja,zj,BX.bindC,zk,zx,JF,aay,rtC,amz,aqY,amy,aso,asp,ZN,QM]
 refine ⟨_,rfl,a,_,_,rfl,b.ha,rfl,⟨p,D,rfl,b.hp⟩,_,rfl,_,rfl,a,_,s,rfl,b.ha,rfl,_,rfl,a,_,K,rfl,b.ha,rfl,_,rfl,_,rfl,_,rfl,_,rfl,_,rfl,p,D,rfl,b.hp,hl,?_⟩
 refine ⟨_,rfl,a,_,_,rfl,h1,rfl,q,U,rfl,h2,?_⟩
 refine ⟨_,rfl,_,rfl,a,_,rfl,h3,(by show 5<1000; omega),_,rfl,_,rfl,a,_,rfl,jD,(by show 5<1000; omega),_,rfl,⟨a,_,rfl,jD,rfl⟩,_,rfl,rfl,?_⟩
 have B:Bn (zZ (zZ (zZ (zZ μ p (.lst (D++[stp w s K]))) q (.lst [])) a (Jr M s' K p q)) a (Jr M s' K' p q)) a p q M s' K' (D++[stp w s K]) []:=by
  refine ⟨b.ap,b.aq,b.pq,jD,?_,?_⟩
  ·rw [jB (Ne.symm b.ap),jB (Ne.symm b.ap),jB b.pq]; exact jD
  ·rw [jB (Ne.symm b.aq),jB (Ne.symm b.aq)]; exact jD
 exact m_value B g (k _ B fun x x1 x2 x3=>by rw [jB x1,jB x1,jB x3,jB x2])
theorem m_add (b:Bn μ a p q M s K D U) (hl:D.length<1000000) (f:Q7 [M,s,n]=some s') (g:QF [M,s']=some v) (k:∀ μ',Bn μ' a p q M s' K (D++[stp "add" s K]) []->Jk μ μ' a p q->R (.ok v) μ'):aei [js a,n] μ R:=by
 simp only [aei,qr,ajH,Ja,zj,BX.bindC,zk,zx,JF,aay,rtC,ZN,QM,agQ]
 exact ⟨_,rfl,⟨a,_,rfl,b.ha,rfl⟩,_,rfl,_,rfl,a,_,M,rfl,b.ha,rfl,_,rfl,a,_,s,rfl,b.ha,rfl,_,rfl,_,rfl,_,rfl,_,rfl,_,rfl,rfl,.inl ⟨s',f,_,rfl,a,_,K,rfl,b.ha,rfl,_,rfl,_,rfl,_,rfl,_,rfl,rfl,m_go_on b hl g k⟩⟩
theorem anv (b:Bn μ a p q M s K D U) (t:adg [M,s,n]=some c) (hR:R (.er c) μ):aei [js a,n] μ R:=by
 simp only [aei,qr,ajH,Ja,zj,BX.bindC,zk,zx,JF,aay,rtC,ZN,QM,agQ]
 exact ⟨_,rfl,⟨a,_,rfl,b.ha,rfl⟩,_,rfl,_,rfl,a,_,M,rfl,b.ha,rfl,_,rfl,a,_,s,rfl,b.ha,rfl,_,rfl,_,rfl,_,rfl,_,rfl,_,rfl,rfl,.inr ⟨c,t,hR⟩⟩
theorem m_take (b:Bn μ a p q M s K D U) (hl:D.length<1000000) (f:aeg [M,s,n]=some s') (g:QF [M,s']=some v) (k:∀ μ',Bn μ' a p q M s' K (D++[stp "take" s K]) []->Jk μ μ' a p q->R (.ok v) μ'):abr [js a,n] μ R:=by
 simp only [abr,qr,afE,Ja,zj,BX.bindC,zk,zx,JF,aay,rtC,ZN,QM,agQ]
 exact ⟨_,rfl,⟨a,_,rfl,b.ha,rfl⟩,_,rfl,_,rfl,a,_,M,rfl,b.ha,rfl,_,rfl,a,_,s,rfl,b.ha,rfl,_,rfl,_,rfl,_,rfl,_,rfl,_,rfl,rfl,.inl ⟨s',f,_,rfl,a,_,K,rfl,b.ha,rfl,_,rfl,_,rfl,_,rfl,_,rfl,rfl,m_go_on b hl g k⟩⟩
theorem ak5 (b:Bn μ a p q M s K D U) (t:ag8 [M,s,n]=some c) (hR:R (.er c) μ):abr [js a,n] μ R:=by
 simp only [abr,qr,afE,Ja,zj,BX.bindC,zk,zx,JF,aay,rtC,ZN,QM,agQ]
 exact ⟨_,rfl,⟨a,_,rfl,b.ha,rfl⟩,_,rfl,_,rfl,a,_,M,rfl,b.ha,rfl,_,rfl,a,_,s,rfl,b.ha,rfl,_,rfl,_,rfl,_,rfl,_,rfl,_,rfl,rfl,.inr ⟨c,t,hR⟩⟩
theorem m_push (b:Bn μ a p q M s K D U) (hl:D.length<1000000) (f:abo [M,s,n]=some s') (g:QF [M,s']=some v) (k:∀ μ',Bn μ' a p q M s' K (D++[stp "push" s K]) []->Jk μ μ' a p q->R (.ok v) μ'):afG [js a,n] μ R:=by
 simp only [afG,qr,aiv,Ja,zj,BX.bindC,zk,zx,JF,aay,rtC,ZN,QM,agQ]
 exact ⟨_,rfl,⟨a,_,rfl,b.ha,rfl⟩,_,rfl,_,rfl,a,_,M,rfl,b.ha,rfl,_,rfl,a,_,s,rfl,b.ha,rfl,_,rfl,_,rfl,_,rfl,_,rfl,_,rfl,rfl,.inl ⟨s',f,_,rfl,a,_,K,rfl,b.ha,rfl,_,rfl,_,rfl,_,rfl,_,rfl,rfl,m_go_on b hl g k⟩⟩
noncomputable def dk (r:List (PyData × PyData)):PyData:= .dict ((.none,.none)::r)
theorem m_keep {kv:List (PyData × PyData)}{nm:Str} (b:Bn μ a p q M s (dk kv) D U) (hl:D.length<1000000) (hk:kv.length<1000000) (f:Zz [.str nm]=some (.bool true)) (g:QF [M,s]=some v) (k:∀ μ',Bn μ' a p q M s (dk (Q0 kv (Sum.inr nm) s)) (D++[stp "keep" s (dk kv)]) []->Jk μ μ' a p q->R (.ok v) μ'):adh [js a,.str nm] μ R:=by
 show afI.1 [some (js a),some (.str nm),none] μ (QQ R)
 simp only [afI]
 refine ⟨false,?_,a,_,kv,s,nm,rfl,b.ha,rfl,rfl,rfl,hk,by decide,by decide,(by show 2<3; omega),?_⟩
 ·exact ap0 (QK (qX rfl f))
 ·simp only [Ja,zj,BX.bindC,zk,zx,JF,aay,rtC,ZN,QM,agQ]
  exact ⟨_,rfl,⟨a,_,rfl,b.ha,rfl⟩,_,rfl,_,rfl,a,_,s,rfl,b.ha,rfl,_,rfl,_,rfl,_,rfl,_,rfl,_,rfl,rfl,m_go_on b hl g k⟩
theorem m_recall {kv:List (PyData × PyData)}{nm:Str} (b:Bn μ a p q M s (dk kv) D U) (hl:D.length<1000000) (f:Zz [.str nm]=some (.bool true)) (h:zJ kv (Sum.inr nm)=some s') (g:QF [M,s']=some v) (k:∀ μ',Bn μ' a p q M s' (dk kv) (D++[stp "recall" s (dk kv)]) []->Jk μ μ' a p q->R (.ok v) μ'):adj [js a,.str nm] μ R:=by
 show aaR.1 [some (js a),some (.str nm)] μ (QQ R)
 simp only [aaR]
 refine ⟨false,ap0 (QK (qX rfl f)),?_⟩
 have hh:aju true (.str nm) (dk kv)=some (.bool false):=by
  show some (PyData.bool (!(zJ kv (Sum.inr nm)).isSome))=_
  rw [h]; rfl
 refine ⟨.str nm,rfl,_,rfl,a,_,dk kv,rfl,b.ha,rfl,_,hh,false,rfl,?_⟩
 refine ⟨_,rfl,⟨a,_,rfl,b.ha,rfl⟩,_,rfl,_,rfl,a,_,dk kv,rfl,b.ha,rfl,.str nm,rfl,s',h,_,rfl,a,_,dk kv,rfl,b.ha,rfl,_,rfl,_,rfl,_,rfl,_,rfl,rfl,m_go_on b hl g k⟩
theorem m_cross {x y:Addr}{w:Str}{s0 K0:PyData}{D0:LP} (ax:a ≠ x) (ay:a ≠ y) (xy:x ≠ y) (ha:μ a=some (Jr M s K p q)) (hx:μ x=some (.lst (D0++[stp w s0 K0]))) (hy:μ y=some (.lst U)) (hl:U.length<1000000) (k:∀ μ',μ' a=some (Jr M s0 K0 p q)->μ' x=some (.lst D0)->μ' y=some (.lst (U++[stp w s K]))->(∀ z,z ≠ a->z ≠ x->z ≠ y->μ' z=μ z)->R (.ok (.str w)) μ'):acl [js a,js x,js y] μ R:=by
 show ack.1 [some (js a),some (js x),some (js y),none] μ (QQ R)
 have e1:(!(D0++[stp w s0 K0]).isEmpty)=true:=by cases D0 <;> rfl
 have e2:(D0++[stp w s0 K0])[(D0++[stp w s0 K0]).length - 1]?=some (stp w s0 K0):=by simp
 have e3:(D0++[stp w s0 K0]).dropLast=D0:=by simp
 have h1:zZ μ x (.lst D0) a=some (Jr M s K p q):=by rw [jB ax]; exact ha
 have h2:zZ μ x (.lst D0) y=some (.lst U):=by rw [jB (Ne.symm xy)]; exact hy
 have h3:zZ (zZ μ x (.lst D0)) y (.lst (U++[stp w s K])) a=some (Jr M s K p q):=by rw [jB ay]; exact h1
 simp only [ack]
 refine ⟨_,rfl,x,_,rfl,hx,_,rfl,?_⟩
 rw [e1]
 refine ⟨_,rfl,x,_,_,rfl,hx,e2,?_⟩
 rw [e3]
 refine ⟨_,rfl,⟨y,U,rfl,h2⟩,_,rfl,_,rfl,a,_,s,rfl,h1,rfl,_,rfl,a,_,K,rfl,h1,rfl,_,rfl,_,rfl,_,rfl,_,rfl,_,rfl,y,U,rfl,h2,hl,?_⟩
 refine ⟨_,rfl,_,rfl,a,_,rfl,h3,(by show 5<1000; omega),_,rfl,_,rfl,a,_,rfl,jD,(by show 5<1000; omega),_,rfl,?_⟩
 refine k _ jD ?_ ?_ fun z z1 z2 z3=>?_
 ·rw [jB (Ne.symm ax),jB (Ne.symm ax),jB xy]; exact jD
 ·rw [jB (Ne.symm ay),jB (Ne.symm ay)]; exact jD
 ·rw [jB z1,jB z1,jB z3,jB z2]
theorem m_back {w:Str}{s0 K0:PyData}{D0:LP} (b:Bn μ a p q M s K (D0++[stp w s0 K0]) U) (hl:U.length<1000000) (k:∀ μ',Bn μ' a p q M s0 K0 D0 (U++[stp w s K])->Jk μ μ' a p q->R (.ok (.str w)) μ'):adk [js a] μ R:=by
 simp only [adk,qr,aiz,Ja,zj,BX.bindC,zk,zx,JF,aay,rtC,ZN,QM]
 exact ⟨_,rfl,⟨a,_,rfl,b.ha,rfl⟩,_,rfl,a,_,_,rfl,b.ha,rfl,_,rfl,a,_,_,rfl,b.ha,rfl,_,rfl,_,rfl,_,rfl,rfl,m_cross b.ap b.aq b.pq b.ha b.hp b.hq hl fun μ' h1 h2 h3 h4=>k μ' ⟨b.ap,b.aq,b.pq,h1,h2,h3⟩ h4⟩
theorem m_forth {w:Str}{s0 K0:PyData}{U0:LP} (b:Bn μ a p q M s K D (U0++[stp w s0 K0])) (hl:D.length<1000000) (k:∀ μ',Bn μ' a p q M s0 K0 (D++[stp w s K]) U0->Jk μ μ' a p q->R (.ok (.str w)) μ'):aaS [js a] μ R:=by
 simp only [aaS,qr,afO,Ja,zj,BX.bindC,zk,zx,JF,aay,rtC,ZN,QM]
 exact ⟨_,rfl,⟨a,_,rfl,b.ha,rfl⟩,_,rfl,a,_,_,rfl,b.ha,rfl,_,rfl,a,_,_,rfl,b.ha,rfl,_,rfl,_,rfl,_,rfl,rfl,m_cross b.aq b.ap (Ne.symm b.pq) b.ha b.hq b.hp hl fun μ' h1 h2 h3 h4=>k μ' ⟨b.ap,b.aq,b.pq,h1,h3,h2⟩ fun z z1 z2 z3=>h4 z z1 z3 z2⟩
def Ext (μ μ':jx):Prop:=∀ x c,μ x=some c->μ' x=some c
theorem ahl {ρ:Rho} (f:JP [M,r,.int 0]=some s) (k:∀ (a p q:Addr) (μ':jx),Bn μ' a p q M s (dk []) [] []->μ a=none->μ p=none->μ q=none->Ext μ μ'->R (.ok (js a)) μ'):aqX "Bench" afz 3 [M,r] ρ μ R:=by
 refine ⟨rfl,fun a ha=>?_⟩
 show afy.1 [some (js a),some M,some r] _ (QQ _)
 simp only [afy]
 refine ⟨_,rfl,_,rfl,_,rfl,_,rfl,_,rfl,_,rfl,_,rfl,rfl,.inl ⟨s,f,_,rfl,a,_,rfl,jD,(by show 0<1000; omega),?_⟩⟩
 refine ⟨_,rfl,_,rfl,a,_,rfl,jD,(by show 1<1000; omega),?_⟩
 refine ⟨_,rfl,_,rfl,a,_,rfl,jD,(by show 2<1000; omega),?_⟩
 refine ⟨[],rfl,fun p hp=>⟨_,rfl,a,_,rfl,(jB (fun z=>?_)).trans jD,(by show 3<1000; omega),?_⟩⟩
 ·subst z; rw [jD] at hp; cases hp
 have ap:a ≠ p:=fun z=>by subst z; rw [jD] at hp; cases hp
 refine ⟨[],rfl,fun q hq=>⟨_,rfl,a,_,rfl,(jB (fun z=>?_)).trans jD,(by show 4<1000; omega),rfl,?_⟩⟩
 ·subst z; rw [jD] at hq; cases hq
 have aq:a ≠ q:=fun z=>by subst z; rw [jD] at hq; cases hq
 have pq:p ≠ q:=fun z=>by subst z; rw [jB (Ne.symm ap),jD] at hq; cases hq
 have hp':μ p=none:=by simp only [jB (Ne.symm ap)] at hp; exact hp
 have hq':μ q=none:=by simp only [jB (Ne.symm aq),jB (Ne.symm pq)] at hq; exact hq
 refine k a p q _ ⟨ap,aq,pq,jD,?_,?_⟩ ha hp' hq' fun x c hx=>?_
 ·rw [jB (Ne.symm ap),jB pq,jB (Ne.symm ap)]; exact jD
 ·rw [jB (Ne.symm aq)]; exact jD
 ·have n1:x ≠ a:=fun z=>by subst z; rw [ha] at hx; cases hx
  have n2:x ≠ p:=fun z=>by subst z; rw [hp'] at hx; cases hx
  have n3:x ≠ q:=fun z=>by subst z; rw [hq'] at hx; cases hx
  simp only [jB n1,jB n2,jB n3]; exact hx
theorem Bn.ext (b:Bn μ a p q M s K D U) {μ':jx} (x:Ext μ μ'):Bn μ' a p q M s K D U:=⟨b.ap,b.aq,b.pq,x _ _ b.ha,x _ _ b.hp,x _ _ b.hq⟩
theorem Ext.set {μ':jx} (x:Ext μ μ') {y:Addr} (hy:μ y=none) (c:Cell):Ext μ (zZ μ' y c):=fun z c' h=>by
 rw [jB (fun e=>by subst e; rw [hy] at h; cases h)]; exact x z c' h
theorem Ext.none {μ':jx} (x:Ext μ μ') {y:Addr} (hy:μ' y=none):μ y=none:=by
 cases h:μ y with
 | none=>rfl
 | some c=>rw [x _ _ h] at hy; cases hy
theorem m_twin (b:Bn μ a p q M s K D U) {s0:PyData} (ln:zB [s]=some r) (f:JP [M,r,.int 0]=some s0) (k:∀ (a' p' q':Addr) (μ':jx),Bn μ' a' p' q' M s K D U->μ a'=none->μ p'=none->μ q'=none->Ext μ μ'->R (.ok (js a')) μ'):aiB [js a] μ R:=by
 show afS.1 [some (js a),none] μ (QQ R)
 simp only [afS]
 refine ⟨_,rfl,a,_,M,rfl,b.ha,rfl,_,rfl,a,_,s,rfl,b.ha,rfl,_,rfl,_,rfl,r,ln,_,rfl,_,rfl,_,rfl,ahl f fun a' p0 q0 μ1 b1 na np nq x1=>?_⟩
 refine ⟨js a,rfl,a,_,s,rfl,x1 _ _ b.ha,rfl,js a',rfl,a',_,rfl,b1.ha,(by show 5<1000; omega),?_⟩
 have x2:=x1.set na (Jr M s (dk []) p0 q0)
 refine ⟨js a,rfl,a,_,K,rfl,x2 _ _ b.ha,rfl,js a',rfl,a',_,rfl,jD,(by show 5<1000; omega),?_⟩
 have x3:=x2.set na (Jr M s K p0 q0)
 refine ⟨js a,rfl,a,_,_,rfl,x3 _ _ b.ha,rfl,p,D,rfl,x3 _ _ b.hp,fun p' hp'=>?_⟩
 have ap':a' ≠ p':=fun z=>by subst z; have:=(jD (μ:=zZ μ1 a' (Jr M s (dk []) p0 q0)) (a:=a') (c:=Jr M s K p0 q0)).symm.trans hp'; cases this
 have np':=x3.none hp'
 refine ⟨js a',rfl,a',_,rfl,(jB ap').trans jD,(by show 5<1000; omega),?_⟩
 have x4:=(x3.set np' (.lst D)).set na (Jr M s K p' q0)
 refine ⟨js a,rfl,a,_,_,rfl,x4 _ _ b.ha,rfl,q,U,rfl,x4 _ _ b.hq,fun q' hq'=>?_⟩
 have aq':a' ≠ q':=fun z=>by subst z; have:=(jD (a:=a') (c:=Jr M s K p' q0)).symm.trans hq'; cases this
 have nq':=x4.none hq'
 have pq':p' ≠ q':=fun z=>by
  subst z
  have:=((jB (Ne.symm ap')).trans jD).symm.trans hq'
  cases this
 refine ⟨js a',rfl,a',_,rfl,(jB aq').trans jD,(by show 5<1000; omega),_,rfl,?_⟩
 refine k a' p' q' _ ⟨ap',aq',pq',jD,?_,?_⟩ na np' nq' ((x4.set nq' (.lst U)).set na (Jr M s K p' q'))
 ·rw [jB (Ne.symm ap'),jB pq',jB (Ne.symm ap')]; exact jD
 ·rw [jB (Ne.symm aq')]; exact jD
end
mutual
theorem adq:∀ d:PyData,noD d=true->PyData.eqv d d=true
 | .none,_=>by simp [PyData.eqv]
 | .bool _,_=>by simp [PyData.eqv]
 | .int _,_=>by simp [PyData.eqv]
 | .str _,_=>by simp [PyData.eqv]
 | .tuple ds,h=>by rw [PyData.eqv]; exact eqvA_self ds (by simpa [noD] using h)
 | .list ds,h=>by rw [PyData.eqv]; exact eqvA_self ds (by simpa [noD] using h)
 | .dict _,h=>by simp [noD] at h
theorem eqvA_self:∀ ds:LP,noDs ds=true->PyData.eqvAll ds ds=true
 | [],_=>by simp [PyData.eqvAll]
 | d::ds,h=>by
  have h':noD d=true/\noDs ds=true:=by simpa [noDs] using h
  rw [PyData.eqvAll,adq d h'.1,eqvA_self ds h'.2]; rfl
end
theorem anw {n:Nat}{d:PyData} (h:sh n d) (hn:n<30):dNe d d=some (.bool false):=by
 have ok:=ano h.1 hn
 unfold dNe
 rw [if_pos ⟨ok,ok⟩,adq d h.2]; rfl
theorem asO {n:Nat}{d:PyData} (h:sh n d) (hn:n<30) (hl:dEq d d=if okD d=true/\okD d=true then some (.bool (PyData.eqv d d)) else none):dEq d d=some (.bool true):=by
 have ok:=ano h.1 hn
 rw [hl,if_pos ⟨ok,ok⟩,adq d h.2]
def ZP:List Str:=["add","take","push","keep","recall"]
theorem apr {t:Str} (h:t ∈ ZP):sh 1 (.str t):=by
 simp only [ZP,List.mem_cons,List.not_mem_nil,or_false] at h
 rcases h with rfl | rfl | rfl | rfl | rfl <;> exact ⟨⟨by decide +kernel,by simp [PyData.depth]⟩,rfl⟩
theorem asP {t:Str} (h:t="a" ∨ t="b"):sh 1 (.str t):=by
 rcases h with rfl | rfl <;> exact ⟨⟨by decide +kernel,by simp [PyData.depth]⟩,rfl⟩
section
variable {ρ ρ1:Rho}{μ:jx}{R:OutC->jx->Prop}{S S' S0:TRS}{tc:Rho->Option Bool}{F:RO}{f:RP}{d:PyData}{i:Nat}{T:TR PyData}
theorem Ql (h:tc ρ=some false) (k:S' ρ μ R):Ja (ifC (zk tc) S aqW) S' ρ μ R:=⟨false,h,k⟩
theorem ads (h:tc ρ=some true) (k:Ja S S' ρ μ R):Ja (ifC (zk tc) S S0) S' ρ μ R:=⟨true,h,k⟩
theorem Js (h:F ρ=some (.nx ρ1)) (k:S' ρ1 μ R):Ja (apS F) S' ρ μ R:=⟨.nx ρ1,h,k⟩
end
theorem Zh {i j:Int}{b:Bool}{ρ:Rho}{f:RP} (h:f ρ=some (.int i)) (hb:decide (i=j)=b):tst (op2 dEq f (cst (.int j))) ρ=some b:=by subst hb; exact QK (qj h rfl (ZG i j))
section
variable {ρ ρ1:Rho}{μ:jx}{R:OutC->jx->Prop}{A B S S' S0:TRS}{tc:Rho->Option Bool}{F:RO}{f:RP}{d:PyData}{i j:Nat}{T:TR PyData}{l:Addr}{ds:LP}
theorem aev (h:Ja A (Ja B S') ρ μ R):Ja (Ja A B) S' ρ μ R:=by
 have e:(fun (o:OutC) (μ':jx)=>match o with
   | .nx ρ'=>B ρ' μ' fun o μ'=>match o with
    | .nx ρ'=>S' ρ' μ' R
    | o=>R o μ'
   | o=>(match o with
    | .nx ρ'=>S' ρ' μ' R
    | o=>R o μ'))=fun o μ'=>match o with
   | .nx ρ'=>Ja B S' ρ' μ' R
   | o=>R o μ':=by
  funext o μ'
  cases o <;> rfl
 show A ρ μ _
 exact e ▸ h
theorem aps (h:A ρ μ fun o μ'=>match o with
  | .nx ρ'=>S' ρ' μ' R
  | o=>R o μ'):Ja A S' ρ μ R:=h
end
theorem JA {ga:PyData->Rho->Option Rho}{S:TRS}{R:OutC->jx->Prop} (I:Nat->Rho->jx->Prop):∀ (ds:LP) (j:Nat) (ρ:Rho) (μ:jx),I j ρ μ->
  (∀ (i:Nat) (d:PyData) (ρ:Rho) (μ:jx) (R':OutC->jx->Prop),ds[i]?=some d->I (j+i) ρ μ->(∀ ρ' μ',I (j+i+1) ρ' μ'->R' (.nx ρ') μ')->∃ ρ1,ga d ρ=some ρ1/\S ρ1 μ R')->(∀ ρ' μ',I (j+ds.length) ρ' μ'->R (.nx ρ') μ')->ZU ga S ds ρ μ R
 | [],j,ρ,μ,h,_,k=>k ρ μ h
 | d::ds,j,ρ,μ,h,st,k=>by
  obtain ⟨ρ1,g1,g2⟩:=st 0 d ρ μ (apU (fun ρ2 μ2=>ZU ga S ds ρ2 μ2 R) R) rfl h fun ρ' μ' h'=>JA I ds (j+1) ρ' μ' h' (fun i d' ρ μ R' hd hi kk=>st (i+1) d' ρ μ R' (by simpa using hd) (by rw [show j+(i+1)=j+1+i by omega]; exact hi) (fun ρ' μ' z=>kk ρ' μ' (by rw [show j+1+i+1=j+(i+1)+1 by omega]; exact z))) fun ρ' μ' z=>k ρ' μ' (by rw [List.length_cons,show j+(ds.length+1)=j+1+ds.length by omega]; exact z)
  exact ⟨ρ1,g1,g2⟩
section
variable {u e l b:Int}{ps:PL}
section
variable {m r n d:PyData}{c:Str}
theorem ars (g:aaa [m,r,n]=some .none) (g2:JO [m,r,n]=some d):JP [m,r,n]=some d:=by
 simp [JP,jC,afj,jK,jT,abM,qG,jN,jt,jH,lkp,g,g2]
end
theorem anx (H:zo=true) (h:okN u e l b=true) {r:Nat} (h1:1<=r) (h4:r<=4):JP [jp u e l b,.int (r:Int),.int 0]=some (jI (pln (jp u e l b) b r 0)):=by
 obtain ⟨a1,a2,a3,a4,a5,a6,a7,a8,a9,a10⟩:=qx h
 obtain ⟨k1,k2⟩:=ant H h (r:=(r:Int)) (n:=0) (by omega) (by omega) (by omega) (by omega)
 exact ars k1 (adn H h h1 h4 (by omega) (Int.pow_pos (by omega)))
theorem art (H:zo=true) (h:okN u e l b=true) (hs:okS u l ps=true) {n:Int} (n0:0<=n) (n1:n<=99999):(∃ qs:PL,Q7 [jp u e l b,jI ps,.int n]=some (jI qs)/\okS u l qs=true/\qs.length=ps.length) ∨ adg [jp u e l b,jI ps,.int n]=some "TooGreat":=by
 obtain ⟨a1,a2,a3,a4,a5,a6,a7,a8,a9,a10⟩:=qx h
 have hb:0<b:=by omega
 obtain ⟨h1,h4,hk⟩:=ZJ hs
 obtain ⟨ck,tk⟩:=ck2 H h hs
 obtain ⟨gn,xn⟩:=aiK (i:=n) ⟨n0,n1⟩
 obtain ⟨c1,c2⟩:=asM H h (ps:=ps) rfl h1 h4 hk n0 (apm hb h1 n n0)
 cases hq:QL (jp u e l b) b e (dgl b ps.length n) 0 ps with
 | none=>
  obtain ⟨g3,x3⟩:=c2 hq
  obtain ⟨p1,p2⟩:=asN ck tk gn xn g3 x3
  exact .inr (apl p1 p2).2
 | some res=>
  have g:=arq ck gn (c1 res hq)
  have q2:=ahj _ _ _ res hq
  have lt:=ajU (e:=e) hb _ _ _ res hq
  rw [ZF] at lt
  have bh:=ahi (m:=jp u e l b) (cs:=res.1) (ps:=ps) fun c hc=>by have:=(lt c hc).1; omega
  refine .inl ⟨_,ans g bh,?_,ZI _ _ _⟩
  simp only [okS,Bool.and_eq_true,decide_eq_true_eq,ZI]
  exact ⟨⟨h1,h4⟩,adp H h _ _ (fun c hc=>(lt c hc).2) hk⟩
theorem apt (H:zo=true) (h:okN u e l b=true) (hs:okS u l ps=true) {n:Int} (n0:0<=n) (n1:n<=99999) (hv:n<=val b e ps):(∃ qs:PL,aeg [jp u e l b,jI ps,.int n]=some (jI qs)/\okS u l qs=true/\qs.length=ps.length) ∨ ag8 [jp u e l b,jI ps,.int n]=some "TooGreat":=by
 obtain ⟨h1,h4,hk⟩:=ZJ hs
 obtain ⟨ck,tk⟩:=ck2 H h hs
 obtain ⟨gn,xn⟩:=aiK (i:=n) ⟨n0,n1⟩
 have g:=ajL h h4 hk
 have ln:=aaW ps
 by_cases hp:val b e ps - n<b ^ ps.length
 ·exact .inl ⟨_,apo ck gn g hv ln (adn H h h1 h4 (by omega) hp),anf H h h1 h4 (by omega) hp,af2 _ _ _ _⟩
 ·exact .inr (arr ck tk gn xn g hv ln (aiJ h h1 h4 (by omega) (by omega)) (aiG h h1 h4 (by omega) (by omega))).2
theorem apu (H:zo=true) (h:okN u e l b=true) (hs:okS u l ps=true) {p:Int × Int} (hp:ps[0]?=some p) {k:Bool}{c:Int} (hc:c=1 ∨ c=-1) (ho:okP u l (shP p k c)=true):abo [jp u e l b,jI ps,mv 0 k c]=some (jI (ps.set 0 (shP p k c)))/\okS u l (ps.set 0 (shP p k c))=true/\(ps.set 0 (shP p k c)).length=ps.length:=by
 have t:=asJ (e:=e) (b:=b) hs hp k hc
 rw [if_pos ho] at t
 exact ⟨anr H h hs t,ajR hs 0 ho,List.length_set⟩
end
def GS (u l:Int) (r:Nat) (d:PyData):Prop:=∃ ps:PL,d=jI ps/\okS u l ps=true/\ps.length=r
noncomputable abbrev KV:=List (PyData × PyData)
inductive KO (G:PyData->Prop):KV->Prop
 | n:KO G []
 | a (x:PyData) (hx:G x):KO G [(.str "a",x)]
 | b (y:PyData) (hy:G y):KO G [(.str "b",y)]
 | ab (x y:PyData) (hx:G x) (hy:G y):KO G [(.str "a",x),(.str "b",y)]
 | ba (y x:PyData) (hy:G y) (hx:G x):KO G [(.str "b",y),(.str "a",x)]
theorem ap1:aaq (Sum.inr "a") (.str "a")=true:=by decide
theorem ap2:aaq (Sum.inr "a") (.str "b")=false:=by decide
theorem ap3:aaq (Sum.inr "b") (.str "a")=false:=by decide
theorem ap4:aaq (Sum.inr "b") (.str "b")=true:=by decide
section
variable {G:PyData->Prop}{kv:KV}
theorem KO.len (h:KO G kv):kv.length<1000000:=by cases h <;> simp
theorem KO.val (h:KO G kv) {nm:Str}{d:PyData} (e:zJ kv (Sum.inr nm)=some d):G d:=by
 have key:∀ p ∈ kv,G p.2:=by cases h <;> simp_all
 unfold zJ at e
 cases hf:kv.find? fun p=>aaq (Sum.inr nm) p.1 with
 | none=>rw [hf] at e; cases e
 | some p=>
  rw [hf] at e; cases e
  exact key p (List.mem_of_find?_eq_some hf)
theorem KO.put (h:KO G kv) {nm:Str} (hn:nm="a" ∨ nm="b") {d:PyData} (hd:G d):KO G (Q0 kv (Sum.inr nm) d):=by
 rcases hn with rfl | rfl <;> cases h <;> simp only [Q0,List.any_cons,List.any_nil,List.map_cons,List.map_nil,ap1,ap2,ap3,ap4,Bool.or_false,Bool.or_true,Bool.false_or,Bool.true_or,zzM,zzN,zzL,List.nil_append,List.cons_append,acD] <;> constructor <;> assumption
def kN (kv:KV):List Str:=match kv with
 | []=>[]
 | [(.str t,_)]=>[t]
 | _=>["a","b"]
theorem KO.srt (h:KO G kv):afa [dk kv]=some (.list ((kN kv).map .str)):=by
 cases h <;> rfl
end
end Rods
end
section
namespace Rods
open PySem L2 BX
open PyProof.Rows hiding St
section
variable {u e l b:Int}{r:Nat}{ps:PL}{kv:KV}{a p q:Addr}{μ:jx}{R:Res PyData->jx->Prop}{D U:LP}
def nw (b e:Int) (ps:PL) (kv:KV) (x y:Nat):PyData:= .tuple [jI ps,.int (val b e ps),.list ((kN kv).map .str),.tuple [.int (x:Int),.int (y:Int)]]
structure Gd (u l:Int) (r:Nat) (ps:PL) (kv:KV):Prop where
 ok:okS u l ps=true
 len:ps.length=r
 ko:KO (GS u l r) kv
theorem Gd.num (g:Gd u l r ps kv) (h:okN u e l b=true):QF [jp u e l b,jI ps]=some (.int (val b e ps)):=by
 obtain ⟨k1,k4,kk⟩:=ZJ g.ok
 exact ajL h k4 kk
theorem aru (h:okN u e l b=true) (g:Gd u l r ps kv) (bn:Bn μ a p q (jp u e l b) (jI ps) (dk kv) D U) (hR:R (.ok (nw b e ps kv D.length U.length)) μ):ahd [js a] μ R:=by
 show ajI.1 [some (js a)] μ (QQ R)
 simp only [ajI]
 exact ⟨js a,rfl,⟨a,_,rfl,bn.ha,rfl⟩,_,rfl,rfl,m_setting bn ⟨js a,rfl,⟨a,_,rfl,bn.ha,rfl⟩,_,rfl,rfl,m_value bn (g.num h) ⟨js a,rfl,⟨a,_,rfl,bn.ha,rfl⟩,_,rfl,rfl,m_names bn g.ko.srt ⟨js a,rfl,⟨a,_,rfl,bn.ha,rfl⟩,_,rfl,rfl,m_steps bn ⟨_,rfl,_,rfl,_,rfl,_,rfl,_,rfl,_,rfl,hR⟩⟩⟩⟩⟩
theorem asQ (k:KO (GS u l r) kv):∀ t ∈ kN kv,t="a" ∨ t="b":=by
 cases k <;> simp [kN]
theorem ap5 (g:Gd u l r ps kv) (x y:Nat):sh 4 (nw b e ps kv x y):=aiM fun d hd=>by
 simp only [List.mem_cons,List.not_mem_nil,or_false] at hd
 rcases hd with rfl | rfl | rfl | rfl
 ·exact apq _
 ·exact af6 (aiN _) (by omega)
 ·refine af6 (n:=2) (anu fun d hd=>?_) (by omega)
  obtain ⟨t,ht,rfl⟩:=List.mem_map.mp hd
  exact asP (asQ g.ko t ht)
 ·refine af6 (n:=2) (aiM fun d hd=>?_) (by omega)
  simp only [List.mem_cons,List.not_mem_nil,or_false] at hd
  rcases hd with rfl | rfl <;> exact aiN _
theorem adt (k:KO (GS u l r) kv) {nm:Str} (hn:nm="a" ∨ nm="b") (neg:Bool):dIn neg (.str nm) (.list ((kN kv).map .str))=some (.bool (if neg then !(zJ kv (Sum.inr nm)).isSome else (zJ kv (Sum.inr nm)).isSome)):=by
 rcases hn with rfl | rfl <;> cases k <;> cases neg <;> first | rfl | decide +kernel | kernel_rfl
theorem af7 {nm:Str} (hn:nm="a" ∨ nm="b" ∨ nm="zz"):Zz [.str nm]=some (.bool true):=by
 rcases hn with rfl | rfl | rfl <;> kernel_rfl
end
section
variable {u e l b:Int}{r:Nat}{ps:PL}{kv:KV}{a p q:Addr}{μ:jx}{R:Res PyData->jx->Prop}{D U:LP}
theorem aiO {i j:Int}{ρ:Rho}{f:RP} (h:f ρ=some (.int i)) (hb:i<j):tst (op2 (zp fun i j=>decide (i<j)) f (cst (.int j))) ρ=some true:=QK (qj h rfl (by show some (PyData.bool (decide (i<j)))=_; rw [decide_eq_true hb]))
theorem abI {i j:Int}{ρ:Rho}{f:RP} (h:f ρ=some (.int i)) (hb:¬ i<j):tst (op2 (zp fun i j=>decide (i<j)) f (cst (.int j))) ρ=some false:=QK (qj h rfl (by show some (PyData.bool (decide (i<j)))=_; rw [decide_eq_false hb]))
theorem arv {i j:Int}{ρ:Rho}{f:RP} (h:f ρ=some (.int i)) (hb:j<i):tst (op2 (zp fun i j=>decide (j<i)) f (cst (.int j))) ρ=some true:=QK (qj h rfl (by show some (PyData.bool (decide (j<i)))=_; rw [decide_eq_true hb]))
theorem anz {i j:Int}{ρ:Rho}{f:RP} (h:f ρ=some (.int i)) (hb:¬ j<i):tst (op2 (zp fun i j=>decide (j<i)) f (cst (.int j))) ρ=some false:=QK (qj h rfl (by show some (PyData.bool (decide (j<i)))=_; rw [decide_eq_false hb]))
theorem ap6 {tc:Rho->Option Bool}{A B:RP}{ρ:Rho} (h:tc ρ=some true):ifD tc A B ρ=A ρ:=by simp [ifD,h]
theorem ajV {tc:Rho->Option Bool}{A B:RP}{ρ:Rho} (h:tc ρ=some false):ifD tc A B ρ=B ρ:=by simp [ifD,h]
theorem arw {s t:Rho->Option Bool}{ρ:Rho} (h:s ρ=some false):adx s t ρ=some false:=by simp [adx,h]
theorem aiP {s t:Rho->Option Bool}{ρ:Rho}{v:Bool} (h:s ρ=some true) (k:t ρ=some v):adx s t ρ=some v:=by simp [adx,h,k]
theorem KO.valput {G:PyData->Prop}{kv:KV} (h:KO G kv) {nm:Str} (hn:nm="a" ∨ nm="b") {d:PyData}:zJ (Q0 kv (Sum.inr nm) d) (Sum.inr nm)=some d:=by
 rcases hn with rfl | rfl <;> cases h <;> simp only [Q0,zJ,List.any_cons,List.any_nil,List.map_cons,List.map_nil,ap1,ap2,ap3,ap4,Bool.or_false,Bool.or_true,Bool.false_or,Bool.true_or,zzM,zzN,zzL,List.nil_append,List.cons_append,acD,List.find?_cons,List.find?_nil] <;> rfl
theorem eqi (i:Int):dEq (.int i) (.int i)=some (.bool true):=by rw [ZG,decide_eq_true rfl]
theorem asR {v:Int} (hv:0<=v):∃ m:Int,agw [.int 30,.int v]=some (.int m)/\0<=m/\m<=v/\m<=30:=by
 refine ⟨if v<30 then v else 30,rfl,?_⟩
 split <;> omega
def Stp (u e l b:Int) (r:Nat) (S:PyData) (t:Int) (ps:PL) (kv:KV) (o:Option (Str × PL × KV)):Prop:=
 (∀ w qs kv',o=some (w,qs,kv')->w ∈ ZP/\Gd u l r qs kv')/\∀ (a p q:Addr) (μ:jx) (D U:LP) (R:Res PyData->jx->Prop),Bn μ a p q (jp u e l b) (jI ps) (dk kv) D U->D.length<1000000->(o=none->R (.ok (.bool true)) μ)->
  (∀ w qs kv' μ',o=some (w,qs,kv')->Bn μ' a p q (jp u e l b) (jI qs) (dk kv') (D++[stp w (jI ps) (dk kv)]) []->Jk μ μ' a p q->R (.ok (.bool true)) μ')->aac [S,.int t,js a,jp u e l b] μ R
theorem anA {S:PyData}{t:Int} (k:∀ (a p q:Addr) (μ:jx) (D U:LP) (R:Res PyData->jx->Prop),Bn μ a p q (jp u e l b) (jI ps) (dk kv) D U->D.length<1000000->R (.ok (.bool true)) μ->aac [S,.int t,js a,jp u e l b] μ R):Stp u e l b r S t ps kv none:=
 ⟨fun _ _ _ z=>(nomatch z),fun a p q μ D U R bn hl k0 _=>k a p q μ D U R bn hl (k0 rfl)⟩
theorem ZK {S:PyData}{t:Int}{w:Str}{qs:PL}{kv':KV} (hw:w ∈ ZP) (g:Gd u l r qs kv') (k:∀ (a p q:Addr) (μ:jx) (D U:LP) (R:Res PyData->jx->Prop),Bn μ a p q (jp u e l b) (jI ps) (dk kv) D U->D.length<1000000->(∀ μ',Bn μ' a p q (jp u e l b) (jI qs) (dk kv') (D++[stp w (jI ps) (dk kv)]) []->Jk μ μ' a p q->R (.ok (.bool true)) μ')->aac [S,.int t,js a,jp u e l b] μ R):Stp u e l b r S t ps kv (some (w,qs,kv')):=
 ⟨fun w' qs' kv'' z=>by cases z; exact ⟨hw,g⟩,fun a p q μ D U R bn hl _ k1=>k a p q μ D U R bn hl fun μ' bn' el=>k1 _ _ _ μ' rfl bn' el⟩
theorem anB (H:zo=true) (h:okN u e l b=true) {ns:List Int} (hn:ns.length<1000000) {t:Int} (ht:0<=t) (g:Gd u l r ps kv):∃ o,Stp u e l b r (scr ns) t ps kv o:=by
 obtain ⟨a1,a2,a3,a4,a5,a6,a7,a8,a9,a10⟩:=qx h
 obtain ⟨s1,s4,sp⟩:=ZJ g.ok
 have gn:=g.num h
 have vn:=arf h sp
 obtain ⟨m30,e30,m0,mv1,m1⟩:=asR vn
 obtain ⟨w,d1,w0,w7⟩:=qI ns hn t 7 ht (by omega)
 obtain ⟨n1,d2,n10,n11⟩:=qI ns hn (t+1) (1+b) (by omega) (by omega)
 obtain ⟨n2,d3,n20,n21⟩:=qI ns hn (t+1) (1+m30) (by omega) (by omega)
 obtain ⟨n3,d4,n30,n31⟩:=qI ns hn (t+2) 2 (by omega) (by omega)
 generalize scr ns=S at*
 by_cases c1:w<2
 ·rcases art H h g.ok n10 (by omega) with ⟨qs,f,ok,len⟩ | f
  ·have g':Gd u l r qs kv:=⟨ok,len.trans g.len,g.ko⟩
   refine ⟨_,ZK (w:="add") (by simp [ZP]) g' fun a p q μ D U R bn hl k1=>?_⟩
   show zc.1 [some S,some (.int t),some (js a),some (jp u e l b),none,none,none,none,none,none] μ (QQ R)
   simp only [zc]
   refine Js (ρ1:=[some S,some (.int t),some (js a),some (jp u e l b),some (.int w),none,none,none,none,none]) (qU (i:=4) (qX rfl d1)) ?_
   refine ads (aiO (i:=w) rfl c1) ?_
   refine aev (Js (ρ1:=[some S,some (.int t),some (js a),some (jp u e l b),some (.int w),some (.int n1),none,none,none,none]) (qU (i:=5) (qX (qg rfl (qg (qj rfl rfl (add_int _ _)) (qg (qj rfl (qj rfl rfl rfl) (add_int _ _)) rfl))) d2)) ?_)
   refine aev (aps ?_)
   refine ⟨js a,rfl,⟨a,_,rfl,bn.ha,rfl⟩,.int n1,rfl,_,rfl,_,rfl,rfl,?_⟩
   exact m_add bn hl f (g'.num h) fun μ' bn' el=>⟨js a,rfl,⟨a,_,rfl,bn'.ha,rfl⟩,_,rfl,rfl,m_value bn' (g'.num h) ⟨_,eqi _,k1 _ bn' el⟩⟩
  ·refine ⟨none,anA fun a p q μ D U R bn hl k0=>?_⟩
   show zc.1 [some S,some (.int t),some (js a),some (jp u e l b),none,none,none,none,none,none] μ (QQ R)
   simp only [zc]
   refine Js (ρ1:=[some S,some (.int t),some (js a),some (jp u e l b),some (.int w),none,none,none,none,none]) (qU (i:=4) (qX rfl d1)) ?_
   refine ads (aiO (i:=w) rfl c1) ?_
   refine aev (Js (ρ1:=[some S,some (.int t),some (js a),some (jp u e l b),some (.int w),some (.int n1),none,none,none,none]) (qU (i:=5) (qX (qg rfl (qg (qj rfl rfl (add_int _ _)) (qg (qj rfl (qj rfl rfl rfl) (add_int _ _)) rfl))) d2)) ?_)
   refine aev (aps ?_)
   refine ⟨js a,rfl,⟨a,_,rfl,bn.ha,rfl⟩,.int n1,rfl,_,rfl,_,rfl,rfl,?_⟩
   exact anv bn f ⟨rfl,.bool true,rfl,k0⟩
 ·skip
  by_cases c2:w=2
  ·rcases apt H h g.ok n20 (by omega) (by omega) with ⟨qs,f,ok,len⟩ | f
   ·have g':Gd u l r qs kv:=⟨ok,len.trans g.len,g.ko⟩
    refine ⟨_,ZK (w:="take") (by simp [ZP]) g' fun a p q μ D U R bn hl k1=>?_⟩
    show zc.1 [some S,some (.int t),some (js a),some (jp u e l b),none,none,none,none,none,none] μ (QQ R)
    simp only [zc]
    refine Js (ρ1:=[some S,some (.int t),some (js a),some (jp u e l b),some (.int w),none,none,none,none,none]) (qU (i:=4) (qX rfl d1)) ?_
    refine Ql (abI (i:=w) rfl c1) ?_
    refine ads (Zh (i:=w) rfl (decide_eq_true c2)) ?_
    refine aev (aps ?_)
    refine ⟨js a,rfl,⟨a,_,rfl,bn.ha,rfl⟩,S,rfl,.int (t+1),qj rfl rfl (add_int _ _),.int 1,rfl,.int 30,rfl,js a,rfl,⟨a,_,rfl,bn.ha,rfl⟩,_,rfl,rfl,m_value bn gn ?_⟩
    refine ⟨_,rfl,_,rfl,_,rfl,.int m30,e30,.int (1+m30),rfl,_,rfl,_,rfl,_,rfl,_,rfl,.int n2,d3,?_⟩
    refine ⟨_,rfl,_,rfl,rfl,?_⟩
    exact m_take bn hl f (g'.num h) fun μ' bn' el=>⟨js a,rfl,⟨a,_,rfl,bn'.ha,rfl⟩,_,rfl,rfl,m_value bn' (g'.num h) ⟨_,eqi _,k1 _ bn' el⟩⟩
   ·refine ⟨none,anA fun a p q μ D U R bn hl k0=>?_⟩
    show zc.1 [some S,some (.int t),some (js a),some (jp u e l b),none,none,none,none,none,none] μ (QQ R)
    simp only [zc]
    refine Js (ρ1:=[some S,some (.int t),some (js a),some (jp u e l b),some (.int w),none,none,none,none,none]) (qU (i:=4) (qX rfl d1)) ?_
    refine Ql (abI (i:=w) rfl c1) ?_
    refine ads (Zh (i:=w) rfl (decide_eq_true c2)) ?_
    refine aev (aps ?_)
    refine ⟨js a,rfl,⟨a,_,rfl,bn.ha,rfl⟩,S,rfl,.int (t+1),qj rfl rfl (add_int _ _),.int 1,rfl,.int 30,rfl,js a,rfl,⟨a,_,rfl,bn.ha,rfl⟩,_,rfl,rfl,m_value bn gn ?_⟩
    refine ⟨_,rfl,_,rfl,_,rfl,.int m30,e30,.int (1+m30),rfl,_,rfl,_,rfl,_,rfl,_,rfl,.int n2,d3,?_⟩
    refine ⟨_,rfl,_,rfl,rfl,?_⟩
    exact ak5 bn f ⟨rfl,.bool true,rfl,k0⟩
  ·skip
   by_cases c3:w=3
   ·skip
    obtain ⟨p0,pr',hps⟩:∃ p0 pr',ps=p0::pr':=by
     cases ps with
     | nil=>simp at s1
     | cons x y=>exact ⟨x,y,rfl⟩
    have hp0:ps[0]?=some p0:=by rw [hps]; rfl
    have i0:dIx (jI ps) (.int 0)=some (pr p0):=by
     subst hps
     show (if ((p0::pr').map pr).length<1000000 then atI ((p0::pr').map pr) 0 else none)=_
     rw [if_pos (by simp at s4 ⊢; omega)]
     unfold atI ixN
     rw [if_pos (Int.le_refl 0),if_pos (by simp)]; rfl
    have ok0:okP u l p0=true:=List.all_eq_true.mp sp p0 (by rw [hps]; exact List.mem_cons_self)
    obtain ⟨q1,q2,q3,q4⟩:=Jz ok0
    obtain ⟨x,y⟩:=p0
    have key:∃ (k:Bool) (c:Int),(c=1 ∨ c=-1)/\okP u l (shP (x,y) k c)=true/\∃ y8,∀ a:Addr,(qS (ifD (tst (op2 (zp fun i j=>decide (j<i)) (lkp 7) (cst (.int 0)))) (Z1 (jt (cst (.int 0)) (jt (cst (.str "lower")) (jt (fun ρ=>(cst (.int 1) ρ).bind ahT) jH)))) (Z1 (jt (cst (.int 0)) (jt (cst (.str "upper")) (jt (ifD (tst (op2 (zp fun i j=>decide (i<j)) (lkp 6) (op2 dIx (lkp 3) (cst (.int 0))))) (cst (.int 1)) (fun ρ=>(cst (.int 1) ρ).bind ahT)) jH))))) (jQ 8)) [some S,some (.int t),some (js a),some (jp u e l b),some (.int w),none,some (.int x),some (.int y),none,none]=some (.nx [some S,some (.int t),some (js a),some (jp u e l b),some (.int w),none,some (.int x),some (.int y),some y8,none])/\(ifS (adx (tst (op2 dEq (lkp 7) (cst (.int 0)))) (tst (op2 dEq (op2 dIx (lkp 3) (cst (.int 0))) (cst (.int 0))))) (jT (qS (cst (.tuple [.int 0,.str "lower",.int 1])) (jQ 8)) qz) qz) [some S,some (.int t),some (js a),some (jp u e l b),some (.int w),none,some (.int x),some (.int y),some y8,none]=some (.nx [some S,some (.int t),some (js a),some (jp u e l b),some (.int w),none,some (.int x),some (.int y),some (mv 0 k c),none]):=by
     have iu:∀ a:Addr,op2 dIx (lkp 3) (cst (.int 0)) [some S,some (.int t),some (js a),some (jp u e l b),some (.int w),none,some (.int x),some (.int y),none,none]=some (.int u):=fun _=>rfl
     have iu8:∀ (a:Addr) y8,op2 dIx (lkp 3) (cst (.int 0)) [some S,some (.int t),some (js a),some (jp u e l b),some (.int w),none,some (.int x),some (.int y),some y8,none]=some (.int u):=fun _ _=>rfl
     by_cases yy:0<y
     ·refine ⟨true,-1,.inr rfl,?_,mv 0 true (-1),fun a=>⟨qU (i:=8) ((ap6 (arv (i:=y) rfl yy)).trans rfl),?_⟩⟩
      ·simp only [okP,shP,zzM,Bool.and_eq_true,decide_eq_true_eq] at *; omega
      ·exact aro (arw (Zh (i:=y) rfl (decide_eq_false (by omega))))
     ·have y0:y=0:=by omega
      by_cases xx:x<u
      ·have tp:∀ a:Addr,Z1 (jt (cst (.int 0)) (jt (cst (.str "upper")) (jt (ifD (tst (op2 (zp fun i j=>decide (i<j)) (lkp 6) (op2 dIx (lkp 3) (cst (.int 0))))) (cst (.int 1)) (fun ρ=>(cst (.int 1) ρ).bind ahT)) jH))) [some S,some (.int t),some (js a),some (jp u e l b),some (.int w),none,some (.int x),some (.int y),none,none]=some (mv 0 false 1):=by
        intro a
        unfold Z1
        rw [qg rfl (qg rfl (qg ((ap6 (QK (qj rfl (iu a) (by show some (PyData.bool (decide (x<u)))=_; rw [decide_eq_true xx])))).trans rfl) rfl)),zzD,if_pos fw3]; rfl
       refine ⟨false,1,.inl rfl,?_,mv 0 false 1,fun a=>⟨qU (i:=8) ((ajV (anz (i:=y) rfl yy)).trans (tp a)),?_⟩⟩
       ·simp only [okP,shP,zzL,zzN,Bool.and_eq_true,decide_eq_true_eq] at *; omega
       ·exact aro (aiP (Zh (i:=y) rfl (decide_eq_true y0)) (Zh (iu8 a _) (decide_eq_false (by omega))))
      ·have tp:∀ a:Addr,Z1 (jt (cst (.int 0)) (jt (cst (.str "upper")) (jt (ifD (tst (op2 (zp fun i j=>decide (i<j)) (lkp 6) (op2 dIx (lkp 3) (cst (.int 0))))) (cst (.int 1)) (fun ρ=>(cst (.int 1) ρ).bind ahT)) jH))) [some S,some (.int t),some (js a),some (jp u e l b),some (.int w),none,some (.int x),some (.int y),none,none]=some (mv 0 false (-1)):=by
        intro a
        unfold Z1
        rw [qg rfl (qg rfl (qg ((ajV (QK (qj rfl (iu a) (by show some (PyData.bool (decide (x<u)))=_; rw [decide_eq_false xx])))).trans rfl) rfl)),zzD,if_pos fw3]; rfl
       by_cases u0:u=0
       ·refine ⟨true,1,.inl rfl,?_,mv 0 false (-1),fun a=>⟨qU (i:=8) ((ajV (anz (i:=y) rfl yy)).trans (tp a)),?_⟩⟩
        ·simp only [okP,shP,zzM,Bool.and_eq_true,decide_eq_true_eq] at *; omega
        ·exact (atC (aiP (Zh (i:=y) rfl (decide_eq_true y0)) (Zh (iu8 a _) (decide_eq_true u0)))).trans rfl
       ·refine ⟨false,-1,.inr rfl,?_,mv 0 false (-1),fun a=>⟨qU (i:=8) ((ajV (anz (i:=y) rfl yy)).trans (tp a)),?_⟩⟩
        ·simp only [okP,shP,zzL,zzN,Bool.and_eq_true,decide_eq_true_eq] at *; omega
        ·exact aro (aiP (Zh (i:=y) rfl (decide_eq_true y0)) (Zh (iu8 a _) (decide_eq_false u0)))
    obtain ⟨k,c,hc,ho,y8,f89⟩:=key
    obtain ⟨f,ok,len⟩:=apu H h g.ok hp0 hc ho
    have g':Gd u l r (ps.set 0 (shP (x,y) k c)) kv:=⟨ok,len.trans g.len,g.ko⟩
    refine ⟨_,ZK (w:="push") (by simp [ZP]) g' fun a p q μ D U R bn hl k1=>?_⟩
    show zc.1 [some S,some (.int t),some (js a),some (jp u e l b),none,none,none,none,none,none] μ (QQ R)
    simp only [zc]
    refine Js (ρ1:=[some S,some (.int t),some (js a),some (jp u e l b),some (.int w),none,none,none,none,none]) (qU (i:=4) (qX rfl d1)) ?_
    refine Ql (abI (i:=w) rfl c1) ?_
    refine Ql (Zh (i:=w) rfl (decide_eq_false c2)) ?_
    refine ads (Zh (i:=w) rfl (decide_eq_true c3)) ?_
    refine ⟨js a,rfl,⟨a,_,rfl,bn.ha,rfl⟩,_,rfl,rfl,m_setting bn ⟨.int 0,rfl,pr (x,y),i0,[some S,some (.int t),some (js a),some (jp u e l b),some (.int w),none,some (.int x),some (.int y),none,none],rfl,?_⟩⟩
    refine Js (f89 a).1 (Js (f89 a).2 ?_)
    refine ⟨js a,rfl,⟨a,_,rfl,bn.ha,rfl⟩,mv 0 k c,rfl,_,rfl,_,rfl,rfl,?_⟩
    exact m_push bn hl f (g'.num h) fun μ' bn' el=>⟨js a,rfl,⟨a,_,rfl,bn'.ha,rfl⟩,_,rfl,rfl,m_value bn' (g'.num h) ⟨_,eqi _,k1 _ bn' el⟩⟩
   ·skip
    have hnm:∃ nm:Str,(nm="a" ∨ nm="b")/\aq1 (.str "ab") (.int n3)=some (.str nm):=by
     have:n3=0 ∨ n3=1:=by omega
     rcases this with rfl | rfl
     ·exact ⟨"a",.inl rfl,by kernel_rfl⟩
     ·exact ⟨"b",.inr rfl,by kernel_rfl⟩
    obtain ⟨nm,hnm,inm⟩:=hnm
    have g':Gd u l r ps (Q0 kv (Sum.inr nm) (jI ps)):=⟨g.ok,g.len,g.ko.put hnm ⟨ps,rfl,g.ok,g.len⟩⟩
    have keep:∀ (a p q:Addr) (μ:jx) (D U:LP) (R:Res PyData->jx->Prop),Bn μ a p q (jp u e l b) (jI ps) (dk kv) D U->D.length<1000000->(∀ μ',Bn μ' a p q (jp u e l b) (jI ps) (dk (Q0 kv (Sum.inr nm) (jI ps))) (D++[stp "keep" (jI ps) (dk kv)]) []->Jk μ μ' a p q->R (.ok (.bool true)) μ')->(Ja (zj (apQ (opC dEq (BX.bindC (zk (lkp 2)) (ZN "Bench" "keep" adh 2 (JF (zk (lkp 9)) (zx (some []))))) (BX.bindC (zk (lkp 2)) (ZN "Bench" "value" JX 1 (zx (some []))))) (opC (dIn false) (zk (lkp 9)) (BX.bindC (zk (lkp 2)) (ZN "Bench" "names" QI 1 (zx (some [])))))) rtC) aqW) [some S,some (.int t),some (js a),some (jp u e l b),some (.int w),none,none,none,none,some (.str nm)] μ (QQ R):=by
     intro a p q μ D U R bn hl k1
     refine ⟨js a,rfl,⟨a,_,rfl,bn.ha,rfl⟩,.str nm,rfl,_,rfl,_,rfl,rfl,?_⟩
     refine m_keep bn hl g.ko.len (af7 (by rcases hnm with rfl | rfl <;> simp)) gn fun μ' bn' el=>?_
     refine ⟨js a,rfl,⟨a,_,rfl,bn'.ha,rfl⟩,_,rfl,rfl,m_value bn' gn ?_⟩
     refine ⟨_,eqi _,?_⟩
     have inn:dIn false (.str nm) (.list ((kN (Q0 kv (Sum.inr nm) (jI ps))).map .str))=some (.bool true):=by
      rw [adt g'.ko hnm false,g.ko.valput hnm]; rfl
     exact ⟨true,rfl,.str nm,rfl,js a,rfl,⟨a,_,rfl,bn'.ha,rfl⟩,_,rfl,rfl,m_names bn' g'.ko.srt ⟨_,inn,k1 _ bn' el⟩⟩
    by_cases c4:w<6
    ·refine ⟨_,ZK (w:="keep") (by simp [ZP]) g' fun a p q μ D U R bn hl k1=>?_⟩
     show zc.1 [some S,some (.int t),some (js a),some (jp u e l b),none,none,none,none,none,none] μ (QQ R)
     simp only [zc]
     refine Js (ρ1:=[some S,some (.int t),some (js a),some (jp u e l b),some (.int w),none,none,none,none,none]) (qU (i:=4) (qX rfl d1)) ?_
     refine Ql (abI (i:=w) rfl c1) ?_
     refine Ql (Zh (i:=w) rfl (decide_eq_false c2)) ?_
     refine Ql (Zh (i:=w) rfl (decide_eq_false c3)) ?_
     refine Js (ρ1:=[some S,some (.int t),some (js a),some (jp u e l b),some (.int w),none,none,none,none,some (.str nm)]) (qU (i:=9) (qj rfl (qX (qg rfl (qg (qj rfl rfl (add_int _ _)) rfl)) d4) inm)) ?_
     refine ⟨true,aiO (i:=w) rfl c4,true,rfl,?_⟩
     exact keep a p q μ D U R bn hl k1
    ·cases hv:zJ kv (Sum.inr nm) with
     | none=>
      refine ⟨_,ZK (w:="keep") (by simp [ZP]) g' fun a p q μ D U R bn hl k1=>?_⟩
      show zc.1 [some S,some (.int t),some (js a),some (jp u e l b),none,none,none,none,none,none] μ (QQ R)
      simp only [zc]
      refine Js (ρ1:=[some S,some (.int t),some (js a),some (jp u e l b),some (.int w),none,none,none,none,none]) (qU (i:=4) (qX rfl d1)) ?_
      refine Ql (abI (i:=w) rfl c1) ?_
      refine Ql (Zh (i:=w) rfl (decide_eq_false c2)) ?_
      refine Ql (Zh (i:=w) rfl (decide_eq_false c3)) ?_
      refine Js (ρ1:=[some S,some (.int t),some (js a),some (jp u e l b),some (.int w),none,none,none,none,some (.str nm)]) (qU (i:=9) (qj rfl (qX (qg rfl (qg (qj rfl rfl (add_int _ _)) rfl)) d4) inm)) ?_
      refine ⟨false,abI (i:=w) rfl c4,?_⟩
      refine ⟨.str nm,rfl,js a,rfl,⟨a,_,rfl,bn.ha,rfl⟩,_,rfl,rfl,m_names bn g.ko.srt ?_⟩
      refine ⟨_,adt g.ko hnm true,_,rfl,?_⟩
      rw [hv]
      exact keep a p q μ D U R bn hl k1
     | some s'=>
      obtain ⟨qs,rfl,ok,len⟩:=g.ko.val hv
      have g2:Gd u l r qs kv:=⟨ok,len,g.ko⟩
      refine ⟨_,ZK (w:="recall") (by simp [ZP]) g2 fun a p q μ D U R bn hl k1=>?_⟩
      show zc.1 [some S,some (.int t),some (js a),some (jp u e l b),none,none,none,none,none,none] μ (QQ R)
      simp only [zc]
      refine Js (ρ1:=[some S,some (.int t),some (js a),some (jp u e l b),some (.int w),none,none,none,none,none]) (qU (i:=4) (qX rfl d1)) ?_
      refine Ql (abI (i:=w) rfl c1) ?_
      refine Ql (Zh (i:=w) rfl (decide_eq_false c2)) ?_
      refine Ql (Zh (i:=w) rfl (decide_eq_false c3)) ?_
      refine Js (ρ1:=[some S,some (.int t),some (js a),some (jp u e l b),some (.int w),none,none,none,none,some (.str nm)]) (qU (i:=9) (qj rfl (qX (qg rfl (qg (qj rfl rfl (add_int _ _)) rfl)) d4) inm)) ?_
      refine ⟨false,abI (i:=w) rfl c4,?_⟩
      refine ⟨.str nm,rfl,js a,rfl,⟨a,_,rfl,bn.ha,rfl⟩,_,rfl,rfl,m_names bn g.ko.srt ?_⟩
      refine ⟨_,adt g.ko hnm true,_,rfl,?_⟩
      rw [hv]
      refine ⟨js a,rfl,⟨a,_,rfl,bn.ha,rfl⟩,.str nm,rfl,_,rfl,_,rfl,rfl,?_⟩
      exact m_recall bn hl (af7 (by rcases hnm with rfl | rfl <;> simp)) hv (g2.num h) fun μ' bn' el=>⟨js a,rfl,⟨a,_,rfl,bn'.ha,rfl⟩,_,rfl,rfl,m_value bn' (g2.num h) ⟨_,eqi _,k1 _ bn' el⟩⟩
end
section
variable {u e l b:Int}{r:Nat}{a p q a' p' q':Addr}{μ μ':jx}{R:Res PyData->jx->Prop}
abbrev Ev:=Str × (PL × KV)
def stD (x:Ev):PyData:=stp x.1 (jI x.2.1) (dk x.2.2)
structure TS where
 c:PL × KV
 D:List Ev
 U:List Ev
abbrev Bs (μ:jx) (a p q:Addr) (M:PyData) (T:TS):Prop:=Bn μ a p q M (jI T.c.1) (dk T.c.2) (T.D.map stD) (T.U.map stD)
structure GT (u l:Int) (r:Nat) (z:PL × KV) (T:TS):Prop where
 g:Gd u l r T.c.1 T.c.2
 dn:∀ x ∈ T.D,x.1 ∈ ZP/\Gd u l r x.2.1 x.2.2
 un:∀ x ∈ T.U,x.1 ∈ ZP/\Gd u l r x.2.1 x.2.2
 hd:(T.D.map (·.2)++[T.c]).head?=some z
theorem hd2 {α:Type} (xs:List α) (y z:α):(xs++[y]++[z]).head?=(xs++[y]).head?:=by cases xs <;> rfl
section
variable {z c c0:PL × KV}{D U:List Ev}{w:Str}{M:PyData}
theorem GT.back (t:GT u l r z ⟨c,D++[(w,c0)],U⟩):GT u l r z ⟨c0,D,U++[(w,c)]⟩/\w ∈ ZP:=by
 have h0:=t.dn (w,c0) (by simp)
 refine ⟨⟨h0.2,fun x hx=>t.dn x (by simp only [List.mem_append]; exact .inl hx),fun x hx=>?_,?_⟩,h0.1⟩
 ·simp only [List.mem_append,List.mem_singleton] at hx
  rcases hx with hx | rfl
  ·exact t.un x hx
  ·exact ⟨h0.1,t.g⟩
 ·have:=t.hd
  simp only [List.map_append,List.map_cons,List.map_nil,hd2] at this
  exact this
theorem GT.forth (t:GT u l r z ⟨c,D,U++[(w,c0)]⟩):GT u l r z ⟨c0,D++[(w,c)],U⟩/\w ∈ ZP:=by
 have h0:=t.un (w,c0) (by simp)
 refine ⟨⟨h0.2,fun x hx=>?_,fun x hx=>t.un x (by simp only [List.mem_append]; exact .inl hx),?_⟩,h0.1⟩
 ·simp only [List.mem_append,List.mem_singleton] at hx
  rcases hx with hx | rfl
  ·exact t.dn x hx
  ·exact ⟨h0.1,t.g⟩
 ·simp only [List.map_append,List.map_cons,List.map_nil,hd2]
  exact t.hd
theorem GT.step (t:GT u l r z ⟨c,D,U⟩) (hw:w ∈ ZP) (g:Gd u l r c0.1 c0.2):GT u l r z ⟨c0,D++[(w,c)],[]⟩:=by
 refine ⟨g,fun x hx=>?_,(fun x hx=>nomatch hx),?_⟩
 ·simp only [List.mem_append,List.mem_singleton] at hx
  rcases hx with hx | rfl
  ·exact t.dn x hx
  ·exact ⟨hw,t.g⟩
 ·simp only [List.map_append,List.map_cons,List.map_nil,hd2]
  exact t.hd
theorem GT.nil {T:TS} (t:GT u l r z T) (h:T.D=[]):T.c=z:=by
 have:=t.hd
 rw [h] at this
 exact Option.some.inj this
theorem af8 (bn:Bs μ a p q M ⟨c,D++[(w,c0)],U⟩) (hl:U.length<1000000) (k:∀ μ',Bs μ' a p q M ⟨c0,D,U++[(w,c)]⟩->Jk μ μ' a p q->R (.ok (.str w)) μ'):adk [js a] μ R:=by
 have b2:Bn μ a p q M (jI c.1) (dk c.2) (D.map stD++[stp w (jI c0.1) (dk c0.2)]) (U.map stD):=by
  have:=bn; simp only [Bs,List.map_append,List.map_cons,List.map_nil] at this; exact this
 refine m_back b2 (by rw [List.length_map]; exact hl) fun μ' bn' el=>k μ' ?_ el
 simp only [Bs,List.map_append,List.map_cons,List.map_nil]; exact bn'
theorem apv (bn:Bs μ a p q M ⟨c,D,U++[(w,c0)]⟩) (hl:D.length<1000000) (k:∀ μ',Bs μ' a p q M ⟨c0,D++[(w,c)],U⟩->Jk μ μ' a p q->R (.ok (.str w)) μ'):aaS [js a] μ R:=by
 have b2:Bn μ a p q M (jI c.1) (dk c.2) (D.map stD) (U.map stD++[stp w (jI c0.1) (dk c0.2)]):=by
  have:=bn; simp only [Bs,List.map_append,List.map_cons,List.map_nil] at this; exact this
 refine m_forth b2 (by rw [List.length_map]; exact hl) fun μ' bn' el=>k μ' ?_ el
 simp only [Bs,List.map_append,List.map_cons,List.map_nil]; exact bn'
end
def nwT (b e:Int) (T:TS):PyData:=nw b e T.c.1 T.c.2 T.D.length T.U.length
section
variable {T:TS}{z:PL × KV}{M:PyData}
theorem abJ (h:okN u e l b=true) (t:GT u l r z T) (bn:Bs μ a p q (jp u e l b) T) (hR:R (.ok (nwT b e T)) μ):ahd [js a] μ R:=
 aru h t.g bn (by rw [List.length_map,List.length_map]; exact hR)
theorem ZL (bn:Bs μ a p q M T) (hR:R (.ok (.tuple [.int (T.D.length:Int),.int (T.U.length:Int)])) μ):ZB [js a] μ R:=
 m_steps bn (by rw [List.length_map,List.length_map]; exact hR)
theorem af9 (t:GT u l r z T):dNe (nwT b e T) (nwT b e T)=some (.bool false):=anw (ap5 t.g _ _) (by omega)
end
structure Dj (a p q a' p' q':Addr):Prop where
 aa:a' ≠ a
 ap:a' ≠ p
 aq:a' ≠ q
 pa:p' ≠ a
 pp:p' ≠ p
 pq:p' ≠ q
 qa:q' ≠ a
 qp:q' ≠ p
 qq:q' ≠ q
theorem Dj.symm (d:Dj a p q a' p' q'):Dj a' p' q' a p q:=⟨Ne.symm d.aa,Ne.symm d.pa,Ne.symm d.qa,Ne.symm d.ap,Ne.symm d.pp,Ne.symm d.qp,Ne.symm d.aq,Ne.symm d.pq,Ne.symm d.qq⟩
theorem Bn.keep {M s K:PyData}{D U:LP} (bn:Bn μ a' p' q' M s K D U) (el:Jk μ μ' a p q) (d:Dj a p q a' p' q'):Bn μ' a' p' q' M s K D U:=
 ⟨bn.ap,bn.aq,bn.pq,by rw [el a' d.aa d.ap d.aq]; exact bn.ha,by rw [el p' d.pa d.pp d.pq]; exact bn.hp,by rw [el q' d.qa d.qp d.qq]; exact bn.hq⟩
theorem aiQ {M s K:PyData}{D U:LP} (bn:Bn μ a p q M s K D U) (na:μ a'=none) (np:μ p'=none) (nq:μ q'=none):Dj a p q a' p' q':=by
 have k:∀ {x y:Addr} {c:Cell},μ x=none->μ y=some c->x ≠ y:=fun h1 h2 z=>by subst z; rw [h1] at h2; cases h2
 exact ⟨k na bn.ha,k na bn.hp,k na bn.hq,k np bn.ha,k np bn.hp,k np bn.hq,k nq bn.ha,k nq bn.hp,k nq bn.hq⟩
theorem Jk.trans {μ μ1 μ2:jx} (h1:Jk μ μ1 a p q) (h2:Jk μ1 μ2 a p q):Jk μ μ2 a p q:=fun x x1 x2 x3=>(h2 x x1 x2 x3).trans (h1 x x1 x2 x3)
theorem Jk.refl (μ:jx):Jk μ μ a p q:=fun _ _ _ _=>rfl
theorem anC (H:zo=true) (h:okN u e l b=true) {ns:List Int} (hn:ns.length<1000000) {t:Int} (ht:0<=t) {z:PL × KV}{T:TS} (g:GT u l r z T) (hl:T.D.length<1000):∃ T':TS,GT u l r z T'/\T'.D.length<=T.D.length+1/\T'.U.length<=T.U.length/\
  ∀ (a p q:Addr) (μ:jx) (R:Res PyData->jx->Prop),Bs μ a p q (jp u e l b) T->(∀ μ',Bs μ' a p q (jp u e l b) T'->Jk μ μ' a p q->R (.ok (.bool true)) μ')->aac [scr ns,.int t,js a,jp u e l b] μ R:=by
 obtain ⟨o,h1,h2⟩:=anB (ps:=T.c.1) (kv:=T.c.2) H h hn ht g.g
 cases o with
 | none=>exact ⟨T,g,by omega,Nat.le_refl _,fun a p q μ R bn k=>h2 a p q μ _ _ R bn (by rw [List.length_map]; omega) (fun _=>k μ bn (Jk.refl μ)) fun _ _ _ _ z=>nomatch z⟩
 | some o=>
  obtain ⟨w,qs,kv'⟩:=o
  obtain ⟨hw,g'⟩:=h1 w qs kv' rfl
  obtain ⟨c,D,U⟩:=T
  refine ⟨⟨(qs,kv'),D++[(w,c)],[]⟩,g.step hw g',by simp,by simp,fun a p q μ R bn k=>?_⟩
  refine h2 a p q μ _ _ R bn (by rw [List.length_map]; omega) (fun z=>nomatch z) fun w' qs' kv'' μ' e bn' el=>?_
  cases e
  exact k μ' (by simp only [Bs,List.map_append,List.map_cons,List.map_nil]; exact bn') el
end
section
variable {u e l b:Int}{r:Nat}{a p q a' p' q' a2 p2 q2:Addr}{z:PL × KV}
theorem aew (H:zo=true) (h:okN u e l b=true) {ns:List Int} (hn:ns.length<1000000):∀ (ks:List Int) (T:TS),(∀ k ∈ ks,0<=k/\k<100)->GT u l r z T->T.D.length+ks.length<1000->∃ T':TS,GT u l r z T'/\T'.D.length<=T.D.length+ks.length/\T'.U.length<=T.U.length/\
  ∀ (a p q:Addr) (μ:jx) (x:OP) (R:OutC->jx->Prop),Bs μ a p q (jp u e l b) T->(∀ x' μ',Bs μ' a p q (jp u e l b) T'->Jk μ μ' a p q->R (.nx [some (scr ns),some (js a),some (jp u e l b),x']) μ')->ZU (jQ 3) afV.1 (ks.map PyData.int) [some (scr ns),some (js a),some (jp u e l b),x] μ R
 | [],T,_,g,_=>⟨T,g,by omega,Nat.le_refl _,fun a p q μ x R bn k=>k x μ bn (Jk.refl μ)⟩
 | k::ks,T,hk,g,hl=>by
  have h0:=hk k List.mem_cons_self
  rw [List.length_cons] at hl
  obtain ⟨T1,g1,l1,u1,s1⟩:=anC H h hn (t:=200+5*k) (by omega) g (by omega)
  obtain ⟨T2,g2,l2,u2,s2⟩:=aew H h hn ks T1 (fun k hk'=>hk k (List.mem_cons_of_mem _ hk')) g1 (by omega)
  refine ⟨T2,g2,by rw [List.length_cons]; omega,by omega,fun a p q μ x R bn kk=>?_⟩
  refine ⟨[some (scr ns),some (js a),some (jp u e l b),some (.int k)],rfl,?_⟩
  simp only [afV]
  have e1:op2 Jg (cst (.int 200)) (op2 aai (cst (.int 5)) (lkp 3)) [some (scr ns),some (js a),some (jp u e l b),some (.int k)]=some (.int (200+5*k)):=qj rfl (qj rfl rfl (za ⟨by omega,by omega⟩)) (add_int _ _)
  refine ⟨scr ns,rfl,_,e1,js a,rfl,jp u e l b,rfl,_,rfl,_,rfl,_,rfl,_,rfl,_,rfl,rfl,s1 a p q μ _ bn fun μ1 bn1 el1=>?_⟩
  exact s2 a p q μ1 _ R bn1 fun x' μ2 bn2 el2=>kk x' μ2 bn2 (el1.trans el2)
theorem arx (H:zo=true) (h:okN u e l b=true) {ns:List Int} (hn:ns.length<1000000) {T:TS} (g:GT u l r z T) (hl:T.D.length<900):∃ T':TS,GT u l r z T'/\T'.D.length<=T.D.length+4/\T'.U.length<=T.U.length/\
  ∀ (a p q:Addr) (μ:jx) (R:Res PyData->jx->Prop),Bs μ a p q (jp u e l b) T->(∀ μ',Bs μ' a p q (jp u e l b) T'->Jk μ μ' a p q->R (.ok (nwT b e T')) μ')->aiD [scr ns,js a,jp u e l b] μ R:=by
 obtain ⟨T',g',l',u',s'⟩:=aew H h hn [0,1,2,3] T (by decide) g (by simp; omega)
 refine ⟨T',g',l',u',fun a p q μ R bn k=>?_⟩
 show afW.1 [some (scr ns),some (js a),some (jp u e l b),none] μ (QQ R)
 simp only [afW]
 refine ⟨[0,1,2,3].map PyData.int,rfl,s' a p q μ none _ bn fun x' μ1 bn1 el1=>?_⟩
 exact ⟨js a,rfl,_,rfl,_,rfl,rfl,abJ h g' bn1 (k μ1 bn1 el1)⟩
def LI1 (ns:List Int) (u e l b:Int) (r:Nat) (z:PL × KV) (a p q:Addr) (k:Nat) (ρ:Rho) (μ:jx):Prop:=
 ∃ (T:TS) (x3 x4:OP),ρ=[some (scr ns),some (jp u e l b),some (js a),x3,x4,none,none,none,none]/\GT u l r z T/\Bs μ a p q (jp u e l b) T/\T.D.length<=1+k/\T.U.length<=0
theorem atD (H:zo=true) (h:okN u e l b=true) {ns:List Int} (hn:ns.length<1000000) {k:Nat} (hk:k<20) {ρ:Rho}{μ:jx}{R:OutC->jx->Prop} (hi:LI1 ns u e l b r z a p q k ρ μ) (kk:∀ ρ' μ',LI1 ns u e l b r z a p q (k+1) ρ' μ'->R (.nx ρ') μ'):∃ ρ1,jQ 3 (.int (k:Int)) ρ=some ρ1/\am2.1 ρ1 μ R:=by
 obtain ⟨T,x3,x4,rfl,g,bn,hD,hU⟩:=hi
 refine ⟨[some (scr ns),some (jp u e l b),some (js a),some (.int (k:Int)),x4,none,none,none,none],rfl,?_⟩
 simp only [am2]
 have e1:op2 Jg (cst (.int 10)) (op2 aai (cst (.int 5)) (lkp 3)) [some (scr ns),some (jp u e l b),some (js a),some (.int (k:Int)),x4,none,none,none,none]=some (.int (10+5*(k:Int))):=qj rfl (qj rfl rfl (za ⟨by omega,by omega⟩)) (add_int _ _)
 obtain ⟨T1,g1,l1,u1,s1⟩:=anC H h hn (t:=10+5*(k:Int)) (by omega) g (by omega)
 refine ⟨scr ns,rfl,_,e1,js a,rfl,jp u e l b,rfl,_,rfl,_,rfl,_,rfl,_,rfl,_,rfl,rfl,s1 a p q μ _ bn fun μ1 bn1 el1=>?_⟩
 exact kk _ _ ⟨T1,_,_,rfl,g1,bn1,by omega,by omega⟩
theorem TS.lastD {T:TS} (h:0<T.D.length):∃ D w c0,T=⟨T.c,D++[(w,c0)],T.U⟩:=by
 obtain ⟨c,D,U⟩:=T
 rcases List.eq_nil_or_concat D with rfl | ⟨D',x,rfl⟩
 ·simp at h
 ·exact ⟨D',x.1,x.2,by simp [List.concat_eq_append]⟩
theorem TS.lastU {T:TS} (h:0<T.U.length):∃ U w c0,T=⟨T.c,T.D,U++[(w,c0)]⟩:=by
 obtain ⟨c,D,U⟩:=T
 rcases List.eq_nil_or_concat U with rfl | ⟨U',x,rfl⟩
 ·simp at h
 ·exact ⟨U',x.1,x.2,by simp [List.concat_eq_append]⟩
def LI2 (ns:List Int) (u e l b:Int) (r:Nat) (z:PL × KV) (a p q:Addr) (N:Nat) (k:Nat) (ρ:Rho) (μ:jx):Prop:=
 ∃ (T:TS) (x3 x4:OP),ρ=[some (scr ns),some (jp u e l b),some (js a),x3,x4,none,none,none,none]/\GT u l r z T/\Bs μ a p q (jp u e l b) T/\T.D.length+k=N/\T.U.length<=k
theorem atE {ns:List Int}{k N:Nat} (hN:N<100) (hk:k<N) {d:PyData}{ρ:Rho}{μ:jx}{R:OutC->jx->Prop} (hi:LI2 ns u e l b r z a p q N k ρ μ) (kk:∀ ρ' μ',LI2 ns u e l b r z a p q N (k+1) ρ' μ'->R (.nx ρ') μ'):∃ ρ1,jQ 4 d ρ=some ρ1/\am3.1 ρ1 μ R:=by
 obtain ⟨T,x3,x4,rfl,g,bn,hD,hU⟩:=hi
 obtain ⟨D,w,c0,hT⟩:=T.lastD (by omega)
 rw [hT] at g bn hD
 refine ⟨[some (scr ns),some (jp u e l b),some (js a),x3,some d,none,none,none,none],rfl,?_⟩
 simp only [am3]
 refine ⟨js a,rfl,⟨a,_,rfl,bn.ha,rfl⟩,_,rfl,rfl,af8 bn (by omega) fun μ1 bn1 el1=>?_⟩
 exact kk _ _ ⟨_,_,_,rfl,g.back.1,bn1,by simp only [List.length_append,List.length_singleton] at hD; show D.length+(k+1)=N; omega,by show (T.U++[(w,T.c)]).length<=k+1; simp; omega⟩
structure Th3 (u e l b:Int) (a p q a' p' q' a2 p2 q2:Addr):Prop where
 d1:Dj a p q a' p' q'
 d2:Dj a p q a2 p2 q2
 d3:Dj a' p' q' a2 p2 q2
def LI3 (ns:List Int) (u e l b:Int) (r:Nat) (z:PL × KV) (a p q a' p' q' a2 p2 q2:Addr) (y5 y8:PyData) (T4:TS) (N B:Nat) (k:Nat) (ρ:Rho) (μ:jx):Prop:=
 ∃ (T:TS) (x3 x4:OP),ρ=[some (scr ns),some (jp u e l b),some (js a),x3,x4,some y5,some (js a'),some (js a2),some y8]/\GT u l r z T/\Bs μ a p q (jp u e l b) T4/\Bs μ a' p' q' (jp u e l b) T4/\Bs μ a2 p2 q2 (jp u e l b) T/\T.U.length+k=N/\T.D.length<=B+k
theorem atF {ns:List Int}{k N B:Nat}{y5 y8:PyData}{T4:TS} (th:Th3 u e l b a p q a' p' q' a2 p2 q2) (hN:N<100) (hB:B<100) (hk:k<N) {d:PyData}{ρ:Rho}{μ:jx}{R:OutC->jx->Prop} (hi:LI3 ns u e l b r z a p q a' p' q' a2 p2 q2 y5 y8 T4 N B k ρ μ) (kk:∀ ρ' μ',LI3 ns u e l b r z a p q a' p' q' a2 p2 q2 y5 y8 T4 N B (k+1) ρ' μ'->R (.nx ρ') μ'):∃ ρ1,jQ 4 d ρ=some ρ1/\am4.1 ρ1 μ R:=by
 obtain ⟨T,x3,x4,rfl,g,b1,b2,bn,hU,hD⟩:=hi
 obtain ⟨U,w,c0,hT⟩:=T.lastU (by omega)
 rw [hT] at g bn hU
 refine ⟨[some (scr ns),some (jp u e l b),some (js a),x3,some d,some y5,some (js a'),some (js a2),some y8],rfl,?_⟩
 simp only [am4]
 refine ⟨js a2,rfl,⟨a2,_,rfl,bn.ha,rfl⟩,_,rfl,rfl,apv bn (by omega) fun μ1 bn1 el1=>?_⟩
 exact kk _ _ ⟨_,_,_,rfl,g.forth.1,b1.keep el1 th.d2.symm,b2.keep el1 th.d3.symm,bn1,by simp only [List.length_append,List.length_singleton] at hU; show U.length+(k+1)=N; omega,by show (T.D++[(w,T.c)]).length<=B+(k+1); simp; omega⟩
def LI4 (ns:List Int) (u e l b:Int) (r:Nat) (z:PL × KV) (a p q a' p' q' a2 p2 q2:Addr) (y5 y8:PyData) (T5:TS) (N:Nat) (k:Nat) (ρ:Rho) (μ:jx):Prop:=
 ∃ (T:TS) (x3 x4:OP),ρ=[some (scr ns),some (jp u e l b),some (js a),x3,x4,some y5,some (js a'),some (js a2),some y8]/\GT u l r z T/\Bs μ a p q (jp u e l b) T/\Bs μ a' p' q' (jp u e l b) T/\Bs μ a2 p2 q2 (jp u e l b) T5/\T.D.length+k=N/\T.U.length<=100+k
theorem atG (h:okN u e l b=true) {ns:List Int}{k N:Nat}{y5 y8:PyData}{T5:TS} (th:Th3 u e l b a p q a' p' q' a2 p2 q2) (hN:N<100) (hk:k<N) {d:PyData}{ρ:Rho}{μ:jx}{R:OutC->jx->Prop} (hi:LI4 ns u e l b r z a p q a' p' q' a2 p2 q2 y5 y8 T5 N k ρ μ) (kk:∀ ρ' μ',LI4 ns u e l b r z a p q a' p' q' a2 p2 q2 y5 y8 T5 N (k+1) ρ' μ'->R (.nx ρ') μ'):∃ ρ1,jQ 4 d ρ=some ρ1/\am5.1 ρ1 μ R:=by
 obtain ⟨T,x3,x4,rfl,g,b1,b2,b3,hD,hU⟩:=hi
 obtain ⟨D,w,c0,hT⟩:=T.lastD (by omega)
 rw [hT] at g b1 b2 hD
 refine ⟨[some (scr ns),some (jp u e l b),some (js a),x3,some d,some y5,some (js a'),some (js a2),some y8],rfl,?_⟩
 simp only [am5]
 obtain ⟨g',hw⟩:=g.back
 refine ⟨js a',rfl,⟨a',_,rfl,b2.ha,rfl⟩,_,rfl,rfl,af8 b2 (by omega) fun μ1 c2 el1=>?_⟩
 have c1:=b1.keep el1 th.d1.symm
 have c3:=b3.keep el1 th.d3
 refine ⟨js a,rfl,⟨a,_,rfl,c1.ha,rfl⟩,_,rfl,rfl,af8 c1 (by omega) fun μ2 e1 el2=>?_⟩
 have e2:=c2.keep el2 th.d1
 have e3:=c3.keep el2 th.d2
 refine ⟨_,anw (apr hw) (by omega),false,rfl,?_⟩
 refine ⟨js a',rfl,_,rfl,_,rfl,rfl,abJ h g' e2 ⟨js a,rfl,_,rfl,_,rfl,rfl,abJ h g' e1 ⟨_,af9 g',false,rfl,?_⟩⟩⟩
 exact kk _ _ ⟨_,_,_,rfl,g',e1,e2,e3,by simp only [List.length_append,List.length_singleton] at hD; show D.length+(k+1)=N; omega,by show (T.U++[(w,T.c)]).length<=100+(k+1); simp; omega⟩
def LI5 (ns:List Int) (u e l b:Int) (r:Nat) (z:PL × KV) (a p q a' p' q' a2 p2 q2:Addr) (y5 y8:PyData) (T4:TS) (N:Nat) (k:Nat) (ρ:Rho) (μ:jx):Prop:=
 ∃ (T:TS) (x3 x4:OP),ρ=[some (scr ns),some (jp u e l b),some (js a),x3,x4,some y5,some (js a'),some (js a2),some y8]/\GT u l r z T/\Bs μ a p q (jp u e l b) T4/\Bs μ a' p' q' (jp u e l b) T4/\Bs μ a2 p2 q2 (jp u e l b) T/\T.D.length+k=N/\T.U.length<=k
theorem atH {ns:List Int}{k N:Nat}{y5 y8:PyData}{T4:TS} (th:Th3 u e l b a p q a' p' q' a2 p2 q2) (hN:N<1000) (hk:k<N) {d:PyData}{ρ:Rho}{μ:jx}{R:OutC->jx->Prop} (hi:LI5 ns u e l b r z a p q a' p' q' a2 p2 q2 y5 y8 T4 N k ρ μ) (kk:∀ ρ' μ',LI5 ns u e l b r z a p q a' p' q' a2 p2 q2 y5 y8 T4 N (k+1) ρ' μ'->R (.nx ρ') μ'):∃ ρ1,jQ 4 d ρ=some ρ1/\am6.1 ρ1 μ R:=by
 obtain ⟨T,x3,x4,rfl,g,b1,b2,bn,hD,hU⟩:=hi
 obtain ⟨D,w,c0,hT⟩:=T.lastD (by omega)
 rw [hT] at g bn hD
 refine ⟨[some (scr ns),some (jp u e l b),some (js a),x3,some d,some y5,some (js a'),some (js a2),some y8],rfl,?_⟩
 simp only [am6]
 refine ⟨js a2,rfl,⟨a2,_,rfl,bn.ha,rfl⟩,_,rfl,rfl,af8 bn (by omega) fun μ1 bn1 el1=>?_⟩
 exact kk _ _ ⟨_,_,_,rfl,g.back.1,b1.keep el1 th.d2.symm,b2.keep el1 th.d3.symm,bn1,by simp only [List.length_append,List.length_singleton] at hD; show D.length+(k+1)=N; omega,by show (T.U++[(w,T.c)]).length<=k+1; simp; omega⟩
end
section
variable {u e l b:Int}
theorem anD (H:zo=true) (h:okN u e l b=true) {ns:List Int} (hn:ns.length<1000000) {r n1 k7:Nat} (h1:1<=r) (h4:r<=4) (hn1:n1<=10) (hk7:k7<4) {Q:PyData} (hQ:Q=scr ns) (mn:Zx [Q,.int 0]=some (jp u e l b)) (d5:QG [Q,.int 5,.int 3]=some (.int ((r:Int) - 1))) (d6:QG [Q,.int 6,.int 8]=some (.int ((n1:Int) - 3))) (d7:QG [Q,.int 7,.int 4]=some (.int (k7:Int)))
  {R:Res PyData->jx->Prop} (hR:∀ μ,R (.ok (.bool true)) μ):am7 [Q] (fun _=>none) R:=by
 obtain ⟨a1,a2,a3,a4,a5,a6,a7,a8,a9,a10⟩:=qx h
 have s0:=anx H h h1 h4
 have v0:=ajJ H h r 0 h1 (Int.le_refl _) (Int.pow_pos (show (0:Int)<b by omega))
 have okp:=anf H h h1 h4 (Int.le_refl _) (Int.pow_pos (show (0:Int)<b by omega))
 have lenp:=af2 (jp u e l b) b r 0
 generalize hps:pln (jp u e l b) b r 0=ps at*
 have ad:Jg (.int 1) (.int ((r:Int) - 1))=some (.int (r:Int)):=by
  show some (PyData.int (1+((r:Int) - 1)))=_
  congr 2; omega
 have ad6:Jg (.int 3) (.int ((n1:Int) - 3))=some (.int (n1:Int)):=by
  show some (PyData.int (3+((n1:Int) - 3)))=_
  congr 2; omega
 show apb.1 [some Q,none,none,none,none,none,none,none,none] (fun _=>none) (QQ R)
 simp only [apb]
 refine Js (ρ1:=[some Q,some (jp u e l b),none,none,none,none,none,none,none]) (qU (i:=1) (qX rfl mn)) ?_
 refine ⟨jp u e l b,rfl,.int (r:Int),qj rfl (qX rfl d5) ad,_,rfl,_,rfl,_,rfl,ahl s0 fun a p q μ1 bn na np nq hx=>?_⟩
 have g0:Gd u l r ps []:=⟨okp,lenp,.n⟩
 have gs0:GS u l r (jI ps):=⟨ps,rfl,okp,lenp⟩
 refine ⟨js a,rfl,⟨a,_,rfl,bn.ha,rfl⟩,.str "a",rfl,_,rfl,_,rfl,rfl,m_keep bn (by simp) (by simp) (af7 (.inl rfl)) (g0.num h) fun μ2 bn2 el2=>?_⟩
 have T1:∃ T:TS,GT u l r (ps,[]) T/\Bs μ2 a p q (jp u e l b) T/\T.D.length<=1+0/\T.U.length<=0:=
  ⟨⟨(ps,[(.str "a",jI ps)]),[("keep",(ps,[]))],[]⟩,⟨⟨okp,lenp,.a _ gs0⟩,fun x hx=>(by rw [List.mem_singleton.mp hx]; exact ⟨by simp [ZP],g0⟩),(fun x hx=>nomatch hx),rfl⟩,bn2,by simp,by simp⟩
 obtain ⟨T1,t1,b1,l1,u1⟩:=T1
 refine ⟨Jf 0 n1,?_,?_⟩
 ·show (jt _ jH _).bind aeS=_
  rw [qg (qj rfl (qX rfl d6) ad6) rfl,zzD]
  exact (ZC (by omega) (by omega)).trans (by rw [Int.toNat_natCast])
 subst hQ
 refine JA (LI1 ns u e l b r (ps,[]) a p q) (Jf 0 n1) 0 _ μ2 ⟨T1,_,_,rfl,t1,b1,l1,u1⟩ (fun i d ρ μ R' hd hi kk=>?_) fun ρ' μ3 hi=>?_
 ·obtain ⟨hj,rfl⟩:=Zf hd
  rw [Nat.zero_add] at hi
  exact atD H h hn (show i<20 by omega) hi (fun ρ' μ' z=>kk ρ' μ' (by rw [Nat.zero_add]; exact z))
 rw [Zg,Nat.zero_add] at hi
 obtain ⟨T2,x3,x4,rfl,t2,b2,l2,u2⟩:=hi
 obtain ⟨n2,e2,n2a,n2b⟩:∃ n2:Nat,agw [.int (T2.D.length:Int),.int (k7:Int)]=some (.int (n2:Int))/\n2<=T2.D.length/\n2<4:=by
  refine ⟨if (k7:Int)<(T2.D.length:Int) then k7 else T2.D.length,?_,?_,?_⟩
  ·show some (PyData.int (if (k7:Int)<(T2.D.length:Int) then (k7:Int) else (T2.D.length:Int)))=_
   by_cases z:(k7:Int)<(T2.D.length:Int)
   ·rw [if_pos z,if_pos z]
   ·rw [if_neg z,if_neg z]
  ·split <;> omega
  ·split <;> omega
 refine ⟨js a,rfl,⟨a,_,rfl,b2.ha,rfl⟩,_,rfl,rfl,ZL b2 ?_⟩
 refine ⟨.int 0,rfl,.int (T2.D.length:Int),rfl,.int (k7:Int),qX rfl d7,_,rfl,_,rfl,_,rfl,.int (n2:Int),e2,_,rfl,_,rfl,Jf 0 n2,(ZC (by omega) (by omega)).trans (by rw [Int.toNat_natCast]),?_⟩
 refine JA (LI2 ns u e l b r (ps,[]) a p q T2.D.length) (Jf 0 n2) 0 _ μ3 ⟨T2,_,_,rfl,t2,b2,rfl,u2⟩ (fun i d ρ μ R' hd hi kk=>?_) fun ρ' μ4 hi=>?_
 ·obtain ⟨hj,rfl⟩:=Zf hd
  rw [Nat.zero_add] at hi
  exact atE (by omega) (show i<T2.D.length by omega) hi (fun ρ' μ' z=>kk ρ' μ' (by rw [Nat.zero_add]; exact z))
 rw [Zg,Nat.zero_add] at hi
 obtain ⟨T3,y3,y4,rfl,t3,b3,l3,u3⟩:=hi
 refine ⟨js a,rfl,_,rfl,_,rfl,rfl,abJ h t3 b3 ?_⟩
 have hr3:T3.c.1.length=r:=t3.g.len
 have s0':JP [jp u e l b,.int (r:Int),.int 0]=some (jI ps):=s0
 have ln3:zB [jI T3.c.1]=some (.int (r:Int)):=by rw [←hr3]; exact aaW _
 refine ⟨js a,rfl,⟨a,_,rfl,b3.ha,rfl⟩,_,rfl,rfl,m_twin b3 ln3 s0' fun a' p' q' μ5 b5 na' np' nq' x5=>?_⟩
 have dj1:=aiQ b3 na' np' nq'
 have b3':=b3.ext x5
 refine ⟨js a',rfl,⟨a',_,rfl,b5.ha,rfl⟩,_,rfl,rfl,m_twin b5 ln3 s0' fun a'' p'' q'' μ6 b6 na'' np'' nq'' x6=>?_⟩
 have dj2:=aiQ b3' na'' np'' nq''
 have dj3:=aiQ b5 na'' np'' nq''
 have th:Th3 u e l b a p q a' p' q' a'' p'' q'':=⟨dj1,dj2,dj3⟩
 have c1:=b3'.ext x6
 have c2:=b5.ext x6
 refine ⟨[js a',js a''],rfl,rfl,?_⟩
 refine ⟨_,rfl,js a',rfl,_,rfl,_,rfl,rfl,abJ h t3 c2 ?_⟩
 refine ⟨_,rfl,js a'',rfl,_,rfl,_,rfl,rfl,abJ h t3 b6 ?_⟩
 have ne22:dNe (.list [nwT b e T3,nwT b e T3]) (.list [nwT b e T3,nwT b e T3])=some (.bool false):=anw (n:=5) (anu fun d hd=>by
  simp only [List.mem_cons,List.not_mem_nil,or_false] at hd
  rcases hd with rfl | rfl <;> exact ap5 t3.g _ _) (by omega)
 refine ⟨.list [nwT b e T3,nwT b e T3],rfl,.bool false,ne22,false,rfl,?_⟩
 obtain ⟨T4,t4,l4,u4,dn4⟩:=arx H h hn t3 (by omega)
 refine ⟨scr ns,rfl,js a,rfl,jp u e l b,rfl,_,rfl,_,rfl,_,rfl,_,rfl,rfl,dn4 a p q μ6 _ c1 fun μ7 e1 el7=>?_⟩
 have e2:=c2.keep el7 dj1
 have e3:=b6.keep el7 dj2
 refine ⟨js a',rfl,_,rfl,_,rfl,rfl,abJ h t3 e2 ⟨_,rfl,.bool false,af9 t3,false,rfl,?_⟩⟩
 refine ⟨scr ns,rfl,js a',rfl,jp u e l b,rfl,_,rfl,_,rfl,_,rfl,_,rfl,rfl,dn4 a' p' q' μ7 _ e2 fun μ8 f2 el8=>?_⟩
 have f1:=e1.keep el8 dj1.symm
 have f3:=e3.keep el8 dj3
 refine ⟨_,rfl,.bool false,af9 t4,false,rfl,?_⟩
 refine ⟨js a'',rfl,_,rfl,_,rfl,rfl,abJ h t3 f3 ⟨_,rfl,.bool false,af9 t3,false,rfl,?_⟩⟩
 refine ⟨js a'',rfl,⟨a'',_,rfl,f3.ha,rfl⟩,_,rfl,rfl,ZL f3 ?_⟩
 refine ⟨.int 1,rfl,.int (T3.U.length:Int),rfl,_,rfl,_,rfl,Jf 0 T3.U.length,(ZC (by omega) (by omega)).trans (by rw [Int.toNat_natCast]),?_⟩
 refine JA (LI3 ns u e l b r (ps,[]) a p q a' p' q' a'' p'' q'' (nwT b e T3) (nwT b e T4) T4 T3.U.length T3.D.length) (Jf 0 T3.U.length) 0 _ μ8 ⟨T3,_,_,rfl,t3,f1,f2,f3,rfl,Nat.le_refl _⟩ (fun i d ρ μ R' hd hi kk=>?_) fun ρ' μ9 hi=>?_
 ·obtain ⟨hj,rfl⟩:=Zf hd
  rw [Nat.zero_add] at hi
  exact atF th (by omega) (by omega) hj hi (fun ρ' μ' z=>kk ρ' μ' (by rw [Nat.zero_add]; exact z))
 rw [Zg,Nat.zero_add] at hi
 obtain ⟨T5,z3,z4,rfl,t5,g1,g2,g3,u5,l5⟩:=hi
 refine ⟨js a',rfl,⟨a',_,rfl,g2.ha,rfl⟩,_,rfl,rfl,ZL g2 ?_⟩
 refine ⟨.int 0,rfl,.int (T4.D.length:Int),rfl,_,rfl,_,rfl,Jf 0 T4.D.length,(ZC (by omega) (by omega)).trans (by rw [Int.toNat_natCast]),?_⟩
 refine JA (LI4 ns u e l b r (ps,[]) a p q a' p' q' a'' p'' q'' (nwT b e T3) (nwT b e T4) T5 T4.D.length) (Jf 0 T4.D.length) 0 _ μ9 ⟨T4,_,_,rfl,t4,g1,g2,g3,rfl,by omega⟩ (fun i d ρ μ R' hd hi kk=>?_) fun ρ' μ10 hi=>?_
 ·obtain ⟨hj,rfl⟩:=Zf hd
  rw [Nat.zero_add] at hi
  exact atG h th (by omega) hj hi (fun ρ' μ' z=>kk ρ' μ' (by rw [Nat.zero_add]; exact z))
 rw [Zg,Nat.zero_add] at hi
 obtain ⟨T6,v3,v4,rfl,t6,i1,i2,i3,l6,u6⟩:=hi
 refine ⟨js a'',rfl,⟨a'',_,rfl,i3.ha,rfl⟩,_,rfl,rfl,ZL i3 ?_⟩
 refine ⟨.int 0,rfl,.int (T5.D.length:Int),rfl,_,rfl,_,rfl,Jf 0 T5.D.length,(ZC (by omega) (by omega)).trans (by rw [Int.toNat_natCast]),?_⟩
 refine JA (LI5 ns u e l b r (ps,[]) a p q a' p' q' a'' p'' q'' (nwT b e T3) (nwT b e T4) T6 T5.D.length) (Jf 0 T5.D.length) 0 _ μ10 ⟨T5,_,_,rfl,t5,i1,i2,i3,rfl,by omega⟩ (fun i d ρ μ R' hd hi kk=>?_) fun ρ' μ11 hi=>?_
 ·obtain ⟨hj,rfl⟩:=Zf hd
  rw [Nat.zero_add] at hi
  exact atH th (by omega) hj hi (fun ρ' μ' z=>kk ρ' μ' (by rw [Nat.zero_add]; exact z))
 rw [Zg,Nat.zero_add] at hi
 obtain ⟨T7,w3,w4,rfl,t7,j1,j2,j3,l7,u7⟩:=hi
 have c7:=t7.nil (List.length_eq_zero_iff.mp (by omega))
 have c6:=t6.nil (List.length_eq_zero_iff.mp (by omega))
 have gn:QF [jp u e l b,jI ps]=some (.int 0):=by rw [g0.num h,v0]
 have j3':Bn μ11 a'' p'' q'' (jp u e l b) (jI ps) (dk []) (T7.D.map stD) (T7.U.map stD):=by
  have:=j3; unfold Bs at this; rw [c7] at this; exact this
 refine ⟨js a'',rfl,⟨a'',_,rfl,j3'.ha,rfl⟩,_,rfl,rfl,m_value j3' gn ⟨.int 0,rfl,.bool true,eqi 0,true,rfl,?_⟩⟩
 have j2':Bn μ11 a' p' q' (jp u e l b) (jI ps) (dk []) (T6.D.map stD) (T6.U.map stD):=by
  have:=j2; unfold Bs at this; rw [c6] at this; exact this
 refine ⟨js a',rfl,⟨a',_,rfl,j2'.ha,rfl⟩,_,rfl,rfl,m_value j2' gn ⟨.int 0,rfl,.bool true,eqi 0,true,rfl,?_⟩⟩
 refine ⟨js a'',rfl,⟨a'',_,rfl,j3'.ha,rfl⟩,_,rfl,rfl,m_names j3' g0.ko.srt ⟨.list [],rfl,.bool true,rfl,true,rfl,?_⟩⟩
 refine ⟨js a,rfl,⟨a,_,rfl,j1.ha,rfl⟩,_,rfl,rfl,ZL j1 ⟨js a',rfl,⟨a',_,rfl,j2.ha,rfl⟩,_,rfl,rfl,ZL j2 ⟨.bool true,?_,hR _⟩⟩⟩
 exact asO (n:=2) (aiM fun d hd=>by
  simp only [List.mem_cons,List.not_mem_nil,or_false] at hd
  rcases hd with rfl | rfl <;> exact aiN _) (by omega) rfl
theorem ak6 (H:zo=true) (ns:List Int) (hn:ns.length<1000000):am7 [scr ns] (fun _=>none) (fun o _=>o= .ok (.bool true)):=by
 obtain ⟨u,e,l,b,mn,hm⟩:=aiF ns hn 0 (Int.le_refl _)
 have h:=apc hm
 obtain ⟨k5,d5,p5,q5⟩:=qI ns hn 5 3 (by omega) (by omega)
 obtain ⟨k6,d6,p6,q6⟩:=qI ns hn 6 8 (by omega) (by omega)
 obtain ⟨k7,d7,p7,q7⟩:=qI ns hn 7 4 (by omega) (by omega)
 obtain ⟨k7,rfl⟩:=Int.eq_ofNat_of_zero_le p7
 exact anD (r:=(k5+1).toNat) (n1:=(k6+3).toNat) (k7:=k7) H h hn (by omega) (by omega) (by omega) (by omega) rfl mn (by rw [show (((k5+1).toNat:Nat):Int) - 1=k5 by omega]; exact d5) (by rw [show (((k6+3).toNat:Nat):Int) - 3=k6 by omega]; exact d6) d7 fun _=>rfl
end
end Rods
end
section
namespace BX
open PySem L2
open PyProof.Rows hiding St
theorem jW.thr {P:Program}{w:World}{K:Fg}{mg:SV}{base h:Heap}{x:Str}{st:Stmt}{ps:List Str}{k n:Nat}{g:LP->Option Str} (T:jW K x st) (X:K.In h) (G:h.Ns mainGlobals mg)
  (pa:ju x st ps) (ok:∀ f fd,Fun K x x st f fd->FnOk P w K mg base (CXt P w) k f fd ps (ah1 K mg n g)):qL P w K mg base x ps k n g:=by
 obtain ⟨f,oc,od,an,kV,doc,pm,Kc,ct,osl,a,l,c,kp⟩:=T
 have F1:=aa1 (st:=st) l c kp
 exact ⟨f,_,ok f _ F1,PySem.W.mg_of X G a,kp,F1.binds pa⟩
end BX
namespace Rods
open PySem L2 BX
open PyProof.Rows hiding St
structure Tops (K:Fg):Prop where
 isWhole:jW K "is_whole" aaB
 rodWorth:jW K "rod_worth" Zo
 beads:jW K "beads" afc
 allRods:jW K "all_rods" aaC
 hasAll:jW K "has_all_digits" Zp
 isManner:jW K "is_manner" Zq
 check:jW K "check_manner" ac6
 rodsWith:jW K "rods_with" Qi
 fewest:jW K "fewest_beads" abZ
 chkRods:jW K "check_rods" JH
 chkNum:jW K "check_number" zE
 asked:jW K "check_asked" Jb
 num:jW K "number_on" Jx
 digits:jW K "digits_by_rods" Zt
 plainR:jW K "plain_rods" Zs
 plainS:jW K "plain_setting" aaG
 isRod:jW K "is_rod" afh
 isSet:jW K "is_setting" zO
 chkSet:jW K "check_setting" zt
 cell:jW K "_law_cell" ajz
 drawn:jW K "_law_drawn" afk
 manner:jW K "_law_manner" ab2
 enough:jW K "check_enough" aaH
 less:jW K "less" ag3
 beh:jW K "behind_changes" Zy
 DA:jW K "digit_added" sDA
 cbd:jW K "changes_by_digits" ail
 chA:jW K "changes_adding" amN
 adding:jW K "adding" aaI
 added:jW K "added" ada
 NamesBeads:jW K "names_beads" JR
 Pushed:jW K "pushed" ab7
 CanMove:jW K "can_move" aaK
 BehindMove:jW K "behind_move" JT
 Moved:jW K "moved" add
 IsName:jW K "is_name" aaO
 LStep:jW K "_law_step" afT
 LNow:jW K "_law_now" ahc
 LDone:jW K "_law_done" aad
 law:jW K "law" ZO
 MInit:zy K "Bench" "__init__" "Bench.__init__" afx
 MSetting:zy K "Bench" "setting" "Bench.setting" ZA
 MValue:zy K "Bench" "value" "Bench.value" ach
 MGoOn:zy K "Bench" "go_on" "Bench.go_on" afC
 MAdd:zy K "Bench" "add" "Bench.add" ajG
 MTake:zy K "Bench" "take" "Bench.take" afD
 MPush:zy K "Bench" "push" "Bench.push" afF
 MKeep:zy K "Bench" "keep" "Bench.keep" afH
 MRecall:zy K "Bench" "recall" "Bench.recall" aaQ
 MNames:zy K "Bench" "names" "Bench.names" aci
 MCross:zy K "Bench" "cross" "Bench.cross" acj
 MBack:zy K "Bench" "back" "Bench.back" afM
 MForth:zy K "Bench" "forth" "Bench.forth" acm
 MSteps:zy K "Bench" "steps" "Bench.steps" acn
 MTwin:zy K "Bench" "twin" "Bench.twin" afR
 cls:akA K "Bench"
 fd_done:agR K "Bench" "done"
 fd_kept:agR K "Bench" "kept"
 fd_manner:agR K "Bench" "manner"
 fd_now:agR K "Bench" "now"
 fd_undone:agR K "Bench" "undone"
structure Consts (K:Fg) (mg:SV):Prop where
 b:Bare mg
 least:GC K mg "LEAST_PARTS" (.tuple [.int 0,.int 1,.int 0,.int 2])
 most:GC K mg "MOST_PARTS" (.tuple [.int 3,.int 16,.int 12,.int 16])
 mostRods:GC K mg "MOST_RODS" (.int 4)
 mostNumber:GC K mg "MOST_NUMBER" (.int 99999)
 decks:GC K mg "DECKS" (.tuple [.str "upper",.str "lower"])
 mostLetters:GC K mg "MOST_LETTERS" (.int 6)
 errT:ErrT K mg "BeadError" amQ
theorem aiR:ju "is_whole" aaB ["thing","least","most"]:=fun _ _ _ _ _ _ us hl=>by obtain ⟨v0,v1,v2,rfl⟩:=ZM us hl; rfl
theorem ahm:ju "rod_worth" Zo ["manner","rod"]:=fun _ _ _ _ _ _ us hl=>by obtain ⟨v0,v1,rfl⟩:=aaZ us hl; rfl
theorem anE:ju "beads" afc ["rod"]:=fun _ _ _ _ _ _ us hl=>by obtain ⟨v0,rfl⟩:=adv us hl; rfl
theorem aiS:ju "all_rods" aaC ["manner"]:=fun _ _ _ _ _ _ us hl=>by obtain ⟨v0,rfl⟩:=adv us hl; rfl
theorem ak7:ju "has_all_digits" Zp ["manner"]:=fun _ _ _ _ _ _ us hl=>by obtain ⟨v0,rfl⟩:=adv us hl; rfl
theorem ahn:ju "is_manner" Zq ["thing"]:=fun _ _ _ _ _ _ us hl=>by obtain ⟨v0,rfl⟩:=adv us hl; rfl
theorem aho:ju "check_manner" ac6 ["thing"]:=fun _ _ _ _ _ _ us hl=>by obtain ⟨v0,rfl⟩:=adv us hl; rfl
theorem ahp:ju "rods_with" Qi ["manner","worth"]:=fun _ _ _ _ _ _ us hl=>by obtain ⟨v0,v1,rfl⟩:=aaZ us hl; rfl
theorem ak8:ju "fewest_beads" abZ ["manner","worth"]:=fun _ _ _ _ _ _ us hl=>by obtain ⟨v0,v1,rfl⟩:=aaZ us hl; rfl
theorem adu:ju "check_rods" JH ["rods"]:=fun _ _ _ _ _ _ us hl=>by obtain ⟨v0,rfl⟩:=adv us hl; rfl
theorem aex:ju "check_number" zE ["number"]:=fun _ _ _ _ _ _ us hl=>by obtain ⟨v0,rfl⟩:=adv us hl; rfl
theorem ahq:ju "check_asked" Jb ["manner","rods","number"]:=fun _ _ _ _ _ _ us hl=>by obtain ⟨v0,v1,v2,rfl⟩:=ZM us hl; rfl
theorem ary:ju "number_on" Jx ["manner","setting"]:=fun _ _ _ _ _ _ us hl=>by obtain ⟨v0,v1,rfl⟩:=aaZ us hl; rfl
theorem ak9:ju "digits_by_rods" Zt ["base","rods","number"]:=fun _ _ _ _ _ _ us hl=>by obtain ⟨v0,v1,v2,rfl⟩:=ZM us hl; rfl
theorem aey:ju "plain_rods" Zs ["manner","rods","number"]:=fun _ _ _ _ _ _ us hl=>by obtain ⟨v0,v1,v2,rfl⟩:=ZM us hl; rfl
theorem aez:ju "plain_setting" aaG ["manner","rods","number"]:=fun _ _ _ _ _ _ us hl=>by obtain ⟨v0,v1,v2,rfl⟩:=ZM us hl; rfl
theorem anF:ju "is_rod" afh ["manner","thing"]:=fun _ _ _ _ _ _ us hl=>by obtain ⟨v0,v1,rfl⟩:=aaZ us hl; rfl
theorem ahr:ju "is_setting" zO ["manner","thing"]:=fun _ _ _ _ _ _ us hl=>by obtain ⟨v0,v1,rfl⟩:=aaZ us hl; rfl
theorem aeA:ju "check_setting" zt ["manner","thing"]:=fun _ _ _ _ _ _ us hl=>by obtain ⟨v0,v1,rfl⟩:=aaZ us hl; rfl
theorem apw:ju "_law_cell" ajz ["_law_script","_law_k"]:=fun _ _ _ _ _ _ us hl=>by obtain ⟨v0,v1,rfl⟩:=aaZ us hl; rfl
theorem anG:ju "_law_drawn" afk ["_law_script","_law_k","_law_many"]:=fun _ _ _ _ _ _ us hl=>by obtain ⟨v0,v1,v2,rfl⟩:=ZM us hl; rfl
theorem ala:ju "_law_manner" ab2 ["_law_script","_law_at"]:=fun _ _ _ _ _ _ us hl=>by obtain ⟨v0,v1,rfl⟩:=aaZ us hl; rfl
theorem aeB:ju "check_enough" aaH ["manner","setting","number"]:=fun _ _ _ _ _ _ us hl=>by obtain ⟨v0,v1,v2,rfl⟩:=ZM us hl; rfl
theorem ajW:ju "less" ag3 ["manner","setting","number"]:=fun _ _ _ _ _ _ us hl=>by obtain ⟨v0,v1,v2,rfl⟩:=ZM us hl; rfl
theorem arz:ju "behind_changes" Zy ["setting","changes"]:=fun _ _ _ _ _ _ us hl=>by obtain ⟨v0,v1,rfl⟩:=aaZ us hl; rfl
theorem ajX:ju "digit_added" sDA ["manner","setting","rod","digit"]:=fun _ _ _ _ _ _ us hl=>by obtain ⟨v0,v1,v2,v3,rfl⟩:=aqr us hl; rfl
theorem anH:ju "changes_by_digits" ail ["manner","setting","number","digit_changes"]:=fun _ _ _ _ _ _ us hl=>by obtain ⟨v0,v1,v2,v3,rfl⟩:=aqr us hl; rfl
theorem anI:ju "changes_adding" amN ["manner","setting","number"]:=fun _ _ _ _ _ _ us hl=>by obtain ⟨v0,v1,v2,rfl⟩:=ZM us hl; rfl
theorem aeC:ju "adding" aaI ["manner","setting","number"]:=fun _ _ _ _ _ _ us hl=>by obtain ⟨v0,v1,v2,rfl⟩:=ZM us hl; rfl
theorem ahs:ju "added" ada ["manner","setting","number"]:=fun _ _ _ _ _ _ us hl=>by obtain ⟨v0,v1,v2,rfl⟩:=ZM us hl; rfl
theorem adH:ju "names_beads" JR ["setting","thing"]:=fun _ _ _ _ _ _ us hl=>by obtain ⟨v0,v1,rfl⟩:=aaZ us hl; rfl
theorem alb:ju "pushed" ab7 ["rod","deck","by"]:=fun _ _ _ _ _ _ us hl=>by obtain ⟨v0,v1,v2,rfl⟩:=ZM us hl; rfl
theorem aiT:ju "can_move" aaK ["manner","setting","thing"]:=fun _ _ _ _ _ _ us hl=>by obtain ⟨v0,v1,v2,rfl⟩:=ZM us hl; rfl
theorem adI:ju "behind_move" JT ["setting","move"]:=fun _ _ _ _ _ _ us hl=>by obtain ⟨v0,v1,rfl⟩:=aaZ us hl; rfl
theorem aht:ju "moved" add ["manner","setting","move"]:=fun _ _ _ _ _ _ us hl=>by obtain ⟨v0,v1,v2,rfl⟩:=ZM us hl; rfl
theorem alc:ju "is_name" aaO ["thing"]:=fun _ _ _ _ _ _ us hl=>by obtain ⟨v0,rfl⟩:=adv us hl; rfl
theorem anJ:ju "_law_step" afT ["_law_script","_law_at","_law_bench","_law_manner_here"]:=fun _ _ _ _ _ _ us hl=>by obtain ⟨v0,v1,v2,v3,rfl⟩:=aqr us hl; rfl
theorem apx:ju "_law_now" ahc ["_law_bench"]:=fun _ _ _ _ _ _ us hl=>by obtain ⟨v0,rfl⟩:=adv us hl; rfl
theorem anK:ju "_law_done" aad ["_law_script","_law_bench","_law_manner_here"]:=fun _ _ _ _ _ _ us hl=>by obtain ⟨v0,v1,v2,rfl⟩:=ZM us hl; rfl
theorem anL:jX "__init__" "Bench.__init__" afx ["self","manner","rods"]:=fun _ _ _ _ _ _ us hl=>match us,hl with | [_,_,_],_=>rfl
theorem ahu:jX "setting" "Bench.setting" ZA ["self"]:=fun _ _ _ _ _ _ us hl=>match us,hl with | [_],_=>rfl
theorem ald:jX "value" "Bench.value" ach ["self"]:=fun _ _ _ _ _ _ us hl=>match us,hl with | [_],_=>rfl
theorem anM:jX "go_on" "Bench.go_on" afC ["self","word","fresh","kept"]:=fun _ _ _ _ _ _ us hl=>match us,hl with | [_,_,_,_],_=>rfl
theorem apy:jX "add" "Bench.add" ajG ["self","number"]:=fun _ _ _ _ _ _ us hl=>match us,hl with | [_,_],_=>rfl
theorem anN:jX "take" "Bench.take" afD ["self","number"]:=fun _ _ _ _ _ _ us hl=>match us,hl with | [_,_],_=>rfl
theorem anO:jX "push" "Bench.push" afF ["self","move"]:=fun _ _ _ _ _ _ us hl=>match us,hl with | [_,_],_=>rfl
theorem anP:jX "keep" "Bench.keep" afH ["self","name"]:=fun _ _ _ _ _ _ us hl=>match us,hl with | [_,_],_=>rfl
theorem aiU:jX "recall" "Bench.recall" aaQ ["self","name"]:=fun _ _ _ _ _ _ us hl=>match us,hl with | [_,_],_=>rfl
theorem ale:jX "names" "Bench.names" aci ["self"]:=fun _ _ _ _ _ _ us hl=>match us,hl with | [_],_=>rfl
theorem alf:jX "cross" "Bench.cross" acj ["self","source","goal"]:=fun _ _ _ _ _ _ us hl=>match us,hl with | [_,_,_],_=>rfl
theorem anQ:jX "back" "Bench.back" afM ["self"]:=fun _ _ _ _ _ _ us hl=>match us,hl with | [_],_=>rfl
theorem alg:jX "forth" "Bench.forth" acm ["self"]:=fun _ _ _ _ _ _ us hl=>match us,hl with | [_],_=>rfl
theorem alh:jX "steps" "Bench.steps" acn ["self"]:=fun _ _ _ _ _ _ us hl=>match us,hl with | [_],_=>rfl
theorem anR:jX "twin" "Bench.twin" afR ["self"]:=fun _ _ _ _ _ _ us hl=>match us,hl with | [_],_=>rfl
theorem atJ (HT:zo=true) {P:Program}{w:World}{K:Fg}{h:Heap}{mg:SV}{base:Heap} (X:K.In h) (G:h.Ns mainGlobals mg) (T:Tops K) (C:Consts K mg):CLaw P w K mg base:=by
 have f_done:qw K "Bench" "done":=T.fd_done.cls T.cls
 have f_kept:qw K "Bench" "kept":=T.fd_kept.cls T.cls
 have f_manner:qw K "Bench" "manner":=T.fd_manner.cls T.cls
 have f_now:qw K "Bench" "now":=T.fd_now.cls T.cls
 have f_undone:qw K "Bench" "undone":=T.fd_undone.cls T.cls
 have c_isWhole:jm P w K mg base "is_whole" ["thing","least","most"] 1 3 jU:=T.isWhole.callee X G aiR fun f fd F=>jO F aif fun Kc A Ko s H E hr=>aaD.2 P w K mg base f Kc A Ko s H E C.b hr
 have c_rodWorth:jm P w K mg base "rod_worth" ["manner","rod"] 1 2 qH:=T.rodWorth.callee X G ahm fun f fd F=>jO F agU fun Kc A Ko s H E hr=>abh.2 P w K mg base f Kc A Ko s H E trivial hr
 have c_beads:jm P w K mg base "beads" ["rod"] 1 1 Ji:=T.beads.callee X G anE fun f fd F=>jO F amK fun Kc A Ko s H E hr=>aig.2 P w K mg base f Kc A Ko s H E trivial hr
 have c_allRods:jm P w K mg base "all_rods" ["manner"] 1 1 JG:=T.allRods.callee X G aiS fun f fd F=>aih F C.b
 have c_hasAll:jm P w K mg base "has_all_digits" ["manner"] 2 1 aaE:=T.hasAll.callee X G ak7 fun f fd F=>jO F aea fun Kc A Ko s H E hr=>afd.2 P w K mg base f Kc A Ko s H E ⟨C.b,c_allRods,c_rodWorth⟩ hr
 have c_isManner:jm P w K mg base "is_manner" ["thing"] 3 1 qZ:=T.isManner.callee X G ahn fun f fd F=>jO F JM fun Kc A Ko s H E hr=>abi.2 P w K mg base f Kc A Ko s H E ⟨C.b,C.least,C.most,c_isWhole,c_hasAll⟩ hr
 have c_check:jm P w K mg base "check_manner" ["thing"] 4 1 Q6:=T.check.callee X G aho fun f fd F=>jO F agY fun Kc A Ko s H E hr=>aii.2 P w K mg base f Kc A Ko s H E ⟨c_isManner⟩ hr
 have c_rodsWith:jm P w K mg base "rods_with" ["manner","worth"] 2 2 Zr:=T.rodsWith.callee X G ahp fun f fd F=>jO F agZ fun Kc A Ko s H E hr=>abj.2 P w K mg base f Kc A Ko s H E ⟨c_allRods,c_rodWorth⟩ hr
 have c_fewest:jm P w K mg base "fewest_beads" ["manner","worth"] 3 2 JN:=T.fewest.callee X G ak8 fun f fd F=>jO F akI fun Kc A Ko s H E hr=>afe.2 P w K mg base f Kc A Ko s H E ⟨C.b,c_rodsWith,c_beads⟩ hr
 have c_chkRods:jm P w K mg base "check_rods" ["rods"] 2 1 Jc:=T.chkRods.callee X G adu fun f fd F=>jO F ac7 fun Kc A Ko s H E hr=>aaF.2 P w K mg base f Kc A Ko s H E ⟨c_isWhole,C.mostRods⟩ hr
 have c_chkNum:jm P w K mg base "check_number" ["number"] 2 1 qW:=T.chkNum.callee X G aex fun f fd F=>jO F aeb fun Kc A Ko s H E hr=>ab0.2 P w K mg base f Kc A Ko s H E ⟨c_isWhole,C.mostNumber⟩ hr
 have c_asked:jm P w K mg base "check_asked" ["manner","rods","number"] 5 3 aaa:=T.asked.callee X G ahq fun f fd F=>jO F ag0 fun Kc A Ko s H E hr=>aij.2 P w K mg base f Kc A Ko s H E ⟨c_check,c_chkRods,c_chkNum⟩ hr
 have c_num:jm P w K mg base "number_on" ["manner","setting"] 2 2 QF:=T.num.callee X G ary fun f fd F=>jO F aff fun Kc A Ko s H E hr=>ao2.2 P w K mg base f Kc A Ko s H E ⟨c_rodWorth⟩ hr
 have c_digits:jm P w K mg base "digits_by_rods" ["base","rods","number"] 1 3 abO:=T.digits.callee X G ak9 fun f fd F=>jO F afi fun Kc A Ko s H E hr=>ao4.2 P w K mg base f Kc A Ko s H E C.b hr
 have c_plainR:jm P w K mg base "plain_rods" ["manner","rods","number"] 4 3 JO:=T.plainR.callee X G aey fun f fd F=>jO F Zv fun Kc A Ko s H E hr=>Zw.2 P w K mg base f Kc A Ko s H E ⟨C.b,c_digits,c_fewest⟩ hr
 have c_plainS:jm P w K mg base "plain_setting" ["manner","rods","number"] 6 3 JP:=T.plainS.callee X G aez fun f fd F=>jO F aec fun Kc A Ko s H E hr=>afj.2 P w K mg base f Kc A Ko s H E ⟨c_asked,c_plainR⟩ hr
 have c_isRod:jm P w K mg base "is_rod" ["manner","thing"] 2 2 Qa:=T.isRod.callee X G anF fun f fd F=>jO F amM fun Kc A Ko s H E hr=>abk.2 P w K mg base f Kc A Ko s H E ⟨C.b,c_isWhole⟩ hr
 have c_isSet:jm P w K mg base "is_setting" ["manner","thing"] 5 2 ac8:=T.isSet.callee X G ahr fun f fd F=>jO F ag1 fun Kc A Ko s H E hr=>abl.2 P w K mg base f Kc A Ko s H E ⟨C.b,c_check,c_isRod,C.mostRods⟩ hr
 have c_chkSet:jm P w K mg base "check_setting" ["manner","thing"] 6 2 qF:=T.chkSet.callee X G aeA fun f fd F=>jO F aed fun Kc A Ko s H E hr=>ab1.2 P w K mg base f Kc A Ko s H E ⟨c_isSet⟩ hr
 have c_cell:jm P w K mg base "_law_cell" ["_law_script","_law_k"] 1 2 ag2:=T.cell.callee X G apw fun f fd F=>jO F ao5 fun Kc A Ko s H E hr=>ajA.2 P w K mg base f Kc A Ko s H E C.b hr
 have c_drawn:jm P w K mg base "_law_drawn" ["_law_script","_law_k","_law_many"] 2 3 QG:=T.drawn.callee X G anG fun f fd F=>jO F ac9 fun Kc A Ko s H E hr=>aik.2 P w K mg base f Kc A Ko s H E ⟨c_cell⟩ hr
 have c_manner:jm P w K mg base "_law_manner" ["_law_script","_law_at"] 3 2 Zx:=T.manner.callee X G ala fun f fd F=>jO F zP fun Kc A Ko s H E hr=>ab3.2 P w K mg base f Kc A Ko s H E ⟨C.b,c_drawn⟩ hr
 have c_enough:jm P w K mg base "check_enough" ["manner","setting","number"] 3 3 ab5:=T.enough.callee X G aeB fun f fd F=>jO F aee fun Kc A Ko s H E hr=>ab4.2 P w K mg base f Kc A Ko s H E ⟨c_num⟩ hr
 have c_less:jm P w K mg base "less" ["manner","setting","number"] 7 3 aeg:=T.less.callee X G ajW fun f fd F=>jO F ajB fun Kc A Ko s H E hr=>aef.2 P w K mg base f Kc A Ko s H E ⟨C.b,c_chkSet,c_chkNum,c_enough,c_plainR,c_num⟩ hr
 have c_beh:jm P w K mg base "behind_changes" ["setting","changes"] 1 2 aim:=T.beh.callee X G arz fun f fd F=>jO F afm fun Kc A Ko s H E hr=>ao7.2 P w K mg base f Kc A Ko s H E C.b hr
 have c_DA:∀ d:Nat,jm P w K mg base "digit_added" ["manner","setting","rod","digit"] (d+3) 4 (gDA d):=by
  intro d
  induction d with
  | zero=>exact T.DA.callee X G ajX fun f fd F=>⟨fun vs H Q E h=>(by obtain ⟨ds,d,_,_,h,_⟩:=h; cases h),fun A Ko s H args us vs Q E _ _ _ _ h=>(by obtain ⟨ds,d,_,_,h,_⟩:=h; cases h)⟩
  | succ d ih=>exact T.DA.callee X G ajX fun f fd F=>jO F ag4 fun Kc A Ko s H E hr=>(bDA (gDA d) d).2 P w K mg base f Kc A Ko s H E ⟨c_rodWorth,c_fewest,ih⟩ hr
 have x_DA:∀ d:Nat,qL P w K mg base "digit_added" ["manner","setting","rod","digit"] (d+3) 4 (tDA d):=by
  intro d
  induction d with
  | zero=>exact T.DA.thr X G ajX fun f fd F=>⟨fun vs H Q E h=>(by obtain ⟨ds,d,_,_,h,_⟩:=h; cases h),fun A Ko s H args us vs Q E _ _ _ _ h=>(by obtain ⟨ds,d,_,_,h,_⟩:=h; cases h)⟩
  | succ d ih=>exact T.DA.thr X G ajX fun f fd F=>zr F ag4 fun Kc A Ko s H E hr=>(xDA (gDA d) (tDA d) d).2 P w K mg base f Kc A Ko s H E ⟨⟨c_rodWorth,c_fewest,c_DA d⟩,(C.errT.err (by decide)),ih⟩ hr
 have g_DA:GC K mg "digit_added" (fnD "digit_added"):=by
  obtain ⟨f,oc,od,an,kV,doc,pm,Kc,ct,osl,a,_⟩:=T.DA
  exact ⟨.ref f,.ref f,PySem.W.mg_of X G a,rfl,fun H=>⟨f,rfl,.inr (.inr (.inl ⟨_,rfl,a⟩))⟩⟩
 have c_cbdA:jm P w K mg base "changes_by_digits" ["manner","setting","number","digit_changes"] 10 4 gCA:=T.cbd.callee X G anH fun f fd F=>jO F zF fun Kc A Ko s H E hr=>(akL "digit_added" (gDA 6)).2 P w K mg base f Kc A Ko s H E ⟨C.b,c_digits,c_beh,c_DA 6⟩ hr
 have x_cbdA:qL P w K mg base "changes_by_digits" ["manner","setting","number","digit_changes"] 10 4 tCA:=T.cbd.thr X G anH fun f fd F=>zr F zF fun Kc A Ko s H E hr=>(asC "digit_added" (gDA 6) (tDA 6)).2 P w K mg base f Kc A Ko s H E ⟨⟨C.b,c_digits,c_beh,c_DA 6⟩,x_DA 6⟩ hr
 have c_chA:jm P w K mg base "changes_adding" ["manner","setting","number"] 11 3 ag5:=T.chA.callee X G anI fun f fd F=>jO F amO fun Kc A Ko s H E hr=>akM.2 P w K mg base f Kc A Ko s H E ⟨c_cbdA,g_DA⟩ hr
 have x_chA:qL P w K mg base "changes_adding" ["manner","setting","number"] 11 3 amP:=T.chA.thr X G anI fun f fd F=>zr F amO fun Kc A Ko s H E hr=>ao8.2 P w K mg base f Kc A Ko s H E ⟨⟨c_cbdA,g_DA⟩,x_cbdA⟩ hr
 have c_adding:jm P w K mg base "adding" ["manner","setting","number"] 12 3 JQ:=T.adding.callee X G aeC fun f fd F=>jO F aeh fun Kc A Ko s H E hr=>ab6.2 P w K mg base f Kc A Ko s H E ⟨c_chkSet,c_chkNum,c_chA⟩ hr
 have c_added:jm P w K mg base "added" ["manner","setting","number"] 13 3 Q7:=T.added.callee X G ahs fun f fd F=>jO F ag6 fun Kc A Ko s H E hr=>afn.2 P w K mg base f Kc A Ko s H E ⟨c_adding,c_beh⟩ hr
 have x_check:qL P w K mg base "check_manner" ["thing"] 4 1 afs:=T.check.thr X G aho fun f fd F=>zr F agY fun Kc A Ko s H E hr=>afr.2 P w K mg base f Kc A Ko s H E ⟨c_isManner,(C.errT.err (by decide))⟩ hr
 have x_isSet:qL P w K mg base "is_setting" ["manner","thing"] 5 2 aio:=T.isSet.thr X G ahr fun f fd F=>zr F ag1 fun Kc A Ko s H E hr=>aft.2 P w K mg base f Kc A Ko s H E ⟨x_check⟩ hr
 have x_chkSet:qL P w K mg base "check_setting" ["manner","thing"] 6 2 JW:=T.chkSet.thr X G aeA fun f fd F=>zr F aed fun Kc A Ko s H E hr=>ab9.2 P w K mg base f Kc A Ko s H E ⟨c_isSet,x_isSet,(C.errT.err (by decide))⟩ hr
 have x_chkRods:qL P w K mg base "check_rods" ["rods"] 2 1 adf:=T.chkRods.thr X G adu fun f fd F=>zr F ac7 fun Kc A Ko s H E hr=>aaM.2 P w K mg base f Kc A Ko s H E ⟨c_isWhole,C.mostRods,(C.errT.err (by decide))⟩ hr
 have x_chkNum:qL P w K mg base "check_number" ["number"] 2 1 QH:=T.chkNum.thr X G aex fun f fd F=>zr F aeb fun Kc A Ko s H E hr=>aca.2 P w K mg base f Kc A Ko s H E ⟨c_isWhole,C.mostNumber,(C.errT.err (by decide))⟩ hr
 have x_asked:qL P w K mg base "check_asked" ["manner","rods","number"] 5 3 aip:=T.asked.thr X G ahq fun f fd F=>zr F ag0 fun Kc A Ko s H E hr=>afu.2 P w K mg base f Kc A Ko s H E ⟨c_chkRods,c_check,x_check,x_chkRods,x_chkNum⟩ hr
 have x_plainR:qL P w K mg base "plain_rods" ["manner","rods","number"] 4 3 aaN:=T.plainR.thr X G aey fun f fd F=>zr F Zv fun Kc A Ko s H E hr=>acb.2 P w K mg base f Kc A Ko s H E ⟨c_digits,(C.errT.err (by decide))⟩ hr
 have x_plainS:qL P w K mg base "plain_setting" ["manner","rods","number"] 6 3 ajD:=T.plainS.thr X G aez fun f fd F=>zr F aec fun Kc A Ko s H E hr=>ajC.2 P w K mg base f Kc A Ko s H E ⟨c_asked,x_asked,x_plainR⟩ hr
 have x_enough:qL P w K mg base "check_enough" ["manner","setting","number"] 3 3 afv:=T.enough.thr X G aeB fun f fd F=>zr F aee fun Kc A Ko s H E hr=>acd.2 P w K mg base f Kc A Ko s H E ⟨c_num,(C.errT.err (by decide))⟩ hr
 have x_adding:qL P w K mg base "adding" ["manner","setting","number"] 12 3 acf:=T.adding.thr X G aeC fun f fd F=>zr F aeh fun Kc A Ko s H E hr=>ace.2 P w K mg base f Kc A Ko s H E ⟨c_chkNum,c_chkSet,x_chkSet,x_chkNum,x_chA⟩ hr
 have x_added:qL P w K mg base "added" ["manner","setting","number"] 13 3 adg:=T.added.thr X G ahs fun f fd F=>zr F ag6 fun Kc A Ko s H E hr=>afw.2 P w K mg base f Kc A Ko s H E ⟨c_beh,x_adding⟩ hr
 have x_less:qL P w K mg base "less" ["manner","setting","number"] 7 3 ag8:=T.less.thr X G ajW fun f fd F=>zr F ajB fun Kc A Ko s H E hr=>ajE.2 P w K mg base f Kc A Ko s H E ⟨C.b,c_num,c_enough,c_chkNum,c_chkSet,x_chkSet,x_chkNum,x_enough,x_plainR⟩ hr
 have c_NamesBeads:jm P w K mg base "names_beads" ["setting","thing"] 2 2 JS:=T.NamesBeads.callee X G adH fun f fd F=>jO F adE fun Kc A Ko s H E hr=>zn.2 P w K mg base f Kc A Ko s H E ⟨C.b,c_isWhole,C.decks⟩ hr
 have c_Pushed:jm P w K mg base "pushed" ["rod","deck","by"] 1 3 ab8:=T.Pushed.callee X G alb fun f fd F=>jO F akN fun Kc A Ko s H E hr=>aaJ.2 P w K mg base f Kc A Ko s H E ⟨trivial⟩ hr
 have c_CanMove:jm P w K mg base "can_move" ["manner","setting","thing"] 3 3 Q9:=T.CanMove.callee X G aiT fun f fd F=>jO F ain fun Kc A Ko s H E hr=>aaL.2 P w K mg base f Kc A Ko s H E ⟨c_NamesBeads,c_isRod,c_Pushed⟩ hr
 have c_BehindMove:jm P w K mg base "behind_move" ["setting","move"] 2 2 JV:=T.BehindMove.callee X G adI fun f fd F=>jO F ZW fun Kc A Ko s H E hr=>JU.2 P w K mg base f Kc A Ko s H E ⟨c_Pushed⟩ hr
 have c_Moved:jm P w K mg base "moved" ["manner","setting","move"] 7 3 abo:=T.Moved.callee X G aht fun f fd F=>jO F ag7 fun Kc A Ko s H E hr=>afq.2 P w K mg base f Kc A Ko s H E ⟨c_chkSet,c_CanMove,c_BehindMove⟩ hr
 have x_Moved:qL P w K mg base "moved" ["manner","setting","move"] 7 3 amS:=T.Moved.thr X G aht fun f fd F=>zr F ag7 fun Kc A Ko s H E hr=>amR.2 P w K mg base f Kc A Ko s H E ⟨c_CanMove,c_chkSet,x_chkSet,(C.errT.err (by decide))⟩ hr
 have c_IsName:jm P w K mg base "is_name" ["thing"] 1 1 Zz:=T.IsName.callee X G alc fun f fd F=>jO F akO fun Kc A Ko s H E hr=>ajF.2 P w K mg base f Kc A Ko s H E ⟨C.b,C.mostLetters⟩ hr
 have mk_Bench:amx P w K mg base "Bench" ["self","manner","rods"] 7 3 afz:=T.MInit.mak T.cls X G anL fun f fd F=>Z7 F amU fun Kc A Ko s H E hr=>afy.2 P w K mg base f Kc A Ko s H E ⟨f_now,f_manner,f_kept,f_done,f_undone,c_plainS,x_plainS⟩ hr
 have m_setting:qK P w K mg base "Bench" "setting" ["self"] 1 1 Qj:=T.MSetting.met T.cls ahu fun f fd F=>Z7 F ag9 fun Kc A Ko s H E hr=>abq.2 P w K mg base f Kc A Ko s H E ⟨f_now⟩ hr
 have m_value:qK P w K mg base "Bench" "value" ["self"] 3 1 JX:=T.MValue.met T.cls ald fun f fd F=>Z7 F akP fun Kc A Ko s H E hr=>afB.2 P w K mg base f Kc A Ko s H E ⟨f_manner,f_now,c_num⟩ hr
 have m_go_on:qK P w K mg base "Bench" "go_on" ["self","word","fresh","kept"] 4 4 Zb:=T.MGoOn.met T.cls anM fun f fd F=>Z7 F amV fun Kc A Ko s H E hr=>ais.2 P w K mg base f Kc A Ko s H E ⟨f_done,f_now,f_kept,f_undone,m_value⟩ hr
 have m_add:qK P w K mg base "Bench" "add" ["self","number"] 14 2 aei:=T.MAdd.met T.cls apy fun f fd F=>Z7 F ao9 fun Kc A Ko s H E hr=>ajH.2 P w K mg base f Kc A Ko s H E ⟨f_manner,f_now,f_kept,m_go_on,c_added,x_added⟩ hr
 have m_take:qK P w K mg base "Bench" "take" ["self","number"] 8 2 abr:=T.MTake.met T.cls anN fun f fd F=>Z7 F amX fun Kc A Ko s H E hr=>afE.2 P w K mg base f Kc A Ko s H E ⟨f_manner,f_now,f_kept,m_go_on,c_less,x_less⟩ hr
 have m_push:qK P w K mg base "Bench" "push" ["self","move"] 8 2 afG:=T.MPush.met T.cls anO fun f fd F=>Z7 F amY fun Kc A Ko s H E hr=>aiv.2 P w K mg base f Kc A Ko s H E ⟨f_manner,f_now,f_kept,m_go_on,c_Moved,x_Moved⟩ hr
 have m_keep:qK P w K mg base "Bench" "keep" ["self","name"] 5 2 adh:=T.MKeep.met T.cls anP fun f fd F=>Z7 F aha fun Kc A Ko s H E hr=>afI.2 P w K mg base f Kc A Ko s H E ⟨f_kept,f_now,m_go_on,C.b,c_IsName,(C.errT.err (by decide))⟩ hr
 have m_recall:qK P w K mg base "Bench" "recall" ["self","name"] 5 2 adj:=T.MRecall.met T.cls aiU fun f fd F=>Z7 F aix fun Kc A Ko s H E hr=>aaR.2 P w K mg base f Kc A Ko s H E ⟨f_kept,m_go_on,c_IsName,(C.errT.err (by decide))⟩ hr
 have m_names:qK P w K mg base "Bench" "names" ["self"] 1 1 QI:=T.MNames.met T.cls ale fun f fd F=>Z7 F akQ fun Kc A Ko s H E hr=>afK.2 P w K mg base f Kc A Ko s H E ⟨f_kept,C.b⟩ hr
 have m_cross:qK P w K mg base "Bench" "cross" ["self","source","goal"] 1 3 acl:=T.MCross.met T.cls alf fun f fd F=>Z7 F aej fun Kc A Ko s H E hr=>ack.2 P w K mg base f Kc A Ko s H E ⟨f_now,f_kept,(C.errT.err (by decide))⟩ hr
 have m_back:qK P w K mg base "Bench" "back" ["self"] 2 1 adk:=T.MBack.met T.cls anQ fun f fd F=>Z7 F amZ fun Kc A Ko s H E hr=>aiz.2 P w K mg base f Kc A Ko s H E ⟨f_done,f_undone,m_cross⟩ hr
 have m_forth:qK P w K mg base "Bench" "forth" ["self"] 2 1 aaS:=T.MForth.met T.cls alg fun f fd F=>Z7 F akR fun Kc A Ko s H E hr=>afO.2 P w K mg base f Kc A Ko s H E ⟨f_undone,f_done,m_cross⟩ hr
 have m_steps:qK P w K mg base "Bench" "steps" ["self"] 1 1 ZB:=T.MSteps.met T.cls alh fun f fd F=>Z7 F akS fun Kc A Ko s H E hr=>afQ.2 P w K mg base f Kc A Ko s H E ⟨f_done,f_undone,C.b⟩ hr
 have m_twin:qK P w K mg base "Bench" "twin" ["self"] 9 1 aiB:=T.MTwin.met T.cls anR fun f fd F=>Z7 F ahb fun Kc A Ko s H E hr=>afS.2 P w K mg base f Kc A Ko s H E ⟨f_manner,f_now,f_kept,f_done,f_undone,mk_Bench,C.b⟩ hr
 have k_LStep:ZV P w K mg base "_law_step" ["_law_script","_law_at","_law_bench","_law_manner_here"] 15 4 aac:=T.LStep.cal0 X G anJ fun f fd F=>aq0 F Jd fun Kc A Ko s H E hr=>zc.2 P w K mg base f Kc A Ko s H E ⟨m_add,m_value,m_take,m_setting,m_push,m_names,m_keep,m_recall,C.b,c_drawn,(C.errT.err (by decide))⟩ hr
 have k_LNow:ZV P w K mg base "_law_now" ["_law_bench"] 4 1 ahd:=T.LNow.cal0 X G apx fun f fd F=>amA F apa fun Kc A Ko s H E hr=>ajI.2 P w K mg base f Kc A Ko s H E ⟨m_setting,m_value,m_names,m_steps⟩ hr
 have k_LDone:ZV P w K mg base "_law_done" ["_law_script","_law_bench","_law_manner_here"] 16 3 aiD:=T.LDone.cal0 X G anK fun f fd F=>amA F ahe fun Kc A Ko s H E hr=>afW.2 P w K mg base f Kc A Ko s H E ⟨k_LStep,k_LNow,C.b⟩ hr
 exact ⟨m_keep,m_steps,m_back,m_twin,m_forth,m_names,m_value,mk_Bench,k_LStep,k_LNow,k_LDone,C.b,c_manner,c_drawn⟩
theorem arA (HT:zo=true) {P:Program}{w:World}{K:Fg}{h:Heap}{mg:SV}{fa:Addr} (X:K.In h) (G:h.Ns mainGlobals mg) (hfa:mg "law"=some (.ref fa)) (T:Tops K) (C:Consts K mg):
  ∃ fd:FuncData,(∀ (s:Shared) (v:Value),BindsTo s fd ⟨[v],[]⟩ [("_law_script",v)])/\∀ base:Heap,K.In base->base.Ns mainGlobals mg->FnOk P w K mg base CX0 17 fa fd ["_law_script"] (ac1 K 1 am7):=by
 have Q:∀ base:Heap,CLaw P w K mg base:=fun base=>atJ HT X G T C
 obtain ⟨f,oc,od,an,kV,doc,pm,Kc,ct,osl,a,l,c,kp⟩:=T.law
 have e:=hfa.symm.trans (PySem.W.mg_of X G a)
 cases e
 have F1:=aa1 (st:=ZO) l c kp
 exact ⟨_,fun s v=> .of_eq rfl,fun base _ _=>amA F1 Jj fun Kc A Ko s H E hr=>apb.2 P w K mg base fa Kc A Ko s H E (Q base) hr⟩
theorem asS (HT:zo=true) (K:Fg) (H:Hp) (a:Addr) (ns:List Int) (hl:ns.length<=63) (hS:SqL K H a (ns.map V.int)):ac1 K 1 am7 [.ref a] H (fun v _=>v= .bl true) fun _ _ _=>False:=
 ⟨[scr ns],fun _=>none,fun o _=>o= .ok (.bool true),rfl,⟨_,_,rfl,⟨a,rfl,.inl ⟨ns,hS,rfl⟩⟩,rfl⟩,(fun a c z=>nomatch z),ak6 HT ns (by omega),(fun d μ' r v H' _ rv _=>by cases r; exact rv),fun c μ' r=>nomatch r⟩
theorem atK (HT:zo=true) {l:PySem.W.OpenLaw}{q:Program}{loose:List Str}{XP:(SV)->Heap->Prop}{YP:World->Heap->Prop}{d:DefRec}{K:Params->Fg} (hn:l.most=some 63) (hdf:d.params.defaults=[])
  (hY:∀ (w:World) (h:Heap),YP w h->(K w.params).In h) (hnm:d.name="law")
  (F:∀ (w:World) (mg:SV) (h:Heap),(K w.params).In h->h.Ns mainGlobals mg->Tops (K w.params)/\Consts (K w.params) mg):
  PySem.W.WalkO q loose XP YP l.row.toRowW d [] (fun f vs=>PySem.call f vs):=
 L2.aob (n:=63) (k:=17) (x:="_law_script") (CX:=fun _=>CX0) (sp:=fun w=>ac1 (K w.params) 1 am7) hn (by decide) hdf ⟨rfl,by decide,by decide⟩ hY (fun w mg fa h KX G hm=>by
  obtain ⟨T,C⟩:=F w mg h KX G
  rw [hnm] at hm
  exact arA HT KX G hm T C) (fun w H a ns hl _ hS=>asS HT (K w.params) H a ns hl hS) fun _ _ _ _ _ z=>z
theorem apz {K:Fg}{mg:SV}{h:Heap} (X:K.In h) (G:h.Ns mainGlobals mg) (z1:PySem.W.nsIn K mainGlobals "isinstance"=some none) (z2:PySem.W.nsIn K mainGlobals "bool"=some none) (z3:PySem.W.nsIn K mainGlobals "int"=some none) (z4:PySem.W.nsIn K mainGlobals "tuple"=some none) (z5:PySem.W.nsIn K mainGlobals "zip"=some none) (z6:PySem.W.nsIn K mainGlobals "range"=some none) (z7:PySem.W.nsIn K mainGlobals "all"=some none) (z8:PySem.W.nsIn K mainGlobals "len"=some none) (z9:PySem.W.nsIn K mainGlobals "max"=some none) (z10:PySem.W.nsIn K mainGlobals "min"=some none) (z11:PySem.W.nsIn K mainGlobals "sum"=some none) (z12:PySem.W.nsIn K mainGlobals "sorted"=some none) (z13:PySem.W.nsIn K mainGlobals "abs"=some none) (z14:PySem.W.nsIn K mainGlobals "list"=some none) (z15:PySem.W.nsIn K mainGlobals "enumerate"=some none) (z16:PySem.W.nsIn K mainGlobals "ValueError"=some none) (z17:PySem.W.nsIn K mainGlobals "str"=some none) (z18:PySem.W.nsIn K mainGlobals "set"=some none) (z19:PySem.W.nsIn K mainGlobals "dict"=some none):Bare mg:=
 have f:∀ {x:Str},PySem.W.nsIn K mainGlobals x=some none->mg x=none:=fun z=>PySem.W.mg_none_of X G z
 ⟨f z1,f z2,f z3,f z4,f z5,f z6,f z7,f z8,f z9,f z10,f z11,f z12,f z13,f z14,f z15,f z16,f z17,f z18,f z19⟩
theorem gc4 {K:Fg}{mg:SV}{h:Heap}{x:Str}{a:Addr}{od:Option Addr}{n:Nat}{osl:Array (Option Value)}{i1 i2 i3 i4:Int}{t1 t2 t3 t4:Tok} (X:K.In h) (G:h.Ns mainGlobals mg) (e:PySem.W.nsIn K mainGlobals x=some (some (.ref a)))
  (l:K.lookup a=some ⟨.type "tuple",od,.seq #[.int i1 t1,.int i2 t2,.int i3 t3,.int i4 t4] n,osl⟩):GC K mg x (.tuple [.int i1,.int i2,.int i3,.int i4]):=
 agB X G e l rfl ⟨_,_,[.int i1,.int i2,.int i3,.int i4],rfl,(by show 4<=sizeLine; rw [sizeLine_eq]; decide),.cons ⟨_,rfl⟩ (.cons ⟨_,rfl⟩ (.cons ⟨_,rfl⟩ (.cons ⟨_,rfl⟩ .nil))),fun H=>⟨_,_,rfl,rfl,_,_,rfl,rfl,_,_,rfl,rfl,_,_,rfl,rfl,rfl⟩⟩
theorem gcI {K:Fg}{mg:SV}{h:Heap}{x:Str}{i:Int}{t:Tok} (X:K.In h) (G:h.Ns mainGlobals mg) (e:PySem.W.nsIn K mainGlobals x=some (some (.int i t))):GC K mg x (.int i):=
 ⟨.int i,_,PySem.W.mg_of X G e,⟨t,rfl⟩,fun H=>rfl⟩
theorem anS {K:Fg}{mg:SV}{h:Heap}{x:Str}{a:Addr}{od:Option Addr}{n:Nat}{osl:Array (Option Value)}{i1 i2:Str}{t1 t2:Tok} (X:K.In h) (G:h.Ns mainGlobals mg) (e:PySem.W.nsIn K mainGlobals x=some (some (.ref a)))
  (l:K.lookup a=some ⟨.type "tuple",od,.seq #[.str i1 t1,.str i2 t2] n,osl⟩):GC K mg x (.tuple [.str i1,.str i2]):=
 agB X G e l rfl ⟨_,_,[.str i1,.str i2],rfl,(by show 2<=sizeLine; rw [sizeLine_eq]; decide),.cons ⟨_,rfl⟩ (.cons ⟨_,rfl⟩ .nil),fun H=>⟨_,_,rfl,rfl,_,_,rfl,rfl,rfl⟩⟩
theorem apA {K:Fg}{mg:SV}{h:Heap}{y:Str}{cs:List Str} (X:K.In h) (G:h.Ns mainGlobals mg) (q:ae4 K y cs=true):ErrT K mg y cs:=
 ⟨q,fun c C e=>PySem.W.mg_of X G (aoE e)⟩
end Rods
def PySem.W.Fast.tw10829217212131696674:Unit:=()
def PySem.W.Fast.tw1449647932802068408:Unit:=()
def PySem.W.Fast.tw15996615415401438625:Unit:=()
def PySem.W.Fast.tw17036943883847050428:Unit:=()
def PySem.W.Fast.tw7060638145264028932:Unit:=()
def PySem.W.Fast.tw18152231981997494685:Unit:=()
def PySem.W.Fast.tw5026554510574813965:Unit:=()
def PySem.W.Fast.tw5883990632337061071:Unit:=()
def PySem.W.Fast.tw16915153762967907859:Unit:=()
def PySem.W.Fast.tw5129275698345762221:Unit:=()
def PySem.W.Fast.tw7089079233431669565:Unit:=()
def PySem.W.Fast.tw12774275320490119144:Unit:=()
def PySem.W.Fast.tw5209513847467133151:Unit:=()
def PySem.W.Fast.tw15618951387031553503:Unit:=()
def PySem.W.Fast.tw12074228552617404793:Unit:=()
def PySem.W.Fast.tw8070510536514030271:Unit:=()
def PySem.W.Fast.tw14098476066463680569:Unit:=()
def PySem.W.Fast.tw1963000375071538588:Unit:=()
def PySem.W.Fast.tw3662876863318394148:Unit:=()
def PySem.W.Fast.tw16390594314143623318:Unit:=()
def PySem.W.Fast.tw15000798902963072475:Unit:=()
def PySem.W.Fast.tw11431503429989891720:Unit:=()
open PySem PySem.W PyProof.Rows
set_option maxRecDepth 100000 in
set_option maxHeartbeats 0 in
theorem PySem.Challenge.cw_beadrods_k73_whole_twins_holds : PySem.Challenge.rw_beadrods_k73_whole_twins.Holds := by
  w_on; o_law; k_head; (case hw => w_witness2)
  k_fill
  refine Rods.atK Rods.allN_true (l := PySem.Challenge.rw_beadrods_k73_whole_twins) rfl rfl (fun w h Y => PySem.W.kIn_of Y) rfl ?F
  case F =>
    intro w mg h KX G
    refine ⟨⟨?f1, ?f2, ?f3, ?f4, ?f5, ?f6, ?f7, ?f8, ?f9, ?f10, ?f11, ?f12, ?f13, ?f14, ?f15, ?f16, ?f17, ?f18, ?f19, ?f20, ?f21, ?f22, ?f23, ?f24, ?f25, ?f26, ?f27, ?f28, ?f29, ?f30, ?f31, ?f32, ?f33, ?f34, ?f35, ?f36, ?f37, ?f38, ?f39, ?f40, ?m1, ?m2, ?m3, ?m4, ?m5, ?m6, ?m7, ?m8, ?m9, ?m10, ?m11, ?m12, ?m13, ?m14, ?m15, ?cl, ?d1, ?d2, ?d3, ?d4, ?d5⟩, ⟨?b, ?c1, ?c2, ?c3, ?c4, ?c5, ?c6, ?et⟩⟩
    case b => refine' Rods.apz KX G ?_ ?_ ?_ ?_ ?_ ?_ ?_ ?_ ?_ ?_ ?_ ?_ ?_ ?_ ?_ ?_ ?_ ?_ ?_ <;> k_is
    case c1 =>
      refine' Rods.gc4 KX G ?a ?l
      (case a => k_is); (case l => k_is)
    case c2 =>
      refine' Rods.gc4 KX G ?a ?l
      (case a => k_is); (case l => k_is)
    case c3 =>
      refine' Rods.gcI KX G ?a
      (case a => k_is)
    case c4 =>
      refine' Rods.gcI KX G ?a
      (case a => k_is)
    case c5 =>
      refine' Rods.anS KX G ?a ?l
      (case a => k_is); (case l => k_is)
    case c6 =>
      refine' Rods.gcI KX G ?a
      (case a => k_is)
    case et => exact Rods.apA KX G (by kernel_rfl)
    case m1 =>
      refine' BX.qB ?a ?b ?i ?l ?c ?k
      (case a => k_is); (case b => k_is); (case i => k_is); (case l => k_is); (case c => k_is); (case k => k_is)
    case m2 =>
      refine' BX.qB ?a ?b ?i ?l ?c ?k
      (case a => k_is); (case b => k_is); (case i => k_is); (case l => k_is); (case c => k_is); (case k => k_is)
    case m3 =>
      refine' BX.qB ?a ?b ?i ?l ?c ?k
      (case a => k_is); (case b => k_is); (case i => k_is); (case l => k_is); (case c => k_is); (case k => k_is)
    case m4 =>
      refine' BX.qB ?a ?b ?i ?l ?c ?k
      (case a => k_is); (case b => k_is); (case i => k_is); (case l => k_is); (case c => k_is); (case k => k_is)
    case m5 =>
      refine' BX.qB ?a ?b ?i ?l ?c ?k
      (case a => k_is); (case b => k_is); (case i => k_is); (case l => k_is); (case c => k_is); (case k => k_is)
    case m6 =>
      refine' BX.qB ?a ?b ?i ?l ?c ?k
      (case a => k_is); (case b => k_is); (case i => k_is); (case l => k_is); (case c => k_is); (case k => k_is)
    case m7 =>
      refine' BX.qB ?a ?b ?i ?l ?c ?k
      (case a => k_is); (case b => k_is); (case i => k_is); (case l => k_is); (case c => k_is); (case k => k_is)
    case m8 =>
      refine' BX.qB ?a ?b ?i ?l ?c ?k
      (case a => k_is); (case b => k_is); (case i => k_is); (case l => k_is); (case c => k_is); (case k => k_is)
    case m9 =>
      refine' BX.qB ?a ?b ?i ?l ?c ?k
      (case a => k_is); (case b => k_is); (case i => k_is); (case l => k_is); (case c => k_is); (case k => k_is)
    case m10 =>
      refine' BX.qB ?a ?b ?i ?l ?c ?k
      (case a => k_is); (case b => k_is); (case i => k_is); (case l => k_is); (case c => k_is); (case k => k_is)
    case m11 =>
      refine' BX.qB ?a ?b ?i ?l ?c ?k
      (case a => k_is); (case b => k_is); (case i => k_is); (case l => k_is); (case c => k_is); (case k => k_is)
    case m12 =>
      refine' BX.qB ?a ?b ?i ?l ?c ?k
      (case a => k_is); (case b => k_is); (case i => k_is); (case l => k_is); (case c => k_is); (case k => k_is)
    case m13 =>
      refine' BX.qB ?a ?b ?i ?l ?c ?k
      (case a => k_is); (case b => k_is); (case i => k_is); (case l => k_is); (case c => k_is); (case k => k_is)
    case m14 =>
      refine' BX.qB ?a ?b ?i ?l ?c ?k
      (case a => k_is); (case b => k_is); (case i => k_is); (case l => k_is); (case c => k_is); (case k => k_is)
    case m15 =>
      refine' BX.qB ?a ?b ?i ?l ?c ?k
      (case a => k_is); (case b => k_is); (case i => k_is); (case l => k_is); (case c => k_is); (case k => k_is)
    case cl =>
      refine' BX.aoQ ?a ?b ?c ?d ?e ?f ?g
      (case a => k_is); (case b => k_is); (case c => k_is); (case d => k_is); (case e => k_is); (case f => k_is); (case g => k_is)
    case d1 =>
      refine' BX.aaA ?a ?b
      (case a => k_is); (case b => k_is)
    case d2 =>
      refine' BX.aaA ?a ?b
      (case a => k_is); (case b => k_is)
    case d3 =>
      refine' BX.aaA ?a ?b
      (case a => k_is); (case b => k_is)
    case d4 =>
      refine' BX.aaA ?a ?b
      (case a => k_is); (case b => k_is)
    case d5 =>
      refine' BX.aaA ?a ?b
      (case a => k_is); (case b => k_is)
    all_goals
      refine' BX.ama ?a ?l ?c ?k
      (case a => k_is); (case l => k_is); (case c => k_is); (case k => k_is)
#print axioms PySem.Challenge.cw_beadrods_k73_whole_twins_holds
end
