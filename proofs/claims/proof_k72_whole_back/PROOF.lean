import PyProof.Rows.All
import Wide.All
import OpenK.AllK
import Wide.FinOn
import Lean
import PyProof.EqAt
import PyProof.EqKinds
import PyProof.TupleCall
import PyProof.DictWalks
import PyProof.ListMulRoad
import PyProof.Rows.Range3
import PyProof.StationsW
import OpenK.KOwn
import PyProof.ExcBaseAll.ValueError
import PyProof.MaxThree
import KE.KIsAll
import KE.KIsNot
import PyProof.RulesAs
import PyProof.ExcArgsOwn
import PyProof.ExcAttrAll.ValueError
import KE.KRevSl
import PyProof.ListRange
import PyProof.StrBlock2
import PyProof.StrBlockH
import PyProof.StrBlockL
import PyProof.StrCalls2
import PyProof.SliceStr2
import PyProof.StrBlockI
import PyProof.StrLawsTight
import PyProof.StrLawsChain
import PyProof.Rows.StrItems
import PyProof.StrWalks
import PyProof.EnumMake
import PyProof.Draws
import KE.KSortAsk
import KE.KDictList
import KE.KDictSum
import KE.KDictOf
import PyProof.FString5
import PySem.Challenge.RW_beadrods_k72_whole_back
set_option Elab.async false
set_option linter.all false
set_option maxRecDepth 100000
set_option maxHeartbeats 4000000
noncomputable section
abbrev Fg:=PySem.W.Frag
abbrev SV:=PySem.Str->Option PySem.Value
abbrev OP:=Option PySem.PyData
abbrev LP:=List PySem.PyData
abbrev SP0:=PySem.Shared->Prop
theorem zzA {α : Type _} {a : α} {l : List α} : (a :: l)[0]? = some a := rfl
theorem zzB {α : Type _} {a : α} {i : Nat} {l : List α} : (a :: l)[i + 1]? = l[i]? := rfl
theorem zzC {α : Type _} {o : Option α} : (some o).join = o := rfl
theorem zzD {α β : Type _} (a : α) (f : α → Option β) : (some a).bind f = f a := rfl
theorem zzE {α β : Type _} (a : α) (f : α → β) : Option.map f (some a) = some (f a) := rfl
theorem zzF {α : Type _} {x : α} {xs : List α} {i : Nat} {a : α} : (x :: xs).set (i + 1) a = x :: xs.set i a := rfl
theorem zzG {α : Type _} {x : α} {xs : List α} {a : α} : (x :: xs).set 0 a = a :: xs := rfl
theorem zzH {α β : Type _} (f : α → Option β) : (none : Option α).bind f = none := rfl
theorem zzI {α β : Type _} (f : α → β) : Option.map f (none : Option α) = none := rfl
theorem zzJ : (!true) = false := rfl
theorem zzK : (!false) = true := rfl
theorem zzL : (false = true) = False := Bool.false_eq_true
theorem zzM {α : Sort _} {x : Decidable True} (a b : α) : ite True a b = a := if_true a b
theorem zzN {α : Sort _} {x : Decidable False} (a b : α) : ite False a b = b := if_false a b
section
namespace L2
open PySem PySem.Spec PyProof.Rows
noncomputable abbrev Key:=Sum Int Str
def acm:Key->Value->Bool
 | .inl k,v=>Value.isInt k v
 | .inr x,v=>Value.isStrOf x v
def atd (w:World):Key->Int
 | .inl k=>hashInt k
 | .inr x=>hashStr w x
theorem qt:∀ {k:Key}{v:Value},acm k v=true->(∃ i t,k=Sum.inl i/\v=Value.int i t) ∨ (∃ x t,k=Sum.inr x/\v=Value.str x t)
 | .inl i,v,h=>by
  obtain ⟨t,e⟩:=Value.isInt_shape (k:=i) (v:=v) h
  exact .inl ⟨i,t,rfl,e⟩
 | .inr x,v,h=>by
  obtain ⟨t,e⟩:=Value.isStrOf_shape (x:=x) (v:=v) h
  exact .inr ⟨x,t,rfl,e⟩
theorem aj0 (i:Int) (t:Tok):acm (.inl i) (.int i t)=true:=by simp [acm,Value.isInt]
theorem aj1 (x:Str) (t:Tok):acm (.inr x) (.str x t)=true:=by simp [acm,Value.isStrOf]
theorem aqk (a b:Int):decide ((Sum.inl a:Key)=Sum.inl b)=(a == b):=by
 by_cases e:a=b
 ·subst e; simp
 ·have h:¬ (Sum.inl a:Key)=Sum.inl b:=fun q=>e (Sum.inl.inj q)
  rw [decide_eq_false h]
  exact (beq_eq_false_iff_ne.mpr e).symm
theorem aql (a b:Str):decide ((Sum.inr a:Key)=Sum.inr b)=decide (a=b):=by
 by_cases e:a=b
 ·subst e; simp
 ·have h:¬ (Sum.inr a:Key)=Sum.inr b:=fun q=>e (Sum.inr.inj q)
  rw [decide_eq_false h,decide_eq_false e]
theorem aqm (a:Int) (b:Str):decide ((Sum.inl a:Key)=Sum.inr b)=false:=decide_eq_false (fun q=>nomatch q)
theorem aqn (a:Str) (b:Int):decide ((Sum.inr a:Key)=Sum.inl b)=false:=decide_eq_false (fun q=>nomatch q)
def qm (prog:Program) (w:World):PySem.KeyKind prog w Key where
 is:=acm
 hash:=atd w
 inj:=fun v a b ha hb=>by
  rcases qt ha with ⟨i,t,rfl,rfl⟩ | ⟨x,t,rfl,rfl⟩
  ·rcases qt hb with ⟨j,u,rfl,e⟩ | ⟨y,u,rfl,e⟩
   ·injection e with e1 _; rw [e1]
   ·exact nomatch e
  ·rcases qt hb with ⟨j,u,rfl,e⟩ | ⟨y,u,rfl,e⟩
   ·exact nomatch e
   ·injection e with e1 _; rw [e1]
 byValue:=fun k v h=>by
  rcases qt h with ⟨i,t,rfl,rfl⟩ | ⟨x,t,rfl,rfl⟩ <;> rfl
 pyHash:=fun hv h=>by
  rcases qt hv with ⟨i,t,rfl,rfl⟩ | ⟨x,t,rfl,rfl⟩
  ·exact wpAny_pyHash_int h
  ·exact wpAny_pyHash_str h
 eqBool:=fun hu hv h=>by
  rcases qt hu with ⟨i,t,rfl,rfl⟩ | ⟨x,t,rfl,rfl⟩
  ·rcases qt hv with ⟨j,u,rfl,rfl⟩ | ⟨y,u,rfl,rfl⟩
   ·rw [aqk] at h; exact wpAny_eqBool_int h
   ·rw [aqm] at h; exact SeqAt.EqAt.int_str i t y u _ _ _ _ h
  ·rcases qt hv with ⟨j,u,rfl,rfl⟩ | ⟨y,u,rfl,rfl⟩
   ·rw [aqn] at h; exact SeqAt.EqAt.str_int x t j u _ _ _ _ h
   ·rw [aql] at h; exact wpAny_eqBool_str h
 «strs»:=fun k x t v h=>by
  rcases qt h with ⟨i,u,rfl,e⟩ | ⟨y,u,rfl,e⟩
  ·exact nomatch e
  ·injection e with e1 _
   subst e1
   cases v <;> rfl
theorem ahy (prog:Program) (w:World) (k:Key) (v:Value):(qm prog w).is k v=acm k v:=rfl
theorem agb (prog:Program) (w:World) (i:Int) (t:Tok):(qm prog w).is (.inl i) (.int i t)=true:=aj0 i t
theorem agc (prog:Program) (w:World) (x:Str) (t:Tok):(qm prog w).is (.inr x) (.str x t)=true:=aj1 x t
inductive V where
 | non | bl (b:Bool) | int (i:Int) | str (x:Str) | byt (b:Array UInt8) | flt (b:UInt64) | ref (a:Addr) | ty (n:String)
 deriving DecidableEq
noncomputable def jW:V->Value->Prop
 | .non,u=>u=Value.none
 | .bl b,u=>u=Value.bool b
 | .int i,u=>∃ t,u=Value.int i t
 | .str x,u=>∃ t,u=Value.str x t
 | .byt b,u=>∃ t,u=Value.bytes b t
 | .flt b,u=>∃ t,u=Value.float b t
 | .ref a,u=>u=Value.ref a
 | .ty n,u=>u=Value.type n
abbrev jG:List V->List Value->Prop:=Paired jW
theorem jG.length {xs:List V}{us:List Value} (r:jG xs us):xs.length=us.length:=Paired.length r
theorem jG.get:∀ {xs:List V}{us:List Value}{i:Nat}{x:V},jG xs us->xs[i]?=some x->∃ u,us[i]?=some u/\jW x u
 | _,_,_,_,.nil,e=>by simp at e
 | _,_,0,_,.cons r _,e=>by simp at e; subst e; exact ⟨_,rfl,r⟩
 | _,_,i+1,x,.cons _ t,e=>by
  obtain ⟨u,h1,h2⟩:=jG.get (i:=i) (x:=x) t (by simpa using e)
  exact ⟨u,by simpa using h1,h2⟩
theorem jG.set {x:V}{u:Value} (r:jW x u):∀ {xs:List V}{us:List Value} (i:Nat),jG xs us->jG (xs.set i x) (us.set i u)
 | _,_,_,.nil=> .nil
 | _,_,0,.cons _ t=> .cons r t
 | _,_,i+1,.cons q t=> .cons q (jG.set r i t)
theorem jG.append:∀ {xs ys:List V}{us ws:List Value},jG xs us->jG ys ws->jG (xs++ys) (us++ws)
 | _,_,_,_,.nil,s=>s
 | _,_,_,_,.cons r t,s=> .cons r (jG.append t s)
theorem jG.take:∀ {xs:List V}{us:List Value} (n:Nat),jG xs us->jG (xs.take n) (us.take n)
 | _,_,0,_=> .nil
 | _,_,_+1,.nil=> .nil
 | _,_,n+1,.cons r t=> .cons r (jG.take n t)
theorem jG.drop:∀ {xs:List V}{us:List Value} (n:Nat),jG xs us->jG (xs.drop n) (us.drop n)
 | _,_,0,r=>r
 | _,_,_+1,.nil=> .nil
 | _,_,n+1,.cons _ t=>jG.drop n t
theorem jG.none_of:∀ {xs:List V}{us:List Value}{i:Nat},jG xs us->xs[i]?=none->us[i]?=none:=fun {xs us i} r e=>by
 have h1:=r.length
 have h2:xs.length<=i:=List.getElem?_eq_none_iff.mp e
 exact List.getElem?_eq_none_iff.mpr (by omega)
def QE:Option V->Option Value->Prop
 | some v,some u=>jW v u
 | none,none=>True
 | _,_=>False
def KV {κ:Type}:List (κ × V)->List (κ × Value)->Prop:=Paired fun (p:κ × V) (q:κ × Value)=>p.1=q.1/\jW p.2 q.2
def kV:Key->V
 | .inl i=> .int i
 | .inr x=> .str x
inductive HO where
 | lst (xs:List V)
 | tup (xs:List V)
 | dK (kvs:List (Key × V)) | dT (kvs:List (List Key × V))
 | set (S:Int->Bool) (n:Nat)
 | ins (C dx:Addr) (fs:List (Str × V))
 | own (x:Addr)
 | xd (fs:List (Str × V))
 | met (f x:Addr)
 | rng (lo hi:Int)
 | frz (o:Obj) (u:HO)
 | tbl (ps:Array Value)
 | ext (φ:Heap->Prop)
noncomputable abbrev Hp:=Addr->Option HO
def upd (H:Hp) (a:Addr) (o:HO):Hp:=fun b=>if b=a then some o else H b
theorem ji {H:Hp}{a:Addr}{o:HO}:upd H a o a=some o:=by unfold upd; rw [if_pos rfl]
theorem jo {H:Hp}{a b:Addr}{o:HO} (h:b ≠ a):upd H a o b=H b:=by unfold upd; rw [if_neg h]
theorem qF {H:Hp}{a:Addr}{o u:HO}:upd (upd H a o) a u=upd H a u:=by
 funext b; unfold upd; split <;> rfl
theorem arS {H:Hp}{a b:Addr}{o u:HO} (h:H a=some o) (h':H b=some u) (d:o ≠ u):a ≠ b:=by
 intro e; subst e; rw [h] at h'; exact d (Option.some.inj h')
theorem qR {H:Hp}{a b:Addr}{o:HO} (h:H a=some o) (h':H b=none):a ≠ b:=by
 intro e; subst e; rw [h] at h'; cases h'
section
variable (P:Program) (w:World)
def qK (H:Hp) (h:Heap) (a:Addr):HO->Prop
 | .lst xs=>xs.length<=sizeLine/\∃ (its:List Value) (n:Nat),jG xs its/\h.get? a=some { cls:= .type "list",data:= .seq its.toArray n }
 | .tup xs=>xs.length<=sizeLine/\∃ its:List Value,jG xs its/\IsTup h a its.toArray
 | .dK kvs=>kvs.length<=sizeLine/\(a == sysModules)=false/\∃ vs,KV kvs vs/\h.DictOf (qm P w) a vs
 | .dT kvs=>kvs.length<=sizeLine/\(a == sysModules)=false/\∃ xs:List (List Key × Addr × Value),
   Paired (fun (p:List Key × V) (q:List Key × Addr × Value)=>p.1=q.1/\H q.2.1=some (.tup (p.1.map kV))/\jW p.2 q.2.2) kvs xs/\
   ∃ o es ep,h.get? a=some o/\o.ExactDict/\o.data= .dict es ep/\es.toList=xs.map (entryOfKey (tupleKind (qm P w)))/\(xs.map (·.1)).Nodup
 | .set S n=>h.SetOf (intKind P w) a S n
 | .ins C dx fs=>H dx=some (.own a)/\fs.length<=1000/\dx ≠ a/\h.get? a=some (PySem.W.instObj C dx)/\
   ∃ mA,h.Ns1 dx mA/\(∀ f,QE (fs.lookup f) (mA f))/\PySem.Within mA (fs.map (·.1))
 | .own _=>∃ o,h.get? a=some o
 | .xd fs=>∃ mA,h.Ns1 a mA/\∀ f,QE (fs.lookup f) (mA f)
 | .rng lo hi=>∃ t u v,h.get? a=some { cls:= .type "range",data:= .fields #[.int lo t,.int hi u,.int 1 v] }
 | .frz o u=>h.get? a=some o/\qK H h a u
 | .tbl ps=>h.get? a=some { cls:= .none,data:= .fields ps }
 | .met f x=>h.get? a=some (PySem.W.methodObj (.ref f) (.ref x))
 | .ext φ=>φ h/\(∃ o,h.get? a=some o)/\∀ h1 h2:Heap,φ h1->(∀ o,h1.get? a=some o->h2.get? a=some o)->φ h2
def HOk (H:Hp) (h:Heap):Prop:=∀ a o,H a=some o->qK P w H h a o
end
section
variable {P:Program}{w:World}{H H':Hp}{h h':Heap}{a:Addr}{o:HO}
theorem qK.lt (x:qK P w H h a o):a<h.objs.size:=by
 cases o with
 | lst xs=>obtain ⟨_,_,_,_,e⟩:=x; exact Heap.lt_size e
 | tup xs=>obtain ⟨_,_,_,p⟩:=x; exact p.lt
 | dK kvs=>obtain ⟨_,_,_,_,o,_,_,e,_⟩:=x; exact Heap.lt_size e
 | dT kvs=>obtain ⟨_,_,_,_,o,_,_,e,_⟩:=x; exact Heap.lt_size e
 | set S n=>obtain ⟨o,_,_,_,e,_⟩:=x; exact Heap.lt_size e
 | ins C dx fs=>obtain ⟨_,_,_,e,_⟩:=x; exact Heap.lt_size e
 | own y=>obtain ⟨_,e⟩:=x; exact Heap.lt_size e
 | xd fs=>obtain ⟨_,⟨_,_,_,e,_⟩,_⟩:=x; exact Heap.lt_size e
 | rng lo hi=>obtain ⟨_,_,_,e⟩:=x; exact Heap.lt_size e
 | frz ob u=>obtain ⟨e,_⟩:=x; exact Heap.lt_size e
 | tbl ps=>exact Heap.lt_size (show h.get? a=some _ from x)
 | met f y=>exact Heap.lt_size (show h.get? a=some _ from x)
 | ext φ=>obtain ⟨_,⟨_,e⟩,_⟩:=x; exact Heap.lt_size e
theorem Paired.mapP {α β:Type}{F G:α->β->Prop}:∀ {l₁:List α}{l₂:List β},Paired F l₁ l₂->(∀ a b,F a b->G a b)->Paired G l₁ l₂
 | _,_,.nil,_=> .nil
 | _,_,.cons r t,f=> .cons (f _ _ r) (Paired.mapP t f)
theorem qK.stay (x:qK P w H h a o) (k:∀ b u,(b=a ∨ H b=some (.own a))->h.get? b=some u->h'.get? b=some u)
  (ho:∀ b,H b=some (.own a)->H' b=some (.own a)) (ht:∀ b xs,H b=some (.tup xs)->H' b=some (.tup xs)):qK P w H' h' a o:=by
 induction o with
 | lst xs=>obtain ⟨z,its,n,r,e⟩:=x; exact ⟨z,its,n,r,k _ _ (.inl rfl) e⟩
 | tup xs=>obtain ⟨z,its,r,ob,e,c⟩:=x; exact ⟨z,its,r,ob,k _ _ (.inl rfl) e,c⟩
 | dK kvs=>obtain ⟨z,y,vs,r,ob,es,ep,e,c⟩:=x; exact ⟨z,y,vs,r,ob,es,ep,k _ _ (.inl rfl) e,c⟩
 | dT kvs=>
  obtain ⟨z,y,xs,r,ob,es,ep,e,c⟩:=x
  exact ⟨z,y,xs,Paired.mapP r fun p q z=>⟨z.1,ht _ _ z.2.1,z.2.2⟩,ob,es,ep,k _ _ (.inl rfl) e,c⟩
 | set S n=>obtain ⟨ob,es,ep,t,e,c⟩:=x; exact ⟨ob,es,ep,t,k _ _ (.inl rfl) e,c⟩
 | ins C dx fs=>
  obtain ⟨d,z,ne,e,mA,⟨od,es,ep,e2,c⟩,r⟩:=x
  exact ⟨ho _ d,z,ne,k _ _ (.inl rfl) e,mA,⟨od,es,ep,k _ _ (.inr d) e2,c⟩,r⟩
 | own y=>obtain ⟨ob,e⟩:=x; exact ⟨ob,k _ _ (.inl rfl) e⟩
 | xd fs=>obtain ⟨mA,⟨od,es,ep,e,c⟩,r⟩:=x; exact ⟨mA,⟨od,es,ep,k _ _ (.inl rfl) e,c⟩,r⟩
 | rng lo hi=>obtain ⟨t,u,v,e⟩:=x; exact ⟨t,u,v,k _ _ (.inl rfl) e⟩
 | frz ob u ih=>obtain ⟨e,q⟩:=x; exact ⟨k _ _ (.inl rfl) e,ih q⟩
 | tbl ps=>
  have e:h.get? a=some { cls:= .none,data:= .fields ps }:=x
  show h'.get? a=some { cls:= .none,data:= .fields ps }
  exact k a _ (.inl rfl) e
 | met f y=>
  have e:h.get? a=some (PySem.W.methodObj (.ref f) (.ref y)):=x
  show h'.get? a=some (PySem.W.methodObj (.ref f) (.ref y))
  exact k a _ (.inl rfl) e
 | ext φ=>obtain ⟨p,⟨o,e⟩,st⟩:=x; exact ⟨st _ _ p fun o q=>k _ _ (.inl rfl) q,⟨o,k _ _ (.inl rfl) e⟩,st⟩
theorem HOk.lt (x:HOk P w H h) (e:H a=some o):a<h.objs.size:=(x a o e).lt
theorem HOk.fresh (x:HOk P w H h) (e:h.objs.size<=a):H a=none:=by
 cases q:H a with
 | none=>rfl
 | some u=>exact absurd (Nat.lt_of_lt_of_le (x.lt q) e) (Nat.lt_irrefl _)
theorem HOk.kept (x:HOk P w H h) (k:∀ b u,h.get? b=some u->h'.get? b=some u):HOk P w H h':=fun a o e=>
 (x a o e).stay (fun b u _ q=>k b u q) (fun _ q=>q) fun _ _ q=>q
theorem HOk.laid (x:HOk P w H h) (k:∀ b u,h.get? b=some u->h'.get? b=some u) (hp:h.objs.size<=a) (new:qK P w (upd H a o) h' a o):HOk P w (upd H a o) h':=fun b u e=>by
 have hn:=x.fresh hp
 by_cases hb:b=a
 ·subst hb; rw [ji] at e; cases e; exact new
 ·rw [jo hb] at e
  exact (x b u e).stay (fun c v _ q=>k c v q) (fun c q=>by rw [jo (qR q hn)]; exact q) fun c xs q=>by rw [jo (qR q hn)]; exact q
end
def Rd (H:Hp) (a:Addr) (u:HO):Prop:=H a=some u ∨ ∃ o,H a=some (.frz o u)
theorem Rd.of {H:Hp}{a:Addr}{u:HO} (h:H a=some u):Rd H a u:= .inl h
theorem Rd.ok {P:Program}{w:World}{H:Hp}{h:Heap}{a:Addr}{u:HO} (r:Rd H a u) (x:HOk P w H h):qK P w H h a u:=by
 rcases r with r | ⟨o,r⟩
 ·exact x a u r
 ·obtain ⟨_,q⟩:=x a _ r
  exact q
noncomputable def Mut:Option HO->Prop
 | some (.lst _)=>True
 | some (.dK _)=>True
 | some (.dT _)=>True
 | some (.set _ _)=>True
 | some (.ins _ _ _)=>True
 | some (.ext _)=>True
 | _=>False
section
variable {P:Program}{w:World}{H:Hp}{h h':Heap}{x e:Addr}{o':HO}
theorem HOk.write (ok:HOk P w H h) (mu:Mut (H x)) (he:e=x ∨ H e=some (.own x)) (k:∀ b u,b ≠ e->h.get? b=some u->h'.get? b=some u) (heo:∃ u,h'.get? e=some u)
  (new:qK P w (upd H x o') h' x o'):HOk P w (upd H x o') h':=fun b u q=>by
 have nown:∀ c y,H c=some (.own y)->c ≠ x:=fun c y r z=>by subst z; rw [r] at mu; exact mu
 have ntup:∀ c xs,H c=some (.tup xs)->c ≠ x:=fun c xs r z=>by subst z; rw [r] at mu; exact mu
 by_cases hb:b=x
 ·subst hb; rw [ji] at q; cases q; exact new
 ·rw [jo hb] at q
  by_cases hbe:b=e
  ·have q':H b=some (.own x):=by
    rcases he with z | z
    ·exact absurd (hbe.trans z) hb
    ·rw [hbe]; exact z
   rw [q] at q'; cases q'
   obtain ⟨v,hv⟩:=heo
   exact ⟨v,by rw [hbe]; exact hv⟩
  ·refine (ok b u q).stay (fun c v hc r=>k c v ?_ r) (fun c r=>by rw [jo (nown c b r)]; exact r) fun c xs r=>by rw [jo (ntup c xs r)]; exact r
   rcases hc with rfl | hc
   ·exact hbe
   ·rintro rfl
    rcases he with z | z
    ·exact nown c b hc z
    ·rw [hc] at z; cases z; exact hb rfl
end
structure Un (fs ex:List Addr) (H H':Hp) (h h':Heap):Prop where
 keep:∀ b o,h.get? b=some o->H b=none->b ∉ fs->b ∉ ex->h'.get? b=some o
 slot:∀ b o,h.get? b=some o->H b=none->b ∈ fs->b ∉ ex->∃ sl,h'.get? b=some { o with slots:=sl }
 free:∀ b o,h.get? b=some o->H b=none->b ∉ ex->H' b=none
 there:∀ b o,h.get? b=some o->b ∉ ex->∃ o',h'.get? b=some o'
 tups:∀ b xs,H b=some (.tup xs)->H' b=some (.tup xs)
 frzs:∀ b o u,H b=some (.frz o u)->H' b=some (.frz o u)
 tbls:∀ b ps,H b=some (.tbl ps)->∃ more,H' b=some (.tbl (ps++more))
section
variable {fs fs' ex ex':List Addr}{H H1 H2:Hp}{h h1 h2 h':Heap}{a x e:Addr}{o:HO}
theorem Un.any (u:Un fs ex H H1 h h1) {b:Addr}{ob:Obj} (q:h.get? b=some ob) (n:H b=none) (hx:b ∉ ex):∃ sl,h1.get? b=some { ob with slots:=sl }:=by
 by_cases hb:b ∈ fs
 ·exact u.slot b ob q n hb hx
 ·exact ⟨ob.slots,u.keep b ob q n hb hx⟩
theorem Un.trans (a:Un fs ex H H1 h h1) (b:Un fs ex H1 H2 h1 h2):Un fs ex H H2 h h2 where
 keep:=fun c ob q n hc hx=>b.keep c ob (a.keep c ob q n hc hx) (a.free c ob q n hx) hc hx
 slot:=fun c ob q n hc hx=>by
  obtain ⟨sl,e1⟩:=a.slot c ob q n hc hx
  obtain ⟨sl',e2⟩:=b.slot c _ e1 (a.free c ob q n hx) hc hx
  exact ⟨sl',e2⟩
 free:=fun c ob q n hx=>by
  obtain ⟨o',e1⟩:=a.there c ob q hx
  exact b.free c o' e1 (a.free c ob q n hx) hx
 there:=fun c ob q hx=>by
  obtain ⟨o',e1⟩:=a.there c ob q hx
  exact b.there c o' e1 hx
 tups:=fun c xs q=>b.tups c xs (a.tups c xs q)
 frzs:=fun c ob xs q=>b.frzs c ob xs (a.frzs c ob xs q)
 tbls:=fun c ps q=>by
  obtain ⟨m1,e1⟩:=a.tbls c ps q
  obtain ⟨m2,e2⟩:=b.tbls c _ e1
  exact ⟨m1++m2,by rw [e2,Array.append_assoc]⟩
theorem Un.kept (k:∀ b u,h.get? b=some u->h'.get? b=some u):Un fs ex H H h h':=
 ⟨fun b ob q _ _ _=>k b ob q,fun b ob q _ _ _=>⟨ob.slots,k b ob q⟩,fun _ _ _ n _=>n,fun b ob q _=>⟨ob,k b ob q⟩,fun _ _ q=>q,fun _ _ _ q=>q,fun _ ps q=>⟨#[],by rw [q]; simp⟩⟩
theorem Un.refl:Un fs ex H H h h:=Un.kept fun _ _ q=>q
theorem Un.laid (k:∀ b u,h.get? b=some u->h'.get? b=some u) (hp:h.objs.size<=a) (hn:H a=none):Un fs ex H (upd H a o) h h' where
 keep:=fun b u q _ _ _=>k b u q
 slot:=fun b u q _ _ _=>⟨u.slots,k b u q⟩
 free:=fun b u q n _=>by rw [jo (Nat.ne_of_lt (Nat.lt_of_lt_of_le (Heap.lt_size q) hp))]; exact n
 there:=fun b u q _=>⟨u,k b u q⟩
 tups:=fun b xs q=>by rw [jo (qR q hn)]; exact q
 frzs:=fun b u xs q=>by rw [jo (qR q hn)]; exact q
 tbls:=fun b ps q=>⟨#[],by rw [jo (qR q hn),q]; simp⟩
theorem Un.write (mu:Mut (H x)) (he:e=x ∨ H e=some (.own x)) (k:∀ b u,b ≠ e->h.get? b=some u->h'.get? b=some u) (heo:∃ u,h'.get? e=some u):Un fs ex H (upd H x o) h h':=by
 have hx:∀ b,H b=none->b ≠ x:=fun b n z=>by subst z; rw [n] at mu; exact mu
 have hb:∀ b,H b=none->b ≠ e:=fun b n z=>by
  subst z
  rcases he with r | r
  ·exact hx b n r
  ·rw [n] at r; cases r
 have hm:∀ b u,H b=some u->¬ Mut (some u)->b ≠ x:=fun b u q nm z=>by subst z; rw [q] at mu; exact nm mu
 refine ⟨fun b u q n _ _=>k b u (hb b n) q,fun b u q n _ _=>⟨u.slots,k b u (hb b n) q⟩,fun b u q n _=>by rw [jo (hx b n)]; exact n,fun b u q _=>?_,
  fun b xs q=>by rw [jo (hm b _ q fun z=>z)]; exact q,fun b u xs q=>by rw [jo (hm b _ q fun z=>z)]; exact q,fun b ps q=>⟨#[],by rw [jo (hm b _ q fun z=>z),q]; simp⟩⟩
 by_cases hbe:b=e
 ·subst hbe; exact heo
 ·exact ⟨u,k b u hbe q⟩
theorem Un.mono (u:Un fs ex H H1 h h1) (hs:∀ b ∈ fs,b ∈ fs') (hx:∀ b ∈ ex,b ∈ ex'):Un fs' ex' H H1 h h1:=
 ⟨fun b ob q n hb he=>u.keep b ob q n (fun z=>hb (hs b z)) fun z=>he (hx b z),fun _ _ q n _ he=>u.any q n fun z=>he (hx _ z),fun b ob q n he=>u.free b ob q n fun z=>he (hx b z),fun b ob q he=>u.there b ob q fun z=>he (hx b z),u.tups,u.frzs,u.tbls⟩
end
def trk (h:Heap) (H:Hp):List Addr:=(List.range h.objs.size).filter fun a=>(H a).isSome
def aeB (h:Heap) (H:Hp):Heap:=PySem.W.hideAll h (trk h H)
theorem aj2 (h:Heap) (H:Hp):(aeB h H).objs.size=h.objs.size:=PySem.W.hideAll_size _ _
theorem alp {h:Heap}{H:Hp}{b:Addr}{o:Obj} (e:h.get? b=some o) (n:H b=none):(aeB h H).get? b=some o:=
 PySem.W.hideAll_get _ e fun hm=>by
  have q:(H b).isSome=true:=(List.mem_filter.mp hm).2
  rw [n] at q; simp at q
theorem an0 {h:Heap}{H:Hp}{b:Addr}{o:Obj} (e:(aeB h H).get? b=some o):h.get? b=some o/\H b=none:=by
 have e':h.get? b=some o:=PySem.W.of_hideAll (trk h H) e
 refine ⟨e',?_⟩
 cases q:H b with
 | none=>rfl
 | some x=>
  have hm:b ∈ trk h H:=List.mem_filter.mpr ⟨List.mem_range.mpr (Heap.lt_size e'),by simp [q]⟩
  have z:(aeB h H).get? b=none:=PySem.W.hideAll_none (trk h H) hm
  rw [z] at e; cases e
noncomputable def Jm (g h:Heap) (L:Addr):List (Addr × Obj):=(List.range h.objs.size).filterMap fun a=>if a=L ∨ (g.get? a).isSome=true then none else (h.get? a).map fun o=>(a,o)
theorem agd {g h:Heap}{L a:Addr}{o:Obj} (h1:a ≠ L) (h2:g.get? a=none) (h3:h.get? a=some o):(a,o) ∈ Jm g h L:=
 List.mem_filterMap.mpr ⟨a,List.mem_range.mpr (Heap.lt_size h3),by simp [h1,h2,h3]⟩
theorem acn {g h:Heap}{L:Addr}{p:Addr × Obj} (hp:p ∈ Jm g h L):p.1 ≠ L/\g.get? p.1=none/\h.get? p.1=some p.2:=by
 obtain ⟨b,_,e⟩:=List.mem_filterMap.mp hp
 split at e
 ·cases e
 ·rename_i hn
  cases q:h.get? b with
  | none=>rw [q] at e; simp at e
  | some u=>
   rw [q] at e
   simp only [zzE,Option.some.injEq] at e
   subst e
   refine ⟨fun z=>hn (.inl z),?_,q⟩
   show g.get? b=none
   cases r:g.get? b with
   | none=>rfl
   | some v=>exact (hn (.inr (by simp [r]))).elim
def j9 (g h:Heap) (L d:Addr):List (Addr × Obj):=(Jm g h L).filter fun p=>decide (p.1 ≠ d)
theorem alq {g h:Heap}{L:Addr}:News g L h (Jm g h L):=fun p hp=>let ⟨a,b,c⟩:=acn hp; ⟨c,a,b⟩
structure Mod (K:Fg) (mg:SV) (base:Heap):Prop where
 kin:K.In base
 glob:base.Ns mainGlobals mg
 blt:∃ mb,base.Ns builtinsNs mb/\∀ x:Str,x ≠ "__name__"->mb x=bootBuiltins x
 nolimit:base.NoLimit
structure Cx where
 prog:Program
 w:World
 K:Fg
 mg:SV
 base:Heap
 A:Around
 N:List Str
 s₀:Shared
 H₀:Hp
 env:Env
 Ko:List Env
 stack:List Env
 ex:List Addr
 fn:Str->Bool
 calm:Bool
 pn:List (Addr × Obj)
 xe:Value->SP0
noncomputable def frs (l:List Env):List Addr:=l.filterMap (·.frame)
abbrev Cx.fs (X:Cx):List Addr:=frs X.Ko
def Vis (sc:Scope) (x:Str):Prop:=sc.names.lookup x=some .local ∨ sc.names.lookup x=some .cell ∨ sc.names.lookup x=some .free
def Loc (sc:Scope) (x:Str):Prop:=sc.names.lookup x=some .local ∨ sc.names.lookup x=some .cell
def ate (env:Env) (h:Heap) (m:SV) (x:Str) (u:Value):Prop:=
 (env.kindOf x=some .local/\m x=some u) ∨ ((env.kindOf x=some .cell ∨ env.kindOf x=some .free)/\∃ c,env.cells.lookup x=some c/\h.IsCell c (some u))
structure Cx.Ok (X:Cx):Prop where
 mod:Mod X.K X.mg X.base
 kind:X.env.scope.kind= .function
 glob:X.env.globals=mainGlobals
 blt:X.env.builtins=builtinsNs
 above:X.s₀.heap.objs.size<=X.env.locals
 inj:∀ x y c,X.env.cells.lookup x=some c->X.env.cells.lookup y=some c->x=y
 has:∀ x,(X.env.kindOf x=some .cell ∨ X.env.kindOf x=some .free)->∃ c,X.env.cells.lookup x=some c
 cab:∀ x c,X.fn x=true->X.env.cells.lookup x=some c->X.s₀.heap.objs.size<=c
 hd:X.calm=true->X.A.handled=none
 frames:X.A.frames=some X.stack
 stk:X.stack=X.Ko ∨ (X.stack=X.env::X.Ko/\X.env.frame=some X.env.locals)
 exf:∀ b ∈ X.ex,b ≠ X.env.locals/\∀ x c,X.env.cells.lookup x=some c->c ≠ b
 bs:∀ b o,X.base.get? b=some o->X.s₀.heap.get? b=some o/\X.H₀ b=none
 bsz:X.base.objs.size<=X.s₀.heap.objs.size
 noex:∀ b o,X.base.get? b=some o->b ∉ X.ex
 exfs:∀ b ∈ X.ex,b ∉ X.fs
 funs:X.s₀.heap.FunFrames X.base X.Ko
 frf:∀ b ∈ X.fs,X.H₀ b=none
structure Inv (X:Cx) (Kp:List (Addr × Obj)) (σ:List (Option V)) (H:Hp) (s:Shared):Prop where
 ok:X.Ok
 os:s.os=X.s₀.os
 bare:AllBare s.gens
 base:Un X.fs X.ex X.H₀ H X.s₀.heap s.heap
 loc:∃ m,s.heap.Ns X.env.locals m/\∀ (i:Nat) (x:Str) (v:V),X.N[i]?=some x->σ[i]?=some (some v)->Vis X.env.scope x->∃ u,jW v u/\ate X.env s.heap m x u
 cell:∀ x c,X.env.cells.lookup x=some c->∃ v,s.heap.IsCell c v
 free:H X.env.locals=none
 freeC:∀ x c,X.env.cells.lookup x=some c->H c=none
 pin:∀ p ∈ X.pn++Kp,s.heap.get? p.1=some p.2/\H p.1=none/\p.1 ≠ X.env.locals/\p.1 ∉ X.fs/\∀ v,p.2.data ≠ .cell v
 hok:HOk X.prog X.w H s.heap
 len:σ.length=X.N.length
section
variable {X:Cx}{Kp:List (Addr × Obj)}{σ:List (Option V)}{H H':Hp}{s:Shared}{h':Heap}
theorem Cx.Ok.nofr (ok:X.Ok) {b:Addr}{o:Obj} (e:X.base.get? b=some o):b ∉ X.fs:=fun hb=>by
 have:=(ok.funs.mem hb).1
 rw [e] at this; cases this
theorem Inv.bs (I:Inv X Kp σ H s):∀ b o,X.base.get? b=some o->s.heap.get? b=some o/\H b=none:=fun b o e=>
 ⟨I.base.keep b o (I.ok.bs b o e).1 (I.ok.bs b o e).2 (I.ok.nofr e) (I.ok.noex b o e),I.base.free b o (I.ok.bs b o e).1 (I.ok.bs b o e).2 (I.ok.noex b o e)⟩
theorem Inv.bk (I:Inv X Kp σ H s):∀ b o,X.base.get? b=some o->s.heap.get? b=some o:=fun b o e=>(I.bs b o e).1
theorem Inv.mod (I:Inv X Kp σ H s):Mod X.K X.mg X.base:=I.ok.mod
theorem Inv.kIn (I:Inv X Kp σ H s):X.K.In s.heap:=I.ok.mod.kin.keeps I.bk
theorem Inv.nolimit (I:Inv X Kp σ H s):s.heap.NoLimit:=I.ok.mod.nolimit.keeps I.bk
theorem Inv.fr (I:Inv X Kp σ H s):∃ m,Fr X.base X.env.locals s.heap m:=
 let ⟨m,hn,_⟩:=I.loc
 ⟨m,hn,I.bk,Nat.le_trans I.ok.bsz I.ok.above⟩
theorem Inv.lt (I:Inv X Kp σ H s):X.env.locals<s.heap.objs.size:=let ⟨_,hn,_⟩:=I.loc; hn.lt
theorem Inv.sz (I:Inv X Kp σ H s):X.s₀.heap.objs.size<=s.heap.objs.size:=Nat.le_trans I.ok.above (Nat.le_of_lt I.lt)
theorem Inv.nofs (I:Inv X Kp σ H s) {a:Addr} (h:s.heap.objs.size<=a):a ∉ X.fs:=fun hb=>by
 obtain ⟨_,o,ho,_⟩:=I.ok.funs.mem hb
 exact absurd (Nat.lt_of_lt_of_le (Heap.lt_size ho) (Nat.le_trans I.sz h)) (Nat.lt_irrefl _)
theorem Inv.cne (I:Inv X Kp σ H s):∀ x c,X.env.cells.lookup x=some c->c ≠ X.env.locals:=fun x c e z=>by
 obtain ⟨v,o,ho,hd⟩:=I.cell x c e
 obtain ⟨m,⟨o',es,ep,ho',hd',_⟩,_⟩:=I.loc
 rw [z,ho'] at ho; cases ho; rw [hd'] at hd; cases hd
theorem Inv.funs (I:Inv X Kp σ H s):s.heap.FunFrames X.base X.Ko:=by
 have all:∀ (l:List Env),(∀ b ∈ frs l,b ∈ X.fs)->X.s₀.heap.FunFrames X.base l->s.heap.FunFrames X.base l:=by
  intro l
  induction l with
  | nil=>intro _ _; trivial
  | cons env r ih=>
   intro hs hl
   obtain ⟨hk,⟨L,o,hf,hn,ho,hd⟩,hr⟩:=hl
   have hL:L ∈ X.fs:=hs L (by unfold frs; rw [List.filterMap_cons,hf]; exact List.mem_cons_self)
   obtain ⟨sl,e⟩:=I.base.slot L o ho (I.ok.frf L hL) hL fun z=>I.ok.exfs L z hL
   exact ⟨hk,⟨L,_,hf,hn,e,hd⟩,ih (fun b hb=>hs b (by unfold frs; rw [List.filterMap_cons,hf]; exact List.mem_cons_of_mem _ hb)) hr⟩
 exact all X.Ko (fun _ hb=>hb) I.ok.funs
theorem Inv.stack (I:Inv X Kp σ H s):s.heap.FunFrames X.base X.stack:=by
 rcases I.ok.stk with e | ⟨e,hf⟩
 ·rw [e]; exact I.funs
 ·rw [e]
  obtain ⟨m,hn,_⟩:=I.loc
  refine .cons (by rw [I.ok.kind]; decide) hf hn ?_ I.funs
  exact Heap.get?_none_of_le (Nat.le_trans I.ok.bsz I.ok.above)
theorem Inv.stkSub (I:Inv X Kp σ H s):∀ b ∈ frs X.stack,b ∈ X.env.locals::X.fs:=fun b hb=>by
 rcases I.ok.stk with e | ⟨e,hf⟩
 ·rw [e] at hb; exact List.mem_cons_of_mem _ hb
 ·rw [e] at hb
  unfold frs at hb
  rw [List.filterMap_cons,hf] at hb
  exact hb
theorem Inv.stkFree (I:Inv X Kp σ H s):∀ b ∈ frs X.stack,H b=none:=fun b hb=>by
 rcases List.mem_cons.mp (I.stkSub b hb) with e | hb
 ·rw [e]; exact I.free
 ·obtain ⟨_,o,ho,_⟩:=I.ok.funs.mem hb
  exact I.base.free b o ho (I.ok.frf b hb) fun z=>I.ok.exfs b z hb
theorem Inv.step {g':Array GenState}{t':Nat}{d':Drawn}{ch:List Addr} (I:Inv X Kp σ H s)
  (hch:∀ b ∈ ch,(b ∈ X.ex ∨ X.s₀.heap.objs.size<=b)/\b ≠ X.env.locals/\(∀ x c,X.env.cells.lookup x=some c->c ≠ b)/\∀ p ∈ X.pn++Kp,p.1 ≠ b)
  (keep:∀ b o,b ≠ X.env.locals->b ∉ X.fs->b ∉ ch->s.heap.get? b=some o->H b=none->h'.get? b=some o)
  (slot:∀ b o,b ≠ X.env.locals->b ∈ X.fs->b ∉ ch->s.heap.get? b=some o->H b=none->∃ sl,h'.get? b=some { o with slots:=sl }) (free:∀ b o,b ∉ ch->s.heap.get? b=some o->H b=none->H' b=none)
  (there:∀ b o,b ∉ ch->s.heap.get? b=some o->∃ o',h'.get? b=some o')
  (tups:∀ b xs,H b=some (.tup xs)->H' b=some (.tup xs)) (frzs:∀ b o u,H b=some (.frz o u)->H' b=some (.frz o u)) (tbls:∀ b ps,H b=some (.tbl ps)->∃ more,H' b=some (.tbl (ps++more)))
  (ns:∀ m,s.heap.Ns X.env.locals m->h'.Ns X.env.locals m) (hok:HOk X.prog X.w H' h') (hg:AllBare g'):
  Inv X Kp σ H' { s with heap:=h',gens:=g',drawn:=d',toks:=t' }:=by
 have neL:∀ b o,X.s₀.heap.get? b=some o->b ≠ X.env.locals:=fun b o e=>Nat.ne_of_lt (Nat.lt_of_lt_of_le (Heap.lt_size e) I.ok.above)
 have neC:∀ b o,X.s₀.heap.get? b=some o->b ∉ X.ex->b ∉ ch:=fun b o e hx hb=>by
  rcases (hch b hb).1 with z | z
  ·exact hx z
  ·exact absurd (Nat.lt_of_lt_of_le (Heap.lt_size e) z) (Nat.lt_irrefl _)
 have cellK:∀ x c,X.env.cells.lookup x=some c->∀ v,s.heap.IsCell c v->h'.IsCell c v:=fun x c e v ⟨o,ho,hd⟩=>by
  have nch:c ∉ ch:=fun z=>(hch c z).2.2.1 x c e rfl
  by_cases hc:c ∈ X.fs
  ·obtain ⟨sl,q⟩:=slot c o (I.cne x c e) hc nch ho (I.freeC x c e)
   exact ⟨_,q,hd⟩
  ·exact ⟨o,keep c o (I.cne x c e) hc nch ho (I.freeC x c e),hd⟩
 refine ⟨I.ok,I.os,hg,⟨fun b o e n hb hx=>?_,fun b o e n hb hx=>?_,fun b o e n hx=>?_,fun b o e hx=>?_,fun b xs e=>tups b xs (I.base.tups b xs e),fun b o xs e=>frzs b o xs (I.base.frzs b o xs e),fun b ps e=>?_⟩,?_,fun x c e=>?_,?_,fun x c e=>?_,fun p hp=>?_,hok,I.len⟩
 ·exact keep b o (neL b o e) hb (neC b o e hx) (I.base.keep b o e n hb hx) (I.base.free b o e n hx)
 ·obtain ⟨sl,e1⟩:=I.base.slot b o e n hb hx
  obtain ⟨sl',e2⟩:=slot b _ (neL b o e) hb (neC b o e hx) e1 (I.base.free b o e n hx)
  exact ⟨sl',e2⟩
 ·obtain ⟨o',e1⟩:=I.base.there b o e hx
  exact free b o' (neC b o e hx) e1 (I.base.free b o e n hx)
 ·obtain ⟨o',e1⟩:=I.base.there b o e hx
  exact there b o' (neC b o e hx) e1
 ·obtain ⟨m1,e1⟩:=I.base.tbls b ps e
  obtain ⟨m2,e2⟩:=tbls b _ e1
  exact ⟨m1++m2,by rw [e2,Array.append_assoc]⟩
 ·obtain ⟨m,hn,hl⟩:=I.loc
  refine ⟨m,ns m hn,fun i x v e1 e2 e3=>?_⟩
  obtain ⟨u,r,l⟩:=hl i x v e1 e2 e3
  refine ⟨u,r,?_⟩
  rcases l with l | ⟨k,c,e,z⟩
  ·exact .inl l
  ·exact .inr ⟨k,c,e,cellK x c e _ z⟩
 ·obtain ⟨v,z⟩:=I.cell x c e
  exact ⟨v,cellK x c e v z⟩
 ·obtain ⟨m,⟨o,_,_,ho,_⟩,_⟩:=I.loc
  exact free _ o (fun z=>(hch _ z).2.1 rfl) ho I.free
 ·obtain ⟨v,o,ho,hd⟩:=I.cell x c e
  exact free c o (fun z=>(hch c z).2.2.1 x c e rfl) ho (I.freeC x c e)
 ·obtain ⟨e,n,ne,nf,d⟩:=I.pin p hp
  have nch:p.1 ∉ ch:=fun z=>(hch p.1 z).2.2.2 p hp rfl
  exact ⟨keep p.1 p.2 ne nf nch e n,free p.1 p.2 nch e n,ne,nf,d⟩
theorem Inv.un {t':Nat} (I:Inv X Kp σ H s) (u:Un X.fs [] H H' s.heap h') (hok:HOk X.prog X.w H' h'):Inv X Kp σ H' { s with heap:=h',toks:=t' }:=by
 obtain ⟨m,⟨o,es,ep,ho,r⟩,_⟩:=id I.loc
 obtain ⟨sl,hL⟩:=u.any ho I.free (by simp)
 exact I.step (g':=s.gens) (d':=s.drawn) (ch:=[]) (fun _ z=>nomatch z) (fun b o _ hb _ e n=>u.keep b o e n hb (by simp)) (fun b o _ hb _ e n=>u.slot b o e n hb (by simp)) (fun b o _ e n=>u.free b o e n (by simp)) (fun b o _ e=>u.there b o e (by simp)) u.tups u.frzs u.tbls (fun m' hm=>by
  obtain ⟨o',es',ep',ho',r'⟩:=hm
  rw [ho] at ho'; cases ho'
  exact ⟨_,es',ep',hL,r'⟩) hok I.bare
theorem Inv.call {g':Array GenState}{t':Nat}{d':Drawn}{ch:List Addr} (I:Inv X Kp σ H s) (u:Un (frs X.stack) ch H H' s.heap h') (hok:HOk X.prog X.w H' h') (hg:AllBare g')
  (hch:∀ b ∈ ch,(b ∈ X.ex ∨ X.s₀.heap.objs.size<=b)/\b ≠ X.env.locals/\(∀ x c,X.env.cells.lookup x=some c->c ≠ b)/\∀ p ∈ X.pn++Kp,p.1 ≠ b):
  Inv X Kp σ H' { s with heap:=h',gens:=g',drawn:=d',toks:=t' }:=by
 obtain ⟨m,⟨o,es,ep,ho,r⟩,_⟩:=id I.loc
 obtain ⟨sl,hL⟩:=u.any ho I.free fun z=>(hch _ z).2.1 rfl
 exact I.step (ch:=ch) hch (fun b o hL hb hc e n=>u.keep b o e n (fun z=>(List.mem_cons.mp (I.stkSub b z)).elim hL hb) hc) (fun b o _ _ hc e n=>u.any e n hc) (fun b o hc e n=>u.free b o e n hc) (fun b o hc e=>u.there b o e hc) u.tups u.frzs u.tbls (fun m' hm=>by
  obtain ⟨o',es',ep',ho',r'⟩:=hm
  rw [ho] at ho'; cases ho'
  exact ⟨_,es',ep',hL,r'⟩) hok hg
theorem Inv.turned {t':Nat}{it:Addr} (I:Inv X Kp σ H s) (k:∀ b o,b ≠ it->s.heap.get? b=some o->h'.get? b=some o) (hn:H it=none) (hL:it ≠ X.env.locals)
  (h1:it ∈ X.ex ∨ X.s₀.heap.objs.size<=it) (h2:∀ x c,X.env.cells.lookup x=some c->c ≠ it) (h3:∀ p ∈ X.pn++Kp,p.1 ≠ it):Inv X Kp σ H { s with heap:=h',toks:=t' }:=by
 have nit:∀ b u,H b=some u->b ≠ it:=fun b u e z=>by rw [z,hn] at e; cases e
 refine I.step (g':=s.gens) (d':=s.drawn) (ch:=[it]) (fun b hb=>?_) (fun b o _ _ hc e _=>k b o (fun z=>hc (by simp [z])) e) (fun b o _ _ hc e _=>⟨o.slots,k b o (fun z=>hc (by simp [z])) e⟩) (fun _ _ _ _ n=>n)
  (fun b o hc e=>⟨o,k b o (fun z=>hc (by simp [z])) e⟩) (fun _ _ e=>e) (fun _ _ _ e=>e) (fun b ps e=>⟨#[],by rw [e]; simp⟩) (fun m hm=>?_) (fun b u e=>?_) I.bare
 ·have e:b=it:=by simpa using hb
  subst e
  exact ⟨h1,hL,h2,h3⟩
 ·obtain ⟨o,es,ep,ho,r⟩:=hm
  exact ⟨o,es,ep,k _ o (Ne.symm hL) ho,r⟩
 ·refine (I.hok b u e).stay (fun c v hc q=>k c v ?_ q) (fun _ q=>q) fun _ _ q=>q
  rcases hc with z | z
  ·rw [z]; exact nit b u e
  ·exact nit c _ z
theorem Inv.tok (I:Inv X Kp σ H s) (t:Nat):Inv X Kp σ H { s with toks:=t }:=I.un (h':=s.heap) (t':=t) Un.refl I.hok
theorem Inv.kept {t':Nat} (I:Inv X Kp σ H s) (k:∀ b u,s.heap.get? b=some u->h'.get? b=some u):Inv X Kp σ H { s with heap:=h',toks:=t' }:=I.un (Un.kept k) (I.hok.kept k)
theorem Inv.laid {a:Addr}{o:HO}{t':Nat} (I:Inv X Kp σ H s) (k:∀ b u,s.heap.get? b=some u->h'.get? b=some u) (hp:s.heap.objs.size<=a) (new:qK X.prog X.w (upd H a o) h' a o):
  Inv X Kp σ (upd H a o) { s with heap:=h',toks:=t' }:=I.un (Un.laid k hp (I.hok.fresh hp)) (I.hok.laid k hp new)
theorem Inv.write {x e:Addr}{o:HO}{t':Nat} (I:Inv X Kp σ H s) (mu:Mut (H x)) (he:e=x ∨ H e=some (.own x)) (k:∀ b u,b ≠ e->s.heap.get? b=some u->h'.get? b=some u) (heo:∃ u,h'.get? e=some u)
  (new:qK X.prog X.w (upd H x o) h' x o):Inv X Kp σ (upd H x o) { s with heap:=h',toks:=t' }:=I.un (Un.write mu he k heo) (I.hok.write mu he k heo new)
theorem Inv.pins_of {pins':List (Addr × Obj)} (I:Inv X Kp σ H s) (h:∀ p ∈ pins',s.heap.get? p.1=some p.2/\H p.1=none/\p.1 ≠ X.env.locals/\p.1 ∉ X.fs/\∀ v,p.2.data ≠ .cell v):Inv X pins' σ H s:=
 ⟨I.ok,I.os,I.bare,I.base,I.loc,I.cell,I.free,I.freeC,fun p hp=>(List.mem_append.mp hp).elim (fun z=>I.pin p (List.mem_append_left _ z)) (h p),I.hok,I.len⟩
theorem age {N:List Str} (hN:N.Nodup) {i j:Nat}{x:Str} (a:N[i]?=some x) (b:N[j]?=some x):i=j:=by
 obtain ⟨h1,e1⟩:=List.getElem?_eq_some_iff.mp a
 obtain ⟨h2,e2⟩:=List.getElem?_eq_some_iff.mp b
 exact (List.getElem_inj hN).mp (e1.trans e2.symm)
theorem aj3 {M:Model}{A:Around}{E:Value->SP0}{i:Nat}{x:Str}{v:V}{u:Value}{Q:Unit->SP0} (I:Inv X Kp σ H s) (hN:X.N.Nodup) (hi:X.N[i]?=some x) (hx:Loc X.env.scope x) (r:jW v u)
  (h:∀ s',Inv X Kp (σ.set i (some v)) H s'->(∃ a,Heap.SameBut a s.heap s'.heap/\(a=X.env.locals ∨ X.env.cells.lookup x=some a))->Q () s') (hf:X.fn x=true ∨ X.env.scope.names.lookup x=some .local:=by first | exact .inl rfl | exact .inr rfl | assumption):wpAny M A (storeName X.env x u) Q E s:=by
 obtain ⟨m,hn,hl⟩:=id I.loc
 have hcls:(X.env.scope.kind == .class || (X.env.scope.kind == .module && X.env.locals != X.env.globals))=false:=by rw [I.ok.kind]; rfl
 have hiσ:i < σ.length:=by rw [I.len]; exact (List.getElem?_eq_some_iff.mp hi).1
 have cne:=I.cne
 have tracked:∀ {a:Addr} {h':Heap},(∃ o,s.heap.get? a=some o/\H a=none)->Heap.SameBut a s.heap h'->HOk X.prog X.w H h':=fun {a h'} ha hs b ob e=>by
  obtain ⟨_,_,hfree⟩:=ha
  refine (I.hok b ob e).stay (fun c w' hc q=>(hs.2 c ?_).trans q) (fun _ q=>q) fun _ _ q=>q
  rintro rfl
  rcases hc with rfl | hc
  ·rw [hfree] at e; cases e
  ·rw [hfree] at hc; cases hc
 rcases hx with hk | hk
 ·refine wpAny_storeName_local hk hn (fun h' hn' hs=>?_) hcls
  obtain ⟨oL,_,_,hoL,_⟩:=id hn
  refine h _ ⟨I.ok,I.os,I.bare,⟨fun b o e n hb hx=>?_,fun b o e n hb hx=>?_,I.base.free,fun b o e hx=>?_,I.base.tups,I.base.frzs,I.base.tbls⟩,⟨_,hn',fun j y v' e1 e2 e3=>?_⟩,fun y c e=>?_,I.free,I.freeC,fun p hp=>?_,tracked ⟨oL,hoL,I.free⟩ hs,by simpa using I.len⟩ ⟨_,hs,.inl rfl⟩
  ·exact (hs.2 b (Nat.ne_of_lt (Nat.lt_of_lt_of_le (Heap.lt_size e) I.ok.above))).trans (I.base.keep b o e n hb hx)
  ·obtain ⟨sl,e1⟩:=I.base.slot b o e n hb hx
   exact ⟨sl,(hs.2 b (Nat.ne_of_lt (Nat.lt_of_lt_of_le (Heap.lt_size e) I.ok.above))).trans e1⟩
  ·obtain ⟨o',e1⟩:=I.base.there b o e hx
   exact ⟨o',(hs.2 b (Nat.ne_of_lt (Nat.lt_of_lt_of_le (Heap.lt_size e) I.ok.above))).trans e1⟩
  ·by_cases hj:j=i
   ·subst hj
    rw [hi] at e1; cases e1
    rw [List.getElem?_set_self hiσ] at e2
    cases e2
    exact ⟨u,r,.inl ⟨hk,by simp⟩⟩
   ·rw [List.getElem?_set_ne (Ne.symm hj)] at e2
    obtain ⟨u',r',q⟩:=hl j y v' e1 e2 e3
    refine ⟨u',r',?_⟩
    rcases q with ⟨k,e⟩ | ⟨k,c,e,z⟩
    ·refine .inl ⟨k,?_⟩
     have:y ≠ x:=fun e=>hj (age hN e1 (e ▸ hi))
     simp [this,e]
    ·exact .inr ⟨k,c,e,z.sameBut hs (cne y c e)⟩
  ·obtain ⟨w',z⟩:=I.cell y c e
   exact ⟨w',z.sameBut hs (cne y c e)⟩
  ·obtain ⟨e,n,ne,nf,d⟩:=I.pin p hp
   exact ⟨(hs.2 p.1 ne).trans e,n,ne,nf,d⟩
 ·have hfn:X.fn x=true:=by
   rcases hf with z | z
   ·exact z
   ·rw [z] at hk; cases hk
  obtain ⟨c,hc⟩:=I.ok.has x (.inl hk)
  obtain ⟨w',z⟩:=I.cell x c hc
  refine wpAny_storeName_cell I.ok.kind hk hc z (fun h' hc' hs=>?_)
  obtain ⟨oc,hoc,hocd⟩:=id z
  refine h { s with heap:=h' } ⟨I.ok,I.os,I.bare,⟨fun b o e n hb hx=>?_,fun b o e n hb hx=>?_,I.base.free,fun b o e hx=>?_,I.base.tups,I.base.frzs,I.base.tbls⟩,⟨m,hn.sameBut hs (Ne.symm (cne x c hc)),fun j y v' e1 e2 e3=>?_⟩,fun y c' e=>?_,I.free,I.freeC,fun p hp=>?_,tracked ⟨oc,hoc,I.freeC x c hc⟩ hs,by simpa using I.len⟩ ⟨c,hs,.inr hc⟩
  ·exact (hs.2 b (Nat.ne_of_lt (Nat.lt_of_lt_of_le (Heap.lt_size e) (I.ok.cab x c hfn hc)))).trans (I.base.keep b o e n hb hx)
  ·obtain ⟨sl,e1⟩:=I.base.slot b o e n hb hx
   exact ⟨sl,(hs.2 b (Nat.ne_of_lt (Nat.lt_of_lt_of_le (Heap.lt_size e) (I.ok.cab x c hfn hc)))).trans e1⟩
  ·obtain ⟨o',e1⟩:=I.base.there b o e hx
   exact ⟨o',(hs.2 b (Nat.ne_of_lt (Nat.lt_of_lt_of_le (Heap.lt_size e) (I.ok.cab x c hfn hc)))).trans e1⟩
  ·by_cases hj:j=i
   ·subst hj
    rw [hi] at e1; cases e1
    rw [List.getElem?_set_self hiσ] at e2
    cases e2
    exact ⟨u,r,.inr ⟨.inl hk,c,hc,hc'⟩⟩
   ·rw [List.getElem?_set_ne (Ne.symm hj)] at e2
    obtain ⟨u',r',q⟩:=hl j y v' e1 e2 e3
    refine ⟨u',r',?_⟩
    rcases q with q | ⟨k,c',e,z'⟩
    ·exact .inl q
    ·refine .inr ⟨k,c',e,z'.sameBut hs ?_⟩
     rintro rfl
     exact hj (age hN e1 (I.ok.inj _ _ _ e hc ▸ hi))
  ·by_cases hcc:c'=c
   ·subst hcc; exact ⟨_,hc'⟩
   ·obtain ⟨w2,z2⟩:=I.cell y c' e
    exact ⟨w2,z2.sameBut hs hcc⟩
  ·obtain ⟨e,n,ne,nf,d⟩:=I.pin p hp
   refine ⟨(hs.2 p.1 ?_).trans e,n,ne,nf,d⟩
   intro q
   rw [q,hoc] at e
   have q':oc=p.2:=Option.some.inj e
   exact d w' (by rw [←q']; exact hocd)
theorem agf {M:Model}{A:Around}{E:Value->SP0}{i:Nat}{x:Str}{v:V}{u:Value}{Q:Unit->SP0} (I:Inv X Kp σ H s) (hN:X.N.Nodup) (hi:X.N[i]?=some x) (hx:Loc X.env.scope x) (r:jW v u)
  (h:∀ s',Inv X Kp (σ.set i (some v)) H s'->Q () s') (hf:X.fn x=true ∨ X.env.scope.names.lookup x=some .local:=by first | exact .inl rfl | exact .inr rfl | assumption):wpAny M A (storeName X.env x u) Q E s:=
 aj3 I hN hi hx r (fun s' I' _=>h s' I') hf
theorem Inv.call' {s':Shared}{ch:List Addr} (I:Inv X Kp σ H s) (ho:s'.os=s.os) (u:Un (frs X.stack) ch H H' s.heap s'.heap) (hok:HOk X.prog X.w H' s'.heap) (hg:AllBare s'.gens)
  (hch:∀ b ∈ ch,(b ∈ X.ex ∨ X.s₀.heap.objs.size<=b)/\b ≠ X.env.locals/\(∀ x c,X.env.cells.lookup x=some c->c ≠ b)/\∀ p ∈ X.pn++Kp,p.1 ≠ b):Inv X Kp σ H' s':=by
 obtain ⟨h',g',d',t',o'⟩:=s'
 have e:o'=s.os:=ho
 subst e
 exact I.call (g':=g') (t':=t') (d':=d') u hok hg hch
end
abbrev XK:=Value->Option Addr->Hp->Prop
noncomputable abbrev St:=List (Option V)
abbrev VK:=V->Hp->Prop
abbrev TE:=St->Hp->VK->Prop
abbrev TT:=St->Hp->(Bool->Hp->Prop)->Prop
abbrev TA:=St->Hp->(List V->Hp->Prop)->Prop
structure Ends where
 nx:St->Hp->Prop
 rt:VK
 bk:St->Hp->Prop:=fun _ _=>False
 ct:St->Hp->Prop:=fun _ _=>False
abbrev TS:=Ends->St->Hp->Prop
def EP (X:Cx) (Kp:List (Addr × Obj)) (σ:St) (Q:VK) (u:Value) (s':Shared):Prop:=∃ v H',Inv X Kp σ H' s'/\jW v u/\Q v H'
def TP (X:Cx) (Kp:List (Addr × Obj)) (σ:St) (Q:Bool->Hp->Prop) (b:Bool) (s':Shared):Prop:=∃ H',Inv X Kp σ H' s'/\Q b H'
def AP (X:Cx) (Kp:List (Addr × Obj)) (σ:St) (Q:List V->Hp->Prop) (us:List Value) (s':Shared):Prop:=∃ vs H',Inv X Kp σ H' s'/\jG vs us/\Q vs H'
def SP (X:Cx) (Kp:List (Addr × Obj)) (D:Ends) (f:Flow) (s':Shared):Prop:=
 match f with
 | .next=>∃ σ' H',Inv X Kp σ' H' s'/\D.nx σ' H'
 | .brk=>∃ σ' H',Inv X Kp σ' H' s'/\D.bk σ' H'
 | .cont=>∃ σ' H',Inv X Kp σ' H' s'/\D.ct σ' H'
 | .ret u=>∃ v σ' H',Inv X Kp σ' H' s'/\jW v u/\D.rt v H'
def PE (X:Cx) (e:Expr) (t:TE):Prop:=
 ∀ (Kp:List (Addr × Obj)) (s:Shared) (σ:St) (H:Hp) (Q:VK),Inv X Kp σ H s->t σ H Q->wpAny (model X.prog X.w) X.A (eval e X.env) (EP X Kp σ Q) X.xe s
def PT (X:Cx) (e:Expr) (t:TT):Prop:=
 ∀ (Kp:List (Addr × Obj)) (s:Shared) (σ:St) (H:Hp) (Q:Bool->Hp->Prop),Inv X Kp σ H s->t σ H Q->wpAny (model X.prog X.w) X.A (isTrue e X.env (eval e X.env)) (TP X Kp σ Q) X.xe s
def PW (X:Cx) (e:Expr) (t:TT):Prop:=
 ∀ (whole:Sem Value) (Kp:List (Addr × Obj)) (s:Shared) (σ:St) (H:Hp) (Q:Bool->Hp->Prop),Inv X Kp σ H s->t σ H Q->wpAny (model X.prog X.w) X.A (isTrue e X.env whole) (TP X Kp σ Q) X.xe s
theorem PW.pt {X:Cx}{e:Expr}{t:TT} (h:PW X e t):PT X e t:=h _
def PA (X:Cx) (es:List Expr) (t:TA):Prop:=
 ∀ (pos:Pos) (Kp:List (Addr × Obj)) (s:Shared) (σ:St) (H:Hp) (Q:List V->Hp->Prop),Inv X Kp σ H s->t σ H Q->wpAny (model X.prog X.w) X.A (spliced (backTo pos (starEach es X.env))) (AP X Kp σ Q) X.xe s
def PS (X:Cx) (st:Stmt) (t:TS):Prop:=
 ∀ (Kp:List (Addr × Obj)) (s:Shared) (σ:St) (H:Hp) (D:Ends),Inv X Kp σ H s->t D σ H->wpAny (model X.prog X.w) X.A (exec st X.env) (SP X Kp D) X.xe s
def PSs (X:Cx) (st:List Stmt) (t:TS):Prop:=
 ∀ (Kp:List (Addr × Obj)) (s:Shared) (σ:St) (H:Hp) (D:Ends),Inv X Kp σ H s->t D σ H->wpAny (model X.prog X.w) X.A (execs st X.env) (SP X Kp D) X.xe s
theorem thn {α:Type}{t:Sem α}{Q Q':α->SP0}{M:Model}{A:Around}{E:Value->SP0}{s:Shared} (h:wpAny M A t Q E s) (hQ:∀ a s,Q a s->Q' a s):wpAny M A t Q' E s:=wpAny_mono h hQ fun _ _ x=>x
section
variable {X:Cx}
def an1 (i:Nat):TE:=fun σ H Q=>∃ v,σ[i]?=some (some v)/\Q v H
def tC (v:V):TE:=fun _ H Q=>Q v H
theorem Jt {i:Nat}{x:Str}{pos:Pos} (hN:X.N[i]?=some x) (hv:Vis X.env.scope x) (hd:(x == ("__debug__":Str))=false:=by decide) (hcd:(x == ("__classdict__":Str))=false:=by decide):PE X (.Name x pos) (an1 i):=by
 intro Kp s σ H Q I h
 obtain ⟨v,e,h⟩:=h
 obtain ⟨m,hn,hl⟩:=I.loc
 obtain ⟨u,r,l⟩:=hl i x v hN e hv
 have fin:EP X Kp σ Q u s:=⟨v,H,I,r,h⟩
 rcases l with ⟨hk,hm⟩ | ⟨hk,c,hc,hcell⟩
 ·exact wpAny_Name (wpAny_loadName_local I.ok.kind hk hn hm fin) hd
 ·rcases hk with hk | hk
  ·exact wpAny_Name (wpAny_loadName_cell I.ok.kind hk hc hcell fin) hd
  ·exact wpAny_Name (wpAny_loadName_free I.ok.kind hk hc hcell fin hcd) hd
theorem aqo {i j pos}:PE X (.Constant (.int i) j pos) (tC (.int i)):=fun _ _ _ H _ I h=>wpAny_Constant_int ⟨.int i,H,I.tok _,⟨_,rfl⟩,h⟩
theorem arT {b j pos}:PE X (.Constant (.bool b) j pos) (tC (.bl b)):=fun _ _ _ H _ I h=>Constant_bool ⟨.bl b,H,I,rfl,h⟩
theorem alr {j pos}:PE X (.Constant .none j pos) (tC .non):=fun _ _ _ H _ I h=>Constant_none ⟨.non,H,I,rfl,h⟩
theorem als {x j pos}:PE X (.Constant (.str x) j pos) (tC (.str x)):=fun _ _ _ H _ I h=>Calls.Constant_str ⟨.str x,H,I.tok _,⟨_,rfl⟩,h⟩
def Gl (X:Cx) (x:Str):Prop:=X.env.kindOf x=some .globalImplicit
theorem Ql {E:Value->SP0}{Kp:List (Addr × Obj)}{s:Shared}{σ:St}{H:Hp}{x:Str}{u:Value}{pos:Pos}{Q:Value->SP0} (I:Inv X Kp σ H s) (hg:Gl X x) (hm:X.mg x=some u) (h:Q u s)
  (hd:(x == ("__debug__":Str))=false:=by decide):wpAny (model X.prog X.w) X.A (eval (.Name x pos) X.env) Q E s:=
 Calls.Name_function_global I.ok.kind hg (Calls.loadGlobal_global (by rw [I.ok.glob]; exact I.mod.glob.keeps I.bk) hm h) hd
theorem JW {E:Value->SP0}{Kp:List (Addr × Obj)}{s:Shared}{σ:St}{H:Hp}{x:Str}{u:Value}{pos:Pos}{Q:Value->SP0} (I:Inv X Kp σ H s) (hg:Gl X x) (hm:X.mg x=none) (hv:bootBuiltins x=some u) (h:Q u s)
  (hn:x ≠ "__name__":=by decide) (hd:(x == ("__debug__":Str))=false:=by decide):wpAny (model X.prog X.w) X.A (eval (.Name x pos) X.env) Q E s:=by
 obtain ⟨mb,h1,h2⟩:=I.mod.blt
 exact Calls.Name_function_global I.ok.kind hg (Calls.loadGlobal_builtin (by rw [I.ok.glob]; exact I.mod.glob.keeps I.bk) hm (by rw [I.ok.blt]; exact h1.keeps I.bk) ((h2 x hn).trans hv) h) hd
theorem aeC {x:Str}{v:V}{u:Value}{pos:Pos} (hg:Gl X x) (hm:X.mg x=some u) (r:jW v u) (hd:(x == ("__debug__":Str))=false:=by decide):PE X (.Name x pos) (tC v):=
 fun _ _ _ H _ I h=>Ql I hg hm ⟨v,H,I,r,h⟩ hd
theorem aiS {x:Str}{v:V}{u:Value}{pos:Pos} (hg:Gl X x) (hm:X.mg x=none) (hv:bootBuiltins x=some u) (r:jW v u) (hn:x ≠ "__name__":=by decide) (hd:(x == ("__debug__":Str))=false:=by decide):PE X (.Name x pos) (tC v):=
 fun _ _ _ H _ I h=>JW I hg hm hv ⟨v,H,I,r,h⟩ hn hd
variable {a b:Expr}{ta tb:TE}{pos:Pos}
def PC (X:Cx) (op:CmpOp) (a b:Expr) (t:TE):Prop:=
 ∀ (Kp:List (Addr × Obj)) (s:Shared) (σ:St) (H:Hp) (Q:VK),Inv X Kp σ H s->t σ H Q->
  wpAny (model X.prog X.w) X.A (eval a X.env) (fun v s₁=>wpAny (model X.prog X.w) X.A (eval b X.env) (fun u s₂=>wpAny (model X.prog X.w) X.A (compareOp op v u) (EP X Kp σ Q) X.xe s₂) X.xe s₁) X.xe s
theorem alu (b:Expr) {op:CmpOp} (h:op ≠ .In) (h2:op ≠ .NotIn):behindInMarks op b=false:=by
 have e1:(op == CmpOp.In)=false:=by cases op <;> first | rfl | exact absurd rfl h
 have e2:(op == CmpOp.NotIn)=false:=by cases op <;> first | rfl | exact absurd rfl h2
 cases b <;> simp [behindInMarks,e1,e2]
def tB (t:TE):TT:=fun σ H Q=>t σ H fun x H1=>∃ c,x= .bl c/\Q c H1
theorem aqp {op:CmpOp}{t:TE} (h:PC X op a b t) (h1:behindInMarks op b=false:=by first | exact alu _ (by decide) (by decide) | rfl):PT X (.Compare a [op] [b] pos) (tB t):=by
 intro Kp s σ H Q I hw
 refine wpAny_isTrue_Compare1 (thn (h Kp s σ H _ I hw) fun v s1 h1=>thn h1 fun u s2 h2=>thn h2 fun c s3 ⟨x,H1,I1,r1,q1⟩=>?_) h1
 obtain ⟨d,rfl,q⟩:=q1
 cases r1
 exact wpAny_truthy_bool ⟨H1,I1,q⟩
theorem alv {e:Expr}{t:TE} (h:PE X e t) (he:∀ whole,isTrue e X.env whole=(do let v ←whole; standAt e.pos; holding [v] (truthy v)):=by intro _; rfl):PT X e (tB t):=by
 intro Kp s σ H Q I hw
 refine isTrue_plain (thn (h Kp s σ H _ I hw) fun v s1 ⟨x,H1,I1,r1,q1⟩=>?_) (he _)
 obtain ⟨d,rfl,q⟩:=q1
 cases r1
 exact wpAny_truthy_bool ⟨H1,I1,q⟩
variable {tA tB':TT}{j9:List Expr}
def atf (t u:TT):TT:=fun σ H Q=>t σ H fun c H1=>if c=true then u σ H1 Q else Q false H1
def tOr (t u:TT):TT:=fun σ H Q=>t σ H fun c H1=>if c=true then Q true H1 else u σ H1 Q
def atg (t:TT):TT:=fun σ H Q=>t σ H fun c H1=>Q (!c) H1
theorem an2 (ha:PT X a tA):PW X (.BoolOp .And [a] pos) tA:=by
 intro wh Kp s σ H Q I h
 refine isTrue_and (thn (ha Kp s σ H Q I h) fun c s1 e=>?_)
 cases c with
 | true=>exact isTrue_and_nil e
 | false=>exact e
theorem alw (ha:PT X a tA):PW X (.BoolOp .Or [a] pos) tA:=by
 intro wh Kp s σ H Q I h
 refine isTrue_or (thn (ha Kp s σ H Q I h) fun c s1 e=>?_)
 cases c with
 | false=>exact isTrue_or_nil e
 | true=>exact e
theorem aqq (ha:PT X a tA) (hb:PW X (.BoolOp .And (b::j9) pos) tB'):PW X (.BoolOp .And (a::b::j9) pos) (atf tA tB'):=by
 intro wh Kp s σ H Q I h
 refine isTrue_and (thn (ha Kp s σ H _ I h) fun c s1 ⟨H1,I1,q1⟩=>?_)
 cases c with
 | true=>exact hb wh Kp s1 σ H1 Q I1 q1
 | false=>exact ⟨H1,I1,q1⟩
theorem apR (ha:PT X a tA) (hb:PW X (.BoolOp .Or (b::j9) pos) tB'):PW X (.BoolOp .Or (a::b::j9) pos) (tOr tA tB'):=by
 intro wh Kp s σ H Q I h
 refine isTrue_or (thn (ha Kp s σ H _ I h) fun c s1 ⟨H1,I1,q1⟩=>?_)
 cases c with
 | true=>exact ⟨H1,I1,q1⟩
 | false=>exact hb wh Kp s1 σ H1 Q I1 q1
theorem alx (ha:PT X a tA):PT X (.UnaryOp .Not a pos) (atg tA):=by
 intro Kp s σ H Q I h
 exact isTrue_not (ha Kp s σ H (fun c H1=>Q (!c) H1) I h)
def arU (ta tb:TE):TE:=fun σ H Q=>ta σ H fun x H1=>∃ c,x= .bl c/\if c=true then tb σ H1 Q else Q (.bl false) H1
theorem aly {op}{t:TE} (h:PE X a t):PE X (.BoolOp op [a] pos) t:=fun Kp s σ H Q I hw=>BoolOp_one (h Kp s σ H Q I hw)
theorem alz (ha:PE X a ta) (hb:PE X (.BoolOp .And (b::j9) pos) tb):PE X (.BoolOp .And (a::b::j9) pos) (arU ta tb):=by
 intro Kp s σ H Q I h
 refine BoolOp_and (thn (ha Kp s σ H _ I h) fun v s1 ⟨x,H1,I1,r1,q1⟩=>?_)
 obtain ⟨c,rfl,q1⟩:=q1
 cases r1
 refine wpAny_truthy_bool ?_
 cases c with
 | true=>exact hb Kp s1 σ H1 Q I1 q1
 | false=>exact ⟨.bl false,H1,I1,rfl,q1⟩
def tIf (t:TT) (ta tb:TE):TE:=fun σ H Q=>t σ H fun c H1=>if c=true then ta σ H1 Q else tb σ H1 Q
theorem alA {c:Expr} (hc:PT X c tA) (ha:PE X a ta) (hb:PE X b tb):PE X (.IfExp c a b pos) (tIf tA ta tb):=by
 intro Kp s σ H Q I h
 refine wpAny_IfExp (thn (hc Kp s σ H _ I h) fun d s1 ⟨H1,I1,q1⟩=>?_)
 cases d with
 | true=>exact ha Kp s1 σ H1 Q I1 q1
 | false=>exact hb Kp s1 σ H1 Q I1 q1
end
def SqL (K:Fg) (H:Hp) (a:Addr) (xs:List V):Prop:=
 Rd H a (.lst xs) ∨
  ∃ (o:Obj) (its:Array Value) (n:Nat),K.lookup a=some o/\o.cls= .type "list"/\o.dict=none/\o.data= .seq its n/\its.size<=sizeLine/\jG xs its.toList
def SqT (K:Fg) (H:Hp) (a:Addr) (xs:List V):Prop:=
 Rd H a (.tup xs) ∨
  ∃ (o:Obj) (its:Array Value) (n:Nat),K.lookup a=some o/\o.cls= .type "tuple"/\o.data= .seq its n/\its.size<=sizeLine/\jG xs its.toList
noncomputable def ath:Value->Option V
 | .none=>some .non
 | .bool b=>some (.bl b)
 | .int i _=>some (.int i)
 | .str x _=>some (.str x)
 | .bytes b _=>some (.byt b)
 | .float b _=>some (.flt b)
 | .ref a=>some (.ref a)
 | .type n=>some (.ty n)
 | _=>none
theorem jW.abs {x:V}{u:Value} (r:jW x u):ath u=some x:=by
 cases x with
 | non=>cases r; rfl
 | bl _=>cases r; rfl
 | int _=>obtain ⟨t,rfl⟩:=r; rfl
 | str _=>obtain ⟨t,rfl⟩:=r; rfl
 | byt _=>obtain ⟨t,rfl⟩:=r; rfl
 | flt _=>obtain ⟨t,rfl⟩:=r; rfl
 | ref _=>cases r; rfl
 | ty _=>cases r; rfl
theorem jW.inj {x y:V}{u:Value} (r:jW x u) (q:jW y u):x=y:=Option.some.inj (r.abs.symm.trans q.abs)
theorem jG.inj:∀ {xs ys:List V}{us:List Value},jG xs us->jG ys us->xs=ys
 | _,_,_,.nil,.nil=>rfl
 | _,_,_,.cons r t,.cons r' t'=>by rw [r.inj r',jG.inj t t']
section
variable {X:Cx}{Kp:List (Addr × Obj)}{σ:St}{H:Hp}{s:Shared}{a:Addr}{xs ys:List V}
theorem SqL.of {K:Fg} (h:H a=some (.lst xs)):SqL K H a xs:= .inl (.inl h)
theorem SqT.of {K:Fg} (h:H a=some (.tup xs)):SqT K H a xs:= .inl (.inl h)
theorem Inv.list (I:Inv X Kp σ H s) (h:SqL X.K H a xs):∃ its:List Value,jG xs its/\PlainL s.heap a its.toArray/\xs.length<=sizeLine:=by
 rcases h with h | ⟨o,its,n,hk,hc,hd,hs,hz,r⟩
 ·obtain ⟨z,its,n,r,e⟩:=h.ok I.hok
  exact ⟨its,r,⟨_,n,e,rfl,rfl,rfl⟩,z⟩
 ·refine ⟨its.toList,r,⟨o,n,I.kIn a o hk,hc,hd,by simpa using hs⟩,?_⟩
  have e:=r.length
  simp only [Array.length_toList] at e
  omega
theorem Inv.tuple (I:Inv X Kp σ H s) (h:SqT X.K H a xs):∃ its:List Value,jG xs its/\IsTup s.heap a its.toArray/\xs.length<=sizeLine:=by
 rcases h with h | ⟨o,its,n,hk,hc,hs,hz,r⟩
 ·obtain ⟨z,its,r,p⟩:=h.ok I.hok
  exact ⟨its,r,p,z⟩
 ·refine ⟨its.toList,r,⟨o,I.kIn a o hk,hc,n,by simpa using hs⟩,?_⟩
  have e:=r.length
  simp only [Array.length_toList] at e
  omega
theorem Inv.list_inj (I:Inv X Kp σ H s) (h:SqL X.K H a xs) (h':SqL X.K H a ys):xs=ys:=by
 obtain ⟨its,r,⟨o,n,e,_,_,d⟩,_⟩:=I.list h
 obtain ⟨its',r',⟨o',n',e',_,_,d'⟩,_⟩:=I.list h'
 rw [e] at e'; cases e'
 rw [d] at d'
 injection d' with d1 _
 have:its=its':=by simpa using congrArg Array.toList d1
 subst this
 exact r.inj r'
theorem Inv.tuple_inj (I:Inv X Kp σ H s) (h:SqT X.K H a xs) (h':SqT X.K H a ys):xs=ys:=by
 obtain ⟨its,r,⟨o,e,_,n,d⟩,_⟩:=I.tuple h
 obtain ⟨its',r',⟨o',e',_,n',d'⟩,_⟩:=I.tuple h'
 rw [e] at e'; cases e'
 rw [d] at d'
 injection d' with d1 _
 have:its=its':=by simpa using congrArg Array.toList d1
 subst this
 exact r.inj r'
end
noncomputable abbrev Cx.wish (X:Cx) (E:Value->SP0):Cx:={ X with xe:=E }
abbrev Cx.nox (X:Cx):Cx:=X.wish fun _ _=>False
theorem Cx.Ok.wish {X:Cx} (ok:X.Ok) (E:Value->SP0):(X.wish E).Ok:=
 ⟨ok.mod,ok.kind,ok.glob,ok.blt,ok.above,ok.inj,ok.has,ok.cab,ok.hd,ok.frames,ok.stk,ok.exf,ok.bs,ok.bsz,ok.noex,ok.exfs,ok.funs,ok.frf⟩
theorem Cx.Ok.unwish {X:Cx}{E:Value->SP0} (ok:(X.wish E).Ok):X.Ok:=
 ⟨ok.mod,ok.kind,ok.glob,ok.blt,ok.above,ok.inj,ok.has,ok.cab,ok.hd,ok.frames,ok.stk,ok.exf,ok.bs,ok.bsz,ok.noex,ok.exfs,ok.funs,ok.frf⟩
section
variable {X:Cx}{Kp:List (Addr × Obj)}{σ:St}{H:Hp}{s:Shared}{E:Value->SP0}
theorem Inv.wish (I:Inv X Kp σ H s) (E:Value->SP0):Inv (X.wish E) Kp σ H s:=⟨I.ok.wish E,I.os,I.bare,I.base,I.loc,I.cell,I.free,I.freeC,I.pin,I.hok,I.len⟩
theorem Inv.unwish (I:Inv (X.wish E) Kp σ H s):Inv X Kp σ H s:=⟨I.ok.unwish,I.os,I.bare,I.base,I.loc,I.cell,I.free,I.freeC,I.pin,I.hok,I.len⟩
theorem SP.unwish {D:Ends}{f:Flow}{s':Shared} (h:SP (X.wish E) Kp D f s'):SP X Kp D f s':=by
 cases f with
 | next=>obtain ⟨σ',H',I,q⟩:=h; exact ⟨σ',H',I.unwish,q⟩
 | brk=>obtain ⟨σ',H',I,q⟩:=h; exact ⟨σ',H',I.unwish,q⟩
 | cont=>obtain ⟨σ',H',I,q⟩:=h; exact ⟨σ',H',I.unwish,q⟩
 | ret u=>obtain ⟨v,σ',H',I,r,q⟩:=h; exact ⟨v,σ',H',I.unwish,r,q⟩
theorem PE.nox {e:Expr}{t:TE} (h:PE X.nox e t):PE X e t:=fun Kp s σ H Q I hw=>
 wpAny_mono (h Kp s σ H Q (I.wish _) hw) (fun _ _ ⟨v,H',I',r,q⟩=>⟨v,H',I'.unwish,r,q⟩) fun _ _ z=>False.elim z
theorem PT.nox {e:Expr}{t:TT} (h:PT X.nox e t):PT X e t:=fun Kp s σ H Q I hw=>
 wpAny_mono (h Kp s σ H Q (I.wish _) hw) (fun _ _ ⟨H',I',q⟩=>⟨H',I'.unwish,q⟩) fun _ _ z=>False.elim z
theorem PSs.nox {st:List Stmt}{t:TS} (h:PSs X.nox st t):PSs X st t:=fun Kp s σ H D I hw=>
 wpAny_mono (h Kp s σ H D (I.wish _) hw) (fun _ _ q=>q.unwish) fun _ _ z=>False.elim z
end
section
variable {X:Cx}{st:Stmt}{j9:List Stmt}{t u:TS}{e:Expr}{te:TE}{pos:Pos}
def arV:TS:=fun D σ H=>D.nx σ H
def ati (t u:TS):TS:=fun D σ H=>t { D with nx:=u D } σ H
theorem aeD:PSs X [] arV:=fun _ _ σ H _ I h=>wpAny_execs_nil ⟨σ,H,I,h⟩
theorem zU (h1:PS X st t) (h2:PSs X j9 u):PSs X (st::j9) (ati t u):=by
 intro Kp s σ H D I h
 refine wpAny_execs_cons (thn (h1 Kp s σ H { D with nx:=u D } I h) fun f s1 q=>?_)
 cases f with
 | next=>
  obtain ⟨σ',H',I',q⟩:=q
  exact h2 Kp s1 σ' H' D I' q
 | ret v=>exact q
 | brk=>exact q
 | cont=>exact q
theorem aeE (h1:PS X st t):PSs X [st] t:=by
 intro Kp s σ H D I h
 refine wpAny_execs_cons (thn (h1 Kp s σ H D I h) fun f s1 q=>?_)
 cases f with
 | next=>exact wpAny_execs_nil q
 | ret v=>exact q
 | brk=>exact q
 | cont=>exact q
theorem Inv.quiet {Kp:List (Addr × Obj)}{σ:St}{H:Hp}{s:Shared} (I:Inv X Kp σ H s):interactive X.env=false:=by simp [interactive,I.ok.kind]
def arW (te:TE):TS:=fun D σ H=>te σ H fun _ H1=>D.nx σ H1
theorem abH (he:PE X e te) (hs:swapsWith e none pos.line X.env=pure false:=by rfl):PS X (.Expr e pos) (arW te):=by
 intro Kp s σ H D I h
 exact wpAny_Expr_any (thn (he Kp s σ H _ I h) fun v s1 ⟨x,H1,I1,r1,q1⟩=>⟨σ,H1,I1,q1⟩) I.quiet hs
def atj (te:TE):TS:=fun D σ H=>te σ H D.rt
theorem aeF (he:PE X e te):PS X (.Return (some e) pos) (atj te):=by
 intro Kp s σ H D I h
 exact wpAny_Return_some (thn (he Kp s σ H _ I h) fun v s1 ⟨x,H1,I1,r1,q1⟩=>⟨x,σ,H1,I1,r1,q1⟩)
def atk (c:TT) (t u:TS):TS:=fun D σ H=>c σ H fun b H1=>if b=true then t D σ H1 else u D σ H1
theorem apS {c:Expr}{a b:List Stmt}{tc:TT} (hc:PT X c tc) (ha:PSs X a t) (hb:PSs X b u):PS X (.If c a b pos) (atk tc t u):=by
 intro Kp s σ H D I h
 refine wpAny_If (thn (hc Kp s σ H _ I h) fun d s1 ⟨H1,I1,q1⟩=>?_)
 cases d with
 | true=>exact ha Kp s1 σ H1 D I1 q1
 | false=>exact hb Kp s1 σ H1 D I1 q1
def alB:TS:=fun _ _ _=>False
theorem alC:PS X st alB:=fun _ _ _ _ _ _ h=>h.elim
theorem aj4 {sts:List Stmt}:PSs X sts alB:=fun _ _ _ _ _ _ h=>h.elim
end
abbrev TG:=V->St->Hp->(St->Hp->Prop)->Prop
abbrev TGs:=List V->St->Hp->(St->Hp->Prop)->Prop
def PG (X:Cx) (target:Expr) (t:TG):Prop:=
 ∀ (Kp:List (Addr × Obj)) (s:Shared) (σ:St) (H:Hp) (v:V) (u:Value) (Q:St->Hp->Prop),Inv X Kp σ H s->jW v u->t v σ H Q->
  wpAny (model X.prog X.w) X.A (assign target X.env u) (fun _ s'=>∃ σ' H',Inv X Kp σ' H' s'/\Q σ' H') X.xe s
def PGs (X:Cx) (ts:List Expr) (t:TGs):Prop:=
 ∀ (Kp:List (Addr × Obj)) (s:Shared) (σ:St) (H:Hp) (vs:List V) (us:List Value) (Q:St->Hp->Prop),Inv X Kp σ H s->jG vs us->t vs σ H Q->
  wpAny (model X.prog X.w) X.A (assignInOrder ((assignEach ts X.env).map (·.2)) us) (fun _ s'=>∃ σ' H',Inv X Kp σ' H' s'/\Q σ' H') X.xe s
abbrev aqr:=V->V->V->Hp->(Hp->Prop)->Prop
def an3 (X:Cx) (t:aqr):Prop:=
 ∀ (Kp:List (Addr × Obj)) (s:Shared) (σ:St) (H:Hp) (o i v:V) (ov iv u:Value) (Q:Hp->Prop),Inv X Kp σ H s->jW o ov->jW i iv->jW v u->t o i v H Q->
  wpAny (model X.prog X.w) X.A (setItem ov iv u) (fun _ s'=>∃ H',Inv X Kp σ H' s'/\Q H') X.xe s
section
variable {X:Cx}{pos:Pos}
def apT (i:Nat):TG:=fun v σ H Q=>Q (σ.set i (some v)) H
theorem abI {i:Nat}{x:Str} (hN:X.N.Nodup) (hi:X.N[i]?=some x) (hx:Loc X.env.scope x) (hf:X.fn x=true ∨ X.env.scope.names.lookup x=some .local:=by first | exact .inl rfl | exact .inr rfl | assumption):PG X (.Name x pos) (apT i):=by
 intro Kp s σ H v u Q I r h
 exact wpAny_assign_Name (agf I hN hi hx r (fun s' I'=>⟨_,H,I',h⟩) hf)
def atl:TGs:=fun vs σ H Q=>vs=[]/\Q σ H
def arX (t:TG) (u:TGs):TGs:=fun vs σ H Q=>∃ v r,vs=v::r/\t v σ H fun σ' H'=>u r σ' H' Q
theorem aiT:PGs X [] atl:=by
 intro Kp s σ H vs us Q I r h
 obtain ⟨e,h⟩:=h
 subst e
 cases r
 exact assignInOrder_nil ⟨σ,H,I,h⟩
theorem agg {e:Expr}{es:List Expr}{t:TG}{u:TGs} (h1:PG X e t) (h2:PGs X es u)
  (hs:(assignEach (e::es) X.env).map (·.2)=assign e X.env::(assignEach es X.env).map (·.2):=by rfl):PGs X (e::es) (arX t u):=by
 intro Kp s σ H vs us Q I r h
 obtain ⟨v,vr,e1,h⟩:=h
 subst e1
 cases r with
 | cons r rr=>
  rw [hs]
  refine assignInOrder_cons (thn (h1 Kp s σ H _ _ _ I r h) fun _ s1 ⟨σ1,H1,I1,q1⟩=>?_)
  exact h2 Kp s1 σ1 H1 _ _ Q I1 rr q1
def atm (K:Fg) (n:Nat) (t:TGs):TG:=fun v σ H Q=>∃ a xs,v= .ref a/\SqT K H a xs/\xs.length=n/\t xs σ H Q
theorem alD {es:List Expr}{k:Nat}{t:TGs}{n:Nat} (hc:X.calm=true) (h:PGs X es t)
  (hn:(assignEach es X.env).length=n:=by rfl) (hst:(assignEach es X.env).findIdx? (·.1)=none:=by rfl):PG X (.Tuple es k pos) (atm X.K n t):=by
 intro Kp s σ H v u Q I r hw
 obtain ⟨a,xs,e1,hq,hl,hw⟩:=hw
 subst e1
 cases r
 obtain ⟨its,rv,ht,hz⟩:=I.tuple hq
 refine assign_Tuple_tuple (I.ok.hd hc) ht (by simp [hn,←hl,rv.length]) hst fun h' hx=>?_
 have I1:Inv X Kp σ H { s with heap:=h' }:=I.kept (t':=s.toks) fun b o e=>hx b o (Nat.ne_of_lt (Heap.lt_size e)) e
 exact h Kp _ σ H xs _ Q I1 (by simpa using rv) hw
def atn (to ti:TE) (t:aqr):TG:=fun v σ H Q=>to σ H fun o H1=>ti σ H1 fun i H2=>t o i v H2 fun H3=>Q σ H3
theorem alE {o i:Expr}{to ti:TE}{t:aqr} (ho:PE X o to) (hi:PE X i ti) (hs:an3 X t)
  (ha:∀ v,assign (.Subscript o i pos) X.env v=(do
   let ov ←holding [v] (eval o X.env)
   let iv ←holding [v,ov] (eval i X.env)
   standAt pos
   holding [v,ov,iv] (setItem ov iv v)
   release [v,ov,iv] []):=by intro _; rfl):PG X (.Subscript o i pos) (atn to ti t):=by
 intro Kp s σ H v u Q I r h
 rw [ha]
 refine wpAny_bind (wpAny_holding (thn (ho Kp s σ H _ I h) fun ov s1 ⟨x,H1,I1,r1,q1⟩=>?_))
 refine wpAny_bind (wpAny_holding (thn (hi Kp s1 σ H1 _ I1 q1) fun iv s2 ⟨y,H2,I2,r2,q2⟩=>?_))
 refine wpAny_bind (wpAny_standAt (wpAny_bind (wpAny_holding (thn (hs Kp s2 σ H2 x y v ov iv u _ I2 r1 r2 r q2) fun _ s3 ⟨H3,I3,q3⟩=>?_))))
 exact wpAny_release ⟨σ,H3,I3,q3⟩
def arY (te:TE) (g:TG):TS:=fun D σ H=>te σ H fun x H1=>g x σ H1 D.nx
theorem ahz {tg e:Expr}{te:TE}{g:TG} (he:PE X e te) (hg:PG X tg g) (hs:swapsWithSole [tg] e pos.line X.env=pure false:=by rfl) (hw:swappedStores [tg] e X.env=pure none:=by rfl)
  (h1:(assignEach [tg] X.env).map (·.2)=[assign tg X.env]:=by rfl):PS X (.Assign [tg] e pos) (arY te g):=by
 intro Kp s σ H D I h
 refine wpAny_Assign_stores (thn (he Kp s σ H _ I h) fun v s1 ⟨x,H1,I1,r1,q1⟩=>?_) hs hw
 rw [h1]
 exact thn (hg Kp s1 σ H1 x v _ I1 r1 q1) fun _ s2 q=>q
theorem ZL {i:Nat}{x:Str}{e:Expr}{te:TE}{pos':Pos} (hN:X.N.Nodup) (hi:X.N[i]?=some x) (hx:Loc X.env.scope x) (he:PE X e te) (hs:swapsWith e (some (.Name x pos')) pos.line X.env=pure false:=by rfl) (hf:X.fn x=true ∨ X.env.scope.names.lookup x=some .local:=by first | exact .inl rfl | exact .inr rfl | assumption):
  PS X (.Assign [.Name x pos'] e pos) (arY te (apT i)):=by
 intro Kp s σ H D I h
 refine wpAny_Assign_Name (thn (he Kp s σ H _ I h) fun v s1 ⟨y,H1,I1,r1,q1⟩=>?_) hs
 exact agf I1 hN hi hx r1 (fun s2 I2=>⟨_,H1,I2,q1⟩) hf
end
section
variable {X:Cx}{pos:Pos}
def aqs (c:TT) (tb:TS):TS:=fun D σ H=>∃ W:Nat->St->Hp->Prop,(∃ m,W m σ H)/\∀ m σ H,W m σ H->
 c σ H fun b H1=>if b=true then ∃ N:St->Hp->Prop,(∀ σ' H',N σ' H'->∃ m',m' < m/\W m' σ' H')/\tb { D with nx:=N,ct:=N,bk:=D.nx } σ H1 else D.nx σ H1
theorem alF {c:Expr}{body:List Stmt}{tc:TT}{tb:TS} (hp:PassesOwn (model X.prog X.w) X.A X.env X.xe) (hc:PT X c tc) (hb:PSs X body tb):PS X (.While c body [] pos) (aqs tc tb):=by
 intro Kp s σ H D I h
 obtain ⟨W,⟨m0,w0⟩,turn⟩:=h
 refine wpAny_While (codeAny_whileLoop (fun n s'=>∃ σ' H',Inv X Kp σ' H' s'/\W n σ' H') ?_ m0 ⟨σ,H,I,w0⟩)
 rintro n s1 ⟨σ1,H1,I1,w1⟩
 refine wpAny_passesOwn hp (thn (hc Kp s1 σ1 H1 _ I1 (turn n σ1 H1 w1)) fun b s2 ⟨H2,I2,q2⟩=>?_)
 cases b with
 | true=>
  obtain ⟨N,hN,q2⟩:=q2
  rw [if_pos rfl]
  refine wpAny_passesOwn hp (thn (hb Kp s2 σ1 H2 _ I2 q2) fun f s3 q3=>?_)
  cases f with
  | next=>
   obtain ⟨σ3,H3,I3,n3⟩:=q3
   obtain ⟨m',hm,w3⟩:=hN σ3 H3 n3
   exact ⟨m',hm,σ3,H3,I3,w3⟩
  | cont=>
   obtain ⟨σ3,H3,I3,n3⟩:=q3
   obtain ⟨m',hm,w3⟩:=hN σ3 H3 n3
   exact ⟨m',hm,σ3,H3,I3,w3⟩
  | brk=>exact q3
  | ret v=>exact q3
 | false=>
  rw [if_neg Bool.false_ne_true]
  exact wpAny_execs_nil ⟨σ1,H2,I2,q2⟩
end
structure It where
 go:Nat->Hp->Prop
 yld:Nat->Hp->V->Hp->Prop
 stop:Nat->Hp->Prop
def agh (X:Cx) (Kp:List (Addr × Obj)) (H:Hp) (b:Addr):Prop:=
 H b=none/\b ≠ X.env.locals/\b ∉ X.fs/\(b ∈ X.ex ∨ X.s₀.heap.objs.size<=b)/\(∀ x c,X.env.cells.lookup x=some c->c ≠ b)/\∀ p ∈ X.pn++Kp,p.1 ≠ b
theorem Inv.fpOk {X:Cx}{Kp:List (Addr × Obj)}{σ:St}{H H':Hp}{s:Shared}{b:Addr} (I:Inv X Kp σ H s) (hb:s.heap.objs.size<=b) (hn:H' b=none):agh X Kp H' b:=by
 refine ⟨hn,Nat.ne_of_gt (Nat.lt_of_lt_of_le I.lt hb),I.nofs hb,.inr (Nat.le_trans I.sz hb),fun x c e z=>?_,fun p hp z=>?_⟩
 ·obtain ⟨v,q⟩:=I.cell x c e
  exact absurd (Nat.lt_of_lt_of_le q.lt (by rw [z]; exact hb)) (Nat.lt_irrefl _)
 ·exact absurd (Nat.lt_of_lt_of_le (Heap.lt_size (I.pin p hp).1) (by rw [z]; exact hb)) (Nat.lt_irrefl _)
structure Turn (P:Program) (w:World) (K:Fg) (tg:Expr) (J:It) (fp:List Addr) (it:Addr) (tn:Nat->Heap->Prop):Prop where
 mem:it ∈ fp
 obj:∀ i h,tn i h->∀ b ∈ fp,∃ o,h.get? b=some o/\∀ v,o.data ≠ .cell v
 keep:∀ i h h',tn i h->(∀ b ∈ fp,∀ o,h.get? b=some o->h'.get? b=some o)->tn i h'
 item:∀ (X:Cx),X.prog=P->X.w=w->X.K=K->X.calm=true->∀ (i:Nat) (Kp:List (Addr × Obj)) (s:Shared) (σ:St) (H:Hp) (E:Value->SP0),Inv X Kp σ H s->(∀ b ∈ fp,agh X Kp H b)->tn i s.heap->J.go i H->
  wpAny (model P w) X.A (pyNext (.ref it)) (fun r s1=>∃ u,r=some u/\
   wpAny (model P w) X.A (letOwnedTupleGo tg (.ref it) u) (fun _ s2=>∃ x H',Inv X Kp σ H' s2/\jW x u/\J.yld i H x H'/\tn (i+1) s2.heap/\∀ b ∈ fp,H' b=none) E s1) E s
 done:∀ (X:Cx),X.prog=P->X.w=w->X.K=K->X.calm=true->∀ (i:Nat) (Kp:List (Addr × Obj)) (s:Shared) (σ:St) (H:Hp) (E:Value->SP0),Inv X Kp σ H s->(∀ b ∈ fp,agh X Kp H b)->tn i s.heap->J.stop i H->
  wpAny (model P w) X.A (pyNext (.ref it)) (fun r s1=>r=none/\Inv X Kp σ H s1) E s
 self:∀ (A:Around) (i:Nat) (s:Shared) (Q:Value->SP0) (E:Value->SP0),tn i s.heap->Q (.ref it) s->wpAny (model P w) A (pyIter (.ref it)) Q E s
abbrev TI:=St->Hp->(It->Hp->Prop)->Prop
def PIE (X:Cx) (Kp:List (Addr × Obj)) (σ:St) (tg:Expr) (R:It->Hp->Prop) (itv:Value) (s2:Shared):Prop:=
 ∃ (it:Addr) (fp:List Addr) (tn:Nat->Heap->Prop) (J:It) (H':Hp),itv= .ref it/\Inv X Kp σ H' s2/\Turn X.prog X.w X.K tg J fp it tn/\tn 0 s2.heap/\(∀ b ∈ fp,agh X Kp H' b)/\R J H'
def PI (X:Cx) (tg iter:Expr) (wi:TI):Prop:=
 ∀ (Kp:List (Addr × Obj)) (s:Shared) (σ:St) (H:Hp) (R:It->Hp->Prop),Inv X Kp σ H s->wi σ H R->
  wpAny (model X.prog X.w) X.A (eval iter X.env) (fun v s1=>wpAny (model X.prog X.w) X.A (pyIter v) (PIE X Kp σ tg R) X.xe s1) X.xe s
theorem agi {M : Model} {A : Around} {E : Value -> Shared -> Prop} {s : Shared} {tg : Expr} {it : Addr} {u : Value} {o : Obj} {n : String} {vs : Array Value} {Q : Unit -> Shared -> Prop} (ho : s.heap.get? it = some o) (hc : o.cls = .type n) (hd : o.data = .fields vs)
    (hn : ["enumerate", "zip", "dict_itemiterator", "dict_reverseitemiterator", "odict_iterator", "itertools.zip_longest", "itertools.pairwise"].contains n = false) (hQ : Q () s) : wpAny M A (letOwnedTupleGo tg (.ref it) u) Q E s := by
  unfold letOwnedTupleGo
  cases tg <;> first
    | exact wpAny_pure hQ
    | (cases u <;> first
        | exact wpAny_pure hQ
        | (refine wpAny_bind (wpAny_load ho ?_)
           rw [hc, hd]
           show wpAny M A (if (["enumerate", "zip", "dict_itemiterator", "dict_reverseitemiterator", "odict_iterator", "itertools.zip_longest", "itertools.pairwise"].contains n && vs[0]? == some (rawInt _)) = true then _ else _) Q E s
           rw [if_neg (by intro h; rw [hn, Bool.false_and] at h; cases h)]
           exact wpAny_pure hQ))
noncomputable def Itl (K:Fg) (a:Addr):It:=
 ⟨fun i H=>∃ xs x,SqL K H a xs/\xs[i]?=some x,fun i H x H'=>H'=H/\∀ xs,SqL K H a xs->xs[i]?=some x,fun i H=>∃ xs,SqL K H a xs/\xs.length<=i⟩
noncomputable def Itt (K:Fg) (a:Addr):It:=
 ⟨fun i H=>∃ xs x,SqT K H a xs/\xs[i]?=some x,fun i H x H'=>H'=H/\∀ xs,SqT K H a xs->xs[i]?=some x,fun i H=>∃ xs,SqT K H a xs/\xs.length<=i⟩
noncomputable def Itr (lo:Int) (n:Nat):It:=⟨fun i _=>i<n,fun i H x H'=>H'=H/\x= .int (lo+i),fun i _=>n<=i⟩
theorem aj5 {P:Program}{w:World}{K:Fg}{tg:Expr} (a it:Addr):Turn P w K tg (Itl K a) [it] it (fun i h=>h.IsListIter it a i) where
 mem:=by simp
 obj:=fun i h st b hb=>by
  have e:b=it:=by simpa using hb
  subst e
  obtain ⟨o,e,c,d⟩:=st
  exact ⟨o,e,fun v z=>by rw [d] at z; cases z⟩
 keep:=fun i h h' st k=>st.at fun o e=>k it (by simp) o e
 item:=by
  intro X hP hw hK hc i Kp s σ H E I hf st hg
  subst hP hw hK
  obtain ⟨xs,x,hq,hx⟩:=hg
  obtain ⟨its,rv,p,hz⟩:=I.list hq
  obtain ⟨u,hu,ru⟩:=rv.get hx
  obtain ⟨f0,f1,f2,f3,f4,f5⟩:=hf it (by simp)
  refine wpAny_pyNext_list_item st p.isList (x:=u) (by simpa using hu) fun h' st' sb=>?_
  have I1:Inv X Kp σ H { s with heap:=h' }:=I.turned (t':=s.toks) (fun b o hb e=>(sb.2 b hb).trans e) f0 f1 f3 f4 f5
  obtain ⟨o,e,c,d⟩:=id st'
  exact ⟨u,rfl,agi (s:={ s with heap:=h' }) e c d (by decide) ⟨x,H,I1,ru,⟨rfl,fun ys hy=>by rw [I.list_inj hy hq]; exact hx⟩,st',fun b hb=>(hf b hb).1⟩⟩
 done:=by
  intro X hP hw hK hc i Kp s σ H E I hf st hg
  subst hP hw hK
  obtain ⟨xs,hq,hx⟩:=hg
  obtain ⟨its,rv,p,hz⟩:=I.list hq
  obtain ⟨f0,f1,f2,f3,f4,f5⟩:=hf it (by simp)
  have hl:=rv.length
  exact wpAny_pyNext_list_end (I.ok.hd hc) st p.isList (by simp; omega) fun h' eb=>⟨rfl,I.turned (t':=s.toks) (fun b o hb e=>eb b o hb e) f0 f1 f3 f4 f5⟩
 self:=fun _ _ _ _ _ st h=>wpAny_pyIter_listiter st h
theorem ahA {P:Program}{w:World}{K:Fg}{tg:Expr} (a it:Addr):Turn P w K tg (Itt K a) [it] it (fun i h=>h.IsTupleIter it a i) where
 mem:=by simp
 obj:=fun i h st b hb=>by
  have e:b=it:=by simpa using hb
  subst e
  obtain ⟨o,e,c,d⟩:=st
  exact ⟨o,e,fun v z=>by rw [d] at z; cases z⟩
 keep:=fun i h h' st k=>st.at fun o e=>k it (by simp) o e
 item:=by
  intro X hP hw hK hc i Kp s σ H E I hf st hg
  subst hP hw hK
  obtain ⟨xs,x,hq,hx⟩:=hg
  obtain ⟨its,rv,p,hz⟩:=I.tuple hq
  obtain ⟨u,hu,ru⟩:=rv.get hx
  obtain ⟨f0,f1,f2,f3,f4,f5⟩:=hf it (by simp)
  refine wpAny_pyNext_tuple_item st (show s.heap.IsTuple a its.toArray from p) (x:=u) (by simpa using hu) fun h' st' sb=>?_
  have I1:Inv X Kp σ H { s with heap:=h' }:=I.turned (t':=s.toks) (fun b o hb e=>(sb.2 b hb).trans e) f0 f1 f3 f4 f5
  obtain ⟨o,e,c,d⟩:=id st'
  exact ⟨u,rfl,agi (s:={ s with heap:=h' }) e c d (by decide) ⟨x,H,I1,ru,⟨rfl,fun ys hy=>by rw [I.tuple_inj hy hq]; exact hx⟩,st',fun b hb=>(hf b hb).1⟩⟩
 done:=by
  intro X hP hw hK hc i Kp s σ H E I hf st hg
  subst hP hw hK
  obtain ⟨xs,hq,hx⟩:=hg
  obtain ⟨its,rv,p,hz⟩:=I.tuple hq
  obtain ⟨f0,f1,f2,f3,f4,f5⟩:=hf it (by simp)
  have hl:=rv.length
  exact wpAny_pyNext_tuple_end (I.ok.hd hc) st (show s.heap.IsTuple a its.toArray from p) (by simp; omega) fun h' eb=>⟨rfl,I.turned (t':=s.toks) (fun b o hb e=>eb b o hb e) f0 f1 f3 f4 f5⟩
 self:=fun _ _ _ _ _ st h=>wpAny_pyIter_tupleiter st h
theorem ahB {P:Program}{w:World}{K:Fg}{tg:Expr} (it:Addr) (lo:Int) (n:Nat):Turn P w K tg (Itr lo n) [it] it (fun i h=>IsRangeIter h it (lo+(i:Nat)*1) ((n:Int) - (i:Nat)) 1) where
 mem:=by simp
 obj:=fun i h st b hb=>by
  have e:b=it:=by simpa using hb
  subst e
  exact ⟨_,st,fun v z=>by
   have z':Data.fields _=Data.cell v:=z
   cases z'⟩
 keep:=fun i h h' st k=>k it (by simp) _ st
 item:=by
  intro X hP hw hK hc i Kp s σ H E I hf st hg
  subst hP hw hK
  obtain ⟨f0,f1,f2,f3,f4,f5⟩:=hf it (by simp)
  have W:=Walks.range (prog:=X.prog) (w:=X.w) (I.ok.hd hc) it lo 1 n
  refine W.item i s _ _ hg st fun v h' tk hv st' kk=>?_
  obtain ⟨t,rfl⟩:=hv
  have I1:Inv X Kp σ H { s with heap:=h',toks:=tk }:=I.turned (fun b o hb e=>kk b o (by simpa using hb) e) f0 f1 f3 f4 f5
  refine ⟨_,rfl,agi (s:={ s with heap:=h',toks:=tk }) (n:="range_iterator") st' rfl rfl (by decide) ⟨.int (lo+i),H,I1,⟨t,?_⟩,⟨rfl,rfl⟩,st',fun b hb=>(hf b hb).1⟩⟩
  rw [Int.mul_one]
 done:=by
  intro X hP hw hK hc i Kp s σ H E I hf st hg
  subst hP hw hK
  obtain ⟨f0,f1,f2,f3,f4,f5⟩:=hf it (by simp)
  exact wpAny_pyNext_range_end (I.ok.hd hc) st (by have:n<=i:=hg; omega) fun h' eb=>⟨rfl,I.turned (t':=s.toks) (fun b o hb e=>eb b o hb e) f0 f1 f3 f4 f5⟩
 self:=fun _ _ _ _ _ st h=>wpAny_pyIter_rangeiter st h
section
variable {X:Cx}{tg:Expr}
def arZ (K:Fg) (tl:TE):TI:=fun σ H R=>tl σ H fun x H1=>∃ a,x= .ref a/\(∃ xs,SqL K H1 a xs)/\R (Itl K a) H1
def ato (K:Fg) (tl:TE):TI:=fun σ H R=>tl σ H fun x H1=>∃ a,x= .ref a/\(∃ xs,SqT K H1 a xs)/\R (Itt K a) H1
theorem an4 {l:Expr}{tl:TE} (hl:PE X l tl):PI X tg l (arZ X.K tl):=by
 intro Kp s σ H R I h
 refine thn (hl Kp s σ H _ I h) fun v s1 ⟨x,H1,I1,r1,q1⟩=>?_
 obtain ⟨a,e,⟨xs,hq⟩,q⟩:=q1
 subst e
 cases r1
 obtain ⟨its,rv,p,hz⟩:=I1.list hq
 refine wpAny_pyIter_list p.isList ?_
 refine ⟨s1.heap.objs.size,[s1.heap.objs.size],_,_,H1,rfl,I1.kept (t':=s1.toks) fun b o e=>Heap.get?_push_of_some _ e,aj5 a _,⟨_,Heap.get?_push_size _ rfl,rfl,rfl⟩,fun b hb=>?_,q⟩
 have e:b=s1.heap.objs.size:=by simpa using hb
 subst e
 exact I1.fpOk (Nat.le_refl _) (I1.hok.fresh (Nat.le_refl _))
theorem aqt {l:Expr}{tl:TE} (hl:PE X l tl):PI X tg l (ato X.K tl):=by
 intro Kp s σ H R I h
 refine thn (hl Kp s σ H _ I h) fun v s1 ⟨x,H1,I1,r1,q1⟩=>?_
 obtain ⟨a,e,⟨xs,hq⟩,q⟩:=q1
 subst e
 cases r1
 obtain ⟨its,rv,p,hz⟩:=I1.tuple hq
 refine wpAny_pyIter_tuple (show s1.heap.IsTuple a its.toArray from p) ?_
 refine ⟨s1.heap.objs.size,[s1.heap.objs.size],_,_,H1,rfl,I1.kept (t':=s1.toks) fun b o e=>Heap.get?_push_of_some _ e,ahA a _,⟨_,Heap.get?_push_size _ rfl,rfl,rfl⟩,fun b hb=>?_,q⟩
 have e:b=s1.heap.objs.size:=by simpa using hb
 subst e
 exact I1.fpOk (Nat.le_refl _) (I1.hok.fresh (Nat.le_refl _))
theorem agj {Kp:List (Addr × Obj)}{σ:St}{H:Hp}{s:Shared}{R:It->Hp->Prop}{E:Value->SP0}{lo hi:Int}{t u v:Tok}{tk:Nat} (I:Inv X Kp σ H s) (h1:-(2 ^ 62)<=lo) (h2:lo<2 ^ 62) (h3:-(2 ^ 62)<=hi) (h4:hi<2 ^ 62)
  (q:R (Itr lo (hi - lo).toNat) H):wpAny (model X.prog X.w) X.A (pyIter (.ref s.heap.objs.size)) (PIE X Kp σ tg R) E { s with heap:=s.heap.push { cls:= .type "range",data:= .fields #[.int lo t,.int hi u,.int 1 v] },toks:=tk }:=by
 refine wpAny_pyIter_range (IsRange.new ..) (small_one h1 h2 h3 h4) ?_
 have I1:Inv X Kp σ H { s with heap:=s.heap.push { cls:= .type "range",data:= .fields #[.int lo t,.int hi u,.int 1 v] },toks:=tk }:=I.kept fun b o e=>Heap.get?_push_of_some _ e
 refine ⟨(s.heap.push { cls:= .type "range",data:= .fields #[.int lo t,.int hi u,.int 1 v] }).objs.size,[(s.heap.push { cls:= .type "range",data:= .fields #[.int lo t,.int hi u,.int 1 v] }).objs.size],_,_,H,rfl,
  I1.kept (t':=tk) fun b o e=>Heap.get?_push_of_some _ e,ahB _ lo (hi - lo).toNat,?_,fun b hb=>?_,q⟩
 ·have e1:lo+((0:Nat):Int)*1=lo:=by simp
  have e2:(((hi - lo).toNat:Nat):Int) - ((0:Nat):Int)=Builtin.Range.rangeSize lo hi 1:=by rw [rangeSize_one]; split <;> omega
  show IsRangeIter _ _ (lo+((0:Nat):Int)*1) ((((hi - lo).toNat:Nat):Int) - ((0:Nat):Int)) 1
  rw [e1,e2]
  exact Heap.get?_push_size _ rfl
 ·have e:b=(s.heap.push { cls:= .type "range",data:= .fields #[.int lo t,.int hi u,.int 1 v] }).objs.size:=by simpa using hb
  subst e
  exact I1.fpOk (Nat.le_refl _) (I1.hok.fresh (Nat.le_refl _))
def ar0 (ta:TA):TI:=fun σ H R=>ta σ H fun vs H1=>∃ j:Int,vs=[.int j]/\-(2 ^ 62)<=j/\j<2 ^ 62/\R (Itr 0 j.toNat) H1
def ar1 (ta:TA):TI:=fun σ H R=>ta σ H fun vs H1=>∃ i j:Int,vs=[.int i,.int j]/\(-(2 ^ 62)<=i/\i<2 ^ 62/\-(2 ^ 62)<=j/\j<2 ^ 62)/\R (Itr i (j - i).toNat) H1
theorem aaJ {a:Expr}{ta:TA}{p pos:Pos} (hg:Gl X "range") (hm:X.mg "range"=none) (ha:PA X [a] ta) (hs:starEach [a] X.env=[(false,eval a X.env)]:=by rfl):PI X tg (.Call (.Name "range" p) [a] [] pos) (ar0 ta):=by
 intro Kp s σ H R I h
 refine Call_ (JW I hg hm boot_range (PyProof.Rows.callWith_type1 (thn (ha pos Kp s σ H _ I h) fun us s1 ⟨vs,H1,I1,r1,q1⟩=>?_) hs rfl))
 obtain ⟨j,e,q1,q2,q⟩:=q1
 subst e
 cases r1 with
 | cons r rr=>
  cases rr
  obtain ⟨t,rfl⟩:=r
  exact call_range_1 (agj I1 (by omega) (by omega) q1 q2 (by simpa using q))
theorem aj6 {a b:Expr}{ta:TA}{p pos:Pos} (hg:Gl X "range") (hm:X.mg "range"=none) (ha:PA X [a,b] ta) (hs:starEach [a,b] X.env=[(false,eval a X.env),(false,eval b X.env)]:=by rfl) (hs2:starEach [b] X.env=[(false,eval b X.env)]:=by rfl):
  PI X tg (.Call (.Name "range" p) [a,b] [] pos) (ar1 ta):=by
 intro Kp s σ H R I h
 refine Call_ (JW I hg hm boot_range (PyProof.Rows.callWith_type1 (thn (ha pos Kp s σ H _ I h) fun us s1 ⟨vs,H1,I1,r1,q1⟩=>?_) (by rw [hs,hs2]) (by rw [hs2]; rfl)))
 obtain ⟨i,j,e,⟨q1,q2,q3,q4⟩,q⟩:=q1
 subst e
 cases r1 with
 | cons r rr=>
  cases rr with
  | cons r' rr=>
   cases rr
   obtain ⟨t,rfl⟩:=r
   obtain ⟨t',rfl⟩:=r'
   exact call_range_2 (agj I1 q1 q2 q3 q4 q)
def atp (wi:TI) (g:TG) (tb:TS):TS:=fun D σ H=>wi σ H fun J H1=>∃ W:Nat->Nat->St->Hp->Prop,(∃ m,W 0 m σ H1)/\∀ i m σ H,W i m σ H->
 (J.stop i H/\D.nx σ H) ∨ (J.go i H/\∃ N:St->Hp->Prop,(∀ σ' H',N σ' H'->∃ m',m' < m/\W (i+1) m' σ' H')/\∀ x H',J.yld i H x H'->g x σ H' fun σ2 H2=>tb { D with nx:=N,ct:=N,bk:=D.nx } σ2 H2)
noncomputable def aco (fp:List Addr) (h:Heap):List (Addr × Obj):=fp.filterMap fun b=>(h.get? b).map fun o=>(b,o)
theorem Qm {fp:List Addr}{h:Heap}{b:Addr}{o:Obj} (hb:b ∈ fp) (e:h.get? b=some o):(b,o) ∈ aco fp h:=List.mem_filterMap.mpr ⟨b,hb,by rw [e]; rfl⟩
theorem aj7 {fp:List Addr}{h:Heap}{p:Addr × Obj} (hp:p ∈ aco fp h):p.1 ∈ fp/\h.get? p.1=some p.2:=by
 obtain ⟨b,hb,e⟩:=List.mem_filterMap.mp hp
 cases q:h.get? b with
 | none=>rw [q] at e; cases e
 | some o=>
  rw [q] at e
  have e':(b,o)=p:=Option.some.inj e
  subst e'
  exact ⟨hb,q⟩
theorem Inv.pinned {Kp:List (Addr × Obj)}{σ:St}{H:Hp}{s:Shared}{fp:List Addr} (I:Inv X Kp σ H s) (hf:∀ b ∈ fp,agh X Kp H b) (ho:∀ b ∈ fp,∃ o,s.heap.get? b=some o/\∀ v,o.data ≠ .cell v):Inv X (Kp++aco fp s.heap) σ H s:=
 I.pins_of fun p hp=>(List.mem_append.mp hp).elim (fun z=>I.pin p (List.mem_append_right _ z)) fun z=>by
  obtain ⟨hb,e⟩:=aj7 z
  obtain ⟨f0,f1,f2,_⟩:=hf p.1 hb
  obtain ⟨o,e',d⟩:=ho p.1 hb
  rw [e] at e'; cases e'
  exact ⟨e,f0,f1,f2,d⟩
theorem Inv.unpinned {Kp pl:List (Addr × Obj)}{σ:St}{H:Hp}{s:Shared} (I:Inv X (Kp++pl) σ H s):Inv X Kp σ H s:=I.pins_of fun p hp=>I.pin p (List.mem_append_right _ (List.mem_append_left _ hp))
theorem aaK {iter:Expr}{body:List Stmt}{wi:TI}{g:TG}{tb:TS}{pos:Pos} (hp:PassesOwn (model X.prog X.w) X.A X.env X.xe) (hc:X.calm=true) (hi:PI X tg iter wi) (hg:PG X tg g) (hb:PSs X body tb)
  (hs:∀ x,foldedSetIterable iter X.env x=pure x:=by intro _; rfl):PS X (.For tg iter body [] pos) (atp wi g tb):=by
 intro Kp s σ H D I h
 refine wpAny_For (thn (hi Kp s σ H _ I h) fun v s1 h1=>thn h1 fun itv s2 h2=>?_) hs
 obtain ⟨it,fp,tn,J,H2,e,I2,T,st2,f2,W,⟨m0,w0⟩,turn⟩:=h2
 subst e
 have stat:∀ {H':Hp},(∀ b ∈ fp,H' b=none)->∀ b ∈ fp,agh X Kp H' b:=fun hn b hb=>⟨hn b hb,(f2 b hb).2⟩
 refine codeAny_forLoop_any (fun n s'=>∃ i σ' H',Inv X Kp σ' H' s'/\tn i s'.heap/\(∀ b ∈ fp,H' b=none)/\W i n σ' H') ?_ m0 ⟨0,σ,H2,I2,st2,fun b hb=>(f2 b hb).1,w0⟩
 rintro n s3 ⟨i,σ3,H3,I3,st3,fr3,w3⟩
 rcases turn i n σ3 H3 w3 with ⟨stop,qn⟩ | ⟨go,N,hN,step⟩
 ·refine wpAny_passesOwn hp (thn (T.done X rfl rfl rfl hc i Kp s3 σ3 H3 X.xe I3 (stat fr3) st3 stop) fun r s4 ⟨hr,I4⟩=>?_)
  subst hr
  exact wpAny_execs_nil ⟨σ3,H3,I4,qn⟩
 ·refine wpAny_passesOwn hp (thn (T.item X rfl rfl rfl hc i Kp s3 σ3 H3 X.xe I3 (stat fr3) st3 go) fun r s4 ⟨u,hr,h4⟩=>?_)
  subst hr
  refine wpAny_passesOwn hp (thn h4 fun _ s5 ⟨x,H5,I5,r5,y5,st5,fr5⟩=>?_)
  have I5':=I5.pinned (stat fr5) (T.obj _ _ st5)
  refine wpAny_passesOwn hp (thn (hg _ s5 σ3 H5 x u _ I5' r5 (step x H5 y5)) fun _ s6 ⟨σ6,H6,I6,q6⟩=>?_)
  refine wpAny_passesOwn hp (thn (hb _ s6 σ6 H6 _ I6 q6) fun f s7 q7=>?_)
  have again:∀ {σ7:St} {H7:Hp},Inv X (Kp++aco fp s5.heap) σ7 H7 s7->N σ7 H7->∃ m,m<n/\∃ i σ' H',Inv X Kp σ' H' s7/\tn i s7.heap/\(∀ b ∈ fp,H' b=none)/\W i m σ' H':=fun {σ7 H7} I7 n7=>by
   obtain ⟨m',hm,w7⟩:=hN σ7 H7 n7
   refine ⟨m',hm,i+1,σ7,H7,I7.unpinned,T.keep _ _ _ st5 fun b hb o e=>(I7.pin (b,o) (List.mem_append_right _ (List.mem_append_right _ (Qm hb e)))).1,fun b hb=>?_,w7⟩
   obtain ⟨o,e,d⟩:=T.obj _ _ st5 b hb
   exact (I7.pin (b,o) (List.mem_append_right _ (List.mem_append_right _ (Qm hb e)))).2.1
  cases f with
  | next=>obtain ⟨σ7,H7,I7,n7⟩:=q7; exact again I7 n7
  | cont=>obtain ⟨σ7,H7,I7,n7⟩:=q7; exact again I7 n7
  | brk=>obtain ⟨σ7,H7,I7,q7⟩:=q7; exact ⟨σ7,H7,I7.unpinned,q7⟩
  | ret v=>obtain ⟨x7,σ7,H7,I7,r7,q7⟩:=q7; exact ⟨x7,σ7,H7,I7.unpinned,r7,q7⟩
end
theorem adF {lo:Int}{n:Nat}{g:TG}{tb:TS}{D:Ends}{σ:St}{H:Hp} (Pv:Nat->St->Hp->Prop) (h0:Pv 0 σ H)
  (hs:∀ i σ H,i<n->Pv i σ H->g (.int (lo+i)) σ H fun σ2 H2=>tb { D with nx:=Pv (i+1),ct:=Pv (i+1),bk:=D.nx } σ2 H2) (hd:∀ σ H,Pv n σ H->D.nx σ H):
  ∃ W:Nat->Nat->St->Hp->Prop,(∃ m,W 0 m σ H)/\∀ i m σ H,W i m σ H->
   ((Itr lo n).stop i H/\D.nx σ H) ∨ ((Itr lo n).go i H/\∃ N:St->Hp->Prop,(∀ σ' H',N σ' H'->∃ m',m' < m/\W (i+1) m' σ' H')/\∀ x H',(Itr lo n).yld i H x H'->g x σ H' fun σ2 H2=>tb { D with nx:=N,ct:=N,bk:=D.nx } σ2 H2):=by
 refine ⟨fun i m σ H=>m=n - i/\i<=n/\Pv i σ H,⟨n,by simp,Nat.zero_le _,h0⟩,?_⟩
 rintro i m σ H ⟨rfl,hi,p⟩
 by_cases hlt:i<n
 ·refine .inr ⟨hlt,Pv (i+1),fun σ' H' p'=>⟨n - (i+1),by omega,rfl,hlt,p'⟩,fun x H' y=>?_⟩
  obtain ⟨e,y⟩:=y
  subst e y
  exact hs i σ _ hlt p
 ·have e:i=n:=by omega
  subst e
  exact .inl ⟨Nat.le_refl _,hd σ H p⟩
abbrev R2:=V->V->Hp->VK->Prop
def OpR (X:Cx) (f:Value->Value->Sem Value) (r:R2):Prop:=
 ∀ (Kp:List (Addr × Obj)) (s:Shared) (σ:St) (H:Hp) (x y:V) (v u:Value) (Q:VK),Inv X Kp σ H s->jW x v->jW y u->r x y H Q->
  wpAny (model X.prog X.w) X.A (f v u) (EP X Kp σ Q) X.xe s
def UnR (X:Cx) (f:Value->Sem Value) (r:V->Hp->VK->Prop):Prop:=
 ∀ (Kp:List (Addr × Obj)) (s:Shared) (σ:St) (H:Hp) (x:V) (v:Value) (Q:VK),Inv X Kp σ H s->jW x v->r x H Q->
  wpAny (model X.prog X.w) X.A (f v) (EP X Kp σ Q) X.xe s
def zV (X:Cx) (f:Value) (r:List V->Hp->VK->Prop):Prop:=
 ∀ (Kp:List (Addr × Obj)) (s:Shared) (σ:St) (H:Hp) (xs:List V) (us:List Value) (Q:VK),Inv X Kp σ H s->jG xs us->r xs H Q->
  wpAny (model X.prog X.w) X.A (call f us) (EP X Kp σ Q) X.xe s
def atq (X:Cx) (r:V->Hp->(Bool->Hp->Prop)->Prop):Prop:=
 ∀ (Kp:List (Addr × Obj)) (s:Shared) (σ:St) (H:Hp) (x:V) (v:Value) (Q:Bool->Hp->Prop),Inv X Kp σ H s->jW x v->r x H Q->
  wpAny (model X.prog X.w) X.A (truthy v) (TP X Kp σ Q) X.xe s
def tOp (r:R2) (ta tb:TE):TE:=fun σ H Q=>ta σ H fun x H1=>tb σ H1 fun y H2=>r x y H2 Q
def tUn (r:V->Hp->VK->Prop) (ta:TE):TE:=fun σ H Q=>ta σ H fun x H1=>r x H1 Q
def rI (C:Int->Int->Prop) (g:Int->Int->V):R2:=fun x y H Q=>∃ i j,x= .int i/\y= .int j/\C i j/\Q (g i j) H
def rI0 (g:Int->Int->V):R2:=fun x y H Q=>∃ i j,x= .int i/\y= .int j/\Q (g i j) H
def rU (g:Int->V):V->Hp->VK->Prop:=fun x H Q=>∃ i,x= .int i/\Q (g i) H
section
variable {X:Cx}{a b c:Expr}{ta tb tc:TE}{pos:Pos}
theorem an5 (ha:PE X a ta) (hb:PE X b tb) {Kp:List (Addr × Obj)}{s:Shared}{σ:St}{H:Hp}{R:V->V->Hp->Prop} (I:Inv X Kp σ H s)
  (h:ta σ H fun x H1=>tb σ H1 fun y H2=>R x y H2) {Q:Value->SP0} {f:Value->Value->Sem Value}
  (hf:∀ v u s2 x y H2,Inv X Kp σ H2 s2->jW x v->jW y u->R x y H2->wpAny (model X.prog X.w) X.A (f v u) Q X.xe s2):
  wpAny (model X.prog X.w) X.A (eval a X.env) (fun v s₁=>wpAny (model X.prog X.w) X.A (eval b X.env) (fun u s₂=>wpAny (model X.prog X.w) X.A (f v u) Q X.xe s₂) X.xe s₁) X.xe s:=by
 refine thn (ha Kp s σ H _ I h) fun v s1 ⟨x,H1,I1,r1,q1⟩=>?_
 refine thn (hb Kp s1 σ H1 _ I1 q1) fun u s2 ⟨y,H2,I2,r2,q2⟩=>?_
 exact hf v u s2 x y H2 I2 r1 r2 q2
theorem apU {op:Operator}{r:R2} (ho:OpR X (binaryOp op) r) (ha:PE X a ta) (hb:PE X b tb):PE X (.BinOp a op b pos) (tOp r ta tb):=by
 intro Kp s σ H Q I h
 exact wpAny_BinOp (an5 ha hb I h fun v u s2 x y H2 I2 rx ry q=>ho Kp s2 σ H2 x y v u Q I2 rx ry q)
theorem ar2 {op:UnaryOp}{r:V->Hp->VK->Prop} (ho:UnR X (unaryOp op) r) (ha:PE X a ta):PE X (.UnaryOp op a pos) (tUn r ta):=by
 intro Kp s σ H Q I h
 exact UnaryOp_ (thn (ha Kp s σ H _ I h) fun v s1 ⟨x,H1,I1,r1,q1⟩=>ho Kp s1 σ H1 x v Q I1 r1 q1)
theorem opI {f:Value->Value->Sem Value}{C:Int->Int->Prop}{g:Int->Int->Int}
  (rule:∀ (i j:Int) (t u:Tok) (s:Shared) (Q:Value->SP0) (E:Value->SP0),C i j->Q (.int (g i j) s.toks) { s with toks:=s.toks+1 }->wpAny (model X.prog X.w) X.A (f (.int i t) (.int j u)) Q E s):
  OpR X f (rI C fun i j=> .int (g i j)):=by
 intro Kp s σ H x y v u Q I rx ry h
 obtain ⟨i,j,rfl,rfl,hc,q⟩:=h
 obtain ⟨t,rfl⟩:=rx
 obtain ⟨t',rfl⟩:=ry
 exact rule i j t t' s _ _ hc ⟨.int (g i j),H,I.tok _,⟨_,rfl⟩,q⟩
theorem ar3 {f:Value->Value->Sem Value}{g:Int->Int->Int}
  (rule:∀ (i j:Int) (t u:Tok) (s:Shared) (Q:Value->SP0) (E:Value->SP0),Q (.int (g i j) s.toks) { s with toks:=s.toks+1 }->wpAny (model X.prog X.w) X.A (f (.int i t) (.int j u)) Q E s):
  OpR X f (rI0 fun i j=> .int (g i j)):=by
 intro Kp s σ H x y v u Q I rx ry h
 obtain ⟨i,j,rfl,rfl,q⟩:=h
 obtain ⟨t,rfl⟩:=rx
 obtain ⟨t',rfl⟩:=ry
 exact rule i j t t' s _ _ ⟨.int (g i j),H,I.tok _,⟨_,rfl⟩,q⟩
theorem an6 {f:Value->Value->Sem Value}{g:Int->Int->Bool}
  (rule:∀ (i j:Int) (t u:Tok) (s:Shared) (Q:Value->SP0) (E:Value->SP0),Q (.bool (g i j)) s->wpAny (model X.prog X.w) X.A (f (.int i t) (.int j u)) Q E s):
  OpR X f (rI0 fun i j=> .bl (g i j)):=by
 intro Kp s σ H x y v u Q I rx ry h
 obtain ⟨i,j,rfl,rfl,q⟩:=h
 obtain ⟨t,rfl⟩:=rx
 obtain ⟨t',rfl⟩:=ry
 exact rule i j t t' s _ _ ⟨.bl (g i j),H,I,rfl,q⟩
def atr (i j:Int):Prop:=0<j/\j<1073741824
def aqu (i j:Int):Prop:=(-(2 ^ 64)<i/\i<2 ^ 64) ∨ (-(2 ^ 64)<j/\j<2 ^ 64)
theorem aqu.ok {i j:Int} (h:aqu i j):IntMulOk i j:=by
 rcases h with ⟨h1,h2⟩ | ⟨h1,h2⟩
 ·exact .of_left (intBits_le_64 h1 h2)
 ·exact .of_right (intBits_le_64 h1 h2)
theorem aqv:OpR X (binaryOp .Add) (rI0 fun i j=> .int (i+j)):=ar3 fun _ _ _ _ _ _ _ q=>add_int q
theorem aqw:OpR X (binaryOp .Sub) (rI0 fun i j=> .int (i - j)):=ar3 fun _ _ _ _ _ _ _ q=>sub_int q
theorem aqx:OpR X (binaryOp .Mult) (rI aqu fun i j=> .int (i*j)):=opI fun _ _ _ _ _ _ _ hc q=>mul_int q hc.ok
theorem an7:OpR X (binaryOp .FloorDiv) (rI atr fun i j=> .int (i / j)):=opI fun i j _ _ _ _ _ hc q=>by
 have h1:(0:Int)<j:=hc.1
 have h2:j<1073741824:=hc.2
 exact floordiv_int (by omega) (by rw [Int.fdiv_eq_ediv_of_nonneg i (by omega)]; exact q) (.inl (PyProof.noPylong_small (by omega)))
theorem aqy:OpR X (binaryOp .Mod) (rI (fun _ j=>0<j) fun i j=> .int (i % j)):=opI fun i j _ _ _ _ _ hc q=>by
 have h1:(0:Int)<j:=hc
 exact mod_int' (by omega) (by rw [Int.fmod_eq_emod_of_nonneg i (by omega)]; exact q)
theorem unI {f:Value->Sem Value}{g:Int->Int}
  (rule:∀ (i:Int) (t:Tok) (s:Shared) (Q:Value->SP0) (E:Value->SP0),Q (.int (g i) s.toks) { s with toks:=s.toks+1 }->wpAny (model X.prog X.w) X.A (f (.int i t)) Q E s):
  UnR X f (rU fun i=> .int (g i)):=by
 intro Kp s σ H x v Q I rx h
 obtain ⟨i,rfl,q⟩:=h
 obtain ⟨t,rfl⟩:=rx
 exact rule i t s _ _ ⟨.int (g i),H,I.tok _,⟨_,rfl⟩,q⟩
theorem aqz:UnR X (unaryOp .USub) (rU fun i=> .int (-i)):=unI fun _ _ _ _ _ q=>neg_int q
end
section
variable {X:Cx}{a b c:Expr}{ta tb tc:TE}{pos:Pos}
theorem aqA {Kp:List (Addr × Obj)}{σ:St}{H:Hp}{s:Shared}{Q:VK}{k k':Bool} (I:Inv X Kp σ H s) (q:Q (.bl k) H) (e:k=k'):EP X Kp σ Q (.bool k') s:=by
 subst e
 exact ⟨.bl k,H,I,rfl,q⟩
theorem ar4:OpR X (compareOp .Lt) (rI0 fun i j=> .bl (decide (i<j))):=an6 fun _ _ _ _ _ _ _ q=>lt_int q
theorem ar5:OpR X (compareOp .LtE) (rI0 fun i j=> .bl (decide (i<=j))):=an6 fun _ _ _ _ _ _ _ q=>le_int q
theorem ar6:OpR X (compareOp .Gt) (rI0 fun i j=> .bl (decide (j<i))):=an6 fun _ _ _ _ _ _ _ q=>gt_int q
theorem ar7:OpR X (compareOp .GtE) (rI0 fun i j=> .bl (decide (j<=i))):=an6 fun _ _ _ _ _ _ _ q=>ge_int q
theorem OpR.or {f:Value->Value->Sem Value}{r r':R2} (h:OpR X f r) (h':OpR X f r'):OpR X f (fun x y H Q=>r x y H Q ∨ r' x y H Q):=by
 intro Kp s σ H x y v u Q I rx ry q
 rcases q with q | q
 ·exact h Kp s σ H x y v u Q I rx ry q
 ·exact h' Kp s σ H x y v u Q I rx ry q
theorem acp (b:Expr) {op:CmpOp} (h:op ≠ .In:=by decide) (h2:op ≠ .NotIn:=by decide):behindInMarks op b=false:=by
 have e1:(op == CmpOp.In)=false:=by cases op <;> first | rfl | exact absurd rfl h
 have e2:(op == CmpOp.NotIn)=false:=by cases op <;> first | rfl | exact absurd rfl h2
 cases b <;> simp [behindInMarks,e1,e2]
theorem aiU {op:CmpOp}{r:R2} (ho:OpR X (compareOp op) r) (ha:PE X a ta) (hb:PE X b tb) (hm:behindInMarks op b=false):PE X (.Compare a [op] [b] pos) (tOp r ta tb):=by
 intro Kp s σ H Q I h
 exact wpAny_Compare1 (an5 ha hb I h fun v u s2 x y H2 I2 rx ry q=>ho Kp s2 σ H2 x y v u Q I2 rx ry q) hm
def apV (t:TE):TT:=fun σ H Q=>t σ H fun x H'=>∃ k,x= .bl k/\Q k H'
theorem aiV {op:CmpOp}{r:R2} (ho:OpR X (compareOp op) r) (ha:PE X a ta) (hb:PE X b tb) (hm:behindInMarks op b=false):PT X (.Compare a [op] [b] pos) (apV (tOp r ta tb)):=by
 intro Kp s σ H Q I h
 refine wpAny_isTrue_Compare1 (thn (ha Kp s σ H _ I h) fun v s1 ⟨x,H1,I1,r1,q1⟩=>thn (hb Kp s1 σ H1 _ I1 q1) fun u s2 ⟨y,H2,I2,r2,q2⟩=>
  thn (ho Kp s2 σ H2 x y v u _ I2 r1 r2 q2) fun c s3 ⟨z,H3,I3,r3,k,e,q3⟩=>?_) hm
 subst e
 cases r3
 exact wpAny_truthy_bool ⟨H3,I3,q3⟩
def ahC (r r':R2) (ta tb tc:TE):TE:=fun σ H Q=>ta σ H fun x H1=>tb σ H1 fun y H2=>r x y H2 fun z H3=>∃ k,z= .bl k/\
 (if k=true then tc σ H3 fun w' H4=>r' y w' H4 Q else Q (.bl false) H3)
theorem alG {op op':CmpOp}{r r':R2} (ho:OpR X (compareOp op) r) (ho':OpR X (compareOp op') r') (ha:PE X a ta) (hb:PE X b tb) (hc:PE X c tc)
  (hm:lastMarks [op,op'] [b,c]=false:=by with_unfolding_all rfl):PE X (.Compare a [op,op'] [b,c] pos) (ahC r r' ta tb tc):=by
 intro Kp s σ H Q I h
 refine Compare_chain (thn (ha Kp s σ H _ I h) fun v s1 ⟨x,H1,I1,r1,q1⟩=>chain_link (thn (hb Kp s1 σ H1 _ I1 q1) fun u s2 ⟨y,H2,I2,r2,q2⟩=>
  thn (ho Kp s2 σ H2 x y v u _ I2 r1 r2 q2) fun d s3 ⟨z,H3,I3,r3,k,e,q3⟩=>?_)) hm
 subst e
 cases r3
 refine wpAny_truthy_bool ?_
 cases k with
 | false=>exact ite_ff ⟨.bl false,H3,I3,rfl,q3⟩
 | true=>exact ite_tt (chain_last (thn (hc Kp s3 σ H3 _ I3 q3) fun w' s4 ⟨z',H4,I4,r4,q4⟩=>ho' Kp s4 σ H4 y z' u w' Q I4 r2 r4 q4))
theorem alH {op op':CmpOp}{r r':R2} (ho:OpR X (compareOp op) r) (ho':OpR X (compareOp op') r') (ha:PE X a ta) (hb:PE X b tb) (hc:PE X c tc)
  (hm:lastMarks [op,op'] [b,c]=false:=by with_unfolding_all rfl):PT X (.Compare a [op,op'] [b,c] pos) (apV (ahC r r' ta tb tc)):=by
 intro Kp s σ H Q I h
 refine isTrue_chain (thn (ha Kp s σ H _ I h) fun v s1 ⟨x,H1,I1,r1,q1⟩=>test_link (thn (hb Kp s1 σ H1 _ I1 q1) fun u s2 ⟨y,H2,I2,r2,q2⟩=>
  thn (ho Kp s2 σ H2 x y v u _ I2 r1 r2 q2) fun d s3 ⟨z,H3,I3,r3,k,e,q3⟩=>?_)) hm
 subst e
 cases r3
 refine wpAny_truthy_bool ?_
 cases k with
 | false=>
  obtain ⟨k',e',q'⟩:=q3
  cases e'
  exact ite_ff ⟨H3,I3,q'⟩
 | true=>
  refine ite_tt (test_last (thn (hc Kp s3 σ H3 _ I3 q3) fun w' s4 ⟨z',H4,I4,r4,q4⟩=>thn (ho' Kp s4 σ H4 y z' u w' _ I4 r2 r4 q4) fun d' s5 ⟨z2,H5,I5,r5,k2,e2,q5⟩=>?_))
  subst e2
  cases r5
  exact wpAny_truthy_bool ⟨H5,I5,q5⟩
def ats (K:Fg) (x:V) (H:Hp) (k:Bool):Prop:=
 match x with
 | .non=>k=false
 | .bl b=>k=b
 | .int i=>k=(i != 0)
 | .str y=>y.length<=sizeLine/\k=((y.length:Int) != 0)
 | .byt y=>y.size<=sizeLine/\k=((y.size:Int) != 0)
 | .ref p=>(∃ xs,SqL K H p xs/\k=!xs.isEmpty) ∨ (∃ xs,SqT K H p xs/\k=!xs.isEmpty) ∨ ∃ kvs,H p=some (.dK kvs)/\k=!kvs.isEmpty
 | _=>False
theorem ahD {κ:Type}{kvs:List (κ × V)}{vs:List (κ × Value)} (r:KV kvs vs):(!vs.isEmpty)=!kvs.isEmpty:=by
 cases r <;> rfl
theorem acq {xs:List V}{its:List Value} (r:jG xs its):(!its.toArray.isEmpty)=!xs.isEmpty:=by
 cases r <;> simp
theorem aaL:(sizeLine:Nat)<2 ^ 63:=by rw [sizeLine_eq]; decide
theorem aqB:atq X (fun x H Q=>∃ k,ats X.K x H k/\Q k H):=by
 intro Kp s σ H x v Q I rx h
 obtain ⟨k,e,q⟩:=h
 have hl:=aaL
 have hs:sizeLine=16777216:=sizeLine_eq
 cases x with
 | non=>
  cases rx
  have e':k=false:=e
  subst e'
  exact truthy_none ⟨H,I,q⟩
 | bl b=>
  cases rx
  have e':k=b:=e
  subst e'
  exact wpAny_truthy_bool ⟨H,I,q⟩
 | int i=>
  obtain ⟨t,rfl⟩:=rx
  have e':k=(i != 0):=e
  subst e'
  exact PySem.P.truthy_int ⟨H,I,q⟩
 | str y=>
  obtain ⟨t,rfl⟩:=rx
  obtain ⟨hy,e'⟩:y.length<=sizeLine/\k=((y.length:Int) != 0):=e
  subst e'
  exact PySem.P.truthy_str (by omega) ⟨H,I.tok _,q⟩
 | byt y=>
  obtain ⟨t,rfl⟩:=rx
  obtain ⟨hy,e'⟩:y.size<=sizeLine/\k=((y.size:Int) != 0):=e
  subst e'
  exact PySem.W.truthy_bytes (by omega) ⟨H,I.tok _,q⟩
 | ref p=>
  cases rx
  have e':(∃ xs,SqL X.K H p xs/\k=!xs.isEmpty) ∨ (∃ xs,SqT X.K H p xs/\k=!xs.isEmpty) ∨ ∃ kvs,H p=some (.dK kvs)/\k=!kvs.isEmpty:=e
  rcases e' with ⟨xs,hx,e'⟩ | ⟨xs,hx,e'⟩ | ⟨kvs,hx,e'⟩
  ·subst e'
   obtain ⟨its,r,pl,hz⟩:=I.list hx
   have hlen:=r.length
   exact wpAny_truthy_list pl.isList (by simp only [List.size_toArray]; omega) ⟨H,I.tok _,by rw [acq r]; exact q⟩
  ·subst e'
   obtain ⟨its,r,pl,hz⟩:=I.tuple hx
   have hlen:=r.length
   exact truthy_tuple pl (by simp only [List.size_toArray]; omega) ⟨H,I.tok _,by rw [acq r]; exact q⟩
  ·subst e'
   obtain ⟨hz,hS,vs,r,m⟩:kvs.length<=sizeLine/\(p == sysModules)=false/\∃ vs,KV kvs vs/\s.heap.DictOf (qm X.prog X.w) p vs:=I.hok p _ hx
   have hlen:kvs.length=vs.length:=Paired.length r
   exact wpAny_truthy_dict hS m (by omega) ⟨H,I.tok _,by rw [ahD r]; exact q⟩
 | _=>exact (show False from e).elim
def agk (b:Expr):Prop:=∀ o i,subscripted b false o i=operate [o,i] (getItem o i)
theorem agl (ha:PE X a ta) (hb:PE X b tb) (hs:agk b):
  PE X (.Subscript a b pos) (tOp (fun x y H Q=>∃ z i c,x= .str z/\y= .int i/\0<=i/\i<2 ^ 63/\i<z.length/\z.cps[i.toNat]?=some c/\Q (.str ⟨#[c]⟩) H) ta tb):=by
 intro Kp s σ H Q I h
 refine Subscript_ (an5 ha hb I h fun v u s2 x y H2 I2 rx ry q=>?_)
 obtain ⟨z,i,c,rfl,rfl,h0,h63,h1,hc,q⟩:=q
 obtain ⟨t,rfl⟩:=rx
 obtain ⟨t',rfl⟩:=ry
 have e:seqIndex? i z.length=some i.toNat:=PySem.StrLaws.seqIndex_nonneg h0 h1
 exact tail_any (typeIs_str s2 z t) slot_str_getitem.lookup (getItem_str (c:=c) (by
  have e1:decide (i < -(2 ^ 63:Int))=false:=decide_eq_false (by omega)
  have e2:decide (i >= 2 ^ 63)=false:=decide_eq_false (by omega)
  rw [e1,e2] <;> rfl) (by rw [e]; exact hc) ⟨.str ⟨#[c]⟩,H2,I2.tok _,⟨_,rfl⟩,q⟩) (hs _ _)
theorem abn {x:V}{us:List Value} (r:jG [x] us):∃ u,us=[u]/\jW x u:=by
 cases r with
 | cons r1 r2=>cases r2; exact ⟨_,rfl,r1⟩
theorem aiW {x y:V}{us:List Value} (r:jG [x,y] us):∃ u w',us=[u,w']/\jW x u/\jW y w':=by
 cases r with
 | cons r1 r2=>
  cases r2 with
  | cons r3 r4=>cases r4; exact ⟨_,_,rfl,r1,r3⟩
theorem aj8 (hc:X.calm=true):zV X (.builtin "max") (fun xs H Q=>∃ i j,xs=[.int i,.int j]/\Q (.int (if j > i then j else i)) H):=by
 intro Kp s σ H xs us Q I r h
 obtain ⟨i,j,rfl,q⟩:=h
 obtain ⟨u,w',rfl,⟨t,rfl⟩,⟨t',rfl⟩⟩:=aiW r
 refine max_two_ints (I.ok.hd hc) fun h' tk k=>⟨_,H,I.kept k,?_,q⟩
 by_cases hj:j > i
 ·rw [if_pos hj,if_pos hj]; exact ⟨_,rfl⟩
 ·rw [if_neg hj,if_neg hj]; exact ⟨_,rfl⟩
theorem aj9 (hc:X.calm=true):zV X (.builtin "min") (fun xs H Q=>∃ i j,xs=[.int i,.int j]/\Q (.int (if j<i then j else i)) H):=by
 intro Kp s σ H xs us Q I r h
 obtain ⟨i,j,rfl,q⟩:=h
 obtain ⟨u,w',rfl,⟨t,rfl⟩,⟨t',rfl⟩⟩:=aiW r
 refine min_two_ints (I.ok.hd hc) fun h' tk k=>⟨_,H,I.kept k,?_,q⟩
 by_cases hj:j<i
 ·rw [if_pos hj,if_pos hj]; exact ⟨_,rfl⟩
 ·rw [if_neg hj,if_neg hj]; exact ⟨_,rfl⟩
end
structure ObjM (h:Heap) (x dx C:Addr) (mA:SV):Prop where
 obj:h.get? x=some (PySem.W.instObj C dx)
 ns:h.Ns1 dx mA
 ne:dx ≠ x
theorem aka {h:Heap}{dx:Addr}{mA:SV} (n:h.Ns1 dx mA):∃ od,h.get? dx=some od/\∀ name,PySem.W.lookIn name od=some (mA name):=by
 obtain ⟨o,es,ep,ho,hd,hk,_,hm⟩:=n
 refine ⟨o,ho,fun name=>?_⟩
 have e:=hm name
 unfold nsFind findBy at e
 rw [←Array.find?_toList] at e
 unfold PySem.W.lookIn
 rw [hd]
 dsimp only
 split
 ·rename_i y q
  rw [q] at e
  exact congrArg some e
 ·rename_i q
  rw [q] at e
  have a:es.toList.any (·.refKey)=false:=by
   rw [List.any_eq_false]
   intro y hy
   obtain ⟨z,t,hkey⟩:=hk y (Array.mem_toList_iff.mp hy)
   simp [DictEntry.refKey,hkey]
  have a':¬ es.toList.any (·.refKey)=true:=by rw [a]; exact Bool.false_ne_true
  rw [if_neg a']
  exact congrArg some e
theorem ObjM.look {h:Heap}{x dx C:Addr}{mA:SV} (I:ObjM h x dx C mA):∃ od,PySem.W.InstAt h x (PySem.W.instObj C dx) C (some od)/\∀ name,PySem.W.lookIn name od=some (mA name):=
 let ⟨od,ho,hl⟩:=aka I.ns
 ⟨od,⟨I.obj,rfl,rfl,ho⟩,hl⟩
section
variable {prog:Program}{w:World}{A:Around}{E:Value->SP0}{s:Shared}{K:Fg}{x dx C f:Addr}{mA:SV}{name:Str}{v:Value}
theorem an8 {expr:Bool}{Q:Value->SP0} (X:K.In s.heap) (I:ObjM s.heap x dx C mA) (hg:PySem.W.plainGet K C name=true) (hh:PySem.W.hasDictIn K C=true)
  (ha:PySem.W.findIn K (.ref C) name=some none) (hv:mA name=some v) (hv':PySem.W.handedIn v=true) (h:Q v { s with toks:=s.toks+1 }):
  wpAny (model prog w) A (getAttr (.ref x) name expr) Q E s:=by
 obtain ⟨od,J,hl⟩:=I.look
 exact PySem.W.get_value X J (PySem.W.plainGet_of hg).1 (PySem.W.findObj_own hh ha rfl (by rw [hl,hv])) hv' h
theorem alI {pl:Sem Bool}{Q:Value × List Value->SP0} (X:K.In s.heap) (I:ObjM s.heap x dx C mA) (hg:PySem.W.plainGet K C name=true)
  (hf:PySem.W.findIn K (.ref C) name=some (some (.ref f))) (ht:PySem.W.isFn K (.ref f)=true) (hv:mA name=none) (h:Q (.ref f,[.ref x]) s):
  wpAny (model prog w) A (getMethod (.ref x) name pl) Q E s:=by
 obtain ⟨od,J,hl⟩:=I.look
 exact PySem.W.method_fn X J (PySem.W.plainGet_of hg).1 (PySem.W.plainGet_of hg).2 hf (beq_iff_eq.mp ht) (by show (PySem.W.lookIn name od).map (·.isSome)=some false; rw [hl,hv]; rfl) h
theorem an9 {ns:List Str}{Q:Unit->SP0} (X:K.In s.heap) (I:ObjM s.heap x dx C mA)
  (hs:PySem.W.findIn K (.ref C) "__setattr__"=some (some (.builtin "object.__setattr__"))) (hp:PySem.W.plainOver K C=true) (ht:PySem.W.takerIn K C name=some none) (hh:PySem.W.hasDictIn K C=true)
  (hw:PySem.Within mA ns) (hsz:ns.length<=sizeLine)
  (h:∀ h',ObjM h' x dx C (fun y=>if y=name then some v else mA y)->Heap.SameBut dx s.heap h'->Q () { s with heap:=h',toks:=s.toks+2 }):
  wpAny (model prog w) A (setAttr (.ref x) name v) Q E s:=by
 obtain ⟨od,J,hl⟩:=I.look
 refine PySem.W.set_plain X J hs (PySem.W.osa_open (s:={ s with toks:=s.toks+1 }) (r:=none) X J hp ht fun b=>?_)
 obtain ⟨cd,hc,hd'⟩:=PySem.W.any_some hh
 have hx:s.heap.get? x=some ⟨.ref C,some dx,.plain,#[]⟩:=I.obj
 refine wpAny_bind (wpAny_pure (wpAny_bind (wpAny_bind (wpAny_loadPart hx (wpAny_bind (PySem.W.Looks.here (s:={ s with toks:=s.toks+1 }) (PySem.W.looks_clsIn X hc) ?_))))))
 rw [hd']
 refine wpAny_pure (a:=some dx) (wpAny_bind (wpAny_pure (wpAny_bind ?_)))
 refine wpAny_nsSet1 (s:={ s with toks:=s.toks+1 }) I.ns fun h' hn2 hs2=>?_
 obtain ⟨oD,esD,epD,hoD,hdD,hcD⟩:=hn2.count (PySem.Within.cons name v hw)
 refine wpAny_bind (wpAny_lookBehind hoD (by rw [hdD]; exact pastItsLine_dict (Nat.le_trans hcD (by rw [List.length_cons]; omega))) ?_)
 exact wpAny_pure (h _ ⟨(hs2.2 _ (Ne.symm I.ne)).trans I.obj,hn2,I.ne⟩ hs2)
theorem alJ {R:Result->SP0}{vs:List Value}{kw:List (Str × Value)} (X:K.In s.heap) (hm:PySem.W.makesIn K C=true)
  (hi:PySem.W.findIn K (.ref C) "__init__"=some (some (.ref f))) (hf:PySem.W.typeIn K (.ref f)=some (.type "function"))
  (h:codeAny (model prog w) (A.under (.builtin "type.__call__" ⟨.ref C::vs,kw⟩)) (.call (.ref f) ⟨.ref (s.heap.objs.size+1)::vs,kw⟩) (PySem.W.InitBack (s.heap.objs.size+1) R)
   { s with heap:=(s.heap.push PySem.W.emptyDict).push (PySem.W.instObj C s.heap.objs.size) }):
  codeAny (model prog w) A (.call (.ref C) ⟨vs,kw⟩) R s:=by
 obtain ⟨hh,g,d,t,os⟩:=s
 exact PySem.W.make_core (PySem.W.makes_of X hm) (PySem.W.looks_findIn X hi) (fun self=>PySem.W.bind_fn X self hf) (.inl rfl) h
end
noncomputable def Qn (f:Str) (v:V):List (Str × V)->List (Str × V)
 | []=>[(f,v)]
 | (g,x)::r=>if g=f then (g,v)::r else (g,x)::Qn f v r
theorem abo (f g:Str) (v:V):∀ fs:List (Str × V),(Qn f v fs).lookup g=if g=f then some v else fs.lookup g
 | []=>by
  show List.lookup g [(f,v)]=_
  by_cases h:g=f
  ·have hb:(g == f)=true:=beq_iff_eq.mpr h
   simp only [List.lookup,hb,if_pos h]
  ·have hb:(g == f)=false:=beq_eq_false_iff_ne.mpr h
   simp only [List.lookup,hb,if_neg h]
 | (k,x)::r=>by
  have ih:=abo f g v r
  rw [show Qn f v ((k,x)::r)=(if k=f then (k,v)::r else (k,x)::Qn f v r) from rfl]
  by_cases hk:k=f
  ·rw [if_pos hk]
   by_cases h:g=k
   ·have hb:(g == k)=true:=beq_iff_eq.mpr h
    simp only [List.lookup,hb,if_pos (h.trans hk)]
   ·have hb:(g == k)=false:=beq_eq_false_iff_ne.mpr h
    simp only [List.lookup,hb,if_neg (fun e:g=f=>h (e.trans hk.symm))]
  ·rw [if_neg hk]
   by_cases h:g=k
   ·have hb:(g == k)=true:=beq_iff_eq.mpr h
    simp only [List.lookup,hb,if_neg (fun e:g=f=>hk (h.symm.trans e))]
   ·have hb:(g == k)=false:=beq_eq_false_iff_ne.mpr h
    simp only [List.lookup,hb]
    exact ih
theorem aaM (f:Str) (v:V):∀ fs:List (Str × V),f ∈ (Qn f v fs).map (·.1)/\∀ g,g ∈ fs.map (·.1)->g ∈ (Qn f v fs).map (·.1)
 | []=>⟨by simp [Qn],fun g h=>by simp at h⟩
 | (k,x)::r=>by
  obtain ⟨i1,i2⟩:=aaM f v r
  rw [show Qn f v ((k,x)::r)=(if k=f then (k,v)::r else (k,x)::Qn f v r) from rfl]
  by_cases hk:k=f
  ·rw [if_pos hk]
   subst hk
   exact ⟨by simp,fun g h=>by simpa using h⟩
  ·rw [if_neg hk]
   refine ⟨?_,fun g h=>?_⟩
   ·rw [List.map_cons]
    exact List.mem_cons_of_mem _ i1
   ·rw [List.map_cons] at h ⊢
    rcases List.mem_cons.mp h with e | e
    ·exact List.mem_cons.mpr (.inl e)
    ·exact List.mem_cons_of_mem _ (i2 g e)
theorem abp (f:Str) (v:V):∀ fs:List (Str × V),(Qn f v fs).length<=fs.length+1
 | []=>by simp [Qn]
 | (k,x)::r=>by
  have ih:=abp f v r
  rw [show Qn f v ((k,x)::r)=(if k=f then (k,v)::r else (k,x)::Qn f v r) from rfl]
  by_cases hk:k=f
  ·rw [if_pos hk,List.length_cons,List.length_cons]; omega
  ·rw [if_neg hk,List.length_cons,List.length_cons]; omega
theorem QE.some_of {v:V}{o:Option Value} (r:QE (some v) o):∃ u,o=some u/\jW v u:=by
 cases o with
 | none=>exact (show False from r).elim
 | some u=>exact ⟨u,rfl,r⟩
theorem QE.none_of {o:Option Value} (r:QE none o):o=none:=by
 cases o with
 | none=>rfl
 | some u=>exact (show False from r).elim
theorem akb {v:V}{u:Value} (r:jW v u):PySem.W.handedIn u=true:=by
 cases v with
 | non=>cases (show u=Value.none from r); rfl
 | bl b=>cases (show u=Value.bool b from r); rfl
 | int i=>obtain ⟨t,e⟩:=(show ∃ t,u=Value.int i t from r); cases e; rfl
 | str x=>obtain ⟨t,e⟩:=(show ∃ t,u=Value.str x t from r); cases e; rfl
 | byt b=>obtain ⟨t,e⟩:=(show ∃ t,u=Value.bytes b t from r); cases e; rfl
 | flt b=>obtain ⟨t,e⟩:=(show ∃ t,u=Value.float b t from r); cases e; rfl
 | ref a=>cases (show u=Value.ref a from r); rfl
 | ty n=>cases (show u=Value.type n from r); rfl
section
variable {P:Program}{w:World}{H H':Hp}{h h':Heap}{a C dx:Addr}{fs fs':List (Str × V)}
theorem aeG (hok:HOk P w H h) (e:H a=some (.ins C dx fs)):∃ mA,ObjM h a dx C mA/\(∀ f,QE (fs.lookup f) (mA f))/\PySem.Within mA (fs.map (·.1))/\fs.length<=1000/\H dx=some (.own a):=by
 obtain ⟨d,z,ne,ob,mA,n,r,q⟩:=(show qK P w H h a (.ins C dx fs) from hok a _ e)
 exact ⟨mA,⟨ob,n,ne⟩,r,q,z,d⟩
end
structure Cls (K:Fg) (C:Addr):Prop where
 pg:PySem.W.plainGet K C Str.empty=true
 hd:PySem.W.hasDictIn K C=true
 po:PySem.W.plainOver K C=true
 sa:PySem.W.findIn K (.ref C) "__setattr__"=some (some (.builtin "object.__setattr__"))
theorem Cls.get {K:Fg}{C:Addr} (c:Cls K C) (f:Str):PySem.W.plainGet K C f=true:=c.pg
def ZM (K:Fg) (C:Addr) (f:Str):Prop:=PySem.W.findIn K (.ref C) f=some none
theorem ZM.taker {K:Fg}{C:Addr}{f:Str} (n:ZM K C f):PySem.W.takerIn K C f=some none:=by
 unfold PySem.W.takerIn
 rw [show PySem.W.findIn K (.ref C) f=some none from n]
 rfl
structure Con (K:Fg) (C:Addr) (f:Str) (v:V) (u:Value):Prop where
 at_:PySem.W.findIn K (.ref C) f=some (some u)
 rel:jW v u
 get:PySem.W.specialIn K u "__get__"=some none
 cp:PySem.W.copiedNames.contains f=false
structure Meth (K:Fg) (C:Addr) (m:Str) (f:Addr):Prop where
 at_:PySem.W.findIn K (.ref C) m=some (some (.ref f))
 fn:PySem.W.isFn K (.ref f)=true
 kp:PySem.W.keepIn K (.ref f)=true
section
variable {X:Cx}{Kp:List (Addr × Obj)}{σ:St}{H:Hp}{s:Shared}{a C dx:Addr}{fs:List (Str × V)}{f:Str}{v:V}{A:Around}{E:Value->SP0}
theorem ahE {b:Bool}{Q:Value->SP0} (I:Inv X Kp σ H s) (e:H a=some (.ins C dx fs)) (c:Cls X.K C) (n:ZM X.K C f) (l:fs.lookup f=some v)
  (h:∀ u s',Inv X Kp σ H s'->jW v u->Q u s'):wpAny (model X.prog X.w) A (getAttr (.ref a) f b) Q E s:=by
 obtain ⟨mA,O,r,_,_,_⟩:=aeG I.hok e
 obtain ⟨u,hu,ru⟩:=QE.some_of (v:=v) (o:=mA f) (by rw [←l]; exact r f)
 exact an8 I.kIn O (c.get f) c.hd n hu (akb ru) (h u _ (I.tok _) ru)
theorem ZN {m:Str}{g:Addr}{pl:Sem Bool}{Q:Value × List Value->SP0} (I:Inv X Kp σ H s) (e:H a=some (.ins C dx fs)) (c:Cls X.K C) (k:Meth X.K C m g) (l:fs.lookup m=none)
  (h:Q (.ref g,[.ref a]) s):wpAny (model X.prog X.w) A (getMethod (.ref a) m pl) Q E s:=by
 obtain ⟨mA,O,r,_,_,_⟩:=aeG I.hok e
 have hn:mA m=none:=QE.none_of (by rw [←l]; exact r m)
 exact alI I.kIn O (c.get m) k.at_ k.fn hn h
theorem ahF {y:V}{u:Value}{Q:Unit->SP0} (I:Inv X Kp σ H s) (e:H a=some (.ins C dx fs)) (c:Cls X.K C) (n:ZM X.K C f) (hl:fs.length<1000) (ry:jW y u)
  (h:∀ s',Inv X Kp σ (upd H a (.ins C dx (Qn f y fs))) s'->Q () s'):wpAny (model X.prog X.w) A (setAttr (.ref a) f u) Q E s:=by
 obtain ⟨mA,O,r,wi,_,ho⟩:=aeG I.hok e
 have hz:(fs.map (·.1)).length<=sizeLine:=by rw [List.length_map,sizeLine_eq]; omega
 refine an9 I.kIn O c.sa c.po n.taker c.hd wi hz fun h' O' sb=>h _ ?_
 have hd:∃ o,h'.get? dx=some o:=let ⟨o,_,_,e',_⟩:=O'.ns; ⟨o,e'⟩
 refine I.write (x:=a) (e:=dx) (by rw [e]; exact True.intro) (.inr ho) (fun b q hb z=>(sb.2 b hb).trans z) hd ?_
 refine ⟨by rw [jo O.ne]; exact ho,?_,O.ne,O'.obj,_,O'.ns,fun g=>?_,fun g hg=>?_⟩
 ·have:=abp f y fs; omega
 ·show QE ((Qn f y fs).lookup g) (if g=f then some u else mA g)
  rw [abo]
  by_cases q:g=f
  ·rw [if_pos q,if_pos q]; exact ry
  ·rw [if_neg q,if_neg q]; exact r g
 ·by_cases q:g=f
  ·rw [q]; exact (aaM f y fs).1
  ·refine (aaM f y fs).2 g (wi g fun z=>hg ?_)
   show (if g=f then some u else mA g)=none
   rw [if_neg q]; exact z
theorem Inv.made (I:Inv X Kp σ H s):Inv X Kp σ (upd (upd H s.heap.objs.size (.own (s.heap.objs.size+1))) (s.heap.objs.size+1) (.ins C s.heap.objs.size []))
  { s with heap:=(s.heap.push PySem.W.emptyDict).push (PySem.W.instObj C s.heap.objs.size) }:=by
 have e1:(s.heap.push PySem.W.emptyDict).get? s.heap.objs.size=some PySem.W.emptyDict:=Heap.get?_push_size s.heap rfl
 have e2:((s.heap.push PySem.W.emptyDict).push (PySem.W.instObj C s.heap.objs.size)).get? (s.heap.objs.size+1)=some (PySem.W.instObj C s.heap.objs.size):=by
  have:=Heap.get?_push_size (s.heap.push PySem.W.emptyDict) (o:=PySem.W.instObj C s.heap.objs.size) rfl
  rwa [Heap.size_push] at this
 have e3:(s.heap.push PySem.W.emptyDict).Ns s.heap.objs.size (fun _=>none):=⟨PySem.W.emptyDict,#[],_,e1,rfl,(fun e he=>absurd he (by simp)),fun _=>rfl⟩
 have I1:=I.laid (a:=s.heap.objs.size) (o:= .own (s.heap.objs.size+1)) (h':=s.heap.push PySem.W.emptyDict) (t':=s.toks) (fun b u q=>Heap.get?_push_of_some _ q) (Nat.le_refl _) ⟨_,e1⟩
 refine I1.laid (a:=s.heap.objs.size+1) (o:= .ins C s.heap.objs.size []) (t':=s.toks) (fun b u q=>Heap.get?_push_of_some _ q) (Nat.le_of_eq (Heap.size_push _ _)) ?_
 have ne:s.heap.objs.size ≠ s.heap.objs.size+1:=Nat.ne_of_lt (Nat.lt_succ_self _)
 refine ⟨by rw [jo ne,ji],Nat.zero_le _,ne,e2,fun _=>none,(Heap.Ns1.of_empty e3).at fun o q=>Heap.get?_push_of_some _ q,fun _=>True.intro,fun y hy=>absurd rfl hy⟩
theorem aoa {prog:Program}{w:World}{env:Env}{e:Expr}{f:Str}{pos:Pos}{s:Shared}{Q:Value->SP0} (hb:attributeBase e f env (eval e env)=eval e env)
  (h:wpAny (model prog w) A (eval e env) (fun o s₁=>wpAny (model prog w) A (getAttr o f true) Q E s₁) E s):wpAny (model prog w) A (eval (.Attribute e f pos) env) Q E s:=
 Attribute_any_ h (by rw [arm_eval_Attribute,hb])
end
def ar8 (K:Fg) (ta:TE) (f:Str):TE:=fun σ H Q=>ta σ H fun x H1=>∃ a C dx fs v,x= .ref a/\H1 a=some (.ins C dx fs)/\Cls K C/\ZM K C f/\fs.lookup f=some v/\Q v H1
def att (K:Fg) (ta tv:TE) (f:Str):TS:=fun D σ H=>tv σ H fun y H1=>ta σ H1 fun x H2=>∃ a C dx fs,x= .ref a/\H2 a=some (.ins C dx fs)/\Cls K C/\ZM K C f/\fs.length<1000/\
 D.nx σ (upd H2 a (.ins C dx (Qn f y fs)))
section
variable {X:Cx}{o e value:Expr}{f:Str}{pos pos' tpos:Pos}{ta tv:TE}
theorem ahG (he:PE X e ta) (hb:attributeBase e f X.env (eval e X.env)=eval e X.env):PE X (.Attribute e f pos) (ar8 X.K ta f):=by
 intro Kp s σ H Q I h
 refine aoa hb (thn (he Kp s σ H _ I h) fun u s1 ⟨x,H1,I1,rx,a,C,dx,fs,v,ex,ea,c,n,l,q⟩=>?_)
 subst ex
 obtain rfl:u=Value.ref a:=rx
 exact ahE I1 ea c n l fun u' s2 I2 ru=>⟨v,H1,I2,ru,q⟩
theorem aqC (ha:PE X o ta) (hv:PE X value tv) (hs:swapsWith value (some (.Attribute o f pos')) pos.line X.env=pure false):PS X (.Assign [.Attribute o f pos'] value pos) (att X.K ta tv f):=by
 intro Kp s σ H D I h
 refine plainObj_wpAny_Assign_Attribute (thn (hv Kp s σ H _ I h) fun u s1 ⟨y,H1,I1,ry,q⟩=>thn (ha Kp s1 σ H1 _ I1 q) fun ov s2 ⟨x,H2,I2,rx,a,C,dx,fs,ex,ea,c,n,l,q2⟩=>?_) hs
 subst ex
 obtain rfl:ov=Value.ref a:=rx
 exact ahF I2 ea c n l ry fun s3 I3=>⟨σ,_,I3,q2⟩
end
section
variable {X:Cx}{Kp:List (Addr × Obj)}{σ:St}{H:Hp}{s:Shared}{A:Around}{E:Value->SP0}{Q:Value->SP0}{c:Value}{b:Bool}
inductive TyOf (K:Fg) (H:Hp):V->Value->Prop where
 | non:TyOf K H .non (.type "NoneType")
 | bl (x:Bool):TyOf K H (.bl x) (.type "bool")
 | int (i:Int):TyOf K H (.int i) (.type "int")
 | str (x:Str):TyOf K H (.str x) (.type "str")
 | flt (x:UInt64):TyOf K H (.flt x) (.type "float")
 | lst {a:Addr} {xs:List V} (e:H a=some (.lst xs)):TyOf K H (.ref a) (.type "list")
 | frz {a:Addr} {o:Obj} {xs:List V} (e:H a=some (.frz o (.lst xs))):TyOf K H (.ref a) (.type "list")
 | tup {a:Addr} {xs:List V} (e:H a=some (.tup xs)):TyOf K H (.ref a) (.type "tuple")
 | dK {a:Addr} {kvs:List (Key × V)} (e:H a=some (.dK kvs)):TyOf K H (.ref a) (.type "dict")
 | dT {a:Addr} {kvs:List (List Key × V)} (e:H a=some (.dT kvs)):TyOf K H (.ref a) (.type "dict")
 | ins {a C dx:Addr} {fs:List (Str × V)} (e:H a=some (.ins C dx fs)) (cl:Cls K C) (ha:PySem.W.findIn K (.ref C) "__class__"=some (some (.builtin "object.__class__")))
   (hn:PySem.W.specialIn K (.builtin "object.__class__") "__get__"=some (some (.builtin "getset_descriptor.__get__"))) (htk:PySem.W.takesIn K (.builtin "object.__class__")=some true)
   (hm:PySem.W.mroIn K C (.type "object")=some true):TyOf K H (.ref a) (.ref C)
end
structure Room (k:Nat) (A:Around):Prop where
 hd:A.handled=none
 dp:A.depth+3*k+5<recursionLimit
 un:A.units+16*k+200<cLine
theorem Room.mono {j k:Nat}{A:Around} (r:Room k A) (h:j<=k):Room j A:=⟨r.hd,by have:=r.dp; omega,by have:=r.un; omega⟩
theorem Room.deeper {k:Nat}{A:Around} (r:Room (k+1) A) (env:Env):Room k (A.deeper env):=
 ⟨r.hd,by have:=r.dp; show A.depth+1+3*k+5<_; omega,by have:=r.un; show A.units+3+16*k+200<_; omega⟩
theorem Room.in1 {k:Nat}{A:Around} (r:Room (k+1) A):Room k A.in1:=
 ⟨r.hd,by have:=r.dp; show A.depth+3*k+5<_; omega,by have:=r.un; show A.units+1+16*k+200<_; omega⟩
theorem ahH {A:Around}{C:Addr}{us:List Value}{kw:List (Str × Value)}:(A.under (.builtin "type.__call__" ⟨.ref C::us,kw⟩)).depth=A.depth+1:=by
 first | rfl | simp [Around.under,Code.weight,Code.isCreation,Code.isGuard,Code.isCaller,Code.frames,Code.isFrame,guardIds]
theorem ahI {A:Around}{C:Addr}{us:List Value}{kw:List (Str × Value)}:(A.under (.builtin "type.__call__" ⟨.ref C::us,kw⟩)).units=A.units+1:=by
 first | rfl | simp [Around.under,Code.cUnits,Code.frames,Code.isFrame]
theorem Room.make {k:Nat}{A:Around} (r:Room (k+1) A) (C:Addr) (us:List Value) (kw:List (Str × Value)):Room k (A.under (.builtin "type.__call__" ⟨.ref C::us,kw⟩)):=
 ⟨r.hd,by have:=r.dp; rw [ahH]; omega,by have:=r.un; rw [ahI]; omega⟩
theorem Room.depth {k:Nat}{A:Around} (r:Room k A):A.depth<recursionLimit:=by have:=r.dp; omega
theorem Room.units {k:Nat}{A:Around} (r:Room k A):A.units+64<cLine:=by have:=r.un; omega
def aob:TA:=fun _ H Q=>Q [] H
def agm (ta:TE) (tr:TA):TA:=fun σ H Q=>ta σ H fun x H1=>tr σ H1 fun xs H2=>Q (x::xs) H2
section
variable {X:Cx}{e:Expr}{es:List Expr}{te:TE}{t:TA}{pos:Pos}
theorem adp {α:Type}:∀ (us:List α),us.length=1->∃ a,us=[a]
 | [a],_=>⟨a,rfl⟩
theorem aaN {α:Type} (us:List α) (h:us.length=2):∃ a b,us=[a,b]:=by
 cases us with
 | nil=>cases h
 | cons a r=>obtain ⟨b,rfl⟩:=adp r (Nat.succ.inj h); exact ⟨a,b,rfl⟩
theorem ZO {α:Type} (us:List α) (h:us.length=3):∃ a b c,us=[a,b,c]:=by
 cases us with
 | nil=>cases h
 | cons a r=>obtain ⟨b,c,rfl⟩:=aaN r (Nat.succ.inj h); exact ⟨a,b,c,rfl⟩
theorem aqD {α:Type} (us:List α) (h:us.length=4):∃ a b c d,us=[a,b,c,d]:=by
 cases us with
 | nil=>cases h
 | cons a r=>obtain ⟨b,c,d,rfl⟩:=ZO r (Nat.succ.inj h); exact ⟨a,b,c,d,rfl⟩
theorem zz:PA X [] aob:=fun _ _ _ _ H Q I h=>Calls.spliced_nil ⟨[],H,I,.nil,h⟩
theorem qG (ha:PE X e te) (hr:PA X es t) (hs:starEach (e::es) X.env=(false,eval e X.env)::starEach es X.env:=by rfl):PA X (e::es) (agm te t):=by
 intro pos Kp s σ H Q I h
 rw [hs]
 show wpAny _ _ (spliced ((false,eval e X.env)::backTo pos (starEach es X.env))) _ _ s
 refine Calls.spliced_cons (thn (ha Kp s σ H _ I h) fun u s1 ⟨x,H1,I1,r1,q1⟩=>?_)
 exact thn (hr pos Kp s1 σ H1 _ I1 q1) fun us s2 ⟨xs,H2,I2,r2,q2⟩=>⟨x::xs,H2,I2,.cons r1 r2,q2⟩
def atu (t:TA):TE:=fun σ H Q=>t σ H fun xs H1=>xs.length<=sizeLine/\∀ p,H1 p=none->Q (.ref p) (upd H1 p (.tup xs))
def atv (t:TA):TE:=fun σ H Q=>t σ H fun xs H1=>xs.length<=sizeLine/\∀ p,H1 p=none->Q (.ref p) (upd H1 p (.lst xs))
theorem ahJ {x1} (h:PA X es t):PE X (.Tuple es x1 pos) (atu t):=by
 intro Kp s σ H Q I hq
 refine wpAny_Tuple_spliced (thn (h pos Kp s σ H _ I hq) fun us s1 ⟨xs,H1,I1,r,z,q⟩=>⟨by rw [←r.length]; exact z,?_⟩)
 have hf:H1 s1.heap.objs.size=none:=I1.hok.fresh (Nat.le_refl _)
 refine ⟨.ref s1.heap.objs.size,upd H1 s1.heap.objs.size (.tup xs),I1.laid (t':=s1.toks) (fun b u e=>Heap.get?_push_of_some _ e) (Nat.le_refl _) ?_,rfl,q _ hf⟩
 exact ⟨z,us,r,⟨_,Heap.get?_push_size _ rfl,rfl,_,rfl⟩⟩
theorem aeH (h:PA X es t):PE X (.List es pos) (atv t):=by
 intro Kp s σ H Q I hq
 refine wpAny_List_spliced (thn (h pos Kp s σ H _ I hq) fun us s1 ⟨xs,H1,I1,r,z,q⟩=>⟨by rw [←r.length]; exact z,?_⟩)
 have hf:H1 s1.heap.objs.size=none:=I1.hok.fresh (Nat.le_refl _)
 refine ⟨.ref s1.heap.objs.size,upd H1 s1.heap.objs.size (.lst xs),I1.laid (t':=s1.toks) (fun b u e=>Heap.get?_push_of_some _ e) (Nat.le_refl _) ?_,rfl,q _ hf⟩
 exact ⟨z,us,0,r,Heap.get?_push_size _ rfl⟩
end
abbrev Sp:=List V->Hp->VK->XK->Prop
abbrev CXT:=List Env->Hp->Shared->XK->Value->SP0
structure Env0 (P:Program) (w:World) (K:Fg) (mg:SV) (base:Heap) (A:Around) (Ko:List Env) (s:Shared) (H:Hp):Prop where
 frames:A.frames=some Ko
 mod:Mod K mg base
 bs:∀ b o,base.get? b=some o->s.heap.get? b=some o/\H b=none
 bsz:base.objs.size<=s.heap.objs.size
 funs:s.heap.FunFrames base Ko
 frf:∀ b ∈ frs Ko,H b=none
 hok:HOk P w H s.heap
 bare:AllBare s.gens
def CE (Ko:List Env) (P:Program) (w:World) (H:Hp) (s:Shared) (Q:VK) (u:Value) (s':Shared):Prop:=
 ∃ v H',s'.os=s.os/\AllBare s'.gens/\Un (frs Ko) [] H H' s.heap s'.heap/\HOk P w H' s'.heap/\jW v u/\Q v H'
def CR (CX:CXT) (Ko:List Env) (P:Program) (w:World) (H:Hp) (s:Shared) (Q:VK) (E:XK) (r:Result) (s':Shared):Prop:=
 match r with
 | .ok (.ret u)=>CE Ko P w H s Q u s'
 | .ok _=>False
 | .error e=>CX Ko H s E e s'
structure FnOk (P:Program) (w:World) (K:Fg) (mg:SV) (base:Heap) (CX:CXT) (k:Nat) (f:Addr) (fd:FuncData) (ps:List Str) (sp:Sp):Prop where
 len:∀ vs H Q E,sp vs H Q E->vs.length=ps.length
 run:∀ (A:Around) (Ko:List Env) (s:Shared) (H:Hp) (args:Args) (us:List Value) (vs:List V) (Q:VK) (E:XK),Room k A->Env0 P w K mg base A Ko s H->BindsTo s fd args (ps.zip us)->jG vs us->sp vs H Q E->
  codeAny (model P w) A (.call (.ref f) args) (CR CX Ko P w H s Q E) s
theorem FnOk.mono {P:Program}{w:World}{K:Fg}{mg:SV}{base:Heap}{CX:CXT}{j k:Nat}{f:Addr}{fd:FuncData}{ps:List Str}{sp:Sp} (F:FnOk P w K mg base CX j f fd ps sp) (h:j<=k):
  FnOk P w K mg base CX k f fd ps sp:=⟨F.len,fun A Ko s H args us vs Q E hr=>F.run A Ko s H args us vs Q E (hr.mono h)⟩
theorem FnOk.imp {P:Program}{w:World}{K:Fg}{mg:SV}{base:Heap}{CX:CXT}{k:Nat}{f:Addr}{fd:FuncData}{ps:List Str}{sp sp':Sp} (F:FnOk P w K mg base CX k f fd ps sp)
  (h:∀ vs H Q E,sp' vs H Q E->sp vs H Q E):FnOk P w K mg base CX k f fd ps sp':=
 ⟨fun vs H Q E q=>F.len vs H Q E (h _ _ _ _ q),fun A Ko s H args us vs Q E hr he hb hv hs=>F.run A Ko s H args us vs Q E hr he hb hv (h _ _ _ _ hs)⟩
theorem Env0.make {P:Program}{w:World}{K:Fg}{mg:SV}{base:Heap}{A:Around}{Ko:List Env}{s:Shared}{H:Hp} (e:Env0 P w K mg base A Ko s H) (C:Addr) (us:List Value) (kw:List (Str × Value)):
  Env0 P w K mg base (A.under (.builtin "type.__call__" ⟨.ref C::us,kw⟩)) Ko s H:=⟨by first | exact e.frames | (simpa [Around.under,Code.envs,Code.isFrame,pushEnvs] using e.frames),e.mod,e.bs,e.bsz,e.funs,e.frf,e.hok,e.bare⟩
theorem Env0.in1 {P:Program}{w:World}{K:Fg}{mg:SV}{base:Heap}{A:Around}{Ko:List Env}{s:Shared}{H:Hp} (e:Env0 P w K mg base A Ko s H):
  Env0 P w K mg base A.in1 Ko s H:=⟨e.frames,e.mod,e.bs,e.bsz,e.funs,e.frf,e.hok,e.bare⟩
section
variable {X:Cx}{Kp:List (Addr × Obj)}{σ:St}{H:Hp}{s s':Shared}
theorem Inv.env0 (I:Inv X Kp σ H s):Env0 X.prog X.w X.K X.mg X.base X.A X.stack s H:=
 ⟨I.ok.frames,I.ok.mod,I.bs,Nat.le_trans I.ok.bsz I.sz,I.stack,I.stkFree,I.hok,I.bare⟩
theorem Inv.after {Q:VK}{u:Value} (I:Inv X Kp σ H s) (h:CE X.stack X.prog X.w H s Q u s'):EP X Kp σ Q u s':=by
 obtain ⟨v,H',os,bare,un,hok,r,q⟩:=h
 obtain ⟨hh,g,d,t,os'⟩:=s'
 obtain rfl:os'=s.os:=os
 exact ⟨v,H',I.call (h':=hh) (g':=g) (d':=d) (t':=t) (ch:=[]) un hok bare (fun b z=>absurd z (by simp)),r,q⟩
end
def apW (sp:Sp) (dvs:List V) (E:XK) (t:TA):TE:=fun σ H Q=>t σ H fun vs H1=>sp (vs++dvs) H1 Q E
def zW (K:Fg) (fd:FuncData) (ps:List Str) (ds:List Value):Prop:=
 ∀ (s:Shared) (us:List Value),K.In s.heap->(us++ds).length=ps.length->BindsTo s fd ⟨us,[]⟩ (ps.zip (us++ds))
theorem zW.all {K:Fg}{fd:FuncData}{ps:List Str} (h:∀ us:List Value,us.length=ps.length->bindArgs fd ⟨us,[]⟩=pure (ps.zip us)):zW K fd ps []:=fun s us _ hl=>by
 rw [List.append_nil] at hl ⊢
 exact .of_eq (h us hl)
def aeI (CX:CXT) (X:Cx) (E:XK):Prop:=∀ (Kp:List (Addr × Obj)) (σ:St) (H:Hp) (s:Shared) (e:Value) (s':Shared),Inv X Kp σ H s->CX X.stack H s E e s'->X.xe e s'
section
variable {X:Cx}{CX:CXT}{k:Nat}{f C:Addr}{fd:FuncData}{ps:List Str}{sp:Sp}{dvs:List V}{ds:List Value}{E:XK}{x m:Str}{p pos apos:Pos}{e o:Expr}{es:List Expr}{ta:TE}{t:TA}
theorem aeJ {Kp:List (Addr × Obj)}{σ:St}{H:Hp}{s:Shared}{Q:VK}{us:List Value}{vs:List V} (F:FnOk X.prog X.w X.K X.mg X.base CX k f fd ps sp) (hr:Room k X.A) (hb:zW X.K fd ps ds) (hd:jG dvs ds) (hx:aeI CX X E)
  (I:Inv X Kp σ H s) (r:jG vs us) (h:sp (vs++dvs) H Q E):wpAny (model X.prog X.w) X.A (call (.ref f) us) (EP X Kp σ Q) X.xe s:=by
 have r2:jG (vs++dvs) (us++ds):=r.append hd
 have hl:(us++ds).length=ps.length:=by rw [←r2.length]; exact F.len _ _ _ _ h
 refine wpAny_call (codeAny_mono (F.run X.A X.stack s H ⟨us,[]⟩ (us++ds) (vs++dvs) Q E hr I.env0 (hb s us I.kIn hl) r2 h) fun r s' hq=>?_)
 cases r with
 | error e=>exact hx Kp σ H s e s' I hq
 | ok fl=>
  cases fl with
  | ret u=>exact I.after hq
  | next=>exact False.elim hq
  | brk=>exact False.elim hq
  | cont=>exact False.elim hq
theorem aeK (F:FnOk X.prog X.w X.K X.mg X.base CX k f fd ps sp) (hr:Room k X.A) (hg:Gl X x) (hm:X.mg x=some (.ref f)) (hk:PySem.W.keepIn X.K (.ref f)=true) (hb:zW X.K fd ps ds) (hd:jG dvs ds) (hx:aeI CX X E)
  (ha:PA X (e::es) t) (hdb:(x == ("__debug__":Str))=false:=by decide) (he:starEach (e::es) X.env=(false,eval e X.env)::starEach es X.env:=by rfl) (hpl:(backTo pos (starEach es X.env)).any (·.1)=false:=by rfl):
  PE X (.Call (.Name x p) (e::es) [] pos) (apW sp dvs E t):=by
 intro Kp s σ H Q I h
 refine wpAny_Call_Name_kw (Ql I hg hm ?_ hdb)
 refine PySem.W.callWith_K (h₀:=X.base) I.ok.mod.kin hk (thn (ha pos Kp s σ H _ I h) fun us s1 ⟨vs,H1,I1,r,q⟩=>⟨I1.kIn,?_⟩) he hpl
 exact aeJ F hr hb hd hx I1 r q
structure Mk (K:Fg) (C f:Addr):Prop where
 makes:PySem.W.makesIn K C=true
 init:PySem.W.findIn K (.ref C) "__init__"=some (some (.ref f))
 fn:PySem.W.isFn K (.ref f)=true
 kp:PySem.W.keepIn K (.ref C)=true
end
def PK (X:Cx) (kws:List Keyword) (t:TA):Prop:=
 ∀ (pos:Pos) (Kp:List (Addr × Obj)) (s:Shared) (σ:St) (H:Hp) (Q:List V->Hp->Prop),Inv X Kp σ H s->t σ H Q->wpAny (model X.prog X.w) X.A (evalAll ((backToKw pos (keywordEach kws X.env)).map (·.2))) (AP X Kp σ Q) X.xe s
section
variable {X:Cx}{CX:CXT}{k:Nat}{f C:Addr}{fd:FuncData}{ps ks:List Str}{sp:Sp}{E:XK}{x m:Str}{p pos apos kpos:Pos}{e o:Expr}{es:List Expr}{kws:List Keyword}{te ta:TE}{t tk:TA}{nm:Option Str}
theorem aqE:PK X [] aob:=fun _ _ _ _ H Q I h=>wpAny_evalAll_nil ⟨[],H,I,.nil,h⟩
theorem aiX (ha:PE X e te) (hr:PK X kws t):PK X (⟨nm,e,kpos⟩::kws) (agm te t):=by
 intro pos Kp s σ H Q I h
 show wpAny _ _ (evalAll ((do let v ←eval e X.env; standAt pos; pure v)::(backToKw pos (keywordEach kws X.env)).map (·.2))) _ _ s
 refine wpAny_evalAll_cons (wpAny_bind (thn (ha Kp s σ H _ I h) fun u s1 ⟨x,H1,I1,r1,q1⟩=>wpAny_bind (wpAny_standAt (wpAny_pure ?_))))
 exact thn (hr pos Kp s1 σ H1 _ I1 q1) fun us s2 ⟨xs,H2,I2,r2,q2⟩=>⟨x::xs,H2,I2,.cons r1 r2,q2⟩
structure KBinds (K:Fg) (fd:FuncData) (ps ks:List Str) (g:List Value->List Value->List Value) (gV:List V->List V->List V):Prop where
 to:∀ (s:Shared) (us ws:List Value),K.In s.heap->(g us ws).length=ps.length->BindsTo s fd ⟨us,ks.zip ws⟩ (ps.zip (g us ws))
 rel:∀ {vs:List V} {us:List Value} {zs:List V} {ws:List Value},jG vs us->jG zs ws->jG (gV vs zs) (g us ws)
variable {g:List Value->List Value->List Value}{gV:List V->List V->List V}
end
structure FnScope (N P:List Str) (sc:Scope):Prop where
 kind:sc.kind= .function
 co:sc.isCoroutine=false
 gen:sc.isGenerator=false
 nd:N.Nodup
 pre:N.take P.length=P
 par:∀ x ∈ P,sc.names.lookup x=some .local ∨ sc.names.lookup x=some .cell
 nofree:∀ y ∈ sc.names,y.2 ≠ .free
theorem adG {kindOf:Str->Option NameKind}{x:Str}:∀ {binds:List (Str × Value)}{m:SV},(∀ v,(x,v) ∉ binds)->bindL kindOf binds m x=m x
 | [],_,_=>rfl
 | (n,v)::r,m,h=>by
  unfold bindL
  rw [adG fun w hw=>h w (List.mem_cons_of_mem _ hw)]
  split
  ·have:x ≠ n:=by rintro rfl; exact h v List.mem_cons_self
   simp [this]
  ·rfl
theorem adH {kindOf:Str->Option NameKind}{x:Str}:∀ {binds:List (Str × Value)}{m:SV},(∀ v,(x,v) ∉ binds)->bindC kindOf binds m x=m x
 | [],_,_=>rfl
 | (n,v)::r,m,h=>by
  unfold bindC
  rw [adH fun w hw=>h w (List.mem_cons_of_mem _ hw)]
  split
  ·rfl
  ·have:x ≠ n:=by rintro rfl; exact h v List.mem_cons_self
   simp [this]
theorem adI {kindOf:Str->Option NameKind}{x:Str}{v:Value}:∀ {P:List Str}{vs:List Value}{i:Nat}{m:SV},P.Nodup->P[i]?=some x->vs[i]?=some v->kindOf x=some .local->
  bindL kindOf (P.zip vs) m x=some v
 | [],_,_,_,_,h,_,_=>by simp at h
 | _::_,[],_,_,_,_,h,_=>by simp at h
 | p::P,w::vs,0,m,nd,h1,h2,hk=>by
  simp at h1 h2; subst h1; subst h2
  show bindL kindOf ((p,w)::P.zip vs) m p=_
  unfold bindL
  rw [adG fun v hv=>(List.nodup_cons.mp nd).1 (List.of_mem_zip hv).1,if_pos hk]
  simp
 | p::P,w::vs,i+1,m,nd,h1,h2,hk=>by
  show bindL kindOf ((p,w)::P.zip vs) m x=_
  unfold bindL
  exact adI (i:=i) (List.nodup_cons.mp nd).2 (by simpa using h1) (by simpa using h2) hk
theorem adJ {kindOf:Str->Option NameKind}{x:Str}{v:Value}:∀ {P:List Str}{vs:List Value}{i:Nat}{m:SV},P.Nodup->P[i]?=some x->vs[i]?=some v->kindOf x ≠ some .local->
  bindC kindOf (P.zip vs) m x=some v
 | [],_,_,_,_,h,_,_=>by simp at h
 | _::_,[],_,_,_,_,h,_=>by simp at h
 | p::P,w::vs,0,m,nd,h1,h2,hk=>by
  simp at h1 h2; subst h1; subst h2
  show bindC kindOf ((p,w)::P.zip vs) m p=_
  unfold bindC
  rw [adH fun v hv=>(List.nodup_cons.mp nd).1 (List.of_mem_zip hv).1,if_neg hk]
  simp
 | p::P,w::vs,i+1,m,nd,h1,h2,hk=>by
  show bindC kindOf ((p,w)::P.zip vs) m x=_
  unfold bindC
  exact adJ (i:=i) (List.nodup_cons.mp nd).2 (by simpa using h1) (by simpa using h2) hk
def Jj (N:List Str) (vs:List V):St:=vs.map some++List.replicate (N.length - vs.length) none
def zX (CX:CXT) (P:Program) (w:World) (K:Fg) (mg:SV) (base:Heap) (N:List Str) (qual:Str) (scope:Scope) (f:Addr) (cd:Value) (A:Around) (Ko:List Env) (s:Shared) (H:Hp) (E:XK):Cx where
 prog:=P
 w:=w
 K:=K
 mg:=mg
 base:=base
 A:=A.deeper (envOfC qual scope s.heap.objs.size f cd)
 N:=N
 s₀:=s
 H₀:=H
 env:=envOfC qual scope s.heap.objs.size f cd
 Ko:=Ko
 stack:=envOfC qual scope s.heap.objs.size f cd::Ko
 ex:=[]
 calm:=true
 fn:=fun _=>true
 pn:=[]
 xe:=fun e s'=>wpAny (model P w) (A.deeper (envOfC qual scope s.heap.objs.size f cd)) (leaving (envOfC qual scope s.heap.objs.size f cd) e) (fun _ s''=>CX Ko H s E e s'') (fun e' s''=>CX Ko H s E e' s'') s'
theorem agn {sc:Scope}{n:Nat}{x:Str} (h:sc.names.lookup x=some .cell):∃ c,(cellsFrom n sc.names []).lookup x=some c:=by
 have q:=PySem.W.cellsFrom_some sc.names n [] (.inl h)
 exact Option.isSome_iff_exists.mp q
theorem adK {CX:CXT}{P:Program}{w:World}{K:Fg}{mg:SV}{base:Heap}{N ps:List Str}{qual:Str}{scope:Scope}{f:Addr}{cd:Value}{A:Around}{Ko:List Env}{s s1:Shared}{H:Hp}{E:XK}{us:List Value}{vs:List V}
  (S:FnScope N ps scope) (hd:A.handled=none) (e0:Env0 P w K mg base A Ko s H) (hl:vs.length=ps.length) (r:jG vs us)
  (x:InCallC s s.heap.objs.size (bindL (envOfC qual scope s.heap.objs.size f cd).kindOf (ps.zip us) fun _=>none) (cellsFrom (s.heap.objs.size+1) scope.names []) (bindC (envOfC qual scope s.heap.objs.size f cd).kindOf (ps.zip us) fun _=>none) s1):
  Inv (zX CX P w K mg base N qual scope f cd A Ko s H E) [] (Jj N vs) H s1:=by
 have hpl:ps.length<=N.length:=by have:=congrArg List.length S.pre; rw [List.length_take] at this; omega
 obtain ⟨h1,tk,rfl,hk⟩:=x.done
 have noA:∀ b:Addr,b ∉ (zX CX P w K mg base N qual scope f cd A Ko s H E).ex:=fun b z=>absurd (show b ∈ ([]:List Addr) from z) (by simp)
 refine ⟨⟨e0.mod,S.kind,rfl,rfl,Nat.le_refl _,fun y z c h1 h2=>?_,fun y hy=>?_,fun y c _ h=>?_,fun _=>hd,Around.frames_deeper e0.frames,.inr ⟨rfl,rfl⟩,fun b z=>absurd z (noA b),e0.bs,e0.bsz,fun b _ _=>noA b,fun b z=>absurd z (noA b),e0.funs,e0.frf⟩,
  rfl,e0.bare,Un.kept hk,⟨_,x.toInCall.ns,fun i y v h1 h2 h3=>?_⟩,fun y c h=>⟨_,x.cell y c h⟩,e0.hok.fresh (Nat.le_refl _),fun y c h=>?_,fun p hp=>absurd (show p ∈ ([]:List (Addr × Obj)) from hp) (by simp),e0.hok.kept hk,?_⟩
 ·exact name_of_addr x.apart (PySem.mem_of_lookup h1) (PySem.mem_of_lookup h2)
 ·have hy:scope.names.lookup y=some .cell ∨ scope.names.lookup y=some .free:=hy
  rcases hy with hy | hy
  ·exact agn hy
  ·exact absurd rfl (S.nofree _ (PySem.mem_of_lookup hy))
 ·exact Nat.le_of_lt (x.above y c (PySem.mem_of_lookup h))
 ·have hi:i<vs.length:=by
   unfold Jj at h2
   by_cases hi:i<vs.length
   ·exact hi
   ·rw [List.getElem?_append_right (by simpa using hi)] at h2
    rw [List.getElem?_replicate] at h2
    split at h2 <;> cases h2
  have ha:vs[i]?=some v:=by
   unfold Jj at h2
   rw [List.getElem?_append_left (by simpa using hi),List.getElem?_map] at h2
   cases e:vs[i]? with
   | none=>rw [e] at h2; cases h2
   | some a=>rw [e] at h2; cases h2; rfl
  obtain ⟨u,hu,rv⟩:=r.get ha
  have hp:ps[i]?=some y:=by
   rw [←S.pre,List.getElem?_take_of_lt (by omega)]; exact h1
  have ndP:ps.Nodup:=by rw [←S.pre]; exact S.nd.sublist (List.take_sublist _ _)
  refine ⟨u,rv,?_⟩
  rcases S.par y (List.mem_of_getElem? hp) with k | k
  ·exact .inl ⟨k,adI ndP hp hu k⟩
  ·obtain ⟨c,e⟩:=agn (n:=s.heap.objs.size+1) k
   refine .inr ⟨.inl k,c,e,?_⟩
   have q:=x.cell y c e
   rw [adJ ndP hp hu (by show scope.names.lookup y ≠ _; rw [k]; decide)] at q
   exact q
 ·exact e0.hok.fresh (Nat.le_of_lt (x.above y c (PySem.mem_of_lookup h)))
 ·unfold Jj
  show _=N.length
  rw [List.length_append,List.length_map,List.length_replicate]
  omega
theorem ar9 {CX:CXT}{P:Program}{w:World}{K:Fg}{mg:SV}{base:Heap}{k:Nat}{f:Addr}{name qual:Str}{params:Arguments}{body:List Stmt}{scope:Scope}{dV kV doc pm Kc ct oc:Value}{an od:Option Addr}
  {osl:Array (Option Value)} {N ps:List Str} {sp:Sp} (lk:K.lookup f=some ⟨oc,od,.func (PySem.W.fnOf name qual params body scope dV kV doc pm an Kc ct),osl⟩) (hcd:PySem.W.codeIn K Kc qual=true) (S:FnScope N ps scope)
  (len:∀ vs H Q E,sp vs H Q E->vs.length=ps.length)
  (hbody:∀ (A:Around) (Ko:List Env) (s:Shared) (H:Hp) (vs:List V) (Q:VK) (E:XK),Room k (A.deeper (envOfC qual scope s.heap.objs.size f Kc))->sp vs H Q E->
   ∃ t,PSs (zX CX P w K mg base N qual scope f Kc A Ko s H E) body t/\t { nx:=fun _ H'=>Q .non H',rt:=Q } (Jj N vs) H):
  FnOk P w K mg base CX (k+1) f (PySem.W.fnOf name qual params body scope dV kV doc pm an Kc ct) ps sp:=by
 refine ⟨len,fun A Ko s H args us vs Q E hr e0 hb r hsp=>?_⟩
 have hl:=len _ _ _ _ hsp
 have KX:K.In s.heap:=e0.mod.kin.keeps fun b o e=>(e0.bs b o e).1
 have lim:s.heap.NoLimit:=e0.mod.nolimit.keeps fun b o e=>(e0.bs b o e).1
 have hkind:∀ y ∈ ps.zip us,scope.names.lookup y.1=some .local ∨ (scope.names.lookup y.1=some .cell/\((cellsFrom (s.heap.objs.size+1) scope.names []).lookup y.1).isSome=true):=fun ⟨n,v⟩ hy=>by
  rcases S.par n (List.of_mem_zip hy).1 with q | q
  ·exact .inl q
  ·exact .inr ⟨q,PySem.W.cellsFrom_some _ _ _ (.inl q)⟩
 refine codeAny_call_function hr.depth (KX _ _ lk) rfl S.co S.gen rfl (PySem.W.codeRec_of KX hcd) (hb _ _ _ _ ?_)
 refine wpAny_newFunctionEnv_cells S.kind hkind fun env he s1 x=>?_
 subst he
 refine ⟨lim.keeps x.toInCall.keep,codeAny_func ?_⟩
 obtain ⟨t,ht,hq⟩:=hbody A Ko s H vs Q E (hr.deeper _) hsp
 have I:Inv (zX CX P w K mg base N qual scope f Kc A Ko s H E) [] (Jj N vs) H s1:=adK S hr.hd e0 hl r x
 refine wpAny_mono (ht [] s1 (Jj N vs) H _ I hq) (fun fl s' hs=>?_) fun e s' hs=>hs
 have fin:∀ {σ':St} {H':Hp} {v:V} {u:Value},Inv (zX CX P w K mg base N qual scope f Kc A Ko s H E) [] σ' H' s'->jW v u->Q v H'->CE Ko P w H s Q u s':=
  fun {σ' H' v u} J rv q=>⟨v,H',J.os,J.bare,J.base,J.hok,rv,q⟩
 cases fl with
 | ret u=>
  obtain ⟨v,σ',H',J,rv,q⟩:=hs
  exact fin J rv q
 | next=>
  obtain ⟨σ',H',J,q⟩:=hs
  exact fin (v:=V.non) (u:=Value.none) J rfl q
 | brk=>
  obtain ⟨_,_,_,q⟩:=hs
  exact False.elim q
 | cont=>
  obtain ⟨_,_,_,q⟩:=hs
  exact False.elim q
section
variable {X:Cx}{x:Str}{p pos:Pos}{e:Expr}{es:List Expr}{t:TA}{id T:String}{r:List V->Hp->VK->Prop}
def tCB (r:List V->Hp->VK->Prop) (t:TA):TE:=fun σ H Q=>t σ H fun vs H1=>r vs H1 Q
theorem Z0 (hc:zV X (.builtin id) r) (hg:Gl X x) (hm:X.mg x=none) (hv:bootBuiltins x=some (.builtin id)) (ha:PA X (e::es) t) (hn:x ≠ "__name__":=by decide) (hdb:(x == ("__debug__":Str))=false:=by decide)
  (he:starEach (e::es) X.env=(false,eval e X.env)::starEach es X.env:=by rfl) (hpl:(backTo pos (starEach es X.env)).any (·.1)=false:=by rfl):PE X (.Call (.Name x p) (e::es) [] pos) (tCB r t):=by
 intro Kp s σ H Q I h
 refine wpAny_Call_Name_kw (JW I hg hm hv ?_ hn hdb)
 exact PyProof.Rows.callWith_builtin1 (thn (ha pos Kp s σ H _ I h) fun us s1 ⟨vs,H1,I1,r1,q1⟩=>hc Kp s1 σ H1 vs us Q I1 r1 q1) he hpl
theorem aaO (hc:zV X (.type T) r) (hg:Gl X x) (hm:X.mg x=none) (hv:bootBuiltins x=some (.type T)) (ha:PA X (e::es) t) (hn:x ≠ "__name__":=by decide) (hdb:(x == ("__debug__":Str))=false:=by decide)
  (he:starEach (e::es) X.env=(false,eval e X.env)::starEach es X.env:=by rfl) (hpl:(backTo pos (starEach es X.env)).any (·.1)=false:=by rfl):PE X (.Call (.Name x p) (e::es) [] pos) (tCB r t):=by
 intro Kp s σ H Q I h
 refine wpAny_Call_Name_kw (JW I hg hm hv ?_ hn hdb)
 exact PyProof.Rows.callWith_type1 (thn (ha pos Kp s σ H _ I h) fun us s1 ⟨vs,H1,I1,r1,q1⟩=>hc Kp s1 σ H1 vs us Q I1 r1 q1) he hpl
end
end L2
namespace HT
open PySem PyProof.Rows
section
open PySem.SeqAt
open PySem.AutoSeq1 (wpAny_loadPart')
open PySem.MeetsSeq PySem.MeetsSeq2 PySem.MeetsSeq3
end
section
variable {prog:Program}{w:World}{A:Around}{E:Value->SP0}{s:Shared}
theorem cat_tup {t b:Addr}{vs ws:List Value}{Q:Value->SP0} (ht:IsTup s.heap t vs.toArray) (hb:IsTup s.heap b ws.toArray) (hv:vs ≠ [])
  (h1:ws=[]->Q (.ref t) s) (h2:ws ≠ []->Q (.ref s.heap.objs.size) { s with heap:=s.heap.push { cls:= .type "tuple",data:= .seq (vs++ws).toArray } })
  (hsz:vs.length+ws.length<=sizeLine):wpAny (model prog w) A (binaryOp .Add (.ref t) (.ref b)) Q E s:=by
 obtain ⟨⟨cls,dd,data,sl⟩,ho,hc,n,hd⟩:=id ht
 obtain ⟨⟨cls2,dd2,data2,sl2⟩,ho2,hc2,n2,hd2⟩:=id hb
 simp only at hc hd hc2 hd2
 subst hc hd hc2 hd2
 have e:vs.toArray++ws.toArray=(vs++ws).toArray:=by simp
 by_cases hw:ws=[]
 ·exact concat_meets ⟨_,ho,rfl⟩ ⟨_,ho2,rfl⟩ noFill_tuple_add seq_tuple_add PySem.F.slot_tuple_add PySem.F.entry_tuple_add (PySem.F.args_tuple_add_2 _ _)
   (tuple_addW1 t b vs.toArray ws.toArray n n2 dd dd2 sl sl2 (by simpa using hv) (by simp [hw])) ⟨ho,ho2,h1 hw⟩
 ·refine concat_meets ⟨_,ho,rfl⟩ ⟨_,ho2,rfl⟩ noFill_tuple_add seq_tuple_add PySem.F.slot_tuple_add PySem.F.entry_tuple_add (PySem.F.args_tuple_add_2 _ _)
   (tuple_addW2 t b vs.toArray ws.toArray n n2 dd dd2 sl sl2 (by simpa using hv) (by simpa using hw) (by rw [List.size_toArray,List.size_toArray]; exact hsz)) ⟨ho,ho2,?_⟩
  rw [e]
  exact h2 hw
noncomputable def sIx (n d:Nat):Option Int->Nat
 | none=>d
 | some v=>if v<0 then (v+(n:Int)).toNat else min v.toNat n
theorem sIx_none (n d:Nat):sIx n d none=d:=rfl
theorem sIx_nat (n d k:Nat):sIx n d (some (k:Int))=min k n:=by
 show (if (k:Int)<0 then ((k:Int)+(n:Int)).toNat else min (k:Int).toNat n)=min k n
 rw [if_neg (by omega),Int.toNat_natCast]
theorem aqF (n d:Nat) (hd:d<=n) (o:Option Int):sIx n d o<=n:=by
 cases o with
 | none=>exact hd
 | some v=>
  show (if v<0 then (v+(n:Int)).toNat else min v.toNat n)<=n
  by_cases hv:v<0
  ·rw [if_pos hv]; omega
  ·rw [if_neg hv]; exact Nat.min_le_right _ _
theorem aiY (v:Int) (n d:Nat):(if v<0 then max (v+(n:Int)) 0 else min v (n:Int))=((sIx n d (some v):Nat):Int):=by
 show (if v<0 then max (v+(n:Int)) 0 else min v (n:Int))=(((if v<0 then (v+(n:Int)).toNat else min v.toNat n):Nat):Int)
 by_cases hv:v<0
 ·simp only [if_pos hv]; omega
 ·simp only [if_neg hv]; omega
theorem ahK (lo hi:Option Int) (n:Nat):Builtin.Slice.sliceAdjust lo hi 1 (n:Int)=(((sIx n 0 lo:Nat):Int),((sIx n n hi:Nat):Int)):=by
 have h1:¬ ((1:Int)<0):=by omega
 unfold Builtin.Slice.sliceAdjust
 simp only [h1,zzN]
 refine Prod.ext ?_ ?_
 ·cases lo with
  | none=>rfl
  | some v=>exact aiY v n 0
 ·cases hi with
  | none=>rfl
  | some v=>exact aiY v n n
theorem ahL (i j:Nat):Builtin.Slice.slicePlaces (i:Int) (j:Int) 1=j - i:=by
 unfold Builtin.Slice.slicePlaces
 have h1:(1:Int) > 0:=by omega
 simp only [h1,zzM,Int.ediv_one]
 split <;> omega
theorem acr {v:Value}{o:Option Int}{Q:Option Int->SP0} (p:IsPart v o) (h:Q o s):wpAny (model prog w) A (Builtin.Slice.slicePartIndex v) Q E s:=by
 cases p with
 | none=>exact slicePart_none h
 | int i t=>exact slicePart_int h
theorem sliceApplied_gen {sl:Addr}{vl vu:Value}{lo hi:Option Int}{n:Nat}{Q:Int × Int × Nat->SP0} (hs:s.heap.IsSliceOf sl vl vu .none) (pl:IsPart vl lo) (pu:IsPart vu hi)
  (h:Q (((sIx n 0 lo:Nat):Int),1,sIx n n hi - sIx n 0 lo) s):wpAny (model prog w) A (Builtin.Slice.sliceApplied (.ref sl) (pure (n:Int))) Q E s:=by
 obtain ⟨os,hos,hcs,hds⟩:=id hs
 unfold Builtin.Slice.sliceApplied Builtin.Slice.sliceFields
 refine wpAny_bind (wpAny_bind (wpAny_field hos hds (x:=vl) rfl (wpAny_bind (wpAny_field hos hds (x:=vu) rfl (wpAny_bind (wpAny_field hos hds (x:= .none) rfl (wpAny_pure ?_)))))))
 refine wpAny_bind (slicePart_none ?_)
 show wpAny _ _ (if ((1:Int) == 0)=true then _ else _) _ _ s
 rw [if_neg (by decide)]
 refine wpAny_bind (acr pl (wpAny_bind (acr pu (wpAny_bind (wpAny_pure ?_)))))
 show wpAny _ _ (match Builtin.Slice.sliceAdjust lo hi 1 (n:Int) with | (lo,hi)=>pure (lo,(1:Int),Builtin.Slice.slicePlaces lo hi 1)) _ _ s
 rw [ahK lo hi n]
 show wpAny _ _ (pure (((sIx n 0 lo:Nat):Int),(1:Int),Builtin.Slice.slicePlaces ((sIx n 0 lo:Nat):Int) ((sIx n n hi:Nat):Int) 1)) _ _ s
 rw [ahL]
 exact wpAny_pure h
theorem alK (xs:Array Value) (i k:Nat):((List.range k).filterMap fun (m:Nat)=>xs[((i:Int)+(m:Int)*1).toNat]?).toArray=((xs.toList.drop i).take k).toArray:=by
 have e:(fun (m:Nat)=>xs[((i:Int)+(m:Int)*1).toNat]?)=fun m=>xs[i+m]?:=by
  funext m
  have:((i:Int)+(m:Int)*1).toNat=i+m:=by omega
  rw [this]
 rw [e]
 have:=pick_run xs i k
 rw [List.filterMap_map] at this
 have e2:((fun x=>xs[x]?) ∘ fun x=>i+x)=fun m=>xs[i+m]?:=rfl
 rw [e2] at this
 rw [this]
theorem getItem_tuple_cut {t sl:Addr}{items:Array Value}{vl vu:Value}{lo hi:Option Int}{Q:Value->SP0} (ht:IsTup s.heap t items) (hs:s.heap.IsSliceOf sl vl vu .none) (pl:IsPart vl lo) (pu:IsPart vu hi)
  (hw:¬ (sIx items.size 0 lo=0/\sIx items.size items.size hi=items.size))
  (h:Q (.ref s.heap.objs.size) { s with heap:=s.heap.push { cls:= .type "tuple",data:= .seq ((items.toList.drop (sIx items.size 0 lo)).take (sIx items.size items.size hi - sIx items.size 0 lo)).toArray } })
  (hsz:items.size<=sizeLine):wpAny (model prog w) A (getItem (.ref t) (.ref sl)) Q E s:=by
 have htake:sizeOk (.seq ((items.toList.drop (sIx items.size 0 lo)).take (sIx items.size items.size hi - sIx items.size 0 lo)).toArray):=by
  show ((items.toList.drop (sIx items.size 0 lo)).take (sIx items.size items.size hi - sIx items.size 0 lo)).toArray.size<=sizeLine
  rw [List.size_toArray,List.length_take,List.length_drop,Array.length_toList]
  omega
 have hj:sIx items.size items.size hi<=items.size:=aqF _ _ (Nat.le_refl _) hi
 obtain ⟨os,hos,hcs,hds⟩:=id hs
 have hTs:s.TypeIs (.ref sl) "slice":=⟨os,hos,hcs⟩
 unfold getItem
 try with_reducible refine wpAny_holding ?_
 first | refine wpAny_bind (wpAny_pure ?_) | skip
 refine wpAny_bind (wpAny_sequenceKey ht.typeIs (by decide) ?_)
 refine wpAny_bind (wpAny_callSpecial?_slot (name:=Str.ofString "__getitem__") ht.typeIs PyProof.Rows.slot_tuple_getitem
  (wpAny_call_entry PyProof.Rows.slot_tuple_getitem ht.typeIs entry_tuple_getitem ?_ (args_tuple_getitem _ _)))
 show wpAny _ _ (Builtin.Tuple.tupleItemsOf (.ref t) >>= _) _ _ s
 refine wpAny_bind (tupleItemsOf_ ht ?_)
 refine wpAny_bind (wpAny_typeOf hTs ?_)
 rw [if_pos (by decide)]
 refine wpAny_bind (sliceApplied_gen hs pl pu ?_)
 have hno:¬ ((((sIx items.size 0 lo:Nat):Int) == 0 && (1:Int) == 1 && (sIx items.size items.size hi - sIx items.size 0 lo) == items.size)=true):=by
  intro q
  rw [Bool.and_eq_true,Bool.and_eq_true] at q
  have q1:((sIx items.size 0 lo:Nat):Int)=0:=eq_of_beq q.1.1
  have q2:sIx items.size items.size hi - sIx items.size 0 lo=items.size:=eq_of_beq q.2
  exact hw ⟨by omega,by omega⟩
 show wpAny _ _ (if (((sIx items.size 0 lo:Nat):Int) == 0 && (1:Int) == 1 && (sIx items.size items.size hi - sIx items.size 0 lo) == items.size)=true then _ else _) _ _ s
 rw [if_neg hno,alK]
 first
  | exact wpAny_bind (m:=Builtin.Tuple.tupleExact _) (wpAny_newObj_type (wpAny_pure ⟨_,rfl,wpAny_pure h⟩) htake)
  | exact wpAny_bind (m:=Builtin.Tuple.tupleExact _) (wpAny_newObj_type (wpAny_bind (wpAny_pure (wpAny_pure ⟨_,rfl,wpAny_pure h⟩))) htake)
  | exact wpAny_bind (wpAny_bind (m:=Builtin.Tuple.tupleExact _) (wpAny_newObj_type (wpAny_pure (wpAny_pure ⟨_,rfl,wpAny_pure h⟩)) htake))
  | exact wpAny_bind (wpAny_bind (m:=Builtin.Tuple.tupleExact _) (wpAny_newObj_type (wpAny_pure ⟨_,rfl,wpAny_pure h⟩) htake))
end
end HT
namespace L2
open PySem PySem.Spec PyProof.Rows
abbrev TO:=St->Hp->(Option Int->Hp->Prop)->Prop
def PO (X:Cx) (e:Option Expr) (t:TO):Prop:=
 ∀ (Kp:List (Addr × Obj)) (s:Shared) (σ:St) (H:Hp) (Q:Option Int->Hp->Prop),Inv X Kp σ H s->t σ H Q->
  wpAny (model X.prog X.w) X.A (evalPart e X.env) (fun u s'=>∃ o H',Inv X Kp σ H' s'/\IsPart u o/\Q o H') X.xe s
def aoc:TO:=fun _ H Q=>Q none H
def asa (t:TE):TO:=fun σ H Q=>t σ H fun x H1=>∃ i,x= .int i/\Q (some i) H1
section
variable {X:Cx}{e:Expr}{te:TE}{lo hi:Option Expr}{tl th:TO}{pos p2:Pos}
theorem aeL:PO X none aoc:=by
 intro Kp s σ H Q I h
 rw [evalPart_none]
 exact wpAny_pure ⟨none,H,I,.none,h⟩
theorem aeM (h:PE X e te):PO X (some e) (asa te):=by
 intro Kp s σ H Q I hw
 rw [evalPart_some]
 refine thn (h Kp s σ H _ I hw) fun u s1 ⟨x,H1,I1,r1,q1⟩=>?_
 obtain ⟨i,rfl,q⟩:=q1
 obtain ⟨t,rfl⟩:=r1
 exact ⟨some i,H1,I1,.int i t,q⟩
def SlR (X:Cx) (r:V->Option Int->Option Int->Hp->VK->Prop):Prop:=
 ∀ (Kp:List (Addr × Obj)) (s:Shared) (σ:St) (H:Hp) (x:V) (v vl vu:Value) (lo hi:Option Int) (sl:Addr) (Q:VK),Inv X Kp σ H s->jW x v->s.heap.IsSliceOf sl vl vu .none->IsPart vl lo->IsPart vu hi->r x lo hi H Q->
  ∃ T id,typeLookup (.type T) "__getitem__"=pure (some (.builtin id))/\s.TypeIs v T/\wpAny (model X.prog X.w) X.A (getItem v (.ref sl)) (EP X Kp σ Q) X.xe s
theorem SlR.or {r r':V->Option Int->Option Int->Hp->VK->Prop} (h:SlR X r) (h':SlR X r'):SlR X (fun x lo hi H Q=>r x lo hi H Q ∨ r' x lo hi H Q):=by
 intro Kp s σ H x v vl vu lo hi sl Q I rx hs pl pu q
 rcases q with q | q
 ·exact h Kp s σ H x v vl vu lo hi sl Q I rx hs pl pu q
 ·exact h' Kp s σ H x v vl vu lo hi sl Q I rx hs pl pu q
def tSl (r:V->Option Int->Option Int->Hp->VK->Prop) (te:TE) (tl th:TO):TE:=fun σ H Q=>te σ H fun x H1=>tl σ H1 fun l H2=>th σ H2 fun u H3=>r x l u H3 Q
theorem acs {r:V->Option Int->Option Int->Hp->VK->Prop} (hr:SlR X r) (he:PE X e te) (hl:PO X lo tl) (hu:PO X hi th):PE X (.Subscript e (.Slice lo hi none p2) pos) (tSl r te tl th):=by
 intro Kp s σ H Q I h
 refine Subscript_ (thn (he Kp s σ H _ I h) fun v s1 ⟨x,H1,I1,r1,q1⟩=>?_)
 refine wpAny_Slice (thn (hl Kp s1 σ H1 _ I1 q1) fun vl s2 ⟨l,H2,I2,pl,q2⟩=>thn (hu Kp s2 σ H2 _ I2 q2) fun vu s3 ⟨u,H3,I3,pu,q3⟩=>?_)
 rw [evalPart_none]
 refine wpAny_pure ?_
 have I4:Inv X Kp σ H3 { s3 with heap:=s3.heap.push { cls:= .type "slice",data:= .fields #[vl,vu,.none] } }:=I3.kept (t':=s3.toks) fun b ob q=>Heap.get?_push_of_some _ q
 obtain ⟨T,id,hT,ht,hg⟩:=hr Kp { s3 with heap:=s3.heap.push { cls:= .type "slice",data:= .fields #[vl,vu,.none] } } σ H3 x v vl vu l u s3.heap.objs.size Q I4 r1 (Heap.IsSliceOf.new ..) pl pu q3
 show wpAny (model X.prog X.w) X.A (subscriptTail e (.Slice lo hi none p2) v (.ref s3.heap.objs.size)) (EP X Kp σ Q) X.xe { s3 with heap:=s3.heap.push { cls:= .type "slice",data:= .fields #[vl,vu,.none] } }
 exact tail_any (ops:=[.ref s3.heap.objs.size,v]) ht hT hg (by with_unfolding_all rfl)
def ZE (xs:List V) (lo hi:Option Int):List V:=(xs.drop (HT.sIx xs.length 0 lo)).take (HT.sIx xs.length xs.length hi - HT.sIx xs.length 0 lo)
theorem abq (xs:List V) (lo hi:Option Int):(ZE xs lo hi).length<=xs.length:=by
 unfold ZE
 rw [List.length_take,List.length_drop]
 omega
def asb (K:Fg):V->Option Int->Option Int->Hp->VK->Prop:=fun x lo hi H Q=>∃ a xs,x= .ref a/\SqT K H a xs/\
 ¬ (HT.sIx xs.length 0 lo=0/\HT.sIx xs.length xs.length hi=xs.length)/\∀ p,H p=none->Q (.ref p) (upd H p (.tup (ZE xs lo hi)))
theorem alL:SlR X (asb X.K):=by
 intro Kp s σ H x v vl vu lo hi sl Q I rx hs pl pu h
 obtain ⟨a,xs,rfl,hx,hw,q⟩:=h
 cases rx
 obtain ⟨its,r,ht,hz⟩:=I.tuple hx
 have hlen:its.toArray.size=xs.length:=by rw [List.size_toArray]; exact r.length.symm
 refine ⟨"tuple",_,PyProof.Rows.slot_tuple_getitem.lookup,ht.typeIs,?_⟩
 refine HT.getItem_tuple_cut ht hs pl pu (by rw [hlen]; exact hw) ?_ (by rw [hlen]; exact hz)
 rw [hlen]
 refine ⟨.ref s.heap.objs.size,_,I.laid (t':=s.toks) (o:= .tup (ZE xs lo hi)) (fun b ob q=>Heap.get?_push_of_some _ q) (Nat.le_refl _) ?_,rfl,q _ (I.hok.fresh (Nat.le_refl _))⟩
 exact ⟨Nat.le_trans (abq xs lo hi) hz,_,(r.drop (HT.sIx xs.length 0 lo)).take (HT.sIx xs.length xs.length hi - HT.sIx xs.length 0 lo),IsTup.new _ _⟩
def asc (K:Fg):R2:=fun x y H Q=>∃ a b xs ys,x= .ref a/\y= .ref b/\SqT K H a xs/\SqT K H b ys/\xs ≠ []/\xs.length+ys.length<=sizeLine/\
 (ys=[]->Q (.ref a) H)/\(ys ≠ []->∀ p,H p=none->Q (.ref p) (upd H p (.tup (xs++ys))))
theorem jG.nil_iff {xs:List V}{us:List Value} (r:jG xs us):us=[] ↔ xs=[]:=by
 cases r with
 | nil=>simp
 | cons _ _=>simp
theorem aod:OpR X (binaryOp .Add) (asc X.K):=by
 intro Kp s σ H x y v u Q I rx ry h
 obtain ⟨a,b,xs,ys,rfl,rfl,ha,hb,hx,hz,q1,q2⟩:=h
 cases rx
 cases ry
 obtain ⟨its,r1,p1,_⟩:=I.tuple ha
 obtain ⟨its2,r2,p2,_⟩:=I.tuple hb
 refine HT.cat_tup p1 p2 (fun z=>hx (r1.nil_iff.mp z)) (fun z=>⟨.ref a,H,I,rfl,q1 (r2.nil_iff.mp z)⟩) (fun z=>?_) (by rw [←r1.length,←r2.length]; exact hz)
 refine ⟨.ref s.heap.objs.size,_,I.laid (t':=s.toks) (o:= .tup (xs++ys)) (fun b ob q=>Heap.get?_push_of_some _ q) (Nat.le_refl _) ?_,rfl,q2 (fun w=>z (r2.nil_iff.mpr w)) _ (I.hok.fresh (Nat.le_refl _))⟩
 exact ⟨by rw [List.length_append]; exact hz,_,r1.append r2,IsTup.new _ _⟩
end
noncomputable def ixN (n:Nat) (i:Int):Option Nat:=if 0<=i then (if i<n then some i.toNat else none) else if -(n:Int)<=i then some (i+n).toNat else none
def atI {α:Type} (xs:List α) (i:Int):Option α:=(ixN xs.length i).bind fun j=>xs[j]?
theorem aiZ {n:Nat}{i:Int}{j:Nat} (h:ixN n i=some j):seqIndex? i n=some j/\j<n/\-(n:Int)<=i/\i<n:=by
 unfold ixN at h
 by_cases h0:0<=i
 ·rw [if_pos h0] at h
  by_cases h1:i<n
  ·rw [if_pos h1] at h
   have e:i.toNat=j:=Option.some.inj h
   exact ⟨by rw [seqIndex_of h0 h1,e],by omega,by omega,h1⟩
  ·rw [if_neg h1] at h; cases h
 ·rw [if_neg h0] at h
  by_cases h1:-(n:Int)<=i
  ·rw [if_pos h1] at h
   have e:(i+n).toNat=j:=Option.some.inj h
   exact ⟨by rw [seqIndex_neg (by omega) h1,e],by omega,h1,by omega⟩
  ·rw [if_neg h1] at h; cases h
theorem ai0 {α:Type}{xs:List α}{i:Int}{v:α} (h:atI xs i=some v):∃ j,seqIndex? i xs.length=some j/\xs[j]?=some v/\j<xs.length/\-(xs.length:Int)<=i/\i<xs.length:=by
 unfold atI at h
 cases e:ixN xs.length i with
 | none=>rw [e] at h; cases h
 | some j=>
  rw [e] at h
  obtain ⟨h1,h2,h3,h4⟩:=aiZ e
  exact ⟨j,h1,h,h2,h3,h4⟩
def abJ (b:Expr):Prop:=∀ o i,subscripted b false o i=operate [o,i] (getItem o i)
def IxR (X:Cx) (r:R2):Prop:=
 ∀ (value slice:Expr) (Kp:List (Addr × Obj)) (s:Shared) (σ:St) (H:Hp) (x y:V) (v u:Value) (Q:VK),Inv X Kp σ H s->jW x v->jW y u->r x y H Q->
  subscripted slice false v u=operate [v,u] (getItem v u)->wpAny (model X.prog X.w) X.A (subscriptTail value slice v u) (EP X Kp σ Q) X.xe s
def MtR (X:Cx) (id:String) (r:V->List V->Hp->VK->Prop):Prop:=
 ∀ (Kp:List (Addr × Obj)) (s:Shared) (σ:St) (H:Hp) (x:V) (xs:List V) (v:Value) (us:List Value) (Q:VK),Inv X Kp σ H s->jW x v->jG xs us->r x xs H Q->
  wpAny (model X.prog X.w) X.A (call (.builtin id) (v::us)) (EP X Kp σ Q) X.xe s
section
variable {X:Cx}{a b:Expr}{ta tb:TE}{pos:Pos}
theorem IxR.or {r r':R2} (h:IxR X r) (h':IxR X r'):IxR X (fun x y H Q=>r x y H Q ∨ r' x y H Q):=by
 intro value slice Kp s σ H x y v u Q I rx ry q hs
 rcases q with q | q
 ·exact h value slice Kp s σ H x y v u Q I rx ry q hs
 ·exact h' value slice Kp s σ H x y v u Q I rx ry q hs
theorem MtR.or {id:String}{r r':V->List V->Hp->VK->Prop} (h:MtR X id r) (h':MtR X id r'):MtR X id (fun x xs H Q=>r x xs H Q ∨ r' x xs H Q):=by
 intro Kp s σ H x xs v us Q I rx rs q
 rcases q with q | q
 ·exact h Kp s σ H x xs v us Q I rx rs q
 ·exact h' Kp s σ H x xs v us Q I rx rs q
theorem alM {r:R2} (hr:IxR X r) (ha:PE X a ta) (hb:PE X b tb) (hs:abJ b):PE X (.Subscript a b pos) (tOp r ta tb):=by
 intro Kp s σ H Q I h
 exact Subscript_ (an5 ha hb I h fun v u s2 x y H2 I2 rx ry q=>hr a b Kp s2 σ H2 x y v u Q I2 rx ry q (hs _ _))
def atw (K:Fg):R2:=fun x y H Q=>∃ p xs i v,x= .ref p/\y= .int i/\SqL K H p xs/\atI xs i=some v/\Q v H
def atx (K:Fg):R2:=fun x y H Q=>∃ p xs i v,x= .ref p/\y= .int i/\SqT K H p xs/\atI xs i=some v/\Q v H
theorem ai1:IxR X (atw X.K):=by
 intro value slice Kp s σ H x y v u Q I rx ry h hs
 obtain ⟨p,xs,i,z,rfl,rfl,hq,he,q⟩:=h
 cases rx
 obtain ⟨t,rfl⟩:=ry
 obtain ⟨its,r,pl,hz⟩:=I.list hq
 obtain ⟨j,h1,h2,h3,h4,h5⟩:=ai0 he
 obtain ⟨w,ew,rw'⟩:=r.get h2
 have hl:=r.length
 have hn:=aaL
 have fin:EP X Kp σ Q w s:=⟨z,H,I,rw',q⟩
 by_cases h0:0<=i
 ·have hj:i.toNat=j:=by
   rw [seqIndex_of h0 h5] at h1
   exact Option.some.inj h1
  exact item_listR pl.isList h0 (by omega) (by rw [hj]; simpa using ew) fin hs
 ·have hj:(i+(its.toArray.size:Int)).toNat=j:=by
   rw [seqIndex_neg (by omega) h4] at h1
   rw [List.size_toArray,←hl]
   exact Option.some.inj h1
  exact subscriptTail_builtinR (x:=w) pl.isList.typeIs slot_list_getitem.lookup
   (wpAny_getItem_list_neg (Q:=fun r s'=>r=w/\EP X Kp σ Q r s') pl.isList (by omega) (by rw [List.size_toArray] <;> omega) (by omega) (by rw [hj]; simpa using ew) ⟨rfl,fin⟩) hs
theorem aqG:IxR X (atx X.K):=by
 intro value slice Kp s σ H x y v u Q I rx ry h hs
 obtain ⟨p,xs,i,z,rfl,rfl,hq,he,q⟩:=h
 cases rx
 obtain ⟨t,rfl⟩:=ry
 obtain ⟨its,r,pl,hz⟩:=I.tuple hq
 obtain ⟨j,h1,h2,h3,h4,h5⟩:=ai0 he
 obtain ⟨w,ew,rw'⟩:=r.get h2
 have hl:=r.length
 have hn:=aaL
 have fin:EP X Kp σ Q w s:=⟨z,H,I,rw',q⟩
 exact subscriptTail_builtinR (x:=w) pl.typeIs slot_tuple_getitem.lookup
  (getItem_tuple (j:=j) (Q:=fun r s'=>r=w/\EP X Kp σ Q r s') pl (by omega) (by omega) (by rw [List.size_toArray,←hl]; exact h1) (by simpa using ew) ⟨rfl,fin⟩) hs
theorem ahM (its:List Value) (n j:Nat) (u:Value):Obj.mapSeq (·.setIfInBounds j u) { cls:= .type "list",data:= .seq its.toArray n }={ cls:= .type "list",data:= .seq (its.set j u).toArray n }:=by
 simp [Obj.mapSeq]
theorem Inv.lst {Kp:List (Addr × Obj)}{σ:St}{H:Hp}{s:Shared}{p:Addr}{xs:List V} (I:Inv X Kp σ H s) (h:H p=some (.lst xs)):
  ∃ (its:List Value) (n:Nat),jG xs its/\s.heap.get? p=some { cls:= .type "list",data:= .seq its.toArray n }/\xs.length<=sizeLine:=by
 obtain ⟨z,its,n,r,e⟩:=I.hok p _ h
 exact ⟨its,n,r,e,z⟩
theorem Inv.lstUpd {Kp:List (Addr × Obj)}{σ:St}{H:Hp}{s:Shared}{p:Addr}{xs ys:List V}{its its':List Value}{n n':Nat}{f:Obj->Obj} (I:Inv X Kp σ H s) (h:H p=some (.lst xs))
  (ho:s.heap.get? p=some { cls:= .type "list",data:= .seq its.toArray n }) (hf:f { cls:= .type "list",data:= .seq its.toArray n }={ cls:= .type "list",data:= .seq its'.toArray n' }) (r:jG ys its') (hz:ys.length<=sizeLine) (t:Nat):
  Inv X Kp σ (upd H p (.lst ys)) { s with heap:=s.heap.update p f,toks:=t }:=by
 have e:(s.heap.update p f).get? p=some { cls:= .type "list",data:= .seq its'.toArray n' }:=by
  rw [Heap.get?_update_self f ho (by rw [hf] <;> rfl),hf]
 refine I.write (x:=p) (e:=p) (by rw [h]; trivial) (.inl rfl) (fun b u hb q=>(Heap.get?_update_other _ _ (Ne.symm hb)).trans q) ⟨_,e⟩ ?_
 exact ⟨hz,its',n',r,e⟩
def asd:V->V->V->Hp->(Hp->Prop)->Prop:=fun o i v H Q=>∃ p xs k j,o= .ref p/\i= .int k/\H p=some (.lst xs)/\ixN xs.length k=some j/\Q (upd H p (.lst (xs.set j v)))
theorem alN:an3 X asd:=by
 intro Kp s σ H o i v ov iv u Q I ro ri rv h
 obtain ⟨p,xs,k,j,rfl,rfl,hp,hj,q⟩:=h
 cases ro
 obtain ⟨t,rfl⟩:=ri
 obtain ⟨its,n,r,ho,hz⟩:=I.lst hp
 obtain ⟨h1,h2,h3,h4⟩:=aiZ hj
 have hl:=r.length
 have hn:=aaL
 have I':Inv X Kp σ (upd H p (.lst (xs.set j v))) { s with heap:=s.heap.update p (Obj.mapSeq (·.setIfInBounds j u)) }:=
  I.lstUpd hp ho (ahM its n j u) (r.set rv j) (by rw [List.length_set]; exact hz) s.toks
 by_cases h0:0<=k
 ·have hk:k.toNat=j:=by
   rw [seqIndex_of h0 h4] at h1
   exact Option.some.inj h1
  exact PySem.W.ki_setAt ho h0 (by omega) (by rw [List.size_toArray,←hl]; exact h4) (by rw [hk]; exact ⟨_,I',q⟩)
 ·have hk:(k+(its.toArray.size:Int)).toNat=j:=by
   rw [seqIndex_neg (by omega) h3] at h1
   rw [List.size_toArray,←hl]
   exact Option.some.inj h1
  exact PySem.W.ki_setBack ho (by omega) (by rw [List.size_toArray,←hl]; exact h3) (by omega) (by rw [hk]; exact ⟨_,I',q⟩)
theorem aeN (lo hi:Option Int) (n:Nat):(sliceBounds lo hi none n).1=((HT.sIx n 0 lo:Nat):Int)/\(sliceBounds lo hi none n).2.1=((HT.sIx n n hi:Nat):Int)/\(sliceBounds lo hi none n).2.2=1:=by
 refine ⟨?_,?_,rfl⟩
 ·cases lo with
  | none=>simp [sliceBounds,HT.sIx]
  | some i=>
   simp only [sliceBounds,HT.sIx,Option.getD_none,show (1:Int) > 0 by decide,zzM]
   by_cases h:i<0
   ·simp only [h,zzM] <;> omega
   ·simp only [h,zzN] <;> omega
 ·cases hi with
  | none=>simp [sliceBounds,HT.sIx]
  | some i=>
   simp only [sliceBounds,HT.sIx,Option.getD_none,show (1:Int) > 0 by decide,zzM]
   by_cases h:i<0
   ·simp only [h,zzM] <;> omega
   ·simp only [h,zzN] <;> omega
theorem adq (its:List Value) (lo hi:Option Int):slicePick its.toArray lo hi none=((its.drop (HT.sIx its.length 0 lo)).take (HT.sIx its.length its.length hi - HT.sIx its.length 0 lo)).toArray:=by
 obtain ⟨h1,h2,h3⟩:=aeN lo hi its.toArray.size
 unfold slicePick
 rw [h1,h2,h3]
 simp only [sliceRange_one,pick_run,List.size_toArray] <;> rfl
def aty (K:Fg):V->Option Int->Option Int->Hp->VK->Prop:=fun x lo hi H Q=>∃ a xs,x= .ref a/\SqL K H a xs/\∀ p,H p=none->Q (.ref p) (upd H p (.lst (ZE xs lo hi)))
theorem aoe:SlR X (aty X.K):=by
 intro Kp s σ H x v vl vu lo hi sl Q I rx hs pl pu h
 obtain ⟨a,xs,rfl,hx,q⟩:=h
 cases rx
 obtain ⟨its,r,ht,hz⟩:=I.list hx
 have hlen:=r.length
 refine ⟨"list",_,slot_list_getitem.lookup,ht.isList.typeIs,?_⟩
 refine wpAny_getItem_list_slice ht.isList hs pl pu .none (by simp) ?_ (by rw [List.size_toArray] <;> omega)
 rw [adq,←hlen]
 refine ⟨.ref s.heap.objs.size,_,I.laid (t':=s.toks) (o:= .lst (ZE xs lo hi)) (fun b ob q=>Heap.get?_push_of_some _ q) (Nat.le_refl _) ?_,rfl,q _ (I.hok.fresh (Nat.le_refl _))⟩
 exact ⟨Nat.le_trans (abq xs lo hi) hz,_,0,(r.drop (HT.sIx xs.length 0 lo)).take (HT.sIx xs.length xs.length hi - HT.sIx xs.length 0 lo),Heap.get?_push_size _ rfl⟩
theorem aeO:zV X (.builtin "len") (fun xs H Q=>∃ p ys,xs=[.ref p]/\(SqL X.K H p ys ∨ SqT X.K H p ys)/\Q (.int ys.length) H):=by
 intro Kp s σ H xs us Q I r h
 obtain ⟨p,ys,rfl,hq,q⟩:=h
 obtain ⟨u,rfl,rx⟩:=abn r
 cases rx
 have hn:=aaL
 rcases hq with hq | hq
 ·obtain ⟨its,r',pl,hz⟩:=I.list hq
  have hlen:=r'.length
  exact Calls.call_len_list pl.isList (by simp only [List.size_toArray] <;> omega) ⟨.int ys.length,H,I.tok _,⟨s.toks+1,by rw [List.size_toArray,hlen]⟩,q⟩
 ·obtain ⟨its,r',pl,hz⟩:=I.tuple hq
  have hlen:=r'.length
  exact len_tuple pl (by simp only [List.size_toArray] <;> omega) ⟨.int ys.length,H,I.tok _,⟨s.toks+1,by rw [List.size_toArray,hlen]⟩,q⟩
theorem aeP:zV X (.builtin "len") (fun xs H Q=>∃ z,xs=[.str z]/\z.length<=sizeLine/\Q (.int z.length) H):=by
 intro Kp s σ H xs us Q I r h
 obtain ⟨z,rfl,hz,q⟩:=h
 obtain ⟨u,rfl,t,rfl⟩:=abn r
 have hn:=aaL
 exact len_str (by omega) ⟨.int z.length,H,I.tok _,⟨_,rfl⟩,q⟩
theorem zV.or {f:Value}{r r':List V->Hp->VK->Prop} (h:zV X f r) (h':zV X f r'):zV X f (fun xs H Q=>r xs H Q ∨ r' xs H Q):=by
 intro Kp s σ H xs us Q I rs q
 rcases q with q | q
 ·exact h Kp s σ H xs us Q I rs q
 ·exact h' Kp s σ H xs us Q I rs q
theorem aeQ:zV X (.type "list") (fun xs H Q=>∃ p ys,xs=[.ref p]/\(SqL X.K H p ys ∨ SqT X.K H p ys)/\∀ l,H l=none->Q (.ref l) (upd H l (.lst ys))):=by
 intro Kp s σ H xs us Q I r h
 obtain ⟨p,ys,rfl,hq,q⟩:=h
 obtain ⟨u,rfl,rx⟩:=abn r
 cases rx
 have fin:∀ (its:List Value),jG ys its->ys.length<=sizeLine->∀ (h':Heap) (c':Nat),(∀ b o',s.heap.get? b=some o'->h'.get? b=some o')->
   h'.get? s.heap.objs.size=some { cls:= .type "list",dict:=none,data:= .seq its.toArray c',slots:=#[] }->EP X Kp σ Q (.ref s.heap.objs.size) { s with heap:=h' }:=fun its r' hz h' c' kp e=>
  ⟨.ref s.heap.objs.size,_,I.laid (t':=s.toks) kp (Nat.le_refl _) (show qK X.prog X.w _ h' _ (.lst ys) from ⟨hz,its,c',r',e⟩),rfl,q _ (I.hok.fresh (Nat.le_refl _))⟩
 rcases hq with hq | hq
 ·obtain ⟨its,r',pl,hz⟩:=I.list hq
  have hlen:=r'.length
  obtain ⟨o,ho,hc,n,hd⟩:=pl.isList
  exact call_list_seq p (.inl rfl) ho hc hd (fun h' c' kp e=>fin its r' hz h' c' kp e) (by simp only [List.size_toArray] <;> omega)
 ·obtain ⟨its,r',pl,hz⟩:=I.tuple hq
  have hlen:=r'.length
  obtain ⟨o,ho,hc,n,hd⟩:=pl
  exact call_list_seq p (.inr rfl) ho hc hd (fun h' c' kp e=>fin its r' hz h' c' kp e) (by simp only [List.size_toArray] <;> omega)
theorem ads:zV X (.type "tuple") (fun xs H Q=>∃ p ys,xs=[.ref p]/\((SqL X.K H p ys/\∀ l,H l=none->Q (.ref l) (upd H l (.tup ys))) ∨ (SqT X.K H p ys/\Q (.ref p) H))):=by
 intro Kp s σ H xs us Q I r h
 obtain ⟨p,ys,rfl,h⟩:=h
 obtain ⟨u,rfl,rx⟩:=abn r
 cases rx
 rcases h with ⟨hq,q⟩ | ⟨hq,q⟩
 ·obtain ⟨its,r',pl,hz⟩:=I.list hq
  have hlen:=r'.length
  refine call_tuple_list pl.isList (fun h' kp=>?_) (by simp only [List.size_toArray] <;> omega)
  have I1:Inv X Kp σ H { s with heap:=h' }:=I.kept (t':=s.toks) kp
  have I2:Inv X Kp σ (upd H h'.objs.size (.tup ys)) { s with heap:=h'.push { cls:= .type "tuple",data:= .seq its.toArray } }:=
   I1.laid (t':=s.toks) (fun b o e=>Heap.get?_push_of_some _ e) (Nat.le_refl _) (show qK X.prog X.w _ _ _ (.tup ys) from ⟨hz,its,r',IsTup.new _ _⟩)
  exact ⟨.ref h'.objs.size,_,I2,rfl,q _ (I1.hok.fresh (Nat.le_refl _))⟩
 ·obtain ⟨its,r',pl,hz⟩:=I.tuple hq
  exact call_tuple_same pl ⟨.ref p,H,I,rfl,q⟩
def tyV (K:Fg) (T:String) (x:V) (H:Hp):Prop:=match x with
 | .str _=>T="str"
 | .int _=>T="int"
 | .ref p=>(T="list"/\∃ xs,SqL K H p xs) ∨ (T="tuple"/\∃ o,K.lookup p=some o/\o.cls= .type "tuple"/\o.dict=none) ∨
   (T="dict"/\((∃ kvs,H p=some (.dK kvs)) ∨ ∃ kvs,H p=some (.dT kvs))) ∨ (T="set"/\∃ S n,H p=some (.set S n))
 | _=>False
theorem alO {Kp:List (Addr × Obj)}{σ:St}{H:Hp}{s:Shared}{T:String}{x:V}{v:Value} (I:Inv X Kp σ H s) (r:jW x v) (ty:tyV X.K T x H):
  s.TypeIs v T/\∀ a,v= .ref a->∃ ob,s.heap.get? a=some ob/\ob.dict=none:=by
 cases x with
 | str z=>
  obtain ⟨t,rfl⟩:=r
  cases (show T="str" from ty)
  exact ⟨typeIs_str s z t,fun _ e=>nomatch e⟩
 | int i=>
  obtain ⟨t,rfl⟩:=r
  cases (show T="int" from ty)
  exact ⟨typeIs_int s i t,fun _ e=>nomatch e⟩
 | ref p=>
  cases r
  rcases ty with ⟨rfl,xs,hq⟩ | ⟨rfl,o,hk,hc,hd⟩ | ⟨rfl,hk⟩ | ⟨rfl,S,n,hk⟩
  ·obtain ⟨its,_,pl,_⟩:=I.list hq
   refine ⟨pl.isList.typeIs,fun a e=>?_⟩
   cases e
   obtain ⟨o,n,e,c,hd,_⟩:=pl
   exact ⟨o,e,hd⟩
  ·refine ⟨⟨o,I.kIn p o hk,hc⟩,fun a e=>?_⟩
   cases e
   exact ⟨o,I.kIn _ o hk,hd⟩
  ·have z:∃ o,s.heap.get? p=some o/\o.ExactDict:=by
    rcases hk with ⟨kvs,hk⟩ | ⟨kvs,hk⟩
    ·obtain ⟨_,_,_,_,o,_,_,e,ex,_⟩:=I.hok p _ hk
     exact ⟨o,e,ex⟩
    ·obtain ⟨_,_,_,_,o,_,_,e,ex,_⟩:=I.hok p _ hk
     exact ⟨o,e,ex⟩
   obtain ⟨o,e,ex⟩:=z
   refine ⟨⟨o,e,ex.1⟩,fun a e2=>?_⟩
   cases e2
   exact ⟨o,e,ex.2.1⟩
  ·obtain ⟨o,_,_,_,e,ex,_⟩:=I.hok p _ hk
   refine ⟨⟨o,e,ex.1⟩,fun a e2=>?_⟩
   cases e2
   exact ⟨o,e,ex.2.1⟩
 | _=>exact False.elim ty
def tBM (K:Fg) (T:String) (r:V->List V->Hp->VK->Prop) (to:TE) (t:TA):TE:=fun σ H Q=>to σ H fun x H1=>tyV K T x H1/\t σ H1 fun xs H2=>r x xs H2 Q
variable {o e:Expr}{es:List Expr}{to:TE}{t:TA}{name:Str}{apos cpos:Pos}{T id:String}{r:V->List V->Hp->VK->Prop}
theorem alP (pa:PlainAttrs T) (slot:Slot T name id) (hty:typeOf (.builtin id)=pure (.type "method_descriptor")) (hm:MtR X id r) (ho:PE X o to) (ha:PA X (e::es) t)
  (hbase:attributeBase o name X.env (eval o X.env)=eval o X.env:=by rfl)
  (hfew:((backTo cpos (starEach (e::es) X.env)).all (fun x=>!x.1) && (backToKw cpos (keywordEach [] X.env)).all (fun x=>x.1.isSome)
   && decide ((e::es).length+([]:List Keyword).length+(if ([]:List Keyword).isEmpty then 0 else 1)<30))=true:=by rfl)
  (hline:(apos.endLine == cpos.line)=true:=by rfl) (hs:starEach (e::es) X.env=(false,eval e X.env)::starEach es X.env:=by rfl) (hplain:(backTo cpos (starEach es X.env)).any (·.1)=false:=by rfl):
  PE X (.Call (.Attribute o name apos) (e::es) [] cpos) (tBM X.K T r to t):=by
 intro Kp s σ H Q I h
 refine wpAny_Call_method_late hbase hfew hline rfl (thn (ho Kp s σ H _ I h) fun v s1 ⟨x,H1,I1,r1,ty,q1⟩=>?_)
 obtain ⟨h1,h2⟩:=alO I1 r1 ty
 refine ⟨T,id,pa,slot,hty,h1,h2,?_⟩
 have hA:=ha cpos Kp s1 σ H1 _ I1 q1
 rw [hs] at hA ⊢
 refine Calls.callWith_builtin (by show (false || (backTo cpos (starEach es X.env)).any (·.1))=false; rw [hplain] <;> rfl) (Calls.evalArgs_plain ?_)
 exact thn hA fun us s2 ⟨vs,H2,I2,r2,q2⟩=>hm Kp s2 σ H2 x vs v us Q I2 r1 r2 q2
end
def MtM (X:Cx) (id:String) (r:V->List V->Hp->VK->Prop):Prop:=
 ∀ (Kp:List (Addr × Obj)) (s:Shared) (σ:St) (H:Hp) (x:V) (xs:List V) (v:Value) (us:List Value) (Q:VK),Inv X Kp σ H s->jW x v->jG xs us->r x xs H Q->
  wpAny (model X.prog X.w) X.A (call (.builtin id) (v::us)) (EP X Kp σ Q) X.xe s
theorem jG.one:∀ {x:V}{us:List Value},jG [x] us->∃ u,us=[u]/\jW x u
 | _,_,.cons r .nil=>⟨_,rfl,r⟩
theorem jG.zero:∀ {us:List Value},jG [] us->us=[]
 | _,.nil=>rfl
theorem jG.dropLast {xs:List V}{us:List Value} (h:jG xs us):jG xs.dropLast us.dropLast:=by
 induction h with
 | nil=>exact .nil
 | cons r t ih=>
  cases t with
  | nil=>exact .nil
  | cons q t'=>exact .cons r ih
theorem jG.eraseIdx:∀ {xs:List V}{us:List Value} (i:Nat),jG xs us->jG (xs.eraseIdx i) (us.eraseIdx i)
 | _,_,_,.nil=> .nil
 | _,_,0,.cons _ t=>t
 | _,_,i+1,.cons r t=> .cons r (jG.eraseIdx i t)
theorem jG.reverse {xs:List V}{us:List Value} (h:jG xs us):jG xs.reverse us.reverse:=by
 induction h with
 | nil=>exact .nil
 | cons r t ih=>rw [List.reverse_cons,List.reverse_cons]; exact jG.append ih (.cons r .nil)
theorem jG.rep {xs:List V}{us:List Value} (h:jG xs us):∀ k:Nat,jG (List.replicate k xs).flatten (List.replicate k us).flatten
 | 0=> .nil
 | k+1=>by
  rw [List.replicate_succ,List.replicate_succ,List.flatten_cons,List.flatten_cons]
  exact jG.append h (jG.rep h k)
theorem ahN {α:Type} (l:List α):l.eraseIdx (l.length - 1)=l.dropLast:=by
 induction l with
 | nil=>rfl
 | cons a r ih=>
  cases r with
  | nil=>rfl
  | cons b r=>
   have e:(a::b::r).length - 1=((b::r).length - 1)+1:=by
    have h1:(a::b::r).length=r.length+2:=rfl
    have h2:(b::r).length=r.length+1:=rfl
    omega
   rw [e,List.eraseIdx_cons_succ,ih]
   all_goals rfl
theorem adL (its:List Value):∀ (k:Nat) (acc:List Value),
  List.foldl (fun x1 x2=>x1++x2) acc.toArray (List.replicate k its.toArray)=(acc++(List.replicate k its).flatten).toArray
 | 0,acc=>by simp
 | k+1,acc=>by
  have e:acc.toArray++its.toArray=(acc++its).toArray:=by simp
  have e2:(acc++its)++(List.replicate k its).flatten=acc++(List.replicate (k+1) its).flatten:=by
   rw [List.replicate_succ,List.flatten_cons,List.append_assoc]
  rw [←e2,←adL its k (acc++its),←e,List.replicate_succ,List.foldl_cons]
section
variable {X:Cx}{Kp:List (Addr × Obj)}{σ:St}{H:Hp}{s:Shared}{l b:Addr}{xs ys zs:List V}
theorem Inv.lset {its its':List Value}{n:Nat}{f:Array Value->Array Value}{t':Nat} (I:Inv X Kp σ H s) (hH:H l=some (.lst xs))
  (e:s.heap.get? l=some { cls:= .type "list",data:= .seq its.toArray n }) (hf:f its.toArray=its'.toArray) (hv:jG ys its') (hz:ys.length<=sizeLine):
  Inv X Kp σ (upd H l (.lst ys)) { s with heap:=s.heap.update l (Obj.mapSeq f),toks:=t' }:=by
 have q:=PySem.IsL.update e f
 rw [hf] at q
 refine I.write (x:=l) (e:=l) (by rw [hH]; exact trivial) (.inl rfl) (fun b' u hb hu=>(Heap.get?_update_other s.heap (Obj.mapSeq f) (Ne.symm hb)).trans hu) ⟨_,q⟩ ?_
 exact ⟨hz,its',_,hv,q⟩
theorem Inv.lnew {its:List Value}{t':Nat} (I:Inv X Kp σ H s) (hv:jG ys its) (hz:ys.length<=sizeLine):
  Inv X Kp σ (upd H s.heap.objs.size (.lst ys)) { s with heap:=s.heap.push { cls:= .type "list",data:= .seq its.toArray },toks:=t' }:=
 I.laid (fun _ _ q=>Heap.get?_push_of_some _ q) (Nat.le_refl _) ⟨hz,its,0,hv,Heap.get?_push_size _ rfl⟩
theorem Inv.fresh (I:Inv X Kp σ H s):H s.heap.objs.size=none:=I.hok.fresh (Nat.le_refl _)
theorem Inv.lstM (I:Inv X Kp σ H s) (hH:H l=some (.lst xs)):xs.length<=sizeLine/\∃ (its:List Value) (n:Nat),jG xs its/\xs.length=its.length/\s.heap.get? l=some { cls:= .type "list",data:= .seq its.toArray n }:=by
 obtain ⟨z,its,n,r,e⟩:=I.hok l _ hH
 exact ⟨z,its,n,r,r.length,e⟩
theorem ago {n:Nat} (h:n<=sizeLine):Builtin.List.listTooLong n=false:=by
 unfold Builtin.List.listTooLong
 exact decide_eq_false (by omega)
end
section
variable {X:Cx}
def aof:V->List V->Hp->VK->Prop:=fun x vs H Q=>∃ l xs y,x= .ref l/\vs=[y]/\H l=some (.lst xs)/\xs.length<sizeLine/\Q .non (upd H l (.lst (xs++[y])))
theorem adM:MtM X "list.append" aof:=by
 intro Kp s σ H x vs v us Q I rx rv h
 obtain ⟨l,xs,y,rfl,rfl,hH,hz,q⟩:=h
 cases rx
 obtain ⟨u,rfl,ru⟩:=rv.one
 obtain ⟨z,its,n,r,hl,e⟩:=I.lstM hH
 refine call_meets F.slot_list_append ⟨_,e,rfl⟩ F.entry_list_append (F.args_list_append_2 _ _) (PySem.list_append l its.toArray n u (by rw [List.size_toArray]; omega)) ⟨e,?_⟩
 refine ⟨.non,_,I.lset (its':=its++[u]) hH e (by simp) (r.append (.cons ru .nil)) ?_,rfl,q⟩
 rw [List.length_append,List.length_singleton]
 omega
def aog:V->List V->Hp->VK->Prop:=fun x vs H Q=>∃ l b xs zs,x= .ref l/\vs=[.ref b]/\H l=some (.lst xs)/\H b=some (.lst zs)/\xs.length+zs.length<=sizeLine/\Q .non (upd H l (.lst (xs++zs)))
theorem akc:MtM X "list.extend" aog:=by
 intro Kp s σ H x vs v us Q I rx rv h
 obtain ⟨l,b,xs,zs,rfl,rfl,hH,hB,hz,q⟩:=h
 cases rx
 obtain ⟨u,rfl,ru⟩:=rv.one
 cases ru
 obtain ⟨z,its,n,r,hl,e⟩:=I.lstM hH
 obtain ⟨z2,its2,n2,r2,hl2,e2⟩:=I.lstM hB
 have hsz:its.toArray.size+its2.toArray.size<=sizeLine:=by rw [List.size_toArray,List.size_toArray]; omega
 have hlong:¬ (!its.toArray.isEmpty && Builtin.List.listTooLong (its.toArray.size+its2.toArray.size))=true:=by
  rw [ago hsz,Bool.and_false]
  exact Bool.false_ne_true
 refine call_meets F.slot_list_extend ⟨_,e,rfl⟩ F.entry_list_extend (F.args_list_extend_2 _ _)
  (AutoSeq1.list_extend_list_list_0 l its.toArray n b its2.toArray n2 hlong (by rw [List.size_toArray]; omega) (by omega)) ⟨e,e2,?_⟩
 refine ⟨.non,_,I.lset (its':=its++its2) hH e (by simp) (r.append r2) ?_,rfl,q⟩
 rw [List.length_append]
 omega
def atz:V->List V->Hp->VK->Prop:=fun x vs H Q=>∃ l xs y,x= .ref l/\vs=[]/\H l=some (.lst xs)/\xs[xs.length - 1]?=some y/\Q y (upd H l (.lst xs.dropLast))
theorem aqH:MtM X "list.pop" atz:=by
 intro Kp s σ H x vs v us Q I rx rv h
 obtain ⟨l,xs,y,rfl,rfl,hH,hy,q⟩:=h
 cases rx
 have hus:=rv.zero
 subst hus
 obtain ⟨z,its,n,r,hl,e⟩:=I.lstM hH
 obtain ⟨u,hu,ru⟩:=r.get hy
 have hy':its.toArray[its.toArray.size - 1]?=some u:=by
  show its.toArray[its.length - 1]?=some u
  rw [←Array.getElem?_toList,←hl]
  exact hu
 refine call_meets F.slot_list_pop ⟨_,e,rfl⟩ F.entry_list_pop (F.args_list_pop_1 _) (MeetsSeq.list_pop_last l its.toArray n u hy' (by rw [List.size_toArray]; omega)) ⟨e,?_⟩
 refine ⟨y,_,I.lset (its':=its.dropLast) hH e ?_ r.dropLast ?_,ru,q⟩
 ·show its.toArray.eraseIdxIfInBounds (its.toArray.size - 1)=its.dropLast.toArray
  rw [List.size_toArray,List.eraseIdxIfInBounds_toArray,ahN]
 ·rw [List.length_dropLast]
  omega
def aqI:V->List V->Hp->VK->Prop:=fun x vs H Q=>∃ l xs,x= .ref l/\vs=[]/\H l=some (.lst xs)/\Q .non (upd H l (.lst []))
theorem alQ:MtM X "list.clear" aqI:=by
 intro Kp s σ H x vs v us Q I rx rv h
 obtain ⟨l,xs,rfl,rfl,hH,q⟩:=h
 cases rx
 have hus:=rv.zero
 subst hus
 obtain ⟨z,its,n,r,hl,e⟩:=I.lstM hH
 refine call_meets F.slot_list_clear ⟨_,e,rfl⟩ F.entry_list_clear (F.args_list_clear_1 _) (AutoSeq1.list_clear_list_0 l its.toArray n (by rw [List.size_toArray]; omega)) ⟨e,?_⟩
 exact ⟨.non,_,I.lset (its':=[]) (ys:=[]) hH e rfl .nil (Nat.zero_le _),rfl,q⟩
def atA:R2:=fun x y H Q=>∃ l b xs zs,x= .ref l/\y= .ref b/\H l=some (.lst xs)/\H b=some (.lst zs)/\xs.length+zs.length<=sizeLine/\∀ p,H p=none->Q (.ref p) (upd H p (.lst (xs++zs)))
theorem aqJ:OpR X (binaryOp .Add) atA:=by
 intro Kp s σ H x y v u Q I rx ry h
 obtain ⟨l,b,xs,zs,rfl,rfl,hH,hB,hz,q⟩:=h
 cases rx
 cases ry
 obtain ⟨z,its,n,r,hl,e⟩:=I.lstM hH
 obtain ⟨z2,its2,n2,r2,hl2,e2⟩:=I.lstM hB
 refine PySem.P.add_list e e2 ?_ (by rw [List.size_toArray,List.size_toArray]; omega)
 have ea:its.toArray++its2.toArray=(its++its2).toArray:=by simp
 rw [ea]
 exact ⟨.ref _,_,I.lnew (t':=s.toks) (r.append r2) (by rw [List.length_append]; omega),rfl,q _ I.fresh⟩
def atB:R2:=fun x y H Q=>∃ l k xs,x= .ref l/\y= .int k/\H l=some (.lst xs)/\-(2 ^ 63)<=k/\k<2 ^ 63/\xs.length*k.toNat<=sizeLine/\
 ∀ p,H p=none->Q (.ref p) (upd H p (.lst (List.replicate k.toNat xs).flatten))
theorem aoh {α:Type} (xs:List α) (k:Nat):(List.replicate k xs).flatten.length=k*xs.length:=by
 induction k with
 | zero=>simp
 | succ k ih=>rw [List.replicate_succ,List.flatten_cons,List.length_append,ih,Nat.succ_mul,Nat.add_comm]
theorem aqK:OpR X (binaryOp .Mult) atB:=by
 intro Kp s σ H x y v u Q I rx ry h
 obtain ⟨l,k,xs,rfl,rfl,hH,h1,h2,hz,q⟩:=h
 cases rx
 obtain ⟨t,rfl⟩:=ry
 obtain ⟨z,its,n,r,hl,e⟩:=I.lstM hH
 have hlen:its.toArray.size*k.toNat<=sizeLine:=by rw [List.size_toArray,←hl]; exact hz
 have hcap:¬ its.toArray.size*k.toNat > (2 ^ 63 - 1) / 8:=by
  have:(sizeLine:Nat)<=(2 ^ 63 - 1) / 8:=by decide
  omega
 have hfit:¬ (!Builtin.List.listFitsIndex k)=true:=by
  rw [fitsIndex_both h1 h2]
  exact Bool.false_ne_true
 have hlong:¬ Builtin.List.listTooLong (its.toArray.size*k.toNat)=true:=by
  rw [ago hlen]
  exact Bool.false_ne_true
 have hnew:List.foldl (fun x1 x2=>x1++x2) #[] (List.replicate (if its.toArray.isEmpty=true then 0 else k.toNat) its.toArray)=(List.replicate k.toNat its).flatten.toArray:=by
  have f0:∀ m:Nat,List.foldl (fun x1 x2=>x1++x2) #[] (List.replicate m its.toArray)=(List.replicate m its).flatten.toArray:=fun m=>by
   have:=adL its m []
   rw [List.nil_append] at this
   exact this
  rw [f0]
  cases its with
  | nil=>simp
  | cons a r'=>rw [if_neg (by simp)]
 refine wpAny_binaryOp_repeat_ref (T:="list") (U:="int") (by decide) ⟨_,e,rfl⟩ (fun s'=>typeIs_int s' k t) noFill_list_mul F.fills_int_mul F.slot_int_rmul repeat_list F.slot_int_index.lookup
  (call_meets F.slot_int_rmul (typeIs_int s k t) F.entry_int_rmul (F.args_int_rmul_2 _ _) (int___rmul___int_list k t l its.toArray n)
   ⟨e,rfl,⟨_,e,rfl⟩,call_meets F.slot_list_mul ⟨_,e,rfl⟩ F.entry_list_mul (F.args_list_mul_2 _ _) (AutoListH.list___mul___list_int_3 l its.toArray n k t hfit hcap hlong) ⟨e,?_⟩⟩)
 rw [hnew]
 exact ⟨.ref _,_,I.lnew (t':=s.toks) (r.rep k.toNat) (by rw [aoh,Nat.mul_comm]; exact hz),rfl,q _ I.fresh⟩
end
section
variable {prog:Program}{w:World}{A:Around}{E:Value->SP0}{s:Shared}
set_option maxRecDepth 100000 in
end
section
variable {X:Cx}
end
end L2
namespace Att
open PySem PySem.W PySem.Calls PyProof.Rows
theorem abB {P:Params}{h:Heap}:∀ (ns:List Int) (vs:List Value),WellAll P h vs (ns.map WData.int)->IntsAre vs ns:=by
 intro ns
 induction ns with
 | nil=>
  intro vs w
  rw [List.map_nil] at w
  cases w
  exact .nil
 | cons n ns ih=>
  intro vs w
  rw [List.map_cons] at w
  cases w with
  | cons a b=>
   cases a
   exact .cons _ _ (ih _ b)
theorem akd {l:OpenLaw}{n:Nat} (hn:l.most=some n) {P:Params}{h:Heap}{args:List WData}{vals:List Value}
  (hpre:l.row.toRowW.claim.pre args=true) (hwl:WellAll P h vals args):
  ∃ a vs ns,vals=[Value.ref a]/\args=[WData.list (ns.map WData.int)]/\h.get? a=some { cls:= .type "list",data:= .seq vs.toArray }/\IntsAre vs ns/\ns.length<=n:=by
 have hsh:WShape.hasAll [] args [.list .int]=true:=(pre_splitW hpre).1
 have hc:l.pre.holds [] { args:=args }=true:=(pre_splitW hpre).2
 obtain ⟨d,r,rfl,h1,h2⟩:=hasAllW_cons hsh
 obtain rfl:=hasAllW_nil h2
 obtain ⟨xs,rfl,h3⟩:=hasW_list h1
 obtain ⟨ns,rfl⟩:=items_int h3
 have hlen:ns.length<=n:=by
  unfold OpenLaw.pre at hc
  have h4:(WTm.not (.lt (.lit (.int (n:Int))) (.len (.arg 0)))).holds [] { args:=[.list (ns.map .int)] }=true:=by
   have h4:=(holds_andW hc).1
   rw [hn] at h4
   exact h4
  have h5:=condW_of h4 (w_not (w_lt w_lit (w_len_list (w_arg rfl))))
  rw [List.length_map] at h5
  refine Nat.le_of_not_lt fun q=>?_
  have q':(n:Int)<((ns.length:Nat):Int):=by omega
  first
   | (rw [decide_eq_true q'] at h5; exact absurd h5 (by decide))
   | (simp at h5; omega)
 cases hwl with
 | cons w1 w2=>
  cases w2
  cases w1 with
  | list ho hall=>exact ⟨_,_,ns,rfl,rfl,ho,abB ns _ hall,hlen⟩
theorem ake (l:OpenLaw) (args:List WData):l.row.toRowW.claim.post args (.bool true) args=true:=
 postW_of (r:=l.row.toRowW) (X:=(true == true))
  (show WShape.has [] (.bool true) .bool=true by first | rfl | decide | simp [WShape.has,WShape.arms,WShape.armsAll])
  (show (WTm.eq .res (.lit (.bool true))).value [] { args:=args,res:=some (.bool true),after:=args }=some (.bool (true == true)) from w_eq_bool (w_res rfl) w_lit) rfl
theorem attach_call {l:OpenLaw}{n:Nat}{q:Program}{loose:List Str}{XP:(SV)->Heap->Prop}{YP:World->Heap->Prop}{d:DefRec}
  (hn:l.most=some n) (hdf:d.params.defaults=[])
  (call:∀ (w:World) (s₀ s₁:Shared) (mg mb:SV) (fa:Addr) (o:Obj) (pm cd doc:Value) (a:Addr) (vs:List Value) (ns:List Int),
   Ground q loose [] XP w s₀ mg mb s₁.heap->YP w s₁.heap->
   s₁.heap.get? fa=some o->o.data= .func (docDef d.name d.params d.body d.scope pm cd doc)->s₁.heap.CodeRec cd d.name->mg d.name=some (.ref fa)->
   s₁.heap.get? a=some { cls:= .type "list",data:= .seq vs.toArray }->IntsAre vs ns->ns.length<=n->s₁.gens=#[]->
   codeAny (model l.prog w) callerA (.call (.ref fa) ⟨[.ref a],[]⟩) (fun r s'=>r= .ok (.ret (.bool true))/\OldK s₁.heap s'.heap/\s'.os=s₁.os/\AllBare s'.gens) s₁):
  WalkO q loose XP YP l.row.toRowW d [] (fun f vs=>PySem.call f vs):=by
 intro w s₀ s₁ mg mb G Y fa o pm cd doc dV kV ho hd hcd hD hmg hg args vals as hpre hlay hrd hwl hlo
 obtain rfl:dV= .none:=Dflts.none hD hdf
 obtain rfl:kV= .none:=Dflts.noKw hD
 obtain ⟨a,vs,ns,rfl,rfl,hobj,hints,hlen⟩:=akd hn hpre hwl
 refine enter_call (codeAny_mono (call w s₀ s₁ mg mb fa o pm cd doc a vs ns G Y ho (fd_plain hd) hcd hmg hobj hints hlen hg) fun r s' hq=>?_)
 obtain ⟨rfl,h2,h3,h4⟩:=hq
 exact ⟨.inl ⟨.bool true,.bool true,[],rfl,fun _=>rfl,.bool true,ake l _,fun _=>⟨List.Pairwise.nil,fun _ hm=>(nomatch hm)⟩⟩,h2,h3,h4⟩
section
variable {prog:Program}{w:World}{A:Around}{E:Value->SP0}{s:Shared}{K:Frag}
noncomputable def atC (h:Heap) (L d:Addr):List (Addr × Obj):=(List.range h.objs.size).filterMap fun a=>if a=L ∨ a=d then none else (h.get? a).map fun o=>(a,o)
end
end Att
namespace L2
open PySem PySem.Spec PyProof.Rows
theorem Zb:∀ {vs:List Value}{ns:List Int},IntsAre vs ns->jG (ns.map V.int) vs
 | _,_,.nil=> .nil
 | _,_,.cons n t h=> .cons ⟨t,rfl⟩ (Zb h)
def aqL (H:Hp):Prop:=∀ b,H b=none ∨ ∃ o xs,H b=some (.frz o (.lst xs))
theorem alR {P:Program}{w:World}{K:Fg}{mg mb:SV}{CX:CXT}{k:Nat}{fa a:Addr}{fd:FuncData}{x:Str}{sp:Sp}{s₁:Shared}{vs:List Value}{ns:List Int}
  (KX:K.In s₁.heap) (hns:s₁.heap.Ns mainGlobals mg) (hb:s₁.heap.Ns builtinsNs mb) (hbb:∀ x:Str,x ≠ "__name__"->mb x=bootBuiltins x) (hlim:s₁.heap.NoLimit) (hg:s₁.gens=#[])
  (ha:s₁.heap.get? a=some { cls:= .type "list",data:= .seq vs.toArray }) (hi:IntsAre vs ns) (hl:ns.length<=sizeLine) (hr:Room k callerA)
  (F:∀ base:Heap,K.In base->base.Ns mainGlobals mg->FnOk P w K mg base CX k fa fd [x] sp) (hbind:∀ (s:Shared) (u:Value),BindsTo s fd ⟨[u],[]⟩ [(x,u)])
  (hsp:∀ H:Hp,aqL H->SqL K H a (ns.map V.int)->sp [.ref a] H (fun v _=>v= .bl true) fun _ _ _=>False)
  (hCX:∀ H e s',CX [] H s₁ (fun _ _ _=>False) e s'->False):
  codeAny (model P w) callerA (.call (.ref fa) ⟨[.ref a],[]⟩) (fun r s'=>r= .ok (.ret (.bool true))/\OldK s₁.heap s'.heap/\s'.os=s₁.os/\AllBare s'.gens) s₁:=by
 have rv:=Zb hi
 have lenV:=hi.length
 have core:∀ H:Hp,aqL H->SqL K H a (ns.map V.int)->HOk P w H s₁.heap->(∀ b,H b ≠ none->b=a)->(H a ≠ none->K.lookup a=none)->
   codeAny (model P w) callerA (.call (.ref fa) ⟨[.ref a],[]⟩) (fun r s'=>r= .ok (.ret (.bool true))/\OldK s₁.heap s'.heap/\s'.os=s₁.os/\AllBare s'.gens) s₁:=by
  intro H hO hS hok hA hK
  have base_of:∀ {b:Addr} {o:Obj},s₁.heap.get? b=some o->H b=none->(aeB s₁.heap H).get? b=some o:=fun e n=>alp e n
  have noA:∀ {b:Addr} {o:Obj} {es:Array DictEntry} {ep:Nat},s₁.heap.get? b=some o->o.data= .dict es ep->H b=none:=fun {b o es ep} e d=>by
   cases q:H b with
   | none=>rfl
   | some u=>
    have e':b=a:=hA b (by rw [q]; simp)
    subst e'
    rw [ha] at e; cases e
    have d':Data.seq vs.toArray _=Data.dict es ep:=d
    cases d'
  have nsK:∀ {b:Addr} {m:SV},s₁.heap.Ns b m->(aeB s₁.heap H).Ns b m:=fun {b m} ⟨o,es,ep,e,d,r⟩=>⟨o,es,ep,base_of e (noA e d),d,r⟩
  have hKb:K.In (aeB s₁.heap H):=fun b o e=>base_of (KX b o e) (by
   cases q:H b with
   | none=>rfl
   | some u=>
    have e':b=a:=hA b (by rw [q]; simp)
    subst e'
    rw [hK (by rw [q]; simp)] at e; cases e)
  have hM:Mod K mg (aeB s₁.heap H):=⟨hKb,nsK hns,⟨mb,nsK hb,hbb⟩,let ⟨mc,h1,h2⟩:=hlim; ⟨mc,nsK h1,h2⟩⟩
  have e0:Env0 P w K mg (aeB s₁.heap H) callerA [] s₁ H:=⟨rfl,hM,fun b o e=>an0 e,Nat.le_of_eq (aj2 _ _),trivial,fun b hb=>absurd (show b ∈ ([]:List Addr) from hb) (by simp),hok,.of_eq hg⟩
  refine codeAny_mono ((F _ hKb (nsK hns)).run callerA [] s₁ H ⟨[.ref a],[]⟩ [.ref a] [.ref a] _ _ hr e0 (hbind s₁ (.ref a)) (.cons rfl .nil) (hsp H hO hS)) fun r s' h=>?_
  cases r with
  | error e=>exact (hCX H e s' h).elim
  | ok fl=>
   cases fl with
   | next=>exact False.elim h
   | brk=>exact False.elim h
   | cont=>exact False.elim h
   | ret u=>
    obtain ⟨v,H',os,bare,un,hok',r',q⟩:=h
    have q':v= .bl true:=q
    subst q'
    obtain rfl:u=Value.bool true:=r'
    refine ⟨rfl,OldK.of_keep fun b o e=>?_,os,bare⟩
    cases q:H b with
    | none=>exact un.keep b o e q (by intro z; exact absurd (show b ∈ ([]:List Addr) from z) (by simp)) (by simp)
    | some u=>
     rcases hO b with z | ⟨ob,xs,z⟩
     ·rw [q] at z; cases z
     ·have z2:=un.frzs b ob _ z
      obtain ⟨e1,_⟩:=hok b _ z
      obtain ⟨e2,_⟩:=hok' b _ z2
      rw [e] at e1; cases e1
      exact e2
 cases hk:K.lookup a with
 | some o=>
  have e:=KX a o hk
  rw [ha] at e
  cases e
  refine core (fun _=>none) (fun _=> .inl rfl) (.inr ⟨_,vs.toArray,_,hk,rfl,rfl,rfl,by rw [List.size_toArray,lenV]; exact hl,by simpa using rv⟩) (fun b u z=>by have z':(none:Option HO)=some u:=z; cases z') (fun b z=>absurd rfl z) fun z=>absurd rfl z
 | none=>
  refine core (fun b=>if b=a then some (.frz { cls:= .type "list",data:= .seq vs.toArray } (.lst (ns.map V.int))) else none) (fun b=>?_) (.inl (.inr ⟨{ cls:= .type "list",data:= .seq vs.toArray },if_pos rfl⟩)) (fun b u z=>?_) (fun b z=>?_) fun _=>hk
  ·by_cases hb:b=a
   ·exact .inr ⟨_,_,if_pos hb⟩
   ·exact .inl (if_neg hb)
  ·by_cases hb:b=a
   ·have z':=(if_pos hb).symm.trans z
    cases z'
    subst hb
    exact ⟨ha,by rw [List.length_map]; exact hl,vs,_,rv,ha⟩
   ·have z':=(if_neg hb).symm.trans z
    cases z'
  ·by_cases hb:b=a
   ·exact hb
   ·exact absurd (if_neg hb) z
theorem aoi {l:PySem.W.OpenLaw}{n k:Nat}{q:Program}{loose:List Str}{XP:(SV)->Heap->Prop}{YP:World->Heap->Prop}{d:DefRec}{K:Params->Fg}{CX:World->CXT}{sp:World->Sp}{x:Str}
  (hn:l.most=some n) (hn2:n<=sizeLine) (hdf:d.params.defaults=[]) (hr:Room k callerA)
  (hY:∀ (w:World) (h:Heap),YP w h->(K w.params).In h)
  (F:∀ (w:World) (mg:SV) (fa:Addr) (h:Heap),(K w.params).In h->h.Ns mainGlobals mg->mg d.name=some (.ref fa)->
   ∃ fd:FuncData,(∀ (s:Shared) (u:Value),BindsTo s fd ⟨[u],[]⟩ [(x,u)])/\
    ∀ base:Heap,(K w.params).In base->base.Ns mainGlobals mg->FnOk l.prog w (K w.params) mg base (CX w) k fa fd [x] (sp w))
  (hsp:∀ (w:World) (H:Hp) (a:Addr) (ns:List Int),ns.length<=n->aqL H->SqL (K w.params) H a (ns.map V.int)->sp w [.ref a] H (fun v _=>v= .bl true) fun _ _ _=>False)
  (hCX:∀ (w:World) (H:Hp) (s:Shared) (e:Value) (s':Shared),CX w [] H s (fun _ _ _=>False) e s'->False):
  PySem.W.WalkO q loose XP YP l.row.toRowW d [] (fun f vs=>PySem.call f vs):=by
 refine Att.attach_call hn hdf fun w s₀ s₁ mg mb fa o pm cd doc a vs ns G Y ho hd hcd hmg hobj hints hlen hg=>?_
 have KX:=hY w _ Y
 obtain ⟨fd,hb,hF⟩:=F w mg fa _ KX G.T.g hmg
 exact alR KX G.T.g G.T.b G.T.builtins G.T.nolimit hg hobj hints (Nat.le_trans hlen hn2) hr hF hb (fun H hO hS=>hsp w H a ns hlen hO hS) fun H e s'=>hCX w H s₁ e s'
noncomputable def za (s:Stmt) (j:Nat):Stmt:=match s with
 | .ClassDef _ _ _ body _ _ _ _ _ _ _=>body.getD j (.Pass ⟨0,0,0,0⟩)
 | _=> .Pass ⟨0,0,0,0⟩
noncomputable def zS (s:Stmt):Arguments:=match s with
 | .FunctionDef _ a _ _ _ _ _ _ _ _=>a
 | _=>{ posonlyargs:=[],args:=[],vararg:=none,kwonlyargs:=[],kw_defaults:=[],kwarg:=none,defaults:=[] }
noncomputable def jS (s:Stmt):List Stmt:=match s with
 | .FunctionDef _ _ b _ _ _ _ _ _ _=>b
 | _=>[]
noncomputable def je (s:Stmt):Scope:=match s with
 | .FunctionDef _ _ _ _ _ _ sc _ _ _=>sc
 | _=>{ kind:= .function,names:=[],isGenerator:=false,isCoroutine:=false }
abbrev CX0:CXT:=fun _ _ _ _ _ _=>False
abbrev E0:XK:=fun _ _ _=>False
theorem adN {X:Cx}:aeI CX0 X E0:=fun _ _ _ _ _ _ _ h=>h.elim
structure Fun (K:Fg) (x qual:Str) (st:Stmt) (f:Addr) (fd:FuncData):Prop where
 ex:∃ (oc:Value) (od:Option Addr) (kV doc pm:Value) (an:Option Addr) (Kc ct:Value) (osl:Array (Option Value)),
  fd=PySem.W.fnOf x qual (zS st) (jS st) (je st) .none kV doc pm an Kc ct/\K.lookup f=some ⟨oc,od,.func fd,osl⟩/\PySem.W.codeIn K Kc qual=true
 kp:PySem.W.keepIn K (.ref f)=true
section
variable {P:Program}{w:World}{K:Fg}{mg:SV}{base:Heap}
theorem Fun.ok {x qual:Str}{st:Stmt}{f:Addr}{fd:FuncData}{N ps:List Str}{k:Nat}{sp:Sp} (F:Fun K x qual st f fd) (S:FnScope N ps (je st)) (len:∀ vs H Q E,sp vs H Q E->vs.length=ps.length)
  (hbody:∀ (Kc:Value) (A:Around) (Ko:List Env) (s:Shared) (H:Hp) (vs:List V) (Q:VK) (E:XK),Room k (A.deeper (envOfC qual (je st) s.heap.objs.size f Kc))->sp vs H Q E->
   ∃ t,PSs (zX CX0 P w K mg base N qual (je st) f Kc A Ko s H E).nox (jS st) t/\t { nx:=fun _ H'=>Q .non H',rt:=Q } (Jj N vs) H):FnOk P w K mg base CX0 (k+1) f fd ps sp:=by
 obtain ⟨oc,od,kV,doc,pm,an,Kc,ct,osl,rfl,lk,hcd⟩:=F.ex
 refine ar9 lk hcd S len fun A Ko s H vs Q E hr hsp=>?_
 obtain ⟨t,h,q⟩:=hbody Kc A Ko s H vs Q E hr hsp
 exact ⟨t,h.nox,q⟩
theorem Fun.binds {x qual:Str}{st:Stmt}{f:Addr}{fd:FuncData}{ps:List Str} (F:Fun K x qual st f fd)
  (h:∀ (kV doc pm:Value) (an:Option Addr) (Kc ct:Value) (us:List Value),us.length=ps.length->bindArgs (PySem.W.fnOf x qual (zS st) (jS st) (je st) .none kV doc pm an Kc ct) ⟨us,[]⟩=pure (ps.zip us)):zW K fd ps []:=by
 obtain ⟨oc,od,kV,doc,pm,an,Kc,ct,osl,rfl,lk,hcd⟩:=F.ex
 exact .all (h kV doc pm an Kc ct)
theorem aaP {x qual:Str}{st:Stmt}{f:Addr}{oc:Value}{od an:Option Addr}{osl:Array (Option Value)}{kV doc pm Kc ct:Value} (l:K.lookup f=some ⟨oc,od,.func (PySem.W.fnOf x qual (zS st) (jS st) (je st) .none kV doc pm an Kc ct),osl⟩)
  (c:PySem.W.codeIn K Kc qual=true) (k:PySem.W.keepIn K (.ref f)=true):Fun K x qual st f (PySem.W.fnOf x qual (zS st) (jS st) (je st) .none kV doc pm an Kc ct):=⟨⟨oc,od,kV,doc,pm,an,Kc,ct,osl,rfl,l,c⟩,k⟩
end
section
variable {X:Cx}
theorem pv (i:Nat) {x:Str}{pos:Pos} (hN:X.N[i]?=some x:=by rfl) (hv:Vis X.env.scope x:=by first | exact Or.inl rfl | exact Or.inr (Or.inl rfl) | exact Or.inr (Or.inr rfl)) (hd:(x == ("__debug__":Str))=false:=by decide)
  (hcd:(x == ("__classdict__":Str))=false:=by decide):PE X (.Name x pos) (an1 i):=Jt hN hv hd hcd
end
theorem atD {A B:Prop} (h:B):if false=true then A else B:=by
 rw [if_neg Bool.false_ne_true]
 exact h
theorem atE {A B:Prop} (h:A):if true=true then A else B:=by
 rw [if_pos rfl]
 exact h
def jp (H H':Hp):Prop:=∀ b o,H b=some o->H' b=some o
theorem jp.refl (H:Hp):jp H H:=fun _ _ h=>h
theorem jp.trans {H H1 H2:Hp} (a:jp H H1) (b:jp H1 H2):jp H H2:=fun c o h=>b c o (a c o h)
theorem jp.free {H H':Hp} (e:jp H H') {l:Addr} (h:H' l=Option.none):H l=Option.none:=by
 cases q:H l with
 | none=>rfl
 | some o=>
  rw [e l o q] at h
  cases h
theorem jp.seq {K:Fg}{H H':Hp}{a:Addr}{xs:List V} (e:jp H H') (h:SqL K H a xs):SqL K H' a xs:=by
 rcases h with (h | ⟨o,h⟩) | h
 ·exact .inl (.inl (e _ _ h))
 ·exact .inl (.inr ⟨o,e _ _ h⟩)
 ·exact .inr h
section
variable {κ:Type} [DecidableEq κ]
noncomputable def Qo (kvs:List (κ × V)) (k:κ):Option V:=(kvs.find? fun kv=>decide (kv.1=k)).map (·.2)
noncomputable def putK (kvs:List (κ × V)) (k:κ) (v:V):List (κ × V):=
 if (kvs.any fun kv=>decide (kv.1=k))=true then kvs.map (fun kv=>if kv.1=k then (kv.1,v) else kv) else kvs++[(k,v)]
noncomputable def apX (kvs:List (κ × V)) (k:κ):List (κ × V):=kvs.filter fun kv=>decide (kv.1 ≠ k)
theorem act {p:κ × V}{r:List (κ × V)}{k:κ} (e:p.1=k):Qo (p::r) k=some p.2:=by simp [Qo,List.find?_cons,e]
theorem acu {p:κ × V}{r:List (κ × V)}{k:κ} (e:¬ p.1=k):Qo (p::r) k=Qo r k:=by simp [Qo,List.find?_cons,e]
theorem agp (k:κ):∀ kvs:List (κ × V),(kvs.any fun kv=>decide (kv.1=k))=(Qo kvs k).isSome
 | []=>rfl
 | p::r=>by
  rw [List.any_cons]
  by_cases e:p.1=k
  ·simp only [act e,decide_eq_true e,Bool.true_or,Option.isSome_some]
  ·rw [acu e,decide_eq_false e,Bool.false_or]; exact agp k r
theorem abr (kvs:List (κ × V)) (k:κ) (v:V):(putK kvs k v).length<=kvs.length+1:=by
 unfold putK
 split
 ·rw [List.length_map]; omega
 ·rw [List.length_append,List.length_cons,List.length_nil]; omega
theorem QE.isSome_eq {o:Option V}{u:Option Value} (r:QE o u):o.isSome=u.isSome:=by
 cases o with
 | none=>cases u with
  | none=>rfl
  | some _=>exact (show False from r).elim
 | some _=>cases u with
  | none=>exact (show False from r).elim
  | some _=>rfl
theorem QE.getD {o:Option V}{u:Option Value}{d:V}{d':Value} (r:QE o u) (rd:jW d d'):jW (o.getD d) (u.getD d'):=by
 cases o with
 | none=>cases u with
  | none=>exact rd
  | some _=>exact (show False from r).elim
 | some _=>cases u with
  | none=>exact (show False from r).elim
  | some _=>exact r
theorem KV.val {kvs:List (κ × V)}{vs:List (κ × Value)} (r:KV kvs vs) (k:κ):QE (Qo kvs k) (valueAt vs k):=by
 unfold KV at r
 induction r with
 | nil=>exact True.intro
 | @cons p q ps qs h t ih=>
  obtain ⟨h1,h2⟩:=h
  by_cases e:p.1=k
  ·have e':q.1=k:=h1.symm.trans e
   have b:valueAt (q::qs) k=some q.2:=by simp [valueAt,List.find?_cons,e']
   rw [act e,b]; exact h2
  ·have e':¬ q.1=k:=fun z=>e (h1.trans z)
   have b:valueAt (q::qs) k=valueAt qs k:=by simp [valueAt,List.find?_cons,e']
   rw [acu e,b]; exact ih
theorem KV.any {kvs:List (κ × V)}{vs:List (κ × Value)} (r:KV kvs vs) (k:κ):(kvs.any fun kv=>decide (kv.1=k))=vs.any fun kv=>decide (kv.1=k):=by
 unfold KV at r
 induction r with
 | nil=>rfl
 | cons h t ih=>rw [List.any_cons,List.any_cons,ih,h.1]
theorem KV.repl {kvs:List (κ × V)}{vs:List (κ × Value)} (r:KV kvs vs) (k:κ) {y:V}{u:Value} (ry:jW y u):
  KV (kvs.map fun kv=>if kv.1=k then (kv.1,y) else kv) (vs.map fun kv=>if kv.1=k then (kv.1,u) else kv):=by
 unfold KV at r ⊢
 induction r with
 | nil=>exact .nil
 | @cons p q ps qs h t ih=>
  rw [List.map_cons,List.map_cons]
  refine .cons ?_ ih
  obtain ⟨h1,h2⟩:=h
  by_cases e:p.1=k
  ·rw [if_pos e,if_pos (h1.symm.trans e)]; exact ⟨h1,ry⟩
  ·rw [if_neg e,if_neg (fun z=>e (h1.trans z))]; exact ⟨h1,h2⟩
theorem KV.put {kvs:List (κ × V)}{vs:List (κ × Value)} (r:KV kvs vs) (k:κ) {y:V}{u:Value} (ry:jW y u):KV (putK kvs k y) (stored vs k u):=by
 unfold putK stored
 rw [r.any k]
 by_cases e:(vs.any fun kv=>decide (kv.1=k))=true
 ·rw [if_pos e,if_pos e]; exact r.repl k ry
 ·rw [if_neg e,if_neg e]; exact Paired.snoc r ⟨rfl,ry⟩
theorem KV.drop {kvs:List (κ × V)}{vs:List (κ × Value)} (r:KV kvs vs) (k:κ):KV (apX kvs k) (without vs k):=by
 unfold KV at r ⊢
 unfold apX without
 induction r with
 | nil=>exact .nil
 | @cons p q ps qs h t ih=>
  obtain ⟨h1,h2⟩:=h
  rw [List.filter_cons,List.filter_cons]
  by_cases e:p.1=k
  ·have a:¬ decide (p.1 ≠ k)=true:=by simp [e]
   have b:¬ decide (q.1 ≠ k)=true:=by simp [h1.symm.trans e]
   rw [if_neg a,if_neg b]; exact ih
  ·have e':¬ q.1=k:=fun z=>e (h1.trans z)
   have a:decide (p.1 ≠ k)=true:=by simp [e]
   have b:decide (q.1 ≠ k)=true:=by simp [e']
   rw [if_pos a,if_pos b]; exact .cons ⟨h1,h2⟩ ih
theorem KV.length {kvs:List (κ × V)}{vs:List (κ × Value)} (r:KV kvs vs):kvs.length=vs.length:=Paired.length r
end
theorem ai2 {P:Program}{w:World}{k:Key}{u:Value} (r:jW (kV k) u):(qm P w).is k u=true:=by
 cases k with
 | inl i=>obtain ⟨t,e⟩:=(show ∃ t,u=Value.int i t from r); subst e; exact agb P w i t
 | inr x=>obtain ⟨t,e⟩:=(show ∃ t,u=Value.str x t from r); subst e; exact agc P w x t
theorem adO {P:Program}{w:World}:∀ {ks:List Key}{us:List Value},jG (ks.map kV) us->ItemsAre (qm P w) ks us
 | [],_,r=>by rw [List.map_nil] at r; cases r; exact .nil
 | k::ks,_,r=>by
  rw [List.map_cons] at r
  cases r with
  | cons h t=>exact .cons (ai2 h) (adO t)
abbrev KT (H:Hp):List (List Key × V)->List (List Key × Addr × Value)->Prop:=Paired fun p q=>p.1=q.1/\H q.2.1=some (.tup (p.1.map kV))/\jW p.2 q.2.2
theorem KT.val {H:Hp}{kvs:List (List Key × V)}{xs:List (List Key × Addr × Value)} (r:KT H kvs xs) (k:List Key):QE (Qo kvs k) ((atKey xs k).map (·.2)):=by
 induction r with
 | nil=>exact True.intro
 | @cons p q ps qs h t ih=>
  obtain ⟨h1,_,h2⟩:=h
  by_cases e:p.1=k
  ·have e':q.1=k:=h1.symm.trans e
   have b:atKey (q::qs) k=some q.2:=by simp [atKey,List.find?_cons,e']
   rw [act e,b]; exact h2
  ·have e':¬ q.1=k:=fun z=>e (h1.trans z)
   have b:atKey (q::qs) k=atKey qs k:=by simp [atKey,List.find?_cons,e']
   rw [acu e,b]; exact ih
theorem KT.repl {H:Hp}{kvs:List (List Key × V)}{xs:List (List Key × Addr × Value)} (r:KT H kvs xs) (k:List Key) {y:V}{u:Value} (ry:jW y u):
  KT H (kvs.map fun kv=>if kv.1=k then (kv.1,y) else kv) (xs.map (putAt k u)):=by
 induction r with
 | nil=>exact .nil
 | @cons p q ps qs h t ih=>
  rw [List.map_cons,List.map_cons]
  refine .cons ?_ ih
  obtain ⟨h1,h2,h3⟩:=h
  unfold putAt
  by_cases e:p.1=k
  ·rw [if_pos e,if_pos (h1.symm.trans e)]; exact ⟨h1,h2,ry⟩
  ·rw [if_neg e,if_neg (fun z=>e (h1.trans z))]; exact ⟨h1,h2,h3⟩
theorem KT.put {H:Hp}{kvs:List (List Key × V)}{xs:List (List Key × Addr × Value)} (r:KT H kvs xs) (k:List Key) {b:Addr}{y:V}{u:Value} (hb:H b=some (.tup (k.map kV))) (ry:jW y u):
  KT H (putK kvs k y) (storedH xs k b u):=by
 have e:(kvs.any fun kv=>decide (kv.1=k))=(atKey xs k).isSome:=by
  rw [agp,(r.val k).isSome_eq,Option.isSome_map]
 unfold putK storedH
 rw [e]
 by_cases q:(atKey xs k).isSome=true
 ·rw [if_pos q,if_pos q]; exact r.repl k ry
 ·rw [if_neg q,if_neg q]; exact Paired.snoc r ⟨rfl,hb,ry⟩
theorem KT.keeps {H H':Hp}{kvs:List (List Key × V)}{xs:List (List Key × Addr × Value)} (r:KT H kvs xs) (ht:∀ b ys,H b=some (.tup ys)->H' b=some (.tup ys)):KT H' kvs xs:=
 Paired.mapP r fun _ _ z=>⟨z.1,ht _ _ z.2.1,z.2.2⟩
section
variable {P:Program}{w:World}{H:Hp}{h:Heap}{a:Addr}
theorem apY {u:HO} (ok:HOk P w H h) (e:Rd H a u):qK P w H h a u:=e.ok ok
theorem agq {kvs:List (Key × V)} (ok:HOk P w H h) (e:Rd H a (.dK kvs)):kvs.length<=sizeLine/\(a == sysModules)=false/\∃ vs,KV kvs vs/\h.DictOf (qm P w) a vs:=
 show qK P w H h a (.dK kvs) from apY ok e
theorem ase {kvs:List (Key × V)} (ok:HOk P w H h) (e:H a=some (.dK kvs)):kvs.length<=sizeLine/\(a == sysModules)=false/\∃ vs,KV kvs vs/\h.DictOf (qm P w) a vs:=agq ok (.inl e)
theorem aeR {ks:List Key} (ok:HOk P w H h) (e:H a=some (.tup (ks.map kV))):(tupleKind (qm P w)).is h ks a:=by
 obtain ⟨_,its,r,o,h1,h2,n,h3⟩:=(show qK P w H h a (.tup (ks.map kV)) from ok a _ e)
 exact ⟨o,its.toArray,n,h1,h2,h3,by simpa using adO r⟩
theorem ai3 {kvs:List (List Key × V)} (ok:HOk P w H h) (e:Rd H a (.dT kvs)):kvs.length<=sizeLine/\(a == sysModules)=false/\
  ∃ xs,KT H kvs xs/\h.DictOfH (tupleKind (qm P w)) a xs:=by
 obtain ⟨z,y,xs,r,o,es,ep,h1,h2,h3,h4,h5⟩:=(show qK P w H h a (.dT kvs) from apY ok e)
 refine ⟨z,y,xs,r,o,es,ep,h1,h2,h3,h4,fun x hx=>?_,h5⟩
 have all:∀ {l:List (List Key × V)} {m:List (List Key × Addr × Value)},KT H l m->∀ x ∈ m,(tupleKind (qm P w)).is h x.1 x.2.1:=by
  intro l m q
  induction q with
  | nil=>intro x hx; exact nomatch hx
  | @cons p q ps qs hq t ih=>
   intro x hx
   rcases List.mem_cons.mp hx with e | hx
   ·subst e
    exact aeR ok (by rw [←hq.1]; exact hq.2.1)
   ·exact ih x hx
 exact all r x hx
theorem asf {kvs:List (List Key × V)} (ok:HOk P w H h) (e:H a=some (.dT kvs)):kvs.length<=sizeLine/\(a == sysModules)=false/\
  ∃ xs,KT H kvs xs/\h.DictOfH (tupleKind (qm P w)) a xs:=ai3 ok (.inl e)
end
def aaQ (H:Hp) (a:Addr) (y:V) (r:Option V):Prop:=
 (∃ kvs k,Rd H a (.dK kvs)/\y=kV k/\r=Qo kvs k) ∨ ∃ kvs k b,Rd H a (.dT kvs)/\y= .ref b/\H b=some (.tup (k.map kV))/\r=Qo kvs k
def akf (H:Hp) (a:Addr) (y v:V) (H':Hp):Prop:=
 (∃ kvs k,H a=some (.dK kvs)/\y=kV k/\kvs.length<sizeLine/\H'=upd H a (.dK (putK kvs k v))) ∨
 ∃ kvs k b,H a=some (.dT kvs)/\y= .ref b/\H b=some (.tup (k.map kV))/\kvs.length<sizeLine/\H'=upd H a (.dT (putK kvs k v))
theorem aaQ.k {H:Hp}{a:Addr}{kvs:List (Key × V)}{k:Key} (e:H a=some (.dK kvs)):aaQ H a (kV k) (Qo kvs k):= .inl ⟨kvs,k,.inl e,rfl,rfl⟩
theorem aaQ.t {H:Hp}{a b:Addr}{kvs:List (List Key × V)}{k:List Key} (e:H a=some (.dT kvs)) (eb:H b=some (.tup (k.map kV))):aaQ H a (.ref b) (Qo kvs k):= .inr ⟨kvs,k,b,.inl e,rfl,eb,rfl⟩
theorem akf.k {H:Hp}{a:Addr}{kvs:List (Key × V)}{k:Key}{v:V} (e:H a=some (.dK kvs)) (hl:kvs.length<sizeLine):akf H a (kV k) v (upd H a (.dK (putK kvs k v))):= .inl ⟨kvs,k,e,rfl,hl,rfl⟩
theorem akf.t {H:Hp}{a b:Addr}{kvs:List (List Key × V)}{k:List Key}{v:V} (e:H a=some (.dT kvs)) (eb:H b=some (.tup (k.map kV))) (hl:kvs.length<sizeLine):
  akf H a (.ref b) v (upd H a (.dT (putK kvs k v))):= .inr ⟨kvs,k,b,e,rfl,eb,hl,rfl⟩
section
variable {X:Cx}{Kp:List (Addr × Obj)}{σ:St}{H:Hp}{s:Shared}{a:Addr}{y v:V}{u r:Value}{o:Option V}{A:Around}{E:Value->SP0}
theorem Inv.big (I:Inv X Kp σ H s):sysModules<s.heap.objs.size:=by
 have h:mainGlobals<s.heap.objs.size:=(I.mod.glob.keeps I.bk).lt
 exact Nat.lt_trans (by decide) h
theorem akg {Q:Value->SP0} (hu:A.units+1<cLine) (I:Inv X Kp σ H s) (g:aaQ H a y (some v)) (ry:jW y u) (h:∀ w' s',Inv X Kp σ H s'->jW v w'->Q w' s'):
  wpAny (model X.prog X.w) A (getItem (.ref a) u) Q E s:=by
 rcases g with ⟨kvs,k,e,ey,l⟩ | ⟨kvs,k,b,e,ey,eb,l⟩
 ·subst ey
  obtain ⟨z,hd,vs,rel,dd⟩:=agq I.hok e
  obtain ⟨w',hw,rw'⟩:=QE.some_of (v:=v) (o:=valueAt vs k) (by rw [l]; exact rel.val k)
  exact wpAny_getItem_of (ai2 ry) dd.mapOf hw (h w' _ (I.tok _) rw')
 ·subst ey
  cases (show u=Value.ref b from ry)
  obtain ⟨z,hd,xs,rel,dd⟩:=ai3 I.hok e
  obtain ⟨w',hw,rw'⟩:=QE.some_of (v:=v) (o:=(atKey xs k).map (·.2)) (by rw [l]; exact rel.val k)
  obtain ⟨p,hp,hp2⟩:=Option.map_eq_some_iff.mp hw
  refine wpAny_getItem_heap (tupleKind_room_in1 hu) (aeR I.hok eb) dd hp ?_
  rw [hp2]
  exact h w' _ (I.tok _) rw'
theorem aoj {Q:Value->SP0} (hu:A.units+1<cLine) (I:Inv X Kp σ H s) (g:aaQ H a y o) (ry:jW y u) (h:∀ s',Inv X Kp σ H s'->Q (.bool (!o.isSome)) s'):
  wpAny (model X.prog X.w) A (compareOp .NotIn u (.ref a)) Q E s:=by
 rcases g with ⟨kvs,k,e,ey,l⟩ | ⟨kvs,k,b,e,ey,eb,l⟩
 ·subst ey
  obtain ⟨z,hd,vs,rel,dd⟩:=agq I.hok e
  refine wpAny_notIn_of (ai2 ry) hd dd.mapOf ?_
  rw [←(rel.val k).isSome_eq,←l]
  exact h _ (I.tok _)
 ·subst ey
  cases (show u=Value.ref b from ry)
  obtain ⟨z,hd,xs,rel,dd⟩:=ai3 I.hok e
  refine wpAny_notIn_heap (tupleKind_room_in1 hu) (aeR I.hok eb) hd dd ?_
  have q:=(rel.val k).isSome_eq
  rw [Option.isSome_map] at q
  rw [←q,←l]
  exact h _ (I.tok _)
theorem ai4 {h':Heap}{t':Nat}{ob:HO} (I:Inv X Kp σ H s) (mu:Mut (H a)) (hs:Heap.SameBut a s.heap h') (he:∃ q,h'.get? a=some q) (new:qK X.prog X.w (upd H a ob) h' a ob):
  Inv X Kp σ (upd H a ob) { s with heap:=h',toks:=t' }:=
 I.write (x:=a) (e:=a) mu (.inl rfl) (fun b q hb z=>(hs.2 b hb).trans z) he new
theorem aqM {P:Program}{w:World}{H':Hp}{h':Heap}{kvs:List (Key × V)}{vs:List (Key × Value)} (z:kvs.length<=sizeLine) (hd:(a == sysModules)=false) (rel:KV kvs vs) (dd:h'.DictOf (qm P w) a vs):
  qK P w H' h' a (.dK kvs):=⟨z,hd,vs,rel,dd⟩
theorem akh {H':Hp}{Q:Unit->SP0} (hu:A.units+1<cLine) (I:Inv X Kp σ H s) (g:akf H a y v H') (ry:jW y u) (rv:jW v r) (h:∀ s',Inv X Kp σ H' s'->Q () s'):
  wpAny (model X.prog X.w) A (setItem (.ref a) u r) Q E s:=by
 rcases g with ⟨kvs,k,e,ey,l,eH⟩ | ⟨kvs,k,b,e,ey,eb,l,eH⟩
 ·subst ey eH
  obtain ⟨z,hd,vs,rel,dd⟩:=ase I.hok e
  have hz:vs.length<=sizeLine:=by rw [←rel.length]; exact z
  have hl:(putK kvs k v).length<=sizeLine:=by have:=abr kvs k v; omega
  refine wpAny_setItem_pairs (hsz:=hz) (ai2 ry) dd fun h' dd' hs=>h _ ?_
  have he:∃ q,h'.get? a=some q:=let ⟨q,_,_,hq,_⟩:=dd'; ⟨q,hq⟩
  exact ai4 I (by rw [e]; exact True.intro) hs he (aqM hl hd (rel.put k rv) dd')
 ·subst ey eH
  cases (show u=Value.ref b from ry)
  obtain ⟨z,hd,xs,rel,dd⟩:=asf I.hok e
  have hz:xs.length<=sizeLine:=by rw [←Paired.length rel]; exact z
  have hl:(putK kvs k v).length<=sizeLine:=by have:=abr kvs k v; omega
  refine wpAny_setItem_heap (hsz:=hz) (tupleKind_room_in1 hu) (aeR I.hok eb) dd fun h' dd' hs=>h _ ?_
  obtain ⟨q,es,ep,hq,h2,h3,h4,_,h5⟩:=dd'
  refine ai4 I (by rw [e]; exact True.intro) hs ⟨q,hq⟩ ⟨hl,hd,_,(rel.put k eb rv).keeps fun c ys ec=>?_,q,es,ep,hq,h2,h3,h4,h5⟩
  rw [jo (arS ec e (fun z=>nomatch z))]
  exact ec
end
section
variable {X:Cx}{Kp:List (Addr × Obj)}{σ:St}{H:Hp}{s:Shared}{a:Addr}{kvs:List (Key × V)}{k:Key}{u:Value}{A:Around}{E:Value->SP0}
end
def aqN (i:Expr):Prop:=∀ ov iv,subscripted i false ov iv=operate [ov,iv] (getItem ov iv)
theorem aok {prog:Program}{w:World}{A:Around}{E:Value->SP0}{s:Shared}{env:Env}{value slice:Expr}{pos:Pos}{T id:String}{Q:Value->SP0}
  (hl:typeLookup (.type T) "__getitem__"=pure (some (.builtin id))) (hs:aqN slice)
  (h:wpAny (model prog w) A (eval value env) (fun o s₁=>wpAny (model prog w) A (eval slice env) (fun i s₂=>s₂.TypeIs o T/\wpAny (model prog w) A (getItem o i) Q E s₂) E s₁) E s):
  wpAny (model prog w) A (eval (.Subscript value slice pos) env) Q E s:=by
 refine Subscript_ (wpAny_mono h (fun o s₁ h₁=>wpAny_mono h₁ (fun i s₂ h₂=>?_) fun _ _ x=>x) fun _ _ x=>x)
 obtain ⟨hT,h₂⟩:=h₂
 unfold subscriptTail
 refine wpAny_bind ?_
 rw [getitemInPython_of_ne hT.not_modules]
 refine wpAny_bind (wpAny_specialOf hT hl ?_)
 have fin:wpAny (model prog w) A (subscripted slice false o i) (fun r s₃=>wpAny (model prog w) A (letTemporaryGo value o r >>= fun _=>pure r) Q E s₃) E s₂:=by
  rw [hs o i]
  exact wpAny_operating (wpAny_mono h₂ (fun r s₃ h₃=>wpAny_bind (wpAny_letTemporaryGo (wpAny_pure h₃))) fun _ _ x=>x)
 first
  | exact wpAny_pure (wpAny_bind fin)
  | exact wpAny_bind (wpAny_pure (wpAny_bind fin))
  | exact wpAny_bind fin
theorem agr {X:Cx}{Kp:List (Addr × Obj)}{σ:St}{H:Hp}{s:Shared}{a:Addr}{y:V}{o:Option V} (I:Inv X Kp σ H s) (g:aaQ H a y o):s.TypeIs (.ref a) "dict":=by
 rcases g with ⟨kvs,k,e,_,_⟩ | ⟨kvs,k,b,e,_,_,_⟩
 ·obtain ⟨_,_,vs,_,dd⟩:=agq I.hok e
  exact dd.typeIs
 ·obtain ⟨_,_,xs,_,dd⟩:=ai3 I.hok e
  exact dd.typeIs
def asg (td ty:TE):TE:=fun σ H Q=>td σ H fun x H1=>ty σ H1 fun y H2=>∃ a v,x= .ref a/\aaQ H2 a y (some v)/\Q v H2
def aol (ty td:TE):TE:=fun σ H Q=>ty σ H fun y H1=>td σ H1 fun x H2=>∃ a o,x= .ref a/\aaQ H2 a y o/\Q (.bl (!o.isSome)) H2
section
variable {X:Cx}{o i e value:Expr}{pos pos' tpos:Pos}{td ty tv:TE}
theorem aom (hu:X.A.units+1<cLine) (ho:PE X o td) (hi:PE X i ty) (hs:aqN i):PE X (.Subscript o i pos) (asg td ty):=by
 intro Kp s σ H Q I h
 refine aok PySem.F.slot_dict_getitem.lookup hs (thn (ho Kp s σ H _ I h) fun u s1 ⟨x,H1,I1,rx,q1⟩=>thn (hi Kp s1 σ H1 _ I1 q1) fun iv s2 ⟨y,H2,I2,ry,a,v,ex,g,q2⟩=>?_)
 subst ex
 obtain rfl:u=Value.ref a:=rx
 exact ⟨agr I2 g,akg hu I2 g ry fun w' s3 I3 rw'=>⟨v,H2,I3,rw',q2⟩⟩
theorem aki (hu:X.A.units+1<cLine) (hi:PE X i ty) (ho:PE X o td):PC X .NotIn i o (aol ty td):=by
 intro Kp s σ H Q I h
 refine thn (hi Kp s σ H _ I h) fun iv s1 ⟨y,H1,I1,ry,q1⟩=>thn (ho Kp s1 σ H1 _ I1 q1) fun u s2 ⟨x,H2,I2,rx,a,ov,ex,g,q2⟩=>?_
 subst ex
 obtain rfl:u=Value.ref a:=rx
 exact aoj hu I2 g ry fun s3 I3=>⟨.bl (!ov.isSome),H2,I3,rfl,q2⟩
end
theorem alS {P:Program}{w:World}{H:Hp} (h:Heap) (hb:sysModules<h.objs.size):qK P w H (h.push { cls:= .type "dict",data:= .dict #[] }) h.objs.size (.dK []):=
 ⟨Nat.zero_le _,beq_eq_false_iff_ne.mpr (Ne.symm (Nat.ne_of_lt hb)),[],.nil,Heap.DictOf.new h⟩
def aqO:TE:=fun _ H Q=>∀ p,H p=none->Q (.ref p) (upd H p (.dK []))
section
variable {X:Cx}{pos:Pos}
theorem alT:PE X (.Dict [] [] pos) aqO:=fun Kp s σ H Q I h=>
 wpAny_Dict_empty ⟨.ref s.heap.objs.size,_,I.laid (a:=s.heap.objs.size) (o:= .dK []) (t':=s.toks) (fun _ _ q=>Heap.get?_push_of_some _ q) (Nat.le_refl _) (alS s.heap I.big),rfl,h _ (I.hok.fresh (Nat.le_refl _))⟩
end
structure M1 (X:Cx) (o:Expr) (m:Str) (apos:Pos) (e:Expr) (cpos:Pos):Prop where
 base:attributeBase o m X.env (eval o X.env)=eval o X.env
 few:((backTo cpos (starEach [e] X.env)).all (fun x=>!x.1) && (backToKw cpos (keywordEach [] X.env)).all (fun x=>x.1.isSome)
  && decide (([e]:List Expr).length+([]:List Keyword).length+(if ([]:List Keyword).isEmpty then 0 else 1)<30))=true
 line:(apos.endLine == cpos.line)=true
 trees:backTo cpos (starEach [e] X.env)=[(false,eval e X.env)]
structure M2 (X:Cx) (o:Expr) (m:Str) (apos:Pos) (e f:Expr) (cpos:Pos):Prop where
 base:attributeBase o m X.env (eval o X.env)=eval o X.env
 few:((backTo cpos (starEach [e,f] X.env)).all (fun x=>!x.1) && (backToKw cpos (keywordEach [] X.env)).all (fun x=>x.1.isSome)
  && decide (([e,f]:List Expr).length+([]:List Keyword).length+(if ([]:List Keyword).isEmpty then 0 else 1)<30))=true
 line:(apos.endLine == cpos.line)=true
 trees:backTo cpos (starEach [e,f] X.env)=[(false,eval e X.env),(false,eval f X.env)]
section
variable {X:Cx}{Kp:List (Addr × Obj)}{σ:St}{H:Hp}{s:Shared}{a:Addr}{y d:V}{u r:Value}{o:Option V}{A:Around}{E:Value->SP0}
end
section
variable {X:Cx}{o e f:Expr}{apos cpos:Pos}{td ty tx:TE}
end
section
variable {X:Cx}{Kp:List (Addr × Obj)}{σ:St}{H:Hp}{s:Shared}{a:Addr}{kvs:List (Key × V)}{A:Around}{E:Value->SP0}
end
section
variable {X:Cx}{Kp:List (Addr × Obj)}{σ:St}{H:Hp}{s:Shared}{a:Addr}{y:V}{u:Value}{A:Around}{E:Value->SP0}
end
section
variable {X:Cx}
end
section
variable {κ:Type} [DecidableEq κ]
end
end L2
end
section
namespace BX
open PySem PySem.Spec L2
open PyProof.Rows hiding St
noncomputable abbrev NoX:Value->SP0:=fun _ _=>False
noncomputable def ai5 (ts:List Expr) (en:Env):Sem Bool:=
 forIn ts true fun c r=>if r=true then do let ok ←isTrue c en (eval c en); pure (ForInStep.yield ok) else pure (ForInStep.yield r)
section
variable {prog:Program}{w:World}{A:Around}{s:Shared}{R:Result->SP0}
theorem akj {el tg src:Expr}{ts:List Expr}{sc:Scope}{ps:Pos}{it acc:Value}{en:Env} (J:Nat->SP0)
  (turn:∀ n s,J n s->wpAny (model prog w) A (pyNext it) (fun r s1=>match r with
   | none=>R (.ok .next) s1
   | some v=>wpAny (model prog w) A (letOwnedTupleGo tg it v) (fun _ sg=>wpAny (model prog w) A (assign tg en v) (fun _ s2=>
     wpAny (model prog w) A (ai5 ts en) (fun ok s3=>
      if ok=true then wpAny (model prog w) A (eval el en) (fun y s4=>
       wpAny (model prog w) A (call (.builtin "list.append") [acc,y]) (fun _ s5=>∃ m,m<n/\J m s5) NoX s4) NoX s3
      else ∃ m,m<n/\J m s3) NoX s2) NoX sg) NoX s1) NoX s)
  (n:Nat) (h:J n s):
  codeAny (model prog w) A (.compLoop (.ListComp el [⟨tg,src,ts,0⟩] sc ps) 0 it acc en) R s:=by
 refine codeAny_loop rfl J (fun n s hJ=>?_) n h
 show wpAny _ A
  ((compTurn (.ListComp el [⟨tg,src,ts,0⟩] sc ps) 0 it acc en).onRaise
   (fun x=>do noteFrame x en; theTreesLotGoes x)) _ _ s
 refine wpAny_noted ?_
 rw [compTurn_list]
 have no:∀ {E:Value->SP0} (e:Value) (s':Shared),NoX e s'->E e s':=fun _ _ z=>z.elim
 refine wpAny_bind (wpAny_standAt (wpAny_bind (wpAny_mono (turn n s hJ) (fun r s1 h1=>?_) no)))
 cases r with
 | none=>exact wpAny_pure h1
 | some v=>
  refine wpAny_bind (wpAny_mono h1 (fun _ sg hg=>?_) no)
  refine wpAny_bind (wpAny_mono hg (fun _ s2 h2=>?_) no)
  refine wpAny_bind (wpAny_mono h2 (fun ok s3 h3=>?_) no)
  cases ok with
  | false=>exact wpAny_pure ⟨rfl,h3⟩
  | true=>
   refine wpAny_bind (wpAny_bind (wpAny_mono h3 (fun y s4 h4=>?_) no))
   exact wpAny_bind (wpAny_mono h4 (fun _ s5 h5=>wpAny_pure (wpAny_pure ⟨rfl,h5⟩)) no)
end
noncomputable def ZG (en:Env):List (Str × NameKind)->List (Str × Addr)->List (Str × Addr)
 | [],cs=>cs
 | (n,k)::r,cs=>ZG en r (if k == .free then (n,(en.cells.lookup n).getD 0)::cs else cs)
theorem aon (sc:Scope) (en:Env) (h:∀ x ∈ sc.names,x.2= .free->∃ c,en.cells.lookup x.1=some c):closureFor sc en=pure (ZG en sc.names []):=by
 have go:∀ (l:List (Str × NameKind)) (cs:List (Str × Addr)),(∀ x ∈ l,x.2= .free->∃ c,en.cells.lookup x.1=some c)->
   (forIn l cs (fun (x:Str × NameKind) (r:List (Str × Addr))=>(do
    if x.2 == .free then do
     let c ←cellOf en x.1
     pure (ForInStep.yield ((x.1,c)::r))
    else pure (ForInStep.yield r):Sem (ForInStep (List (Str × Addr))))):Sem _)=pure (ZG en l cs):=by
  intro l
  induction l with
  | nil=>intro cs _; rfl
  | cons x l ih=>
   intro cs hl
   obtain ⟨n,k⟩:=x
   rw [List.forIn_cons]
   by_cases hk:(k == NameKind.free)=true
   ·obtain ⟨c,e⟩:=hl (n,k) List.mem_cons_self (by simpa using hk)
    have e':en.cells.lookup n=some c:=e
    simp only [hk,zzM,cellOf,e',pure_bind,ZG,Option.getD_some]
    exact ih _ fun y hy=>hl y (List.mem_cons_of_mem _ hy)
   ·simp only [hk,pure_bind,ZG,zzL,zzN]
    exact ih _ fun y hy=>hl y (List.mem_cons_of_mem _ hy)
 have:=go sc.names [] h
 unfold closureFor
 rw [←this]
 first
  | (simp only [bind_pure_comp,id_map',map_pure]; done)
  | (simp only [bind_pure_comp,id_map',map_pure]; exact bind_pure _)
theorem adP (en:Env):∀ (l:List (Str × NameKind)) (cs:List (Str × Addr)),(∀ x ∈ l,x.2= .free->∃ c,en.cells.lookup x.1=some c)->(∀ p ∈ cs,en.cells.lookup p.1=some p.2)->
  ∀ p ∈ ZG en l cs,en.cells.lookup p.1=some p.2
 | [],_,_,h,p,hp=>h p hp
 | (n,k)::r,cs,hl,h,p,hp=>by
  refine adP en r _ (fun y hy=>hl y (List.mem_cons_of_mem _ hy)) (fun q hq=>?_) p hp
  by_cases hk:(k == NameKind.free)=true
  ·rw [if_pos hk] at hq
   rcases List.mem_cons.mp hq with rfl | hq
   ·obtain ⟨c,e⟩:=hl (n,k) List.mem_cons_self (by simpa using hk)
    have e':en.cells.lookup n=some c:=e
    show en.cells.lookup n=some ((en.cells.lookup n).getD 0)
    rw [e']; rfl
   ·exact h q hq
  ·rw [if_neg hk] at hq
   exact h q hq
theorem abt (en:Env):∀ (l:List (Str × NameKind)) (cs:List (Str × Addr)) (x:Str),(∃ c,(x,c) ∈ cs)->∃ c,(x,c) ∈ ZG en l cs
 | [],_,_,h=>h
 | (n,k)::r,cs,x,⟨c,h⟩=>by
  refine abt en r _ x ?_
  by_cases hk:(k == NameKind.free)=true
  ·rw [if_pos hk]; exact ⟨c,List.mem_cons_of_mem _ h⟩
  ·rw [if_neg hk]; exact ⟨c,h⟩
theorem aaR (en:Env):∀ (l:List (Str × NameKind)) (cs:List (Str × Addr)) (x:Str),(x,NameKind.free) ∈ l->∃ c,(x,c) ∈ ZG en l cs
 | (n,k)::r,cs,x,h=>by
  rcases List.mem_cons.mp h with e | h
  ·obtain ⟨e1,e2⟩:=Prod.mk.inj e
   subst e1; subst e2
   exact abt en r _ _ ⟨_,by rw [if_pos (by rfl)]; exact List.mem_cons_self⟩
  ·exact aaR en r _ x h
theorem JX {β:Type}:∀ {l:List (Str × β)}{x:Str}{c:β},(x,c) ∈ l->∃ d,l.lookup x=some d
 | (n,k)::r,x,c,h=>by
  by_cases e:x=n
  ·subst e; exact ⟨k,by simp [List.lookup_cons]⟩
  ·have eb:(x == n)=false:=by simpa using e
   rcases List.mem_cons.mp h with z | h
   ·cases z; exact absurd rfl e
   ·obtain ⟨d,hd⟩:=JX h
    exact ⟨d,by simp only [List.lookup_cons,eb]; exact hd⟩
theorem abu {sc:Scope}{en:Env}{x:Str}{k:NameKind} (h:(x,k) ∈ (relabel sc en).names) (hc:∀ y ∈ sc.names,y.2 ≠ .cell) (hk:k= .cell ∨ k= .free):(x,NameKind.free) ∈ sc.names:=by
 obtain ⟨⟨n,j⟩,hm,e⟩:=List.mem_map.mp h
 by_cases q:(j == NameKind.free && en.scope.kind == .function && en.kindOf n == some .cell)=true
 ·have e1:(n,NameKind.cell)=(x,k):=by simpa only [q,zzM] using e
  cases e1
  have hj:j= .free:=by
   simp only [Bool.and_eq_true] at q
   simpa using q.1.1
  rw [←hj]; exact hm
 ·have e1:(n,j)=(x,k):=by simpa only [q,zzL,zzN] using e
  cases e1
  rcases hk with rfl | rfl
  ·exact absurd rfl (hc _ hm)
  ·exact hm
theorem Z1 {en:Env}:∀ {l:List (Str × NameKind)}{x:Str},l.lookup x=some .free->
  (l.map fun (n,k)=>if (k == NameKind.free && en.scope.kind == .function && en.kindOf n == some .cell) then (n,NameKind.cell) else (n,k)).lookup x=some .cell ∨
  (l.map fun (n,k)=>if (k == NameKind.free && en.scope.kind == .function && en.kindOf n == some .cell) then (n,NameKind.cell) else (n,k)).lookup x=some .free
 | (n,k)::r,x,h=>by
  rw [List.map_cons]
  cases hx:x == n with
  | true=>
   simp only [List.lookup_cons,hx] at h
   cases h
   by_cases q:(NameKind.free == NameKind.free && en.scope.kind == .function && en.kindOf n == some .cell)=true
   ·left; simp only [q,zzM,List.lookup_cons,hx]
   ·right; simp only [q,zzL,zzN,List.lookup_cons,hx]
  | false=>
   simp only [List.lookup_cons,hx] at h
   rcases Z1 (en:=en) h with g | g
   ·left
    by_cases q:(k == NameKind.free && en.scope.kind == .function && en.kindOf n == some .cell)=true
    ·simp only [q,zzM,List.lookup_cons,hx]; exact g
    ·simp only [q,zzL,zzN,List.lookup_cons,hx]; exact g
   ·right
    by_cases q:(k == NameKind.free && en.scope.kind == .function && en.kindOf n == some .cell)=true
    ·simp only [q,zzM,List.lookup_cons,hx]; exact g
    ·simp only [q,zzL,zzN,List.lookup_cons,hx]; exact g
def blk (X:Cx) (N':List Str) (sc:Scope) (cl:List (Str × Addr)) (C:Addr) (s0:Shared) (H0:Hp) (fp:List Addr) (pn:List (Addr × Obj)):Cx:=
 { X with N:=N',s₀:=s0,H₀:=H0,env:=compEnvC sc cl C X.env,Ko:=X.stack,ex:=fp,fn:=fun _=>false,pn:=pn,xe:=NoX }
def ags (cap:List (Option Nat)) (σ:St):St:=cap.map fun o=>o.bind fun i=>(σ[i]?).join
def PTs (X:Cx) (ts:List Expr) (t:TT):Prop:=
 ∀ (Kp:List (Addr × Obj)) (s:Shared) (σ:St) (H:Hp) (Q:Bool->Hp->Prop),Inv X Kp σ H s->t σ H Q->wpAny (model X.prog X.w) X.A (ai5 ts X.env) (TP X Kp σ Q) X.xe s
def apZ:TT:=fun _ H Q=>Q true H
theorem ai6 {X:Cx}:PTs X [] apZ:=fun _ _ _ H _ I h=>wpAny_pure ⟨H,I,h⟩
theorem aoo {X:Cx}{c:Expr}{t:TT} (h:PT X c t):PTs X [c] t:=fun Kp s σ H Q I hq=>wpAny_tests_one (h Kp s σ H Q I hq)
structure CompOk (X:Cx) (sc:Scope) (N':List Str) (cap:List (Option Nat)):Prop where
 fr:∀ x ∈ sc.names,x.2= .free->X.env.kindOf x.1=some .cell ∨ X.env.kindOf x.1=some .free
 nc:∀ x ∈ sc.names,x.2 ≠ .cell
 kind:sc.kind= .function
 nm:∀ x ∈ sc.names,x.2= .local->sc.names.lookup x.1=some .local
 len:cap.length=N'.length
 cp:∀ (j i:Nat) (x:Str),N'[j]?=some x->cap[j]?=some (some i)->X.N[i]?=some x/\sc.names.lookup x=some .free
def ash (wi:TI) (cap:List (Option Nat)) (g:TG) (tt:TT) (te:TE):TE:=fun σ H Q=>wi σ H fun J H1=>
 ∃ W:Nat->Nat->St->List V->Hp->Prop,(∃ m,W 0 m (ags cap σ) [] H1)/\∀ i m τ ys H,W i m τ ys H->ys.length<sizeLine/\
  ((J.stop i H/\∀ l,H l=none->Q (.ref l) (upd H l (.lst ys))) ∨
   (J.go i H/\∀ x H',J.yld i H x H'->g x τ H' fun τ2 H2=>tt τ2 H2 fun b H3=>if b=true then te τ2 H3 fun y H4=>∃ m',m' < m/\W (i+1) m' τ2 (ys++[y]) H4 else ∃ m',m' < m/\W (i+1) m' τ2 ys H3))
theorem Inv.track {X:Cx}{Kp:List (Addr × Obj)}{σ:St}{H:Hp}{s:Shared}{D:Addr}{o:HO} (I:Inv X Kp σ H s) (hn:H D=none) (h1:X.s₀.heap.objs.size<=D) (h2:D ≠ X.env.locals) (h3:∀ x c,X.env.cells.lookup x=some c->c ≠ D)
  (h4:∀ p ∈ X.pn++Kp,p.1 ≠ D) (new:qK X.prog X.w (upd H D o) s.heap D o):Inv X Kp σ (upd H D o) s:=by
 have nd:∀ b u,H b=some u->b ≠ D:=fun b u e z=>by rw [z,hn] at e; cases e
 have hok:HOk X.prog X.w (upd H D o) s.heap:=fun b u e=>by
  by_cases hb:b=D
  ·subst hb; rw [ji] at e; cases e; exact new
  ·rw [jo hb] at e
   exact (I.hok b u e).stay (fun _ _ _ q=>q) (fun c q=>by rw [jo (nd c _ q)]; exact q) fun c xs q=>by rw [jo (nd c _ q)]; exact q
 refine I.step (h':=s.heap) (g':=s.gens) (d':=s.drawn) (t':=s.toks) (ch:=[D]) (fun b hb=>?_) (fun b o _ _ _ e _=>e) (fun b o _ _ _ e _=>⟨o.slots,e⟩) (fun b o hc _ n=>?_) (fun b o _ e=>⟨o,e⟩) (fun b xs e=>by rw [jo (nd b _ e)]; exact e)
  (fun b ob u e=>by rw [jo (nd b _ e)]; exact e) (fun b ps e=>⟨#[],by rw [jo (nd b _ e),e]; simp⟩) (fun m hm=>hm) hok I.bare
 ·have e:b=D:=by simpa using hb
  subst e
  exact ⟨.inr h1,h2,h3,h4⟩
 ·have e:b ≠ D:=by simpa using hc
  rw [jo e]; exact n
theorem ai7 {X : Cx} {el tg src : Expr} {ts : List Expr} {sc : Scope} {ps : Pos} {wi : TI} {g : TG} {tt : TT} {te : TE} {N' : List Str} {cap : List (Option Nat)} (hc : X.calm = true) (hi : PI X tg src wi) (ok : CompOk X sc N' cap)
    (body : ∀ cl C s0 H0 fp pn, PG (blk X N' sc cl C s0 H0 fp pn) tg g /\ PTs (blk X N' sc cl C s0 H0 fp pn) ts tt /\ PE (blk X N' sc cl C s0 H0 fp pn) el te)
    (hs : ∀ x, foldedSetIterable src X.env x = pure x := by intro _; rfl) : PE X (.ListComp el [⟨tg, src, ts, 0⟩] sc ps) (ash wi cap g tt te) := by
  intro Kp s σ H Q I h
  have hfr : ∀ x ∈ sc.names, x.2 = .free -> ∃ c, X.env.cells.lookup x.1 = some c := fun x hx e => I.ok.has x.1 (ok.fr x hx e)
  have hcl := aon sc X.env hfr
  have clm : ∀ x c, (ZG X.env sc.names []).lookup x = some c -> X.env.cells.lookup x = some c := fun x c e =>
    adP X.env sc.names [] hfr (fun _ z => nomatch z) (x, c) (PySem.mem_of_lookup e)
  generalize hgl : ZG X.env sc.names [] = cl at hcl clm
  rw [eval_ListComp]
  refine wpAny_comprehension_free (use := none) rfl hs hcl ok.kind ok.nm ?_
  refine thn (hi Kp s σ H _ I h) fun v s1 h1 => thn h1 fun itv s2 h2 => ?_
  obtain ⟨it, fp, tn, J, H2, e, I2, T, st2, f2, W, ⟨m0, w0⟩, turn⟩ := h2
  subst e
  refine wpAny_newObj_type (wpAny_newFunctionEnv ok.nc (by intro y hy; simp at hy) (fun h4 hns hsb => ?_) ok.kind)
  dsimp only at hns hsb ⊢
  generalize hH3 : s2.heap.push { cls := .type "list", dict := none, data := .seq ([] : List Value).toArray } = h3 at hns hsb ⊢
  have hC : h3.objs.size = s2.heap.objs.size + 1 := by rw [← hH3, Heap.size_push]
  generalize hCC : h3.objs.size = C at hns hsb hC ⊢
  generalize hDD : s2.heap.objs.size = D at hC ⊢
  have hDC : D ≠ C := by rw [hC]; exact Nat.ne_of_lt (Nat.lt_succ_self _)
  have old : ∀ b o, s2.heap.get? b = some o -> h4.get? b = some o := fun b o e => hsb.extBut b o (by have := Heap.lt_size e; rw [hDD] at this; rw [hC]; exact Nat.ne_of_lt (Nat.lt_succ_of_lt this)) (Heap.get?_push_of_some _ (hH3 ▸ Heap.get?_push_of_some _ e))
  have accO : h4.get? D = some { cls := .type "list", data := .seq ([] : List Value).toArray 0 } := hsb.extBut _ _ hDC (Heap.get?_push_of_some _ (by rw [← hH3, ← hDD]; exact Heap.get?_push_size _ rfl))
  have H2D : H2 D = none := I2.hok.fresh (by rw [hDD]; exact Nat.le_refl _)
  have H2C : H2 C = none := I2.hok.fresh (by rw [hDD, hC]; exact Nat.le_succ _)
  have cellsLt : ∀ x c, X.env.cells.lookup x = some c -> c<D := fun x c e => by
    obtain ⟨v, q⟩ := I2.cell x c e
    rw [← hDD]; exact q.lt
  have pinLt : ∀ p ∈ X.pn ++ Kp, p.1<D := fun p hp => by rw [← hDD]; exact Heap.lt_size (I2.pin p hp).1
  have stkLt : ∀ b ∈ frs X.stack, b<D := fun b hb => by
    obtain ⟨_, o, ho, _⟩ := I2.stack.mem hb
    rw [← hDD]; exact Heap.lt_size ho
  have fpLt : ∀ b ∈ fp, b<D := fun b hb => by
    obtain ⟨o, ho, _⟩ := T.obj _ _ st2 b hb
    rw [← hDD]; exact Heap.lt_size ho
  have ltC : ∀ {b : Addr}, b<D -> b ≠ C := fun hb => by rw [hC]; exact Nat.ne_of_lt (Nat.lt_succ_of_lt hb)
  have locLt : X.env.locals<D := by rw [← hDD]; exact I2.lt
  have hDge : s2.heap.objs.size <= D := by rw [hDD]; exact Nat.le_refl _
  have hCge : s2.heap.objs.size <= C := by rw [hDD, hC]; exact Nat.le_succ _
  have bok : (blk X N' sc cl C s2 H2 fp (X.pn ++ Kp)).Ok := by
    refine ⟨I2.ok.mod, ok.kind, I2.ok.glob, I2.ok.blt, hCge, fun x y c e1 e2 => I2.ok.inj x y c (clm x c e1) (clm y c e2), fun x hx => ?_, fun x c z _ => ?_, I2.ok.hd, I2.ok.frames, .inl rfl, fun b hb => ?_, I2.bs, Nat.le_trans I2.ok.bsz I2.sz, fun b o e hb => ?_, fun b hb z => ?_, I2.stack, I2.stkFree⟩
    · have hx' : (relabel sc X.env).names.lookup x = some .cell ∨ (relabel sc X.env).names.lookup x = some .free := hx
      have hm : (x, NameKind.free) ∈ sc.names := by
        rcases hx' with z | z
        · exact abu (PySem.mem_of_lookup z) ok.nc (.inl rfl)
        · exact abu (PySem.mem_of_lookup z) ok.nc (.inr rfl)
      obtain ⟨c, hc⟩ := aaR X.env sc.names [] x hm
      rw [hgl] at hc
      exact JX hc
    · exact absurd (show false = true from z) Bool.false_ne_true
    · exact ⟨ltC (fpLt b hb), fun x c e => (f2 b hb).2.2.2.2.1 x c (clm x c e)⟩
    · rcases (f2 b hb).2.2.2.1 with z | z
      · exact I2.ok.noex b o e z
      · have := Heap.lt_size e
        exact absurd (Nat.lt_of_lt_of_le this (Nat.le_trans I2.ok.bsz z)) (Nat.lt_irrefl _)
    · rcases List.mem_cons.mp (I2.stkSub b z) with q | q
      · exact (f2 b hb).2.1 q
      · exact (f2 b hb).2.2.1 q
  have pinB : ∀ p ∈ X.pn ++ Kp, p.1 ≠ C /\ p.1 ∉ frs X.stack := fun p hp => ⟨ltC (pinLt p hp), fun z => by
    rcases List.mem_cons.mp (I2.stkSub p.1 z) with q | q
    · exact (I2.pin p hp).2.2.1 q
    · exact (I2.pin p hp).2.2.2.1 q⟩
  have I4 : Inv (blk X N' sc cl C s2 H2 fp (X.pn ++ Kp)) [] (ags cap σ) H2 { s2 with heap := h4, toks := s2.toks + ([] : List (Str × Value)).length } := by
    refine ⟨bok, rfl, I2.bare, Un.kept old, ⟨_, hns, fun j x v e1 e2 e3 => ?_⟩, fun x c e => ?_, H2C, fun x c e => I2.freeC x c (clm x c e), fun p hp => ?_, I2.hok.kept old, ?_⟩
    · unfold ags at e2
      rw [List.getElem?_map] at e2
      cases e4 : cap[j]? with
      | none => rw [e4] at e2; cases e2
      | some o =>
        rw [e4] at e2
        cases o with
        | none => cases e2
        | some i =>
          obtain ⟨hNi, hf⟩ := ok.cp j i x e1 e4
          have e5 : (σ[i]?).join = some v := by
            have := Option.some.inj e2
            simpa using this
          have e6 : σ[i]? = some (some v) := by
            cases e7 : σ[i]? with
            | none => rw [e7] at e5; cases e5
            | some z => rw [e7] at e5; cases z with
              | none => cases e5
              | some z => cases e5; rfl
          have hk := ok.fr (x, .free) (PySem.mem_of_lookup hf) rfl
          obtain ⟨m, hn, hl⟩ := I2.loc
          have hv : Vis X.env.scope x := by
            rcases hk with z | z
            · exact .inr (.inl z)
            · exact .inr (.inr z)
          obtain ⟨u, r, lk⟩ := hl i x v hNi e6 hv
          have cellX : ∃ c, X.env.cells.lookup x = some c /\ s2.heap.IsCell c (some u) := by
            rcases lk with ⟨k1, _⟩ | ⟨_, c, e, z⟩
            · rcases hk with z | z
              · have z' : X.env.kindOf x = some .cell := z
                rw [k1] at z'; cases z'
              · have z' : X.env.kindOf x = some .free := z
                rw [k1] at z'; cases z'
            · exact ⟨c, e, z⟩
          obtain ⟨c, hc1, ob, hc2, hc3⟩ := cellX
          obtain ⟨c', hc'⟩ := aaR X.env sc.names [] x (PySem.mem_of_lookup hf)
          rw [hgl] at hc'
          obtain ⟨d, hd⟩ := JX hc'
          have ed : d = c := by
            have := clm x d hd
            rw [hc1] at this; cases this; rfl
          subst ed
          refine ⟨u, r, .inr ⟨?_, d, hd, ob, old _ _ hc2, hc3⟩⟩
          exact Z1 hf
    · obtain ⟨v, ob, ho, hd⟩ := I2.cell x c (clm x c e)
      exact ⟨v, ob, old _ _ ho, hd⟩
    · have hp' : p ∈ X.pn ++ Kp := by simpa [blk] using hp
      obtain ⟨e1, e2, e3, e4, e5⟩ := I2.pin p hp'
      exact ⟨old _ _ e1, e2, (pinB p hp').1, (pinB p hp').2, e5⟩
    · show (ags cap σ).length = N'.length
      unfold ags
      rw [List.length_map]; exact ok.len
  have fpB : ∀ {H' : Hp} {pl : List (Addr × Obj)}, (∀ b ∈ fp, H' b = none) -> (∀ p ∈ pl, p.1 ∉ fp) -> ∀ b ∈ fp, agh (blk X N' sc cl C s2 H2 fp (X.pn ++ Kp)) pl H' b := fun {H' pl} hn hpl b hb =>
    ⟨hn b hb, ltC (fpLt b hb), bok.exfs b hb, .inl hb, fun x c e => (f2 b hb).2.2.2.2.1 x c (clm x c e), fun p hp z => by
      rcases List.mem_append.mp (show p ∈ (X.pn ++ Kp) ++ pl from hp) with q | q
      · exact (f2 b hb).2.2.2.2.2 p q z
      · exact hpl p q (by rw [z]; exact hb)⟩
  have Dfp : ∀ (o : Obj), ∀ p ∈ [(D, o)], p.1 ∉ fp := fun o p hp z => by
    have e : p = (D, o) := by simpa using hp
    subst e
    exact Nat.lt_irrefl _ (fpLt D z)
  have Dfs : D ∉ frs X.stack := fun z => Nat.lt_irrefl _ (stkLt D z)
  obtain ⟨bG, bT, bE⟩ := body cl C s2 H2 fp (X.pn ++ Kp)
  have loop : codeAny (model X.prog X.w) X.A (.compLoop (.ListComp el [⟨tg, src, ts, 0⟩] sc ps) 0 (.ref it) (.ref D) (compEnvC sc cl C X.env)) (compPost (model X.prog X.w) X.A X.xe none (EP X Kp σ Q) (.ref D) C)
      { s2 with heap := h4, toks := s2.toks + ([] : List (Str × Value)).length } := by
    refine akj (fun n s' => ∃ i τ ys us k H', Inv (blk X N' sc cl C s2 H2 fp (X.pn ++ Kp)) [] τ H' s' /\ tn i s'.heap /\ (∀ b ∈ fp, H' b = none) /\ jG ys us /\ s'.heap.get? D = some { cls := .type "list", data := .seq us.toArray k } /\ H' D = none /\ W i n τ ys H') ?_ m0
      ⟨0, _, [], [], 0, H2, I4, T.keep _ _ _ st2 (fun b _ o e => old b o e), fun b hb => (f2 b hb).1, .nil, accO, H2D, w0⟩
    rintro n s5 ⟨i, τ, ys, us, k, H5, I5, st5, fr5, rv5, ho5, hD5, w5⟩
    obtain ⟨hsz, alt⟩ := turn i n τ ys H5 w5
    have I5p : Inv (blk X N' sc cl C s2 H2 fp (X.pn ++ Kp)) [(D, { cls := .type "list", data := .seq us.toArray k })] τ H5 s5 := I5.pins_of fun p hp => by
      have e : p = (D, { cls := .type "list", data := .seq us.toArray k }) := by simpa using hp
      subst e
      exact ⟨ho5, hD5, hDC, Dfs, fun v z => by cases z⟩
    rcases alt with ⟨stop, fin⟩ | ⟨go, step⟩
    · refine thn (T.done (blk X N' sc cl C s2 H2 fp (X.pn ++ Kp)) rfl rfl rfl hc i _ s5 τ H5 NoX I5p (fpB fr5 (Dfp _)) st5 stop) fun r s6 ⟨hr, I6⟩ => ?_
      subst hr
      have ho6 := (I6.pin (D, _) (List.mem_append_right _ (List.mem_singleton.mpr rfl))).1
      obtain ⟨m6, hn6, _⟩ := I6.loc
      refine ⟨m6, hn6, fun h7 hs7 => ?_⟩
      have J6 : Inv X Kp σ H5 s6 := I2.call' (ch := fp) I6.os I6.base I6.hok I6.bare fun b hb => ⟨(f2 b hb).2.2.2.1, (f2 b hb).2.1, (f2 b hb).2.2.2.2.1, (f2 b hb).2.2.2.2.2⟩
      have H5C : H5 C = none := I6.free
      have cne : ∀ {b : Addr}, b<D -> b ≠ C := ltC
      have J7 : Inv X Kp σ H5 { s6 with heap := h7, toks := s6.toks } := J6.turned (it := C) (fun b o hb e => hs7.extBut b o hb e) H5C (Ne.symm (ltC locLt)) (.inr (Nat.le_trans I2.sz hCge)) (fun x c e => ltC (cellsLt x c e)) (fun p hp => ltC (pinLt p hp))
      have ho7 : h7.get? D = some { cls := .type "list", data := .seq us.toArray k } := hs7.extBut D _ hDC ho6
      refine ⟨.ref D, upd H5 D (.lst ys), ?_, rfl, fin D hD5⟩
      exact Inv.track J7 hD5 (Nat.le_trans I2.sz hDge) (Ne.symm (Nat.ne_of_lt locLt)) (fun x c e => Nat.ne_of_lt (cellsLt x c e)) (fun p hp => Nat.ne_of_lt (pinLt p hp)) ⟨Nat.le_of_lt hsz, us, k, rv5, ho7⟩
    · refine thn (T.item (blk X N' sc cl C s2 H2 fp (X.pn ++ Kp)) rfl rfl rfl hc i _ s5 τ H5 NoX I5p (fpB fr5 (Dfp _)) st5 go) fun r s6 ⟨u, hr, h6⟩ => ?_
      subst hr
      refine thn h6 fun _ s7 ⟨x, H7, I7, r7, y7, st7, fr7⟩ => ?_
      have I7p := I7.pinned (fpB fr7 (Dfp _)) (T.obj _ _ st7)
      refine thn (bG _ s7 τ H7 x u _ I7p r7 (step x H7 y7)) fun _ s8 ⟨τ8, H8, I8, q8⟩ => ?_
      have back : ∀ {τ9 : St} {H9 : Hp} {s9 : Shared}, Inv (blk X N' sc cl C s2 H2 fp (X.pn ++ Kp)) ([(D, { cls := .type "list", data := .seq us.toArray k })] ++ aco fp s7.heap) τ9 H9 s9 ->
          tn (i + 1) s9.heap /\ (∀ b ∈ fp, H9 b = none) /\ s9.heap.get? D = some { cls := .type "list", data := .seq us.toArray k } /\ H9 D = none := fun {τ9 H9 s9} I9 => by
        have pD := I9.pin (D, { cls := .type "list", data := .seq us.toArray k }) (List.mem_append_right _ (List.mem_append_left _ (List.mem_singleton.mpr rfl)))
        refine ⟨T.keep _ _ _ st7 fun b hb o e => (I9.pin (b, o) (List.mem_append_right _ (List.mem_append_right _ (Qm hb e)))).1, fun b hb => ?_, pD.1, pD.2.1⟩
        obtain ⟨o, e, _⟩ := T.obj _ _ st7 b hb
        exact (I9.pin (b, o) (List.mem_append_right _ (List.mem_append_right _ (Qm hb e)))).2.1
      have drop : ∀ {τ9 : St} {H9 : Hp} {s9 : Shared} {pl : List (Addr × Obj)}, Inv (blk X N' sc cl C s2 H2 fp (X.pn ++ Kp)) pl τ9 H9 s9 -> Inv (blk X N' sc cl C s2 H2 fp (X.pn ++ Kp)) [] τ9 H9 s9 := fun I9 => I9.pins_of fun p hp => nomatch hp
      refine thn (bT _ s8 τ8 H8 _ I8 q8) fun b s9 ⟨H9, I9, q9⟩ => ?_
      cases b with
      | false =>
        rw [if_neg Bool.false_ne_true] at q9 ⊢
        obtain ⟨m', hm, w9⟩ := q9
        obtain ⟨t9, f9, o9, d9⟩ := back I9
        exact ⟨m', hm, i + 1, τ8, ys, us, k, H9, drop I9, t9, f9, rv5, o9, d9, w9⟩
      | true =>
        rw [if_pos rfl] at q9 ⊢
        refine thn (bE _ s9 τ8 H9 _ I9 q9) fun y s10 ⟨z, H10, I10, r10, q10⟩ => ?_
        obtain ⟨m', hm, w10⟩ := q10
        obtain ⟨t10, f10, o10, d10⟩ := back I10
        have hl := rv5.length
        refine append_at (hsz := by show us.toArray.size <= sizeLine; rw [List.size_toArray, ← hl]; exact Nat.le_of_lt hsz) o10 fun h11 hs11 hD11 => ?_
        have I11 : Inv (blk X N' sc cl C s2 H2 fp (X.pn ++ Kp)) [] τ8 H10 { s10 with heap := h11, toks := s10.toks } := (drop I10).turned (it := D) (fun b o hb e => hs11.extBut b o hb e) d10 hDC (.inr hDge) (fun x c e => Nat.ne_of_lt (cellsLt x c (clm x c e)))
          (fun p hp => by have hp' : p ∈ X.pn ++ Kp := by simpa [blk] using hp
                          exact Nat.ne_of_lt (pinLt p hp'))
        refine ⟨m', hm, i + 1, τ8, ys ++ [z], us ++ [y], k + 1, H10, I11, T.keep _ _ _ t10 (fun b hb o e => hs11.extBut b o (Nat.ne_of_lt (fpLt b hb)) e), f10, rv5.append (.cons r10 .nil), ?_, d10, w10⟩
        rw [hD11]
        simp
  refine codeAny_compStart_list loop ?_
  exact T.self _ 0 _ _ _ (T.keep _ _ _ st2 (fun b _ o e => old b o e)) loop
theorem jp.tup {K:Fg}{H H':Hp}{a:Addr}{xs:List V} (e:jp H H') (h:SqT K H a xs):SqT K H' a xs:=by
 rcases h with (h | ⟨o,h⟩) | h
 ·exact .inl (.inl (e _ _ h))
 ·exact .inl (.inr ⟨o,e _ _ h⟩)
 ·exact .inr h
noncomputable def scr (ns:List Int):PyData:= .dict (ns.map fun n=>(.int n,.none))
def acv:Key->PyData
 | .inl i=> .int i
 | .inr t=> .str t
mutual
noncomputable def Rep (K:Fg) (H:Hp):PyData->V->Prop
 | .none,v=>v= .non
 | .bool b,v=>v= .bl b
 | .int i,v=>v= .int i
 | .str x,v=>v= .str x
 | .tuple ds,v=>∃ a xs,v= .ref a/\SqT K H a xs/\Reps K H ds xs
 | .list ds,v=>∃ a xs,v= .ref a/\H a=some (.lst xs)/\Reps K H ds xs
 | .dict kvs,v=>∃ a,v= .ref a/\((∃ ns:List Int,SqL K H a (List.map V.int ns)/\kvs=ns.map (fun n=>(PyData.int n,PyData.none))) ∨ (∃ ks ob,H a=some (.frz ob (.dK ks))/\RepD K H kvs ks) ∨ (∃ x:Str,kvs=[(.str x,.none)]/\PySem.W.nsIn K mainGlobals x=some (some (.ref a))) ∨ (∃ (x:Str) (C:Addr) (oe:Obj),kvs=[(.str x,.bool true)]/\H a=some (.frz oe (.own a))/\PySem.W.nsIn K mainGlobals x=some (some (.ref C))/\oe.cls= .ref C/\oe.dict=none/\∃ vs,oe.data= .fields vs) ∨ kvs=[(.bool true,.int (a:Int))])
noncomputable def Reps (K:Fg) (H:Hp):LP->List V->Prop
 | [],xs=>xs=[]
 | d::ds,xs=>∃ x r,xs=x::r/\Rep K H d x/\Reps K H ds r
noncomputable def RepD (K:Fg) (H:Hp):List (PyData × PyData)->List (Key × V)->Prop
 | [],_=>False
 | (.none,_)::r,ks=>RepM K H r ks
 | _::_,_=>False
noncomputable def RepM (K:Fg) (H:Hp):List (PyData × PyData)->List (Key × V)->Prop
 | [],ks=>ks=[]
 | (k,d)::r,ks=>∃ i x s,k=acv i/\ks=(i,x)::s/\Rep K H d x/\RepM K H r s
end
noncomputable def zJ (kvs:List (PyData × PyData)):Bool:=kvs.all fun p=>match p with
 | (.int _,.none)=>true
 | _=>false
theorem adQ (ns:List Int):zJ (ns.map fun n=>(PyData.int n,PyData.none))=true:=by
 simp [zJ]
theorem RepD.out {K:Fg}{H:Hp}:∀ {kvs:List (PyData × PyData)}{ks:List (Key × V)},RepD K H kvs ks->∃ c r,kvs=(.none,c)::r/\RepM K H r ks
 | [],_,h=>h.elim
 | (.none,c)::r,ks,h=>⟨c,r,rfl,h⟩
 | (.bool _,_)::_,_,h=>h.elim
 | (.int _,_)::_,_,h=>h.elim
 | (.str _,_)::_,_,h=>h.elim
 | (.list _,_)::_,_,h=>h.elim
 | (.tuple _,_)::_,_,h=>h.elim
 | (.dict _,_)::_,_,h=>h.elim
theorem Rep.scrOut {K:Fg}{H:Hp}{kvs:List (PyData × PyData)}{v:V} (h:Rep K H (.dict kvs) v) (hs:zJ kvs=true):∃ a ns,v= .ref a/\SqL K H a (List.map V.int ns)/\kvs=ns.map (fun n=>(PyData.int n,PyData.none)):=by
 obtain ⟨a,h1,h2 | ⟨ks,ob,h2,h3⟩ | ⟨x,h2,_⟩ | ⟨x,_,_,h2,_⟩ | h2⟩:=h
 ·obtain ⟨ns,q1,q2⟩:=h2; exact ⟨a,ns,h1,q1,q2⟩
 ·obtain ⟨c,r,rfl,_⟩:=h3.out
  simp [zJ] at hs
 ·subst h2; simp [zJ] at hs
 ·subst h2; simp [zJ] at hs
 ·subst h2; simp [zJ] at hs
noncomputable def jv (a:Addr):PyData:= .dict [(.bool true,.int (a:Int))]
noncomputable def atF (x:Str):PyData:= .dict [(.str x,.bool true)]
noncomputable def fnD (x:Str):PyData:= .dict [(.str x,.none)]
def j1 (H H':Hp):Prop:=∀ b o,H b=some o->(∀ φ,o ≠ .ext φ)->H' b=some o
theorem jp.e {H H':Hp} (s:jp H H'):j1 H H':=fun b o h _=>s b o h
theorem j1.refl (H:Hp):j1 H H:=fun _ _ h _=>h
theorem j1.trans {H H1 H2:Hp} (a:j1 H H1) (b:j1 H1 H2):j1 H H2:=fun c o h n=>b c o (a c o h n) n
theorem j1.tup {K:Fg}{H H':Hp}{a:Addr}{xs:List V} (e:j1 H H') (h:SqT K H a xs):SqT K H' a xs:=by
 rcases h with (h | ⟨o,h⟩) | h
 ·exact .inl (.inl (e _ _ h fun _ z=>nomatch z))
 ·exact .inl (.inr ⟨o,e _ _ h fun _ z=>nomatch z⟩)
 ·exact .inr h
theorem j1.sql {K:Fg}{H H':Hp}{a:Addr}{xs:List V} (e:j1 H H') (h:SqL K H a xs):SqL K H' a xs:=by
 rcases h with (h | ⟨o,h⟩) | h
 ·exact .inl (.inl (e _ _ h fun _ z=>nomatch z))
 ·exact .inl (.inr ⟨o,e _ _ h fun _ z=>nomatch z⟩)
 ·exact .inr h
section
variable {K:Fg}{H H':Hp}
mutual
theorem Rep.mono (e:jp H H'):∀ (d:PyData) (v:V),Rep K H d v->Rep K H' d v
 | .none,v,h=>h
 | .bool _,v,h=>h
 | .int _,v,h=>h
 | .str _,v,h=>h
 | .tuple ds,v,⟨a,xs,h1,h2,h3⟩=>⟨a,xs,h1,jp.tup e h2,Reps.mono e ds xs h3⟩
 | .list ds,v,⟨a,xs,h1,h2,h3⟩=>⟨a,xs,h1,e _ _ h2,Reps.mono e ds xs h3⟩
 | .dict kvs,v,⟨a,h1,h2⟩=>⟨a,h1,h2.imp (fun ⟨ns,q1,q2⟩=>⟨ns,e.seq q1,q2⟩) fun z=>z.imp (fun ⟨ks,ob,q1,q2⟩=>⟨ks,ob,e _ _ q1,RepD.mono e kvs ks q2⟩) fun y=>y.imp id fun z=>z.imp (fun ⟨x,C,oe,q1,q2,q3⟩=>⟨x,C,oe,q1,e _ _ q2,q3⟩) id⟩
theorem Reps.mono (e:jp H H'):∀ (ds:LP) (xs:List V),Reps K H ds xs->Reps K H' ds xs
 | [],xs,h=>h
 | d::ds,xs,⟨x,r,h1,h2,h3⟩=>⟨x,r,h1,Rep.mono e d x h2,Reps.mono e ds r h3⟩
theorem RepD.mono (e:jp H H'):∀ (kvs:List (PyData × PyData)) (ks:List (Key × V)),RepD K H kvs ks->RepD K H' kvs ks
 | [],_,h=>h
 | (.none,c)::r,ks,h=>RepM.mono e r ks h
 | (.bool _,_)::_,_,h=>h
 | (.int _,_)::_,_,h=>h
 | (.str _,_)::_,_,h=>h
 | (.list _,_)::_,_,h=>h
 | (.tuple _,_)::_,_,h=>h
 | (.dict _,_)::_,_,h=>h
theorem RepM.mono (e:jp H H'):∀ (kvs:List (PyData × PyData)) (ks:List (Key × V)),RepM K H kvs ks->RepM K H' kvs ks
 | [],_,h=>h
 | (k,d)::r,ks,⟨i,x,s,h1,h2,h3,h4⟩=>⟨i,x,s,h1,h2,Rep.mono e d x h3,RepM.mono e r s h4⟩
end
mutual
theorem Rep.monoE (e:j1 H H'):∀ (d:PyData) (v:V),Rep K H d v->Rep K H' d v
 | .none,v,h=>h
 | .bool _,v,h=>h
 | .int _,v,h=>h
 | .str _,v,h=>h
 | .tuple ds,v,⟨a,xs,h1,h2,h3⟩=>⟨a,xs,h1,j1.tup e h2,Reps.monoE e ds xs h3⟩
 | .list ds,v,⟨a,xs,h1,h2,h3⟩=>⟨a,xs,h1,e _ _ h2 (fun _ z=>nomatch z),Reps.monoE e ds xs h3⟩
 | .dict kvs,v,⟨a,h1,h2⟩=>⟨a,h1,h2.imp (fun ⟨ns,q1,q2⟩=>⟨ns,j1.sql e q1,q2⟩) fun z=>z.imp (fun ⟨ks,ob,q1,q2⟩=>⟨ks,ob,e _ _ q1 (fun _ z=>nomatch z),RepD.monoE e kvs ks q2⟩) fun y=>y.imp id fun z=>z.imp (fun ⟨x,C,oe,q1,q2,q3⟩=>⟨x,C,oe,q1,e _ _ q2 (fun _ z=>nomatch z),q3⟩) id⟩
theorem Reps.monoE (e:j1 H H'):∀ (ds:LP) (xs:List V),Reps K H ds xs->Reps K H' ds xs
 | [],xs,h=>h
 | d::ds,xs,⟨x,r,h1,h2,h3⟩=>⟨x,r,h1,Rep.monoE e d x h2,Reps.monoE e ds r h3⟩
theorem RepD.monoE (e:j1 H H'):∀ (kvs:List (PyData × PyData)) (ks:List (Key × V)),RepD K H kvs ks->RepD K H' kvs ks
 | [],_,h=>h
 | (.none,c)::r,ks,h=>RepM.monoE e r ks h
 | (.bool _,_)::_,_,h=>h
 | (.int _,_)::_,_,h=>h
 | (.str _,_)::_,_,h=>h
 | (.list _,_)::_,_,h=>h
 | (.tuple _,_)::_,_,h=>h
 | (.dict _,_)::_,_,h=>h
theorem RepM.monoE (e:j1 H H'):∀ (kvs:List (PyData × PyData)) (ks:List (Key × V)),RepM K H kvs ks->RepM K H' kvs ks
 | [],_,h=>h
 | (k,d)::r,ks,⟨i,x,s,h1,h2,h3,h4⟩=>⟨i,x,s,h1,h2,Rep.monoE e d x h3,RepM.monoE e r s h4⟩
end
end
noncomputable def alU:HO->Bool
 | .lst _=>true
 | .tup _=>true
 | .frz _ _=>true
 | _=>false
def jx (H H':Hp):Prop:=∀ b o,H b=some o->alU o=true->H' b=some o
section
variable {K:Fg}{H H':Hp}
theorem jx.tup {a:Addr}{xs:List V} (e:jx H H') (h:SqT K H a xs):SqT K H' a xs:=by
 rcases h with (h | ⟨o,h⟩) | h
 ·exact .inl (.inl (e _ _ h rfl))
 ·exact .inl (.inr ⟨o,e _ _ h rfl⟩)
 ·exact .inr h
theorem jx.sql {a:Addr}{xs:List V} (e:jx H H') (h:SqL K H a xs):SqL K H' a xs:=by
 rcases h with (h | ⟨o,h⟩) | h
 ·exact .inl (.inl (e _ _ h rfl))
 ·exact .inl (.inr ⟨o,e _ _ h rfl⟩)
 ·exact .inr h
mutual
theorem Rep.monoA (e:jx H H'):∀ (d:PyData) (v:V),Rep K H d v->Rep K H' d v
 | .none,v,h=>h
 | .bool _,v,h=>h
 | .int _,v,h=>h
 | .str _,v,h=>h
 | .tuple ds,v,⟨a,xs,h1,h2,h3⟩=>⟨a,xs,h1,jx.tup e h2,Reps.monoA e ds xs h3⟩
 | .list ds,v,⟨a,xs,h1,h2,h3⟩=>⟨a,xs,h1,e _ _ h2 rfl,Reps.monoA e ds xs h3⟩
 | .dict kvs,v,⟨a,h1,h2⟩=>⟨a,h1,h2.imp (fun ⟨ns,q1,q2⟩=>⟨ns,jx.sql e q1,q2⟩) fun z=>z.imp (fun ⟨ks,ob,q1,q2⟩=>⟨ks,ob,e _ _ q1 rfl,RepD.monoA e kvs ks q2⟩) fun y=>y.imp id fun z=>z.imp (fun ⟨x,C,oe,q1,q2,q3⟩=>⟨x,C,oe,q1,e _ _ q2 rfl,q3⟩) id⟩
theorem Reps.monoA (e:jx H H'):∀ (ds:LP) (xs:List V),Reps K H ds xs->Reps K H' ds xs
 | [],xs,h=>h
 | d::ds,xs,⟨x,r,h1,h2,h3⟩=>⟨x,r,h1,Rep.monoA e d x h2,Reps.monoA e ds r h3⟩
theorem RepD.monoA (e:jx H H'):∀ (kvs:List (PyData × PyData)) (ks:List (Key × V)),RepD K H kvs ks->RepD K H' kvs ks
 | [],_,h=>h
 | (.none,c)::r,ks,h=>RepM.monoA e r ks h
 | (.bool _,_)::_,_,h=>h
 | (.int _,_)::_,_,h=>h
 | (.str _,_)::_,_,h=>h
 | (.list _,_)::_,_,h=>h
 | (.tuple _,_)::_,_,h=>h
 | (.dict _,_)::_,_,h=>h
theorem RepM.monoA (e:jx H H'):∀ (kvs:List (PyData × PyData)) (ks:List (Key × V)),RepM K H kvs ks->RepM K H' kvs ks
 | [],_,h=>h
 | (k,d)::r,ks,⟨i,x,s,h1,h2,h3,h4⟩=>⟨i,x,s,h1,h2,Rep.monoA e d x h3,RepM.monoA e r s h4⟩
end
end
theorem jp.a {H H':Hp} (s:jp H H'):jx H H':=fun b o h _=>s b o h
theorem j1.a {H H':Hp} (s:j1 H H'):jx H H':=fun b o h q=>s b o h fun φ z=>by subst z; cases q
theorem jx.refl (H:Hp):jx H H:=fun _ _ h _=>h
theorem jx.trans {H H1 H2:Hp} (a:jx H H1) (b:jx H1 H2):jx H H2:=fun c o h n=>b c o (a c o h n) n
section
variable {K:Fg}{H H':Hp}
theorem Rep.cel (a:Addr):Rep K H (jv a) (.ref a):=⟨a,rfl,.inr (.inr (.inr (.inr rfl)))⟩
theorem Rep.celOut {a:Addr}{v:V} (h:Rep K H (jv a) v):v= .ref a:=by
 obtain ⟨b,h1,⟨ns,_,h2⟩ | ⟨ks,ob,h2,h3⟩ | ⟨x,h2,_⟩ | ⟨x,_,_,h2,_⟩ | h2⟩:=h
 ·cases ns with
  | nil=>cases h2
  | cons n ns=>simp at h2
 ·exact h3.elim
 ·simp at h2
 ·simp at h2
 ·have z:(a:Int)=(b:Int):=by simpa using h2
  rw [h1,Int.ofNat.inj z]
theorem Reps.length:∀ {ds:LP}{xs:List V},Reps K H ds xs->xs.length=ds.length
 | [],xs,h=>by cases h; rfl
 | d::ds,xs,⟨x,r,h1,h2,h3⟩=>by subst h1; simp [Reps.length h3]
theorem Reps.get:∀ {ds:LP}{xs:List V}{i:Nat}{d:PyData},Reps K H ds xs->ds[i]?=some d->∃ x,xs[i]?=some x/\Rep K H d x
 | [],xs,i,d,h,e=>by simp at e
 | c::ds,xs,0,d,⟨x,r,h1,h2,h3⟩,e=>by subst h1; simp at e; subst e; exact ⟨x,rfl,h2⟩
 | c::ds,xs,i+1,d,⟨x,r,h1,h2,h3⟩,e=>by
  subst h1
  obtain ⟨y,e1,e2⟩:=Reps.get (i:=i) h3 (by simpa using e)
  exact ⟨y,by simpa using e1,e2⟩
theorem Reps.append:∀ {ds es:LP}{xs ys:List V},Reps K H ds xs->Reps K H es ys->Reps K H (ds++es) (xs++ys)
 | [],es,xs,ys,h,g=>by cases h; exact g
 | d::ds,es,xs,ys,⟨x,r,h1,h2,h3⟩,g=>by subst h1; exact ⟨x,r++ys,rfl,h2,Reps.append h3 g⟩
theorem Reps.take:∀ {ds:LP}{xs:List V} (n:Nat),Reps K H ds xs->Reps K H (ds.take n) (xs.take n)
 | ds,xs,0,h=>by simp; rfl
 | [],xs,n+1,h=>by cases h; rfl
 | d::ds,xs,n+1,⟨x,r,h1,h2,h3⟩=>by subst h1; exact ⟨x,_,rfl,h2,Reps.take n h3⟩
theorem Reps.drop:∀ {ds:LP}{xs:List V} (n:Nat),Reps K H ds xs->Reps K H (ds.drop n) (xs.drop n)
 | ds,xs,0,h=>by simpa using h
 | [],xs,n+1,h=>by cases h; rfl
 | d::ds,xs,n+1,⟨x,r,h1,h2,h3⟩=>by subst h1; simpa using Reps.drop n h3
end
section
variable {X:Cx}{Kp:List (Addr × Obj)}{σ:St}{H:Hp}{s:Shared}
mutual
theorem qU (I:Inv X Kp σ H s):∀ (d:PyData) (v:V) (u:Value),Rep X.K H d v->jW v u->d.canLay0=true->∃ as,Reads s.heap u d as
 | .none,v,u,h,r,_=>by cases h; cases r; exact ⟨_,.none⟩
 | .bool b,v,u,h,r,_=>by cases h; cases r; exact ⟨_,.bool b⟩
 | .int i,v,u,h,r,_=>by cases h; obtain ⟨t,rfl⟩:=r; exact ⟨_,.int i t⟩
 | .str x,v,u,h,r,_=>by cases h; obtain ⟨t,rfl⟩:=r; exact ⟨_,.str x t⟩
 | .tuple ds,v,u,⟨a,xs,h1,h2,h3⟩,r,hc=>by
  subst h1; cases r
  obtain ⟨its,rv,⟨o,e1,e2,n,e3⟩,_⟩:=I.tuple h2
  obtain ⟨as,ra⟩:=readsAll_of I ds xs its h3 rv (by simpa [PyData.canLay0] using hc)
  exact ⟨as,.tuple e1 e2 e3 (by simpa using ra)⟩
 | .list ds,v,u,⟨a,xs,h1,h2,h3⟩,r,hc=>by
  subst h1; cases r
  obtain ⟨its,rv,⟨o,n,e1,e2,e3,e4⟩,_⟩:=I.list (SqL.of h2)
  obtain ⟨as,ra⟩:=readsAll_of I ds xs its h3 rv (by simpa [PyData.canLay0] using hc)
  exact ⟨a::as,.list e1 e2 e4 (by simpa using ra)⟩
 | .dict kvs,v,u,h,r,hc=>by simp [PyData.canLay0] at hc
theorem readsAll_of (I:Inv X Kp σ H s):∀ (ds:LP) (xs:List V) (us:List Value),Reps X.K H ds xs->jG xs us->PyData.canLayAll0 ds=true->∃ as,ReadsAll s.heap us ds as
 | [],xs,us,h,r,_=>by cases h; cases r; exact ⟨_,.nil⟩
 | d::ds,xs,us,⟨x,q,h1,h2,h3⟩,r,hc=>by
  subst h1
  cases r with
  | cons r1 r2=>
   have hc':d.canLay0=true/\PyData.canLayAll0 ds=true:=by simpa [PyData.canLayAll0] using hc
   obtain ⟨as,ra⟩:=qU I d x _ h2 r1 hc'.1
   obtain ⟨bs,rb⟩:=readsAll_of I ds q _ h3 r2 hc'.2
   exact ⟨_,.cons ra rb⟩
end
end
noncomputable abbrev Rho:=List (OP)
abbrev RP:=Rho->OP
structure EnvR (K:Fg) (H:Hp) (ρ:Rho) (σ:St):Prop where
 len:ρ.length=σ.length
 at':∀ (i:Nat) (d:PyData),ρ[i]?=some (some d)->∃ v,σ[i]?=some (some v)/\Rep K H d v
theorem EnvR.mono {K:Fg}{H H':Hp}{ρ:Rho}{σ:St} (e:EnvR K H ρ σ) (h:jp H H'):EnvR K H' ρ σ:=
 ⟨e.len,fun i d q=>let ⟨v,e1,e2⟩:=e.at' i d q; ⟨v,e1,Rep.mono h d v e2⟩⟩
theorem EnvR.set {K:Fg}{H:Hp}{ρ:Rho}{σ:St} (e:EnvR K H ρ σ) {i:Nat}{d:PyData}{v:V} (r:Rep K H d v):EnvR K H (ρ.set i (some d)) (σ.set i (some v)):=by
 refine ⟨by simp [e.len],fun j c q=>?_⟩
 by_cases hj:i=j
 ·subst hj
  rw [List.getElem?_set] at q ⊢
  simp only [zzM] at q ⊢
  by_cases hl:i < ρ.length
  ·rw [if_pos hl] at q
   rw [if_pos (by rw [←e.len]; exact hl)]
   cases q
   exact ⟨v,rfl,r⟩
  ·rw [if_neg hl] at q; cases q
 ·rw [List.getElem?_set_ne hj] at q ⊢
  exact e.at' j c q
def lkp (i:Nat) (ρ:Rho):OP:=(ρ[i]?).join
theorem qv {i:Nat}{ρ:Rho}{d:PyData} (h:lkp i ρ=some d):ρ[i]?=some (some d):=by
 unfold lkp at h
 cases e:ρ[i]? with
 | none=>rw [e] at h; cases h
 | some o=>rw [e] at h; cases o with
  | none=>cases h
  | some c=>cases h; rfl
def tD (K:Fg) (f:RP):TE:=fun σ H Q=>∃ ρ d,EnvR K H ρ σ/\f ρ=some d/\∀ v H',jp H H'->Rep K H' d v->Q v H'
@[irreducible] def PD (X:Cx) (e:Expr) (f:RP):Prop:=PE X e (tD X.K f)
def tDT (K:Fg) (f:Rho->Option Bool):TT:=fun σ H Q=>∃ ρ b,EnvR K H ρ σ/\f ρ=some b/\∀ H',jp H H'->Q b H'
@[irreducible] def PTD (X:Cx) (e:Expr) (f:Rho->Option Bool):Prop:=PT X e (tDT X.K f)
def tDA (K:Fg) (f:Rho->Option (LP)):TA:=fun σ H Q=>∃ ρ ds,EnvR K H ρ σ/\f ρ=some ds/\∀ vs H',jp H H'->Reps K H' ds vs->Q vs H'
@[irreducible] def PAD (X:Cx) (es:List Expr) (f:Rho->Option (LP)):Prop:=PA X es (tDA X.K f)
inductive Out where
 | nx (ρ:Rho) | rt (d:PyData) | bk (ρ:Rho) | ct (ρ:Rho)
abbrev RO:=Rho->Option Out
def agt (K:Fg) (D:Ends) (H:Hp):Out->Prop
 | .nx ρ=>∀ σ H',jp H H'->EnvR K H' ρ σ->D.nx σ H'
 | .rt d=>∀ v H',jp H H'->Rep K H' d v->D.rt v H'
 | .bk ρ=>∀ σ H',jp H H'->EnvR K H' ρ σ->D.bk σ H'
 | .ct ρ=>∀ σ H',jp H H'->EnvR K H' ρ σ->D.ct σ H'
theorem agt.mono {K:Fg}{D:Ends}{H H':Hp}{o:Out} (h:agt K D H o) (e:jp H H'):agt K D H' o:=by
 cases o with
 | nx ρ=>exact fun σ H2 e2 r=>h σ H2 (e.trans e2) r
 | rt d=>exact fun v H2 e2 r=>h v H2 (e.trans e2) r
 | bk ρ=>exact fun σ H2 e2 r=>h σ H2 (e.trans e2) r
 | ct ρ=>exact fun σ H2 e2 r=>h σ H2 (e.trans e2) r
def tDS (K:Fg) (F:RO):TS:=fun D σ H=>∃ ρ o,EnvR K H ρ σ/\F ρ=some o/\agt K D H o
@[irreducible] def PSD (X:Cx) (st:Stmt) (F:RO):Prop:=PS X st (tDS X.K F)
@[irreducible] def abC (X:Cx) (st:List Stmt) (F:RO):Prop:=PSs X st (tDS X.K F)
def tDG (K:Fg) (ga:PyData->Rho->Option Rho):TG:=fun v σ H Q=>∃ ρ d ρ',EnvR K H ρ σ/\Rep K H d v/\ga d ρ=some ρ'/\∀ σ' H',jp H H'->EnvR K H' ρ' σ'->Q σ' H'
@[irreducible] def PGD (X:Cx) (tg:Expr) (ga:PyData->Rho->Option Rho):Prop:=PG X tg (tDG X.K ga)
section
variable {X:Cx}{e a b c:Expr}{es:List Expr}{fa fb fc:RP}{pos:Pos}
theorem PE.imp {t t':TE} (h:PE X e t) (hi:∀ σ H Q,t' σ H Q->t σ H Q):PE X e t':=fun Kp s σ H Q I q=>h Kp s σ H Q I (hi σ H Q q)
theorem PT.imp {t t':TT} (h:PT X e t) (hi:∀ σ H Q,t' σ H Q->t σ H Q):PT X e t':=fun Kp s σ H Q I q=>h Kp s σ H Q I (hi σ H Q q)
theorem PA.imp {t t':TA} (h:PA X es t) (hi:∀ σ H Q,t' σ H Q->t σ H Q):PA X es t':=fun pos Kp s σ H Q I q=>h pos Kp s σ H Q I (hi σ H Q q)
theorem PS.imp {st:Stmt}{t t':TS} (h:PS X st t) (hi:∀ D σ H,t' D σ H->t D σ H):PS X st t':=fun Kp s σ H D I q=>h Kp s σ H D I (hi D σ H q)
theorem PSs.imp {st:List Stmt}{t t':TS} (h:PSs X st t) (hi:∀ D σ H,t' D σ H->t D σ H):PSs X st t':=fun Kp s σ H D I q=>h Kp s σ H D I (hi D σ H q)
theorem PG.imp {t t':TG} (h:PG X e t) (hi:∀ v σ H Q,t' v σ H Q->t v σ H Q):PG X e t':=fun Kp s σ H v u Q I r q=>h Kp s σ H v u Q I r (hi v σ H Q q)
theorem ja (i:Nat) {x:Str}{pos:Pos} (hN:X.N[i]?=some x:=by rfl) (hv:Vis X.env.scope x:=by first | exact Or.inl rfl | exact Or.inr (Or.inl rfl) | exact Or.inr (Or.inr rfl)) (hd:(x == ("__debug__":Str))=false:=by decide)
  (hcd:(x == ("__classdict__":Str))=false:=by decide):PD X (.Name x pos) (lkp i):=by
 with_unfolding_all exact (PE.imp (Jt hN hv hd hcd) fun σ H Q ⟨ρ,d,e,h,k⟩=>let ⟨v,e1,e2⟩:=e.at' i d (qv h); ⟨v,e1,k v H (jp.refl H) e2⟩)
def cst (d:PyData) (_:Rho):OP:=some d
theorem jh {i j pos}:PD X (.Constant (.int i) j pos) (cst (.int i)):=by
 with_unfolding_all exact (PE.imp aqo fun σ H Q ⟨ρ,d,e,h,k⟩=>by cases h; exact k _ H (jp.refl H) rfl)
theorem zr {i j pos}:PD X (.Constant (.bool i) j pos) (cst (.bool i)):=by
 with_unfolding_all exact (PE.imp arT fun σ H Q ⟨ρ,d,e,h,k⟩=>by cases h; exact k _ H (jp.refl H) rfl)
theorem aqP {j pos}:PD X (.Constant .none j pos) (cst .none):=by
 with_unfolding_all exact (PE.imp alr fun σ H Q ⟨ρ,d,e,h,k⟩=>by cases h; exact k _ H (jp.refl H) rfl)
theorem zA {i j pos}:PD X (.Constant (.str i) j pos) (cst (.str i)):=by
 with_unfolding_all exact (PE.imp als fun σ H Q ⟨ρ,d,e,h,k⟩=>by cases h; exact k _ H (jp.refl H) rfl)
theorem aop {x:Str}{v:V}{u:Value}{d:PyData} (hg:Gl X x) (hm:X.mg x=some u) (r:jW v u) (hr:∀ H,Rep X.K H d v) (hd:(x == ("__debug__":Str))=false:=by decide):PD X (.Name x pos) (cst d):=by
 with_unfolding_all exact (PE.imp (aeC hg hm r hd) fun σ H Q ⟨ρ,d',e,h,k⟩=>by cases h; exact k _ H (jp.refl H) (hr H))
noncomputable def op2 (g:PyData->PyData->OP) (fa fb:RP):RP:=fun ρ=>(fa ρ).bind fun x=>(fb ρ).bind fun y=>g x y
def OpD (X:Cx) (f:Value->Value->Sem Value) (g:PyData->PyData->OP):Prop:=
 ∃ r,OpR X f r/\∀ p q d x y H Q,g p q=some d->Rep X.K H p x->Rep X.K H q y->(∀ v H',jp H H'->Rep X.K H' d v->Q v H')->r x y H Q
theorem alV {g:PyData->PyData->OP}{K:Fg}{r:R2} (hr:∀ p q d x y H Q,g p q=some d->Rep K H p x->Rep K H q y->(∀ v H',jp H H'->Rep K H' d v->Q v H')->r x y H Q)
  {σ:St} {H:Hp} {Q:VK} (h:tD K (op2 g fa fb) σ H Q):tOp r (tD K fa) (tD K fb) σ H Q:=by
 obtain ⟨ρ,d,e,h,k⟩:=h
 unfold op2 at h
 cases ha:fa ρ with
 | none=>rw [ha] at h; cases h
 | some p=>
  rw [ha] at h
  cases hb:fb ρ with
  | none=>rw [hb] at h; cases h
  | some q=>
   rw [hb] at h
   refine ⟨ρ,p,e,ha,fun x H1 s1 r1=>⟨ρ,q,e.mono s1,hb,fun y H2 s2 r2=>?_⟩⟩
   exact hr p q d x y H2 Q h (Rep.mono s2 p x r1) r2 fun v H' s3 r3=>k v H' (s1.trans (s2.trans s3)) r3
theorem ju {op:Operator}{g:PyData->PyData->OP} (ho:OpD X (binaryOp op) g) (ha:PD X a fa) (hb:PD X b fb):PD X (.BinOp a op b pos) (op2 g fa fb):=by
 with_unfolding_all
  obtain ⟨r,h1,h2⟩:=ho
  exact PE.imp (apU h1 ha hb) fun σ H Q h=>alV h2 h
theorem alW {op:CmpOp}{g:PyData->PyData->OP} (ho:OpD X (compareOp op) g) (ha:PD X a fa) (hb:PD X b fb) (hm:behindInMarks op b=false:=by first | exact acp _ | with_unfolding_all rfl):PD X (.Compare a [op] [b] pos) (op2 g fa fb):=by
 with_unfolding_all
  obtain ⟨r,h1,h2⟩:=ho
  exact PE.imp (aiU h1 ha hb hm) fun σ H Q h=>alV h2 h
noncomputable def asB:PyData->Option Bool
 | .bool b=>some b
 | _=>none
def tst (f:RP):Rho->Option Bool:=fun ρ=>(f ρ).bind asB
theorem zY {d:PyData}{b:Bool} (h:asB d=some b):d= .bool b:=by
 cases d <;> simp [asB] at h
 rw [h]
theorem jT {op:CmpOp}{g:PyData->PyData->OP} (ho:OpD X (compareOp op) g) (ha:PD X a fa) (hb:PD X b fb) (hm:behindInMarks op b=false:=by first | exact acp _ | with_unfolding_all rfl):PTD X (.Compare a [op] [b] pos) (tst (op2 g fa fb)):=by
 with_unfolding_all
  obtain ⟨r,h1,h2⟩:=ho
  refine PT.imp (aiV h1 ha hb hm) fun σ H Q ⟨ρ,t,e,h,k⟩=>?_
  cases hd:op2 g fa fb ρ with
  | none=>simp [tst,hd] at h
  | some d=>
   have ht:d= .bool t:=zY (by simpa [tst,hd] using h)
   subst ht
   exact alV h2 ⟨ρ,_,e,hd,fun v H' s r=>⟨t,r,k H' s⟩⟩
theorem qg (h:PD X e fa) (he:∀ whole,isTrue e X.env whole=(do let v ←whole; standAt e.pos; holding [v] (truthy v)):=by intro _; rfl):PTD X e (tst fa):=by
 with_unfolding_all
  refine PT.imp (alv h he) fun σ H Q ⟨ρ,t,e,h,k⟩=>?_
  cases hd:fa ρ with
  | none=>simp [tst,hd] at h
  | some d=>
   have ht:d= .bool t:=zY (by simpa [tst,hd] using h)
   subst ht
   exact ⟨ρ,_,e,hd,fun v H' s r=>⟨t,r,k H' s⟩⟩
variable {ta tb:Rho->Option Bool}{j9:List Expr}
@[irreducible] def PWD (X:Cx) (e:Expr) (f:Rho->Option Bool):Prop:=PW X e (tDT X.K f)
theorem PW.imp {t t':TT} (h:PW X e t) (hi:∀ σ H Q,t' σ H Q->t σ H Q):PW X e t':=fun wh Kp s σ H Q I q=>h wh Kp s σ H Q I (hi σ H Q q)
def adt (ta tb:Rho->Option Bool):Rho->Option Bool:=fun ρ=>(ta ρ).bind fun x=>if x=true then tb ρ else some false
def orB (ta tb:Rho->Option Bool):Rho->Option Bool:=fun ρ=>(ta ρ).bind fun x=>if x=true then some true else tb ρ
def zB (ta:Rho->Option Bool):Rho->Option Bool:=fun ρ=>(ta ρ).map (!·)
theorem alX (ha:PTD X a ta):PWD X (.BoolOp .And [a] pos) ta:=by
 with_unfolding_all exact (an2 ha)
theorem Qp (ha:PTD X a ta):PWD X (.BoolOp .Or [a] pos) ta:=by
 with_unfolding_all exact (alw ha)
theorem aoq (ha:PTD X a ta) (hb:PWD X (.BoolOp .And (b::j9) pos) tb):PWD X (.BoolOp .And (a::b::j9) pos) (adt ta tb):=by
 with_unfolding_all
  refine PW.imp (aqq ha hb) fun σ H Q ⟨ρ,t,e,h,k⟩=>?_
  cases h1:ta ρ with
  | none=>simp [adt,h1] at h
  | some x=>
   refine ⟨ρ,x,e,h1,fun H' s=>?_⟩
   cases x with
   | true=>rw [if_pos rfl]; exact ⟨ρ,t,e.mono s,by simpa [adt,h1] using h,fun H2 s2=>k H2 (s.trans s2)⟩
   | false=>
    rw [if_neg Bool.false_ne_true]
    have:t=false:=by simpa [adt,h1] using h.symm
    subst this
    exact k H' s
theorem ZP (ha:PTD X a ta) (hb:PWD X (.BoolOp .Or (b::j9) pos) tb):PWD X (.BoolOp .Or (a::b::j9) pos) (orB ta tb):=by
 with_unfolding_all
  refine PW.imp (apR ha hb) fun σ H Q ⟨ρ,t,e,h,k⟩=>?_
  cases h1:ta ρ with
  | none=>simp [orB,h1] at h
  | some x=>
   refine ⟨ρ,x,e,h1,fun H' s=>?_⟩
   cases x with
   | false=>rw [if_neg Bool.false_ne_true]; exact ⟨ρ,t,e.mono s,by simpa [orB,h1] using h,fun H2 s2=>k H2 (s.trans s2)⟩
   | true=>
    rw [if_pos rfl]
    have:t=true:=by simpa [orB,h1] using h.symm
    subst this
    exact k H' s
theorem zZ {op:BoolOp}{l:List Expr} (h:PWD X (.BoolOp op l pos) ta):PTD X (.BoolOp op l pos) ta:=by
 with_unfolding_all exact (h.pt)
theorem qd (ha:PTD X a ta):PTD X (.UnaryOp .Not a pos) (zB ta):=by
 with_unfolding_all
  refine PT.imp (alx ha) fun σ H Q ⟨ρ,t,e,h,k⟩=>?_
  cases h1:ta ρ with
  | none=>simp [zB,h1] at h
  | some x=>
   have:(!x)=t:=by simpa [zB,h1] using h
   subst this
   exact ⟨ρ,x,e,h1,fun H' s=>k H' s⟩
def ifD (tc:Rho->Option Bool) (fa fb:RP):RP:=fun ρ=>(tc ρ).bind fun x=>if x=true then fa ρ else fb ρ
theorem ap0 {tc:Rho->Option Bool} (hc:PTD X c tc) (ha:PD X a fa) (hb:PD X b fb):PD X (.IfExp c a b pos) (ifD tc fa fb):=by
 with_unfolding_all
  refine PE.imp (alA hc ha hb) fun σ H Q ⟨ρ,d,e,h,k⟩=>?_
  cases h1:tc ρ with
  | none=>simp [ifD,h1] at h
  | some x=>
   refine ⟨ρ,x,e,h1,fun H' s=>?_⟩
   cases x with
   | true=>rw [if_pos rfl]; exact ⟨ρ,d,e.mono s,by simpa [ifD,h1] using h,fun v H2 s2=>k v H2 (s.trans s2)⟩
   | false=>rw [if_neg Bool.false_ne_true]; exact ⟨ρ,d,e.mono s,by simpa [ifD,h1] using h,fun v H2 s2=>k v H2 (s.trans s2)⟩
def jB (_:Rho):Option (LP):=some []
def jr (fa:RP) (fr:Rho->Option (LP)):Rho->Option (LP):=fun ρ=>(fa ρ).bind fun x=>(fr ρ).map fun r=>x::r
theorem jd:PAD X [] jB:=by
 with_unfolding_all exact (PA.imp zz fun σ H Q ⟨ρ,d,e,h,k⟩=>by cases h; exact k [] H (jp.refl H) rfl)
theorem jb {fr:Rho->Option (LP)} (ha:PD X e fa) (hr:PAD X es fr) (hs:starEach (e::es) X.env=(false,eval e X.env)::starEach es X.env:=by rfl):PAD X (e::es) (jr fa fr):=by
 with_unfolding_all
  refine PA.imp (qG ha hr hs) fun σ H Q ⟨ρ,ds,en,h,k⟩=>?_
  cases h1:fa ρ with
  | none=>simp [jr,h1] at h
  | some x=>
   cases h2:fr ρ with
   | none=>simp [jr,h1,h2] at h
   | some r=>
    have:x::r=ds:=by simpa [jr,h1,h2] using h
    subst this
    exact ⟨ρ,x,en,h1,fun v H1 s1 r1=>⟨ρ,r,en.mono s1,h2,fun vs H2 s2 r2=>k _ H2 (s1.trans s2) ⟨v,vs,rfl,Rep.mono s2 x v r1,r2⟩⟩⟩
noncomputable def few (ds:LP):Bool:=decide (ds.length<1000000)
theorem ZQ {n:Nat} (h:n<1000000):n<=sizeLine:=Nat.le_of_lt (Nat.lt_of_lt_of_le h (by rw [sizeLine_eq]; decide))
theorem jI {H:Hp}{p:Addr}{o:HO} (hp:H p=none):jp H (upd H p o):=fun b u h=>by rw [jo (qR h hp)]; exact h
def QF (fr:Rho->Option (LP)):RP:=fun ρ=>(fr ρ).bind fun ds=>if few ds=true then some (.tuple ds) else none
def Ja (fr:Rho->Option (LP)):RP:=fun ρ=>(fr ρ).bind fun ds=>if few ds=true then some (.list ds) else none
theorem zM {x1}{fr:Rho->Option (LP)} (h:PAD X es fr):PD X (.Tuple es x1 pos) (QF fr):=by
 with_unfolding_all
  refine PE.imp (ahJ h) fun σ H Q ⟨ρ,d,e,h,k⟩=>?_
  cases h1:fr ρ with
  | none=>simp [QF,h1] at h
  | some ds=>
   by_cases hf:few ds=true
   ·have:PyData.tuple ds=d:=by simpa [QF,h1,hf] using h
    subst this
    refine ⟨ρ,ds,e,h1,fun vs H1 s1 r1=>⟨ZQ (by rw [r1.length]; simpa [few] using hf),fun p hp=>k _ _ (s1.trans (jI hp)) ⟨p,vs,rfl,SqT.of ji,Reps.mono (jI hp) _ _ r1⟩⟩⟩
   ·simp [QF,h1,hf] at h
theorem QI {fr:Rho->Option (LP)} (h:PAD X es fr):PD X (.List es pos) (Ja fr):=by
 with_unfolding_all
  refine PE.imp (aeH h) fun σ H Q ⟨ρ,d,e,h,k⟩=>?_
  cases h1:fr ρ with
  | none=>simp [Ja,h1] at h
  | some ds=>
   by_cases hf:few ds=true
   ·have:PyData.list ds=d:=by simpa [Ja,h1,hf] using h
    subst this
    refine ⟨ρ,ds,e,h1,fun vs H1 s1 r1=>⟨ZQ (by rw [r1.length]; simpa [few] using hf),fun p hp=>k _ _ (s1.trans (jI hp)) ⟨p,vs,rfl,ji,Reps.mono (jI hp) _ _ r1⟩⟩⟩
   ·simp [Ja,h1,hf] at h
end
end BX
end
section
namespace BX
open PySem PySem.Spec L2
open PyProof.Rows hiding St
section
variable {X:Cx}{e a b c tg src:Expr}{es:List Expr}{st:Stmt}{sts j9:List Stmt}{fa fb fc:RP}{F G:RO}{pos:Pos}
noncomputable def qo (fa:RP):RO:=fun ρ=>(fa ρ).map Out.rt
theorem jy (h:PD X e fa):PSD X (.Return (some e) pos) (qo fa):=by
 with_unfolding_all
  refine PS.imp (aeF h) fun D σ H ⟨ρ,o,en,q,k⟩=>?_
  cases h1:fa ρ with
  | none=>simp [qo,h1] at q
  | some d=>
   have:Out.rt d=o:=by simpa [qo,h1] using q
   subst this
   exact ⟨ρ,d,en,h1,k⟩
def ifS (tc:Rho->Option Bool) (F G:RO):RO:=fun ρ=>(tc ρ).bind fun x=>if x=true then F ρ else G ρ
theorem ql {l r:List Stmt}{tc:Rho->Option Bool} (hc:PTD X c tc) (hl:abC X l F) (hr:abC X r G):PSD X (.If c l r pos) (ifS tc F G):=by
 with_unfolding_all
  refine PS.imp (apS hc hl hr) fun D σ H ⟨ρ,o,en,q,k⟩=>?_
  cases h1:tc ρ with
  | none=>simp [ifS,h1] at q
  | some x=>
   refine ⟨ρ,x,en,h1,fun H1 s1=>?_⟩
   cases x with
   | true=>rw [if_pos rfl]; exact ⟨ρ,o,en.mono s1,by simpa [ifS,h1] using q,k.mono s1⟩
   | false=>rw [if_neg Bool.false_ne_true]; exact ⟨ρ,o,en.mono s1,by simpa [ifS,h1] using q,k.mono s1⟩
noncomputable def qx:RO:=fun ρ=>some (.nx ρ)
noncomputable def jR (F G:RO):RO:=fun ρ=>(F ρ).bind fun o=>match o with
 | .nx ρ'=>G ρ'
 | o=>some o
theorem jn:abC X [] qx:=by
 with_unfolding_all
  refine PSs.imp aeD fun D σ H ⟨ρ,o,en,q,k⟩=>?_
  cases q
  exact k σ H (jp.refl H) en
theorem jf (h1 : PSD X st F) (h2 : abC X j9 G) : abC X (st :: j9) (jR F G) := by
  with_unfolding_all
   refine PSs.imp (zU h1 h2) fun D σ H ⟨ρ, o, en, q, k⟩ => ?_
   cases hf : F ρ with
   | none => simp [jR, hf] at q
   | some p =>
     refine ⟨ρ, p, en, hf, ?_⟩
     cases p with
     | nx ρ' => exact fun σ' H' s' r' => ⟨ρ', o, r', by simpa [jR, hf] using q, k.mono s'⟩
     | rt d => have : Out.rt d = o := by simpa [jR, hf] using q
               subst this; exact k
     | bk d => have : Out.bk d = o := by simpa [jR, hf] using q
               subst this; exact k
     | ct d => have : Out.ct d = o := by simpa [jR, hf] using q
               subst this; exact k
noncomputable def aor:RO:=fun _=>none
theorem akk:PSD X st aor:=by
 with_unfolding_all exact (PS.imp alC fun D σ H ⟨ρ,o,en,q,k⟩=>by cases q)
theorem zd:abC X sts aor:=by
 with_unfolding_all exact (PSs.imp aj4 fun D σ H ⟨ρ,o,en,q,k⟩=>by cases q)
noncomputable def abD (fa:RP):RO:=fun ρ=>(fa ρ).map fun _=> .nx ρ
theorem j4 (h:PD X e fa) (hs:swapsWith e none pos.line X.env=pure false:=by rfl):PSD X (.Expr e pos) (abD fa):=by
 with_unfolding_all
  refine PS.imp (abH h hs) fun D σ H ⟨ρ,o,en,q,k⟩=>?_
  cases h1:fa ρ with
  | none=>simp [abD,h1] at q
  | some d=>
   have:Out.nx ρ=o:=by simpa [abD,h1] using q
   subst this
   exact ⟨ρ,d,en,h1,fun v H' s r=>k σ H' s (en.mono s)⟩
def jK (i:Nat) (d:PyData) (ρ:Rho):Option Rho:=some (ρ.set i (some d))
theorem qi (i:Nat) {x:Str} (hN:X.N.Nodup) (hi:X.N[i]?=some x:=by rfl) (hx:Loc X.env.scope x:=by first | exact Or.inl rfl | exact Or.inr rfl)
  (hf:X.fn x=true ∨ X.env.scope.names.lookup x=some .local:=by first | exact .inl rfl | exact .inr rfl | assumption):PGD X (.Name x pos) (jK i):=by
 with_unfolding_all
  refine PG.imp (abI hN hi hx hf) fun v σ H Q ⟨ρ,d,ρ',en,r,q,k⟩=>?_
  cases q
  exact k _ H (jp.refl H) (en.set r)
@[irreducible] def aos (X:Cx) (ts:List Expr) (ga:LP->Rho->Option Rho):Prop:=PGs X ts fun vs σ H Q=>∃ ρ ds ρ',EnvR X.K H ρ σ/\Reps X.K H ds vs/\ga ds ρ=some ρ'/\∀ σ' H',jp H H'->EnvR X.K H' ρ' σ'->Q σ' H'
def qp (ds:LP) (ρ:Rho):Option Rho:=match ds with
 | []=>some ρ
 | _=>none
def jE (ga:PyData->Rho->Option Rho) (gr:LP->Rho->Option Rho) (ds:LP) (ρ:Rho):Option Rho:=match ds with
 | d::r=>(ga d ρ).bind fun ρ1=>gr r ρ1
 | []=>none
theorem PGs.imp {ts:List Expr}{t t':TGs} (h:PGs X ts t) (hi:∀ v σ H Q,t' v σ H Q->t v σ H Q):PGs X ts t':=fun Kp s σ H v u Q I r q=>h Kp s σ H v u Q I r (hi v σ H Q q)
theorem agu:aos X [] qp:=by
 with_unfolding_all
  refine PGs.imp aiT fun vs σ H Q ⟨ρ,ds,ρ',en,r,q,k⟩=>?_
  cases ds with
  | nil=>cases r; cases q; exact ⟨rfl,k σ H (jp.refl H) en⟩
  | cons d ds=>cases q
theorem Qb {ga:PyData->Rho->Option Rho}{gr:LP->Rho->Option Rho} (h1:PGD X e ga) (h2:aos X es gr)
  (hs:(assignEach (e::es) X.env).map (·.2)=assign e X.env::(assignEach es X.env).map (·.2):=by rfl):aos X (e::es) (jE ga gr):=by
 with_unfolding_all
  refine PGs.imp (agg h1 h2 hs) fun vs σ H Q ⟨ρ,ds,ρ',en,r,q,k⟩=>?_
  cases ds with
  | nil=>cases q
  | cons d ds=>
   obtain ⟨x,rr,e1,r1,r2⟩:=r
   subst e1
   cases h3:ga d ρ with
   | none=>simp [jE,h3] at q
   | some ρ1=>
    refine ⟨x,rr,rfl,ρ,d,ρ1,en,r1,h3,fun σ1 H1 s1 e1=>⟨ρ1,ds,ρ',e1,Reps.mono s1 ds rr r2,by simpa [jE,h3] using q,fun σ2 H2 s2 e2=>k σ2 H2 (s1.trans s2) e2⟩⟩
def zy (n:Nat) (gr:LP->Rho->Option Rho) (d:PyData) (ρ:Rho):Option Rho:=match d with
 | .tuple ds=>if ds.length=n then gr ds ρ else none
 | _=>none
theorem ai8 {k n:Nat}{gr:LP->Rho->Option Rho} (hc:X.calm=true) (h:aos X es gr) (hn:(assignEach es X.env).length=n:=by rfl) (hst:(assignEach es X.env).findIdx? (·.1)=none:=by rfl):
  PGD X (.Tuple es k pos) (zy n gr):=by
 with_unfolding_all
  refine PG.imp (alD hc h hn hst) fun v σ H Q ⟨ρ,d,ρ',en,r,q,k⟩=>?_
  cases d with
  | tuple ds=>
   obtain ⟨a,xs,e1,e2,e3⟩:=r
   by_cases hl:ds.length=n
   ·exact ⟨a,xs,e1,e2,by rw [e3.length]; exact hl,ρ,ds,ρ',en,e3,by simpa [zy,hl] using q,k⟩
   ·simp [zy,hl] at q
  | _=>simp [zy] at q
def qQ (fa:RP) (ga:PyData->Rho->Option Rho):RO:=fun ρ=>(fa ρ).bind fun d=>(ga d ρ).map Out.nx
theorem j8 (i:Nat) {x:Str}{pos':Pos} (hN:X.N.Nodup) (he:PD X e fa) (hi:X.N[i]?=some x:=by rfl) (hx:Loc X.env.scope x:=by first | exact Or.inl rfl | exact Or.inr rfl) (hs:swapsWith e (some (.Name x pos')) pos.line X.env=pure false:=by rfl)
  (hf:X.fn x=true ∨ X.env.scope.names.lookup x=some .local:=by first | exact .inl rfl | exact .inr rfl | assumption):PSD X (.Assign [.Name x pos'] e pos) (qQ fa (jK i)):=by
 with_unfolding_all
  refine PS.imp (ZL hN hi hx he hs hf) fun D σ H ⟨ρ,o,en,q,k⟩=>?_
  cases h1:fa ρ with
  | none=>simp [qQ,h1] at q
  | some d=>
   have:Out.nx (ρ.set i (some d))=o:=by simpa [qQ,h1,jK] using q
   subst this
   exact ⟨ρ,d,en,h1,fun v H1 s1 r1=>k _ H1 s1 ((en.mono s1).set r1)⟩
def alY (K:Fg) (J:It) (ds:LP) (H0:Hp):Prop:=∀ i H,jx H0 H->(i<ds.length->J.go i H)/\(ds.length<=i->J.stop i H)/\∀ x H',J.yld i H x H'->jp H H'/\∀ d,ds[i]?=some d->Rep K H' d x
def tDI (K:Fg) (fi:Rho->Option (LP)):TI:=fun σ H R=>∃ ρ ds,EnvR K H ρ σ/\fi ρ=some ds/\∀ J H',jp H H'->alY K J ds H'->R J H'
@[irreducible] def PID (X:Cx) (tg src:Expr) (fi:Rho->Option (LP)):Prop:=PI X tg src (tDI X.K fi)
theorem PI.imp {t t':TI} (h:PI X tg src t) (hi:∀ σ H R,t' σ H R->t σ H R):PI X tg src t':=fun Kp s σ H R I q=>h Kp s σ H R I (hi σ H R q)
noncomputable def QJ:PyData->Option (LP)
 | .list ds=>some ds
 | _=>none
noncomputable def aaS:PyData->Option (LP)
 | .tuple ds=>some ds
 | _=>none
def itL (fa:RP):Rho->Option (LP):=fun ρ=>(fa ρ).bind QJ
def itT (fa:RP):Rho->Option (LP):=fun ρ=>(fa ρ).bind aaS
theorem QK (h:PD X e fa):PID X tg e (itL fa):=by
 with_unfolding_all
  refine PI.imp (an4 h) fun σ H R ⟨ρ,ds,en,q,k⟩=>?_
  cases h1:fa ρ with
  | none=>simp [itL,h1] at q
  | some d=>
   cases d with
   | list es=>
    have:es=ds:=by simpa [itL,h1,QJ] using q
    subst this
    refine ⟨ρ,_,en,h1,fun v H1 s1 r1=>?_⟩
    obtain ⟨a,xs,e1,e2,e3⟩:=r1
    refine ⟨a,e1,⟨xs,SqL.of e2⟩,k _ H1 s1 fun i H2 s2=>⟨fun hi=>?_,fun hi=>?_,fun x H' y=>?_⟩⟩
    ·exact ⟨xs,xs[i]'(by rw [e3.length]; exact hi),SqL.of (s2 _ _ e2 rfl),by simp [e3.length,hi]⟩
    ·exact ⟨xs,SqL.of (s2 _ _ e2 rfl),by rw [e3.length]; exact hi⟩
    ·obtain ⟨z1,z2⟩:=y
     subst z1
     refine ⟨jp.refl _,fun d hd=>?_⟩
     obtain ⟨y,e4,e5⟩:=(Reps.monoA s2 _ _ e3).get hd
     have:=z2 xs (SqL.of (s2 _ _ e2 rfl))
     rw [e4] at this; cases this
     exact e5
   | _=>simp [itL,h1,QJ] at q
theorem aeS (h:PD X e fa):PID X tg e (itT fa):=by
 with_unfolding_all
  refine PI.imp (aqt h) fun σ H R ⟨ρ,ds,en,q,k⟩=>?_
  cases h1:fa ρ with
  | none=>simp [itT,h1] at q
  | some d=>
   cases d with
   | tuple es=>
    have:es=ds:=by simpa [itT,h1,aaS] using q
    subst this
    refine ⟨ρ,_,en,h1,fun v H1 s1 r1=>?_⟩
    obtain ⟨a,xs,e1,e2,e3⟩:=r1
    refine ⟨a,e1,⟨xs,e2⟩,k _ H1 s1 fun i H2 s2=>⟨fun hi=>?_,fun hi=>?_,fun x H' y=>?_⟩⟩
    ·exact ⟨xs,xs[i]'(by rw [e3.length]; exact hi),jx.tup s2 e2,by simp [e3.length,hi]⟩
    ·exact ⟨xs,jx.tup s2 e2,by rw [e3.length]; exact hi⟩
    ·obtain ⟨z1,z2⟩:=y
     subst z1
     refine ⟨jp.refl _,fun d hd=>?_⟩
     obtain ⟨y,e4,e5⟩:=(Reps.monoA s2 _ _ e3).get hd
     have:=z2 xs (jx.tup s2 e2)
     rw [e4] at this; cases this
     exact e5
   | _=>simp [itT,h1,aaS] at q
noncomputable def Jb (lo:Int) (n:Nat):LP:=(List.range n).map fun (k:Nat)=>PyData.int (lo+(k:Int))
def agv (ds:LP):Option (LP):=match ds with
 | [.int j]=>if -(2 ^ 62)<=j/\j<2 ^ 62 then some (Jb 0 j.toNat) else none
 | _=>none
def akl (ds:LP):Option (LP):=match ds with
 | [.int i,.int j]=>if -(2 ^ 62)<=i/\i<2 ^ 62/\-(2 ^ 62)<=j/\j<2 ^ 62 then some (Jb i (j - i).toNat) else none
 | _=>none
theorem Z2 {K:Fg}{H:Hp} (lo:Int) (n:Nat):alY K (Itr lo n) (Jb lo n) H:=fun i H2 s2=>by
 have hl:(Jb lo n).length=n:=by simp [Jb]
 refine ⟨fun hi=>by rw [hl] at hi; exact hi,fun hi=>by rw [hl] at hi; exact hi,fun x H' y=>?_⟩
 obtain ⟨z1,z2⟩:=y
 subst z1
 refine ⟨jp.refl _,fun d hd=>?_⟩
 have hi:i<n:=by
  have:=(List.getElem?_eq_some_iff.mp hd).1
  rw [hl] at this; exact this
 have:d= .int (lo+i):=by
  simp [Jb,hi] at hd
  exact hd.symm
 subst this
 exact z2
theorem ZR {p pos:Pos}{fr:Rho->Option (LP)} (hg:Gl X "range") (hm:X.mg "range"=none) (ha:PAD X [a] fr) (hs:starEach [a] X.env=[(false,eval a X.env)]:=by rfl):PID X tg (.Call (.Name "range" p) [a] [] pos) (fun ρ=>(fr ρ).bind agv):=by
 with_unfolding_all
  refine PI.imp (aaJ hg hm ha hs) fun σ H R ⟨ρ,ds,en,q,k⟩=>?_
  cases h1:fr ρ with
  | none=>simp [h1] at q
  | some as=>
   have q':agv as=some ds:=by simpa [h1] using q
   refine ⟨ρ,as,en,h1,fun vs H1 s1 r1=>?_⟩
   unfold agv at q'
   split at q'
   ·rename_i j
    split at q'
    ·rename_i hj
     cases q'
     obtain ⟨x,r,e1,e2,e3⟩:=r1
     cases (show x=V.int j from e2)
     cases (show r=[] from e3)
     exact ⟨j,e1,hj.1,hj.2,k _ H1 s1 (Z2 0 j.toNat)⟩
    ·cases q'
   ·cases q'
theorem ahO {p pos:Pos}{fr:Rho->Option (LP)} (hg:Gl X "range") (hm:X.mg "range"=none) (ha:PAD X [a,b] fr) (hs:starEach [a,b] X.env=[(false,eval a X.env),(false,eval b X.env)]:=by rfl) (hs2:starEach [b] X.env=[(false,eval b X.env)]:=by rfl):
  PID X tg (.Call (.Name "range" p) [a,b] [] pos) (fun ρ=>(fr ρ).bind akl):=by
 with_unfolding_all
  refine PI.imp (aj6 hg hm ha hs hs2) fun σ H R ⟨ρ,ds,en,q,k⟩=>?_
  cases h1:fr ρ with
  | none=>simp [h1] at q
  | some as=>
   have q':akl as=some ds:=by simpa [h1] using q
   refine ⟨ρ,as,en,h1,fun vs H1 s1 r1=>?_⟩
   unfold akl at q'
   split at q'
   ·rename_i i j
    split at q'
    ·rename_i hj
     cases q'
     obtain ⟨x,r,e1,e2,y,r',e3,e4,e5⟩:=r1
     cases (show x=V.int i from e2)
     cases (show y=V.int j from e4)
     cases (show r'=[] from e5)
     subst e3
     exact ⟨i,j,e1,hj,k _ H1 s1 (Z2 i (j - i).toNat)⟩
    ·cases q'
   ·cases q'
def qj (ga:PyData->Rho->Option Rho) (F:RO):LP->RO
 | [],ρ=>some (.nx ρ)
 | d::r,ρ=>(ga d ρ).bind fun ρ1=>(F ρ1).bind fun o=>match o with
  | .nx ρ2=>qj ga F r ρ2
  | .ct ρ2=>qj ga F r ρ2
  | .bk ρ2=>some (.nx ρ2)
  | .rt d=>some (.rt d)
def aaT (fi:Rho->Option (LP)) (ga:PyData->Rho->Option Rho) (F:RO):RO:=fun ρ=>(fi ρ).bind fun ds=>qj ga F ds ρ
theorem ai9 {body:List Stmt}{fi:Rho->Option (LP)}{ga:PyData->Rho->Option Rho} (hp:PassesOwn (model X.prog X.w) X.A X.env X.xe) (hc:X.calm=true) (hi:PID X tg src fi) (hg:PGD X tg ga) (hb:abC X body F)
  (hs:∀ x,foldedSetIterable src X.env x=pure x:=by intro _; rfl):PSD X (.For tg src body [] pos) (aaT fi ga F):=by
 with_unfolding_all
  refine PS.imp (aaK hp hc hi hg hb hs) fun D σ H ⟨ρ,o,en,q,k⟩=>?_
  cases h1:fi ρ with
  | none=>simp [aaT,h1] at q
  | some ds=>
   have q':qj ga F ds ρ=some o:=by simpa [aaT,h1] using q
   refine ⟨ρ,ds,en,h1,fun J H1 s1 Y=>?_⟩
   refine ⟨fun i m σ H2=>m=ds.length - i/\i<=ds.length/\jp H1 H2/\∃ ρ2,EnvR X.K H2 ρ2 σ/\qj ga F (ds.drop i) ρ2=some o,⟨ds.length,by simp,Nat.zero_le _,jp.refl _,ρ,en.mono s1,by simpa using q'⟩,?_⟩
   rintro i m σ2 H2 ⟨rfl,hi,s2,ρ2,en2,q2⟩
   obtain ⟨g1,g2,g3⟩:=Y i H2 (jp.a s2)
   by_cases hlt:i<ds.length
   ·right
    have hd:ds.drop i=ds[i]::ds.drop (i+1):=List.drop_eq_getElem_cons hlt
    rw [hd] at q2
    refine ⟨g1 hlt,fun σ3 H3=>jp H1 H3/\∃ ρ3,EnvR X.K H3 ρ3 σ3/\qj ga F (ds.drop (i+1)) ρ3=some o,fun σ3 H3 ⟨a1,ρ3,a2,a3⟩=>⟨ds.length - (i+1),by omega,rfl,hlt,a1,ρ3,a2,a3⟩,fun x H3 y=>?_⟩
    obtain ⟨s3,r3⟩:=g3 x H3 y
    have r3':=r3 ds[i] (by simp [hlt])
    cases h4:ga ds[i] ρ2 with
    | none=>simp [qj,h4] at q2
    | some ρ4=>
     refine ⟨ρ2,ds[i],ρ4,en2.mono s3,r3',h4,fun σ5 H5 s5 en5=>?_⟩
     cases h5:F ρ4 with
     | none=>simp [qj,h4,h5] at q2
     | some p=>
      refine ⟨ρ4,p,en5,h5,?_⟩
      have s15:=s2.trans (s3.trans s5)
      cases p with
      | nx ρ6=>exact fun σ6 H6 s6 en6=>⟨s15.trans s6,ρ6,en6,by simpa [qj,h4,h5] using q2⟩
      | ct ρ6=>exact fun σ6 H6 s6 en6=>⟨s15.trans s6,ρ6,en6,by simpa [qj,h4,h5] using q2⟩
      | bk ρ6=>
       have:Out.nx ρ6=o:=by simpa [qj,h4,h5] using q2
       subst this
       exact fun σ6 H6 s6 en6=>k σ6 H6 (s1.trans (s15.trans s6)) en6
      | rt d=>
       have:Out.rt d=o:=by simpa [qj,h4,h5] using q2
       subst this
       exact fun v H6 s6 r6=>k v H6 (s1.trans (s15.trans s6)) r6
   ·left
    have he:i=ds.length:=by omega
    have hn:ds.drop i=[]:=by rw [he]; simp
    rw [hn] at q2
    have:Out.nx ρ2=o:=by simpa [qj] using q2
    subst this
    exact ⟨g2 (by omega),k σ2 H2 (s1.trans s2) en2⟩
def aaU (cap:List (Option Nat)) (ρ:Rho):Rho:=cap.map fun o=>o.bind fun i=>(ρ[i]?).join
theorem EnvR.cap {K:Fg}{H:Hp}{ρ:Rho}{σ:St} (e:EnvR K H ρ σ) (cap:List (Option Nat)):EnvR K H (aaU cap ρ) (ags cap σ):=by
 refine ⟨by simp [aaU,ags],fun j d q=>?_⟩
 unfold aaU at q
 unfold ags
 rw [List.getElem?_map] at q ⊢
 cases h1:cap[j]? with
 | none=>rw [h1] at q; cases q
 | some o=>
  rw [h1] at q
  cases o with
  | none=>cases q
  | some i=>
   have q':lkp i ρ=some d:=by simpa [lkp] using q
   obtain ⟨v,e1,e2⟩:=e.at' i d (qv q')
   exact ⟨v,by simp [e1],e2⟩
def Jc (ga:PyData->Rho->Option Rho) (ft:Rho->Option Bool) (fe:RP):LP->Rho->Option (LP)
 | [],_=>some []
 | d::r,τ=>(ga d τ).bind fun τ2=>(ft τ2).bind fun b=>if b=true then (fe τ2).bind fun y=>(Jc ga ft fe r τ2).map fun ys=>y::ys else Jc ga ft fe r τ2
def Qc (fi:Rho->Option (LP)) (cap:List (Option Nat)) (ga:PyData->Rho->Option Rho) (ft:Rho->Option Bool) (fe:RP):RP:=fun ρ=>(fi ρ).bind fun ds=>
 if few ds=true then (Jc ga ft fe ds (aaU cap ρ)).map PyData.list else none
@[irreducible] def aqQ (X:Cx) (ts:List Expr) (f:Rho->Option Bool):Prop:=PTs X ts (tDT X.K f)
def asi (_:Rho):Option Bool:=some true
theorem QL:aqQ X [] asi:=by
 with_unfolding_all exact (fun Kp s σ H Q I ⟨ρ,b,en,q,k⟩=>by cases q; exact ai6 Kp s σ H Q I (k H (jp.refl H)))
theorem agw {ft:Rho->Option Bool} (h:PTD X c ft):aqQ X [c] ft:=by
 with_unfolding_all exact (aoo h)
theorem Qq {el:Expr}{ts:List Expr}{sc:Scope}{ps:Pos}{fi:Rho->Option (LP)}{ga:PyData->Rho->Option Rho}{ft:Rho->Option Bool}{fe:RP} (N':List Str) (cap:List (Option Nat)) (hc:X.calm=true) (hi:PID X tg src fi) (ok:CompOk X sc N' cap)
  (body:∀ cl C s0 H0 fp pn,PGD (blk X N' sc cl C s0 H0 fp pn) tg ga/\aqQ (blk X N' sc cl C s0 H0 fp pn) ts ft/\PD (blk X N' sc cl C s0 H0 fp pn) el fe)
  (hs:∀ x,foldedSetIterable src X.env x=pure x:=by intro _; rfl):PD X (.ListComp el [⟨tg,src,ts,0⟩] sc ps) (Qc fi cap ga ft fe):=by
 with_unfolding_all
  refine PE.imp (ai7 (g:=tDG X.K ga) (tt:=tDT X.K ft) (te:=tD X.K fe) hc hi ok (fun cl C s0 H0 fp pn=>body cl C s0 H0 fp pn) hs) fun σ H Q ⟨ρ,d,en,q,k⟩=>?_
  cases h1:fi ρ with
  | none=>simp [Qc,h1] at q
  | some ds=>
   by_cases hf:few ds=true
   ·cases h2:Jc ga ft fe ds (aaU cap ρ) with
    | none=>simp [Qc,h1,hf,h2] at q
    | some ys=>
     have:PyData.list ys=d:=by simpa [Qc,h1,hf,h2] using q
     subst this
     refine ⟨ρ,ds,en,h1,fun J H1 s1 Y=>?_⟩
     refine ⟨fun i m τ us H2=>m=ds.length - i/\i<=ds.length/\jp H1 H2/\us.length<=i/\∃ ρ2 zs ws,EnvR X.K H2 ρ2 τ/\Reps X.K H2 zs us/\Jc ga ft fe (ds.drop i) ρ2=some ws/\ys=zs++ws,
      ⟨ds.length,by simp,Nat.zero_le _,jp.refl _,Nat.le_refl _,aaU cap ρ,[],ys,(en.mono s1).cap cap,rfl,by simpa using h2,rfl⟩,?_⟩
     rintro i m τ us H2 ⟨rfl,hi',s2,hu,ρ2,zs,ws,en2,r2,q2,ey⟩
     have hsm:us.length<sizeLine:=Nat.lt_of_le_of_lt (Nat.le_trans hu hi') (Nat.lt_of_lt_of_le (by simpa [few] using hf) (by rw [sizeLine_eq]; decide:1000000<=sizeLine))
     obtain ⟨g1,g2,g3⟩:=Y i H2 (jp.a s2)
     refine ⟨hsm,?_⟩
     by_cases hlt:i<ds.length
     ·right
      have hd:ds.drop i=ds[i]::ds.drop (i+1):=List.drop_eq_getElem_cons hlt
      rw [hd] at q2
      refine ⟨g1 hlt,fun x H3 y=>?_⟩
      obtain ⟨s3,r3⟩:=g3 x H3 y
      have r3':=r3 ds[i] (by simp [hlt])
      cases h4:ga ds[i] ρ2 with
      | none=>simp [Jc,h4] at q2
      | some ρ4=>
       refine ⟨ρ2,ds[i],ρ4,en2.mono s3,r3',h4,fun σ5 H5 s5 en5=>?_⟩
       cases h5:ft ρ4 with
       | none=>simp [Jc,h4,h5] at q2
       | some b=>
        refine ⟨ρ4,b,en5,h5,fun H6 s6=>?_⟩
        have s26:=s3.trans (s5.trans s6)
        cases b with
        | false=>
         refine atD ?_
         exact ⟨ds.length - (i+1),by omega,rfl,hlt,s2.trans s26,by omega,ρ4,zs,ws,en5.mono s6,Reps.mono s26 _ _ r2,by simpa [Jc,h4,h5] using q2,ey⟩
        | true=>
         refine atE ?_
         cases h6:fe ρ4 with
         | none=>simp [Jc,h4,h5,h6] at q2
         | some y=>
          cases h7:Jc ga ft fe (ds.drop (i+1)) ρ4 with
          | none=>simp [Jc,h4,h5,h6,h7] at q2
          | some ws'=>
           have hw:y::ws'=ws:=by simpa [Jc,h4,h5,h6,h7] using q2
           refine ⟨ρ4,y,en5.mono s6,h6,fun v H7 s7 r7=>?_⟩
           refine ⟨ds.length - (i+1),by omega,rfl,hlt,s2.trans (s26.trans s7),by rw [List.length_append]; simp; omega,ρ4,zs++[y],ws',(en5.mono s6).mono s7,(Reps.mono (s26.trans s7) _ _ r2).append ⟨v,[],rfl,r7,rfl⟩,h7,?_⟩
           rw [ey,←hw]; simp
     ·left
      have he:i=ds.length:=by omega
      have hn:ds.drop i=[]:=by rw [he]; simp
      rw [hn] at q2
      have hw:[]=ws:=by simpa [Jc] using q2
      subst hw
      have ey':ys=zs:=by simpa using ey
      subst ey'
      exact ⟨g2 (by omega),fun l hl=>k _ _ (s1.trans (s2.trans (jI hl))) ⟨l,us,rfl,ji,Reps.mono (jI hl) _ _ r2⟩⟩
   ·simp [Qc,h1,hf] at q
def Pur (K:Fg) (n:Nat) (g:LP->OP):Sp:=fun vs H Q _=>∃ ds d,ds.length=n/\Reps K H ds vs/\g ds=some d/\∀ v H',jp H H'->Rep K H' d v->Q v H'
def jL (g:LP->OP) (fr:Rho->Option (LP)):RP:=fun ρ=>(fr ρ).bind g
theorem aot {k n:Nat}{f:Addr}{fd:FuncData}{ps:List Str}{g:LP->OP}{x:Str}{p:Pos}{fr:Rho->Option (LP)} (FO:FnOk X.prog X.w X.K X.mg X.base CX0 k f fd ps (Pur X.K n g)) (hr:Room k X.A) (hm:X.mg x=some (.ref f)) (hk:PySem.W.keepIn X.K (.ref f)=true)
  (hb:zW X.K fd ps []) (hn:(e::es).length=n) (ha:PAD X (e::es) fr) (hl:∀ ρ ds,fr ρ=some ds->ds.length=(e::es).length) (hg:Gl X x:=by rfl) (hdb:(x == ("__debug__":Str))=false:=by decide) (he:starEach (e::es) X.env=(false,eval e X.env)::starEach es X.env:=by rfl)
  (hpl:(backTo pos (starEach es X.env)).any (·.1)=false:=by rfl):PD X (.Call (.Name x p) (e::es) [] pos) (jL g fr):=by
 with_unfolding_all
  refine PE.imp (aeK FO hr hg hm hk hb .nil adN ha hdb he hpl) fun σ H Q ⟨ρ,d,en,q,k⟩=>?_
  cases h1:fr ρ with
  | none=>simp [jL,h1] at q
  | some ds=>
   refine ⟨ρ,ds,en,h1,fun vs H1 s1 r1=>?_⟩
   refine ⟨ds,d,by rw [hl ρ ds h1,hn],by rw [List.append_nil]; exact r1,by simpa [jL,h1] using q,fun v H' s r=>k v H' (s1.trans s) r⟩
def QM (X:Cx) (f:Value) (g:LP->OP):Prop:=∃ r,zV X f r/\∀ ds d xs H Q,g ds=some d->Reps X.K H ds xs->(∀ v H',jp H H'->Rep X.K H' d v->Q v H')->r xs H Q
theorem jY {id:String}{g:LP->OP}{x:Str}{p:Pos}{fr:Rho->Option (LP)} (hc:QM X (.builtin id) g) (hm:X.mg x=none) (hv:bootBuiltins x=some (.builtin id)) (ha:PAD X (e::es) fr) (hg:Gl X x:=by rfl) (hn:x ≠ "__name__":=by decide) (hdb:(x == ("__debug__":Str))=false:=by decide)
  (he:starEach (e::es) X.env=(false,eval e X.env)::starEach es X.env:=by rfl) (hpl:(backTo pos (starEach es X.env)).any (·.1)=false:=by rfl):PD X (.Call (.Name x p) (e::es) [] pos) (jL g fr):=by
 with_unfolding_all
  obtain ⟨r,h1,h2⟩:=hc
  refine PE.imp (Z0 h1 hg hm hv ha hn hdb he hpl) fun σ H Q ⟨ρ,d,en,q,k⟩=>?_
  cases h3:fr ρ with
  | none=>simp [jL,h3] at q
  | some ds=>exact ⟨ρ,ds,en,h3,fun vs H1 s1 r1=>h2 ds d vs H1 Q (by simpa [jL,h3] using q) r1 fun v H' s r=>k v H' (s1.trans s) r⟩
theorem adR {T:String}{g:LP->OP}{x:Str}{p:Pos}{fr:Rho->Option (LP)} (hc:QM X (.type T) g) (hm:X.mg x=none) (hv:bootBuiltins x=some (.type T)) (ha:PAD X (e::es) fr) (hg:Gl X x:=by rfl) (hn:x ≠ "__name__":=by decide) (hdb:(x == ("__debug__":Str))=false:=by decide)
  (he:starEach (e::es) X.env=(false,eval e X.env)::starEach es X.env:=by rfl) (hpl:(backTo pos (starEach es X.env)).any (·.1)=false:=by rfl):PD X (.Call (.Name x p) (e::es) [] pos) (jL g fr):=by
 with_unfolding_all
  obtain ⟨r,h1,h2⟩:=hc
  refine PE.imp (aaO h1 hg hm hv ha hn hdb he hpl) fun σ H Q ⟨ρ,d,en,q,k⟩=>?_
  cases h3:fr ρ with
  | none=>simp [jL,h3] at q
  | some ds=>exact ⟨ρ,ds,en,h3,fun vs H1 s1 r1=>h2 ds d vs H1 Q (by simpa [jL,h3] using q) r1 fun v H' s r=>k v H' (s1.trans s) r⟩
end
def jJ (N:List Str) (ds:LP):Rho:=ds.map some++List.replicate (N.length - ds.length) none
theorem Qd {K:Fg}{H:Hp}{N:List Str}{ds:LP}{vs:List V} (r:Reps K H ds vs):EnvR K H (jJ N ds) (L2.Jj N vs):=by
 have hl:=r.length
 refine ⟨by simp [jJ,L2.Jj,hl],fun i d q=>?_⟩
 unfold jJ at q
 by_cases hi:i<ds.length
 ·rw [List.getElem?_append_left (by simpa using hi),List.getElem?_map] at q
  cases e:ds[i]? with
  | none=>rw [e] at q; cases q
  | some c=>
   rw [e] at q; cases q
   obtain ⟨x,e1,e2⟩:=r.get e
   refine ⟨x,?_,e2⟩
   unfold L2.Jj
   rw [List.getElem?_append_left (by simp; omega),List.getElem?_map,e1]; rfl
 ·rw [List.getElem?_append_right (by simpa using hi),List.getElem?_replicate] at q
  split at q <;> cases q
def jA (N:List Str) (n:Nat) (B:RO) (ds:LP):OP:=if ds.length=n then match B (jJ N ds) with
 | some (.rt d)=>some d
 | some (.nx _)=>some .none
 | _=>none else none
section
variable {P:Program}{w:World}{K:Fg}{mg:SV}{base:Heap}
theorem jM {x qual:Str}{st:Stmt}{f:Addr}{fd:FuncData}{N ps:List Str}{k:Nat}{B:RO} (F:Fun K x qual st f fd) (S:FnScope N ps (je st))
  (body:∀ (Kc:Value) (A:Around) (Ko:List Env) (s:Shared) (H:Hp) (E:XK),Room k (A.deeper (envOfC qual (je st) s.heap.objs.size f Kc))->
   abC (zX CX0 P w K mg base N qual (je st) f Kc A Ko s H E).nox (jS st) B):FnOk P w K mg base CX0 (k+1) f fd ps (Pur K ps.length (jA N ps.length B)):=by
 with_unfolding_all
  refine F.ok S (fun vs H Q E h=>?_) (fun Kc A Ko s H vs Q E hr h=>?_)
  ·obtain ⟨ds,d,h1,h2,_⟩:=h
   rw [h2.length]; exact h1
  ·obtain ⟨ds,d,h1,h2,h3,h4⟩:=h
   refine ⟨_,body Kc A Ko s H E hr,?_⟩
   unfold jA at h3
   rw [if_pos h1] at h3
   cases hB:B (jJ N ds) with
   | none=>rw [hB] at h3; cases h3
   | some o=>
    refine ⟨jJ N ds,o,Qd h2,hB,?_⟩
    rw [hB] at h3
    cases o with
    | rt c=>cases h3; exact fun v H' s r=>h4 v H' s r
    | nx ρ=>cases h3; exact fun σ H' s r=>h4 .non H' s rfl
    | bk ρ=>cases h3
    | ct ρ=>cases h3
theorem asj {k n:Nat}{f:Addr}{fd:FuncData}{ps:List Str}{g g':LP->OP} (F:FnOk P w K mg base CX0 k f fd ps (Pur K n g)) (h:∀ ds d,ds.length=n->g' ds=some d->g ds=some d):FnOk P w K mg base CX0 k f fd ps (Pur K n g'):=
 F.imp fun vs H Q E ⟨ds,d,h1,h2,h3,h4⟩=>⟨ds,d,h1,h2,h ds d h1 h3,h4⟩
end
section
variable {X:Cx}
def asl (K:Fg):R2:=fun x y H Q=>∃ a b ys,x= .ref a/\y= .ref b/\SqT K H a []/\SqT K H b ys/\Q (.ref b) H
theorem aou:OpR X (binaryOp .Add) (asl X.K):=by
 intro Kp s σ H x y v u Q I rx ry h
 obtain ⟨a,b,ys,rfl,rfl,ha,hb,q⟩:=h
 cases rx
 cases ry
 obtain ⟨its,r1,p1,_⟩:=I.tuple ha
 obtain ⟨its2,r2,p2,_⟩:=I.tuple hb
 cases r1
 obtain ⟨⟨c1,d1,t1,l1⟩,ho,hc,n,hd⟩:=id p1
 obtain ⟨⟨c2,d2,t2,l2⟩,ho2,hc2,n2,hd2⟩:=id p2
 simp only at hc hd hc2 hd2
 subst hc hd hc2 hd2
 exact concat_meets ⟨_,ho,rfl⟩ ⟨_,ho2,rfl⟩ noFill_tuple_add seq_tuple_add PySem.F.slot_tuple_add PySem.F.entry_tuple_add (PySem.F.args_tuple_add_2 _ _)
  (tuple_addW0 a b _ _ n n2 d1 d2 l1 l2 (by simp)) ⟨ho,ho2,⟨.ref b,H,I,rfl,q⟩⟩
def Jd:PyData->PyData->OP
 | .int i,.int j=>some (.int (i+j))
 | .list xs,.list ys=>if few (xs++ys)=true then some (.list (xs++ys)) else none
 | .tuple [],.tuple ys=>some (.tuple ys)
 | .tuple (x::xs),.tuple ys=>if few ((x::xs)++ys)=true then some (.tuple ((x::xs)++ys)) else none
 | _,_=>none
theorem jF:OpD X (binaryOp .Add) Jd:=by
 refine ⟨_,aqv.or (aqJ.or (aou.or aod)),fun p q d x y H Q h rx ry k=>?_⟩
 unfold Jd at h
 split at h
 ·cases h
  cases (show x=_ from rx)
  cases (show y=_ from ry)
  exact .inl ⟨_,_,rfl,rfl,k _ H (jp.refl H) rfl⟩
 ·rename_i xs ys
  split at h
  ·rename_i hf
   cases h
   obtain ⟨a,us,e1,e2,e3⟩:=rx
   obtain ⟨b,ws,e4,e5,e6⟩:=ry
   have hl:us.length+ws.length<1000000:=by
    rw [e3.length,e6.length]
    simp [few] at hf
    try simp only [List.length_cons]
    omega
   exact .inr (.inl ⟨a,b,us,ws,e1,e4,e2,e5,ZQ hl,fun p hp=>k _ _ (jI hp) ⟨p,_,rfl,ji,Reps.mono (jI hp) _ _ (e3.append e6)⟩⟩)
  ·cases h
 ·rename_i ys
  cases h
  obtain ⟨a,us,e1,e2,e3⟩:=rx
  cases (show us=[] from e3)
  obtain ⟨b,ws,e4,e5,e6⟩:=ry
  exact .inr (.inr (.inl ⟨a,b,ws,e1,e4,e2,e5,k _ H (jp.refl H) ⟨b,ws,rfl,e5,e6⟩⟩))
 ·rename_i z xs ys
  split at h
  ·rename_i hf
   cases h
   obtain ⟨a,us,e1,e2,e3⟩:=rx
   obtain ⟨b,ws,e4,e5,e6⟩:=ry
   have hl:us.length+ws.length<1000000:=by
    rw [e3.length,e6.length]
    simp [few] at hf
    try simp only [List.length_cons]
    omega
   refine .inr (.inr (.inr ⟨a,b,us,ws,e1,e4,e2,e5,fun z=>?_,ZQ hl,fun z=>?_,fun _ p hp=>?_⟩))
   ·have:=e3.length; rw [z] at this; simp at this
   ·subst z
    have:=e6.length
    have hy:ys=[]:=List.length_eq_zero_iff.mp (by simpa using this.symm)
    subst hy
    exact k _ H (jp.refl H) ⟨a,us,rfl,e2,by simpa using e3⟩
   ·exact k _ _ (jI hp) ⟨p,_,rfl,SqT.of ji,Reps.mono (jI hp) _ _ (e3.append e6)⟩
  ·cases h
 ·cases h
noncomputable def Z3:PyData->PyData->OP
 | .int i,.int j=>some (.int (i - j))
 | _,_=>none
theorem qL:OpD X (binaryOp .Sub) Z3:=by
 refine ⟨_,aqw,fun p q d x y H Q h rx ry k=>?_⟩
 unfold Z3 at h
 split at h
 ·cases h; cases (show x=_ from rx); cases (show y=_ from ry); exact ⟨_,_,rfl,rfl,k _ H (jp.refl H) rfl⟩
 ·cases h
theorem Reps.rep {K:Fg}{H:Hp}{ds:LP}{xs:List V} (h:Reps K H ds xs):∀ (n:Nat),Reps K H (List.replicate n ds).flatten (List.replicate n xs).flatten
 | 0=>rfl
 | n+1=>by rw [List.replicate_succ,List.replicate_succ,List.flatten_cons,List.flatten_cons]; exact h.append (Reps.rep h n)
noncomputable def aaV:PyData->PyData->OP
 | .int i,.int j=>if (-(2 ^ 64)<i/\i<2 ^ 64) ∨ (-(2 ^ 64)<j/\j<2 ^ 64) then some (.int (i*j)) else none
 | .list xs,.int k=>if k<1000/\xs.length<1000/\-1000<k then some (.list (List.replicate k.toNat xs).flatten) else none
 | _,_=>none
theorem zC:OpD X (binaryOp .Mult) aaV:=by
 refine ⟨_,aqx.or aqK,fun p q d x y H Q h rx ry k=>?_⟩
 unfold aaV at h
 split at h
 ·split at h
  ·rename_i hc
   cases h; cases (show x=_ from rx); cases (show y=_ from ry); exact .inl ⟨_,_,rfl,rfl,hc,k _ H (jp.refl H) rfl⟩
  ·cases h
 ·rename_i xs n
  split at h
  ·rename_i hc
   cases h
   obtain ⟨a,us,e1,e2,e3⟩:=rx
   cases (show y=_ from ry)
   have hl:=e3.length
   have hs:us.length*n.toNat<=sizeLine:=by
    rw [sizeLine_eq]
    have h1:us.length<=1000:=by omega
    have h2:n.toNat<=1000:=by omega
    exact Nat.le_trans (Nat.mul_le_mul h1 h2) (by decide)
   exact .inr ⟨a,n,us,e1,rfl,e2,by omega,by omega,hs,fun p hp=>k _ _ (jI hp) ⟨p,_,rfl,ji,Reps.mono (jI hp) _ _ (Reps.rep e3 n.toNat)⟩⟩
  ·cases h
 ·cases h
noncomputable def acw:PyData->PyData->OP
 | .int i,.int j=>if 0<j/\j<1073741824 then some (.int (i / j)) else none
 | _,_=>none
theorem Ju:OpD X (binaryOp .FloorDiv) acw:=by
 refine ⟨_,an7,fun p q d x y H Q h rx ry k=>?_⟩
 unfold acw at h
 split at h
 ·split at h
  ·rename_i hc
   cases h; cases (show x=_ from rx); cases (show y=_ from ry); exact ⟨_,_,rfl,rfl,hc,k _ H (jp.refl H) rfl⟩
  ·cases h
 ·cases h
noncomputable def akm:PyData->PyData->OP
 | .int i,.int j=>if 0<j then some (.int (i % j)) else none
 | _,_=>none
theorem JC:OpD X (binaryOp .Mod) akm:=by
 refine ⟨_,aqy,fun p q d x y H Q h rx ry k=>?_⟩
 unfold akm at h
 split at h
 ·split at h
  ·rename_i hc
   cases h; cases (show x=_ from rx); cases (show y=_ from ry); exact ⟨_,_,rfl,rfl,hc,k _ H (jp.refl H) rfl⟩
  ·cases h
 ·cases h
noncomputable def okD (d:PyData):Bool:=d.canLay0 && decide (d.depth<30)
def asm (K:Fg) (neg:Bool):R2:=fun x y H Q=>∃ p q,Rep K H p x/\Rep K H q y/\okD p=true/\okD q=true/\Q (.bl (if neg then !PyData.eqv p q else PyData.eqv p q)) H
theorem qA {d:PyData} (h:okD d=true):d.canLay0=true:=by simp [okD] at h; exact h.1
theorem abK {d:PyData} (h:okD d=true):d.depth<30:=by simp [okD] at h; exact h.2
theorem aqR (hu:X.A.units+64<cLine):OpR X (compareOp .Eq) (asm X.K false):=by
 intro Kp s σ H x y v u Q I rx ry ⟨p,q,h1,h2,h3,h4,k⟩
 obtain ⟨as,ra⟩:=qU I p x v h1 rx (qA h3)
 obtain ⟨bs,rb⟩:=qU I q y u h2 ry (qA h4)
 have d1:=abK h3
 exact SeqAt.compareEq_reads ra rb (qA h3) (qA h4) (by omega) ⟨.bl _,H,I,rfl,k⟩
theorem aqS (hu:X.A.units+64<cLine):OpR X (compareOp .NotEq) (asm X.K true):=by
 intro Kp s σ H x y v u Q I rx ry ⟨p,q,h1,h2,h3,h4,k⟩
 obtain ⟨as,ra⟩:=qU I p x v h1 rx (qA h3)
 obtain ⟨bs,rb⟩:=qU I q y u h2 ry (qA h4)
 have d1:=abK h3
 exact SeqAt.compareNe_reads ra rb (qA h3) (qA h4) (by omega) ⟨.bl _,H,I,rfl,k⟩
def asn (K:Fg):R2:=fun x y H Q=>∃ a b ns,x= .ref a/\y= .ref b/\SqL K H a (List.map V.int ns)/\H b=some (.lst [])/\Q (.bl ns.isEmpty) H
theorem ZH (h:Heap):∀ (ns:List Int) (us:List Value),jG (List.map V.int ns) us->∃ as,ReadsAll h us (ns.map PyData.int) as
 | [],us,r=>by cases r; exact ⟨_,.nil⟩
 | n::ns,us,r=>by
  cases r with
  | cons r1 r2=>
   obtain ⟨t,rfl⟩:=r1
   obtain ⟨as,ra⟩:=ZH h ns _ r2
   exact ⟨_,.cons (.int n t) ra⟩
theorem agx:∀ ns:List Int,PyData.canLayAll0 (ns.map PyData.int)=true
 | []=>rfl
 | n::ns=>by simp [PyData.canLayAll0,PyData.canLay0,agx ns]
theorem aov (hu:X.A.units+64<cLine):OpR X (compareOp .Eq) (asn X.K):=by
 intro Kp s σ H x y v u Q I rx ry ⟨a,b,ns,e1,e2,h1,h2,k⟩
 subst e1; subst e2
 cases rx; cases ry
 obtain ⟨its,rv,⟨o,n,g1,g2,g3,g4⟩,_⟩:=I.list h1
 obtain ⟨as,ra⟩:=ZH s.heap ns its rv
 obtain ⟨bs,rb⟩:=qU I (.list []) (.ref b) (.ref b) ⟨b,[],rfl,h2,rfl⟩ rfl rfl
 have ra':Reads s.heap (.ref a) (.list (ns.map PyData.int)) (a::as):= .list g1 g2 g4 (by simpa using ra)
 refine SeqAt.compareEq_reads ra' rb (by simpa [PyData.canLay0] using agx ns) rfl ?_ ⟨.bl _,H,I,rfl,?_⟩
 ·have:(PyData.list []).depth=1:=rfl
  rw [this]; omega
 ·have:PyData.eqv (.list (ns.map PyData.int)) (.list [])=ns.isEmpty:=by cases ns <;> simp [PyData.eqv,PyData.eqvAll]
  rw [this]; exact k
def dEq:PyData->PyData->OP
 | .dict kvs,.list []=>if zJ kvs=true then some (.bool kvs.isEmpty) else none
 | p,q=>if okD p=true/\okD q=true then some (.bool (PyData.eqv p q)) else none
theorem ze (hu:X.A.units+64<cLine):OpD X (compareOp .Eq) dEq:=by
 refine ⟨_,(aov hu).or (aqR hu),fun p q d x y H Q h rx ry k=>?_⟩
 unfold dEq at h
 split at h
 ·split at h
  ·rename_i hs
   cases h
   obtain ⟨a,ns,e1,e2,e3⟩:=rx.scrOut hs
   obtain ⟨b,ws,e4,e5,e6⟩:=ry
   cases (show ws=[] from e6)
   refine .inl ⟨a,b,ns,e1,e4,e2,e5,?_⟩
   have:ns.isEmpty=(ns.map fun n=>(PyData.int n,PyData.none)).isEmpty:=by simp
   subst e3
   rw [this]
   exact k _ H (jp.refl H) rfl
  ·cases h
 ·split at h
  ·rename_i hc
   cases h
   exact .inr ⟨p,q,rx,ry,hc.1,hc.2,k _ H (jp.refl H) rfl⟩
  ·cases h
def dNe:PyData->PyData->OP:=fun p q=>if okD p=true/\okD q=true then some (.bool (!PyData.eqv p q)) else none
theorem zp (hu:X.A.units+64<cLine):OpD X (compareOp .NotEq) dNe:=by
 refine ⟨_,aqS hu,fun p q d x y H Q h rx ry k=>?_⟩
 unfold dNe at h
 split at h
 ·rename_i hc
  cases h
  exact ⟨p,q,rx,ry,hc.1,hc.2,k _ H (jp.refl H) rfl⟩
 ·cases h
def aqT (K:Fg) (neg:Bool):R2:=fun x y H Q=>∃ p ds,Rep K H p x/\(Rep K H (.list ds) y ∨ Rep K H (.tuple ds) y)/\okD p=true/\okD (.list ds)=true/\Q (.bl (if neg then !(ds.any fun z=>PyData.eqv z p) else ds.any fun z=>PyData.eqv z p)) H
theorem aqU (hu:X.A.units+64<cLine):OpR X (compareOp .In) (aqT X.K false):=by
 intro Kp s σ H x y v u Q I rx ry ⟨p,ds,h1,h2,h3,h4,k⟩
 obtain ⟨as,ra⟩:=qU I p x v h1 rx (qA h3)
 have d1:=abK h3
 have hc:PyData.canLayAll0 ds=true:=by simpa [PyData.canLay0] using qA h4
 rcases h2 with h2 | h2
 ·obtain ⟨bs,rb⟩:=qU I (.list ds) y u h2 ry (qA h4)
  exact SeqAt.in_list_reads rb ra hc (qA h3) (by omega) ⟨.bl _,H,I,rfl,k⟩
 ·obtain ⟨bs,rb⟩:=qU I (.tuple ds) y u h2 ry (by simpa [PyData.canLay0] using hc)
  exact SeqAt.in_tuple_reads rb ra hc (qA h3) (by omega) ⟨.bl _,H,I,rfl,k⟩
theorem akn (hu:X.A.units+64<cLine):OpR X (compareOp .NotIn) (aqT X.K true):=by
 intro Kp s σ H x y v u Q I rx ry ⟨p,ds,h1,h2,h3,h4,k⟩
 obtain ⟨as,ra⟩:=qU I p x v h1 rx (qA h3)
 have d1:=abK h3
 have hc:PyData.canLayAll0 ds=true:=by simpa [PyData.canLay0] using qA h4
 rcases h2 with h2 | h2
 ·obtain ⟨bs,rb⟩:=qU I (.list ds) y u h2 ry (qA h4)
  exact SeqAt.notIn_list_reads rb ra hc (qA h3) (by omega) ⟨.bl _,H,I,rfl,k⟩
 ·obtain ⟨bs,rb⟩:=qU I (.tuple ds) y u h2 ry (by simpa [PyData.canLay0] using hc)
  exact SeqAt.notIn_tuple_reads rb ra hc (qA h3) (by omega) ⟨.bl _,H,I,rfl,k⟩
def dIn (neg:Bool):PyData->PyData->OP:=fun p q=>match q with
 | .list ds=>if okD p=true/\okD (.list ds)=true then some (.bool (if neg then !(ds.any fun z=>PyData.eqv z p) else ds.any fun z=>PyData.eqv z p)) else none
 | .tuple ds=>if okD p=true/\okD (.list ds)=true then some (.bool (if neg then !(ds.any fun z=>PyData.eqv z p) else ds.any fun z=>PyData.eqv z p)) else none
 | _=>none
theorem ap1 {neg:Bool}{p q d:PyData}{x y:V}{H:Hp}{Q:VK}{K:Fg} (h:dIn neg p q=some d) (rx:Rep K H p x) (ry:Rep K H q y) (k:∀ v H',jp H H'->Rep K H' d v->Q v H'):aqT K neg x y H Q:=by
 unfold dIn at h
 split at h
 ·split at h
  ·rename_i ds hc
   cases h
   exact ⟨p,ds,rx,.inl ry,hc.1,hc.2,k _ H (jp.refl H) rfl⟩
  ·cases h
 ·split at h
  ·rename_i ds hc
   cases h
   exact ⟨p,ds,rx,.inr ry,hc.1,hc.2,k _ H (jp.refl H) rfl⟩
  ·cases h
 ·cases h
theorem alZ (hu:X.A.units+64<cLine):OpD X (compareOp .In) (dIn false):=⟨_,aqU hu,fun p q d x y H Q h rx ry k=>ap1 h rx ry k⟩
theorem aaW (hu:X.A.units+64<cLine):OpD X (compareOp .NotIn) (dIn true):=⟨_,akn hu,fun p q d x y H Q h rx ry k=>ap1 h rx ry k⟩
noncomputable def zn (f:Int->Int->Bool):PyData->PyData->OP
 | .int i,.int j=>some (.bool (f i j))
 | _,_=>none
theorem aeT {f:Int->Int->Bool}{p q d:PyData}{x y:V}{H:Hp}{Q:VK}{K:Fg} (h:zn f p q=some d) (rx:Rep K H p x) (ry:Rep K H q y) (k:∀ v H',jp H H'->Rep K H' d v->Q v H'):rI0 (fun i j=> .bl (f i j)) x y H Q:=by
 unfold zn at h
 split at h
 ·cases h; cases (show x=_ from rx); cases (show y=_ from ry); exact ⟨_,_,rfl,rfl,k _ H (jp.refl H) rfl⟩
 ·cases h
theorem QN:OpD X (compareOp .Lt) (zn fun i j=>decide (i<j)):=⟨_,ar4,fun p q d x y H Q h rx ry k=>aeT h rx ry k⟩
theorem aaX:OpD X (compareOp .LtE) (zn fun i j=>decide (i<=j)):=⟨_,ar5,fun p q d x y H Q h rx ry k=>aeT h rx ry k⟩
theorem ahP:OpD X (compareOp .Gt) (zn fun i j=>decide (j<i)):=⟨_,ar6,fun p q d x y H Q h rx ry k=>aeT h rx ry k⟩
theorem al0:OpD X (compareOp .GtE) (zn fun i j=>decide (j<=i)):=⟨_,ar7,fun p q d x y H Q h rx ry k=>aeT h rx ry k⟩
def chn (g g':PyData->PyData->OP) (fa fb fc:RP):RP:=fun ρ=>(fa ρ).bind fun x=>(fb ρ).bind fun y=>(g x y).bind fun z=>(asB z).bind fun t=>if t=true then (fc ρ).bind fun w=>g' y w else some (.bool false)
variable {a b c e:Expr}{fa fb fc:RP}{pos:Pos}
theorem ap2 {g g':PyData->PyData->OP}{K:Fg}{r r':R2} (hr:∀ p q d x y H Q,g p q=some d->Rep K H p x->Rep K H q y->(∀ v H',jp H H'->Rep K H' d v->Q v H')->r x y H Q)
  (hr':∀ p q d x y H Q,g' p q=some d->Rep K H p x->Rep K H q y->(∀ v H',jp H H'->Rep K H' d v->Q v H')->r' x y H Q) {σ:St} {H:Hp} {Q:VK} (h:tD K (chn g g' fa fb fc) σ H Q):ahC r r' (tD K fa) (tD K fb) (tD K fc) σ H Q:=by
 obtain ⟨ρ,d,en,h,k⟩:=h
 unfold chn at h
 cases ha:fa ρ with
 | none=>rw [ha] at h; cases h
 | some p=>
  cases hb:fb ρ with
  | none=>rw [ha,hb] at h; cases h
  | some q=>
   rw [ha,hb] at h
   cases hg:g p q with
   | none=>simp [hg] at h
   | some z=>
    cases ht:asB z with
    | none=>simp [hg,ht] at h
    | some t=>
     have hz:=zY ht
     subst hz
     refine ⟨ρ,p,en,ha,fun x H1 s1 r1=>⟨ρ,q,en.mono s1,hb,fun y H2 s2 r2=>?_⟩⟩
     refine hr p q _ x y H2 _ hg (Rep.mono s2 p x r1) r2 fun v H3 s3 r3=>⟨t,r3,?_⟩
     have s13:=s1.trans (s2.trans s3)
     cases t with
     | false=>
      rw [if_neg Bool.false_ne_true]
      have hd:PyData.bool false=d:=by simpa [hg,asB] using h
      subst hd
      exact k _ H3 s13 rfl
     | true=>
      rw [if_pos rfl]
      cases hc:fc ρ with
      | none=>simp [hg,asB,hc] at h
      | some w=>
       refine ⟨ρ,w,en.mono s13,hc,fun z H4 s4 r4=>?_⟩
       exact hr' q w d y z H4 Q (by simpa [hg,asB,hc] using h) (Rep.mono (s3.trans s4) q y r2) r4 fun v H5 s5 r5=>k v H5 (s13.trans (s4.trans s5)) r5
theorem agy {op op':CmpOp}{g g':PyData->PyData->OP} (ho:OpD X (compareOp op) g) (ho':OpD X (compareOp op') g') (ha:PD X a fa) (hb:PD X b fb) (hc:PD X c fc)
  (hm:lastMarks [op,op'] [b,c]=false:=by with_unfolding_all rfl):PD X (.Compare a [op,op'] [b,c] pos) (chn g g' fa fb fc):=by
 with_unfolding_all
  obtain ⟨r,h1,h2⟩:=ho
  obtain ⟨r',h3,h4⟩:=ho'
  exact PE.imp (alG h1 h3 ha hb hc hm) fun σ H Q h=>ap2 h2 h4 h
theorem adS {op op':CmpOp}{g g':PyData->PyData->OP} (ho:OpD X (compareOp op) g) (ho':OpD X (compareOp op') g') (ha:PD X a fa) (hb:PD X b fb) (hc:PD X c fc)
  (hm:lastMarks [op,op'] [b,c]=false:=by with_unfolding_all rfl):PTD X (.Compare a [op,op'] [b,c] pos) (tst (chn g g' fa fb fc)):=by
 with_unfolding_all
  obtain ⟨r,h1,h2⟩:=ho
  obtain ⟨r',h3,h4⟩:=ho'
  refine PT.imp (alH h1 h3 ha hb hc hm) fun σ H Q ⟨ρ,t,en,h,k⟩=>?_
  cases hd:chn g g' fa fb fc ρ with
  | none=>simp [tst,hd] at h
  | some d=>
   have ht:d= .bool t:=zY (by simpa [tst,hd] using h)
   subst ht
   exact ap2 h2 h4 ⟨ρ,_,en,hd,fun v H' s r=>⟨t,r,k H' s⟩⟩
def dIx:PyData->PyData->OP
 | .list ds,.int i=>if ds.length<1000000 then atI ds i else none
 | .tuple ds,.int i=>if ds.length<1000000 then atI ds i else none
 | .dict kvs,.int i=>if kvs.length<1000000/\zJ kvs=true then (atI kvs i).map (·.1) else none
 | _,_=>none
theorem aeU {K:Fg}{H:Hp}{ds:LP}{xs:List V}{i:Int}{d:PyData} (r:Reps K H ds xs) (h:atI ds i=some d):∃ x,atI xs i=some x/\Rep K H d x:=by
 have hl:=r.length
 unfold atI at h ⊢
 rw [hl]
 cases e:ixN ds.length i with
 | none=>rw [e] at h; cases h
 | some j=>
  rw [e] at h
  obtain ⟨x,e1,e2⟩:=r.get (show ds[j]?=some d from h)
  exact ⟨x,e1,e2⟩
def IxD (X:Cx) (g:PyData->PyData->OP):Prop:=∃ r,IxR X r/\∀ p q d x y H Q,g p q=some d->Rep X.K H p x->Rep X.K H q y->(∀ v H',jp H H'->Rep X.K H' d v->Q v H')->r x y H Q
theorem ixd:IxD X dIx:=by
 refine ⟨_,ai1.or aqG,fun p q d x y H Q h rx ry k=>?_⟩
 unfold dIx at h
 split at h
 ·split at h
  ·obtain ⟨a,us,e1,e2,e3⟩:=rx
   cases (show y=_ from ry)
   obtain ⟨z,g1,g2⟩:=aeU e3 h
   exact .inl ⟨a,us,_,z,e1,rfl,SqL.of e2,g1,k z H (jp.refl H) g2⟩
  ·cases h
 ·split at h
  ·obtain ⟨a,us,e1,e2,e3⟩:=rx
   cases (show y=_ from ry)
   obtain ⟨z,g1,g2⟩:=aeU e3 h
   exact .inr ⟨a,us,_,z,e1,rfl,e2,g1,k z H (jp.refl H) g2⟩
  ·cases h
 ·split at h
  ·rename_i hs
   obtain ⟨a,ns,e1,e2,e3⟩:=rx.scrOut hs.2
   cases (show y=_ from ry)
   subst e3
   rename_i i
   unfold atI at h
   rw [List.length_map] at h
   cases e:ixN ns.length i with
   | none=>rw [e] at h; cases h
   | some j=>
    rw [e] at h
    have h':((ns.map fun n=>(PyData.int n,PyData.none))[j]?).map (·.1)=some d:=h
    rw [List.getElem?_map] at h'
    cases e4:ns[j]? with
    | none=>rw [e4] at h'; cases h'
    | some n=>
     rw [e4] at h'
     cases h'
     refine .inl ⟨a,List.map V.int ns,i,.int n,e1,rfl,e2,?_,k _ H (jp.refl H) rfl⟩
     unfold atI
     rw [List.length_map,e]
     show (List.map V.int ns)[j]?=_
     rw [List.getElem?_map,e4]; rfl
  ·cases h
 ·cases h
theorem jQ (ha:PD X a fa) (hb:PD X b fb) (hs:abJ b:=by intro _ _; rfl):PD X (.Subscript a b pos) (op2 dIx fa fb):=by
 with_unfolding_all
  obtain ⟨r,h1,h2⟩:=ixd (X:=X)
  exact PE.imp (alM h1 ha hb hs) fun σ H Q h=>alV h2 h
def zI (ds:LP):OP:=match ds with
 | [.list xs]=>some (.int xs.length)
 | [.tuple xs]=>some (.int xs.length)
 | [.dict xs]=>if zJ xs=true then some (.int xs.length) else none
 | _=>none
theorem qX:QM X (.builtin "len") zI:=by
 refine ⟨_,aeO,fun ds d xs H Q h r k=>?_⟩
 unfold zI at h
 split at h
 ·cases h
  obtain ⟨x,q,e1,e2,e3⟩:=r
  cases (show q=[] from e3)
  obtain ⟨a,us,g1,g2,g3⟩:=e2
  subst g1
  exact ⟨a,us,e1,.inl (SqL.of g2),k _ H (jp.refl H) (by show _=_; rw [g3.length])⟩
 ·cases h
  obtain ⟨x,q,e1,e2,e3⟩:=r
  cases (show q=[] from e3)
  obtain ⟨a,us,g1,g2,g3⟩:=e2
  subst g1
  exact ⟨a,us,e1,.inr g2,k _ H (jp.refl H) (by show _=_; rw [g3.length])⟩
 ·split at h
  ·rename_i hs
   cases h
   obtain ⟨x,q,e1,e2,e3⟩:=r
   cases (show q=[] from e3)
   obtain ⟨a,ns,g1,g2,g3⟩:=e2.scrOut hs
   subst g1; subst g3
   exact ⟨a,_,e1,.inl g2,k _ H (jp.refl H) (by show _=_; simp)⟩
  ·cases h
 ·cases h
noncomputable def al1 (ds:LP):OP:=match ds with
 | [.int i,.int j]=>some (.int (if j > i then j else i))
 | _=>none
noncomputable def aja (ds:LP):OP:=match ds with
 | [.int i,.int j]=>some (.int (if j<i then j else i))
 | _=>none
theorem aow (hc:X.calm=true):QM X (.builtin "max") al1:=by
 refine ⟨_,aj8 hc,fun ds d xs H Q h r k=>?_⟩
 unfold al1 at h
 split at h
 ·cases h
  obtain ⟨x,q,e1,e2,y,q',e3,e4,e5⟩:=r
  cases (show x=_ from e2); cases (show y=_ from e4); cases (show q'=[] from e5); subst e3
  exact ⟨_,_,e1,k _ H (jp.refl H) rfl⟩
 ·cases h
theorem ajb (hc:X.calm=true):QM X (.builtin "min") aja:=by
 refine ⟨_,aj9 hc,fun ds d xs H Q h r k=>?_⟩
 unfold aja at h
 split at h
 ·cases h
  obtain ⟨x,q,e1,e2,y,q',e3,e4,e5⟩:=r
  cases (show x=_ from e2); cases (show y=_ from e4); cases (show q'=[] from e5); subst e3
  exact ⟨_,_,e1,k _ H (jp.refl H) rfl⟩
 ·cases h
end
section
variable {X:Cx}{Kp:List (Addr × Obj)}{σ:St}{H:Hp}{s:Shared}
theorem ako {prog:Program}{w:World}{A:Around}{E:Value->SP0}{l:Addr}{its:Array Value}{Q:Value->SP0} (hl:s.heap.IsList l its)
  (h:∀ (h2:Heap) (it:Addr),(h2.IsListIter it l 0/\h2.IsList l its)->(∀ b ∈ [it,l],b<h2.objs.size)->l ≠ it->(∀ b o,s.heap.get? b=some o->h2.get? b=some o)->s.heap.get? it=none->Q (.ref it) { s with heap:=h2 }):
  wpAny (model prog w) A (pyIter (.ref l)) Q E s:=by
 have hlt:l<s.heap.objs.size:=by
  obtain ⟨_,e,_⟩:=hl
  exact Heap.lt_size e
 refine wpAny_pyIter_list hl (h _ _ ⟨⟨_,Heap.get?_push_size _ rfl,rfl,rfl⟩,hl.push _⟩ (fun b hb=>?_) (Nat.ne_of_lt hlt) (fun b o e=>Heap.get?_push_of_some _ e) (Heap.get?_none_of_le (Nat.le_refl _)))
 rw [Heap.size_push]
 rcases List.mem_cons.mp hb with e | hb
 ·rw [e]; exact Nat.lt_succ_self _
 ·have e:b=l:=by simpa using hb
  rw [e]; exact Nat.lt_succ_of_lt hlt
theorem aox {h h2 h3 : Heap} {it : Addr} (k1 : ∀ b o, h.get? b = some o -> h2.get? b = some o) (hn : h.get? it = none) (k2 : ∀ b o, b ∉ [it] -> h2.get? b = some o -> h3.get? b = some o) : ∀ b o, h.get? b = some o -> h3.get? b = some o := fun b o e =>
  k2 b o (fun z => by have e1 : b = it := by simpa using z
                      rw [e1, hn] at e; cases e) (k1 b o e)
theorem ajc:∀ {bs:List Bool}{us:List Value},jG (bs.map V.bl) us->us=bs.map Value.bool
 | [],us,r=>by cases r; rfl
 | b::bs,us,r=>by
  cases r with
  | cons r1 r2=>cases (show _=_ from r1); rw [ajc r2]; rfl
theorem akp (bs:List Bool):(List.range bs.length).all (fun i=>bs.getD i false)=bs.all id:=by
 have:bs=(List.range bs.length).map (fun i=>bs.getD i false):=by
  apply List.ext_getElem?
  intro i
  rw [List.getElem?_map]
  by_cases h:i<bs.length
  ·rw [List.getElem?_range h]; simp [List.getD,h]
  ·simp [h]
 conv=>rhs; rw [this]
 rw [List.all_map]; rfl
def atG (K:Fg):List V->Hp->VK->Prop:=fun xs H Q=>∃ a bs,xs=[.ref a]/\SqL K H a (List.map V.bl bs)/\Q (.bl (bs.all id)) H
theorem akq (hc:X.calm=true):zV X (.builtin "all") (atG X.K):=by
 intro Kp s σ H xs us Q I r ⟨a,bs,e,hq,q⟩
 subst e
 obtain ⟨u,rfl,rx⟩:=abn r
 cases rx
 obtain ⟨its,rv,pl,hz⟩:=I.list hq
 have ei:=ajc rv
 have hh:=I.ok.hd hc
 refine call_all_walk (ako pl.isList fun h2 it st hlt hne k1 hn=>?_)
 refine ⟨it,[it,a],[it],its.toArray.size,(fun i v=>its.toArray[i]?=some v),_,fun i=>bs.getD i false,rfl,Walks.list (A:=X.A.in1) hh it a hne its.toArray,st,?_,fun h3 tk k2=>?_⟩
 ·intro i v s' Q' E' hP hq'
  have:v= .bool (bs.getD i false):=by
   have hP':its[i]?=some v:=by simpa using hP
   rw [ei,List.getElem?_map] at hP'
   cases hb:bs[i]? with
   | none=>rw [hb] at hP'; cases hP'
   | some b=>rw [hb] at hP'; cases hP'; simp [List.getD,hb]
  subst this
  exact wpAny_truthy_bool hq'
 ·have I3:=I.kept (t':=tk) (aox k1 hn k2)
  have hl:its.toArray.size=bs.length:=by rw [ei]; simp
  refine ⟨.bl (bs.all id),H,I3,?_,q⟩
  show _=_
  rw [hl,akp]
def bls:LP->Option (List Bool)
 | []=>some []
 | d::r=>(asB d).bind fun b=>(bls r).map fun q=>b::q
theorem Reps.bls {K:Fg}{H:Hp}:∀ {ds:LP}{bs:List Bool}{xs:List V},BX.bls ds=some bs->Reps K H ds xs->xs=bs.map V.bl
 | [],bs,xs,h,r=>by simp [BX.bls] at h; subst h; exact r
 | d::ds,bs,xs,h,⟨x,q,e1,e2,e3⟩=>by
  subst e1
  cases h1:asB d with
  | none=>simp [BX.bls,h1] at h
  | some b=>
   cases h2:BX.bls ds with
   | none=>simp [BX.bls,h1,h2] at h
   | some r=>
    have:b::r=bs:=by simpa [BX.bls,h1,h2] using h
    subst this
    have hd:=zY h1
    subst hd
    cases (show x=_ from e2)
    rw [Reps.bls h2 e3]; rfl
def al2 (ds:LP):OP:=match ds with
 | [.list xs]=>(bls xs).map fun bs=> .bool (bs.all id)
 | _=>none
theorem ahQ (hc:X.calm=true):QM X (.builtin "all") al2:=by
 refine ⟨_,akq hc,fun ds d xs H Q h r k=>?_⟩
 unfold al2 at h
 split at h
 ·rename_i ys
  cases hb:bls ys with
  | none=>simp [hb] at h
  | some bs=>
   have:PyData.bool (bs.all id)=d:=by simpa [hb] using h
   subst this
   obtain ⟨x,q,e1,e2,e3⟩:=r
   cases (show q=[] from e3)
   obtain ⟨a,us,g1,g2,g3⟩:=e2
   subst g1
   have:=Reps.bls hb g3
   subst this
   exact ⟨a,bs,e1,SqL.of g2,k _ H (jp.refl H) rfl⟩
 ·cases h
noncomputable def Z4:PyData->Option Int
 | .int i=>some i
 | _=>none
def aso:LP->Option (List Int)
 | []=>some []
 | d::r=>(Z4 d).bind fun b=>(aso r).map fun q=>b::q
end
section
variable {prog:Program}{w:World}{A:Around}{E:Value->SP0}{s:Shared}
theorem ZS {it t:Addr}{i:Nat}{ys:Array Value}{x:Value}{Q:Value->SP0} (hit:s.heap.IsTupleIter it t i) (ht:s.heap.IsTuple t ys) (hx:ys[i]?=some x)
  (hQ:∀ h',h'.IsTupleIter it t (i+1)->Heap.SameBut it s.heap h'->Q x { s with heap:=h' }):wpAny (model prog w) A (Builtin.SmallTypes.nextOf (.ref it)) Q E s:=by
 obtain ⟨o,ho,hc,hd⟩:=id hit
 obtain ⟨ot,hot,_,nt,hdt⟩:=ht
 unfold Builtin.SmallTypes.nextOf
 refine wpAny_bind (wpAny_callSpecial?_slot (name:=Str.ofString "__next__") hit.typeIs F.slot_tuple_iterator_next
  (wpAny_call_entry F.slot_tuple_iterator_next hit.typeIs F.entry_tuple_iterator_next ?_
   (F.args_tuple_iterator_next_1 _)))
 refine wpAny_bind (m:=field (.ref it) 0) (wpAny_field ho hd (x:= .ref t) rfl ?_)
 have no:¬ ((Value.ref t == Value.none)=true):=Bool.false_ne_true
 show wpAny _ _ (if (Value.ref t == Value.none)=true then _ else
  _) _ _ s
 rw [if_neg no]
 refine wpAny_bind (m:=field (.ref it) 1) (wpAny_field ho hd (x:= .int i 0) rfl ?_)
 refine wpAny_bind (m:=seqItems? (.ref t)) (wpAny_seqItems hot hdt ?_)
 simp only [Int.toNat_natCast,hx]
 refine wpAny_bind (wpAny_setField ho hd (by simp) (wpAny_pure ⟨x,rfl,wpAny_pure (hQ _ ?_ (Heap.SameBut.update ..))⟩))
 refine ⟨_,Heap.get?_update_self _ ho (Obj.isFreed_of_fields (Obj.data_mapFields hd _)),(Obj.cls_mapFields ..).trans hc,?_⟩
 rw [Obj.data_mapFields hd]
 simp [rawInt]
theorem akr {it t:Addr}{i:Nat}{ys:Array Value}{Q:Value->SP0} (hh:A.handled=none) (hit:s.heap.IsTupleIter it t i) (ht:s.heap.IsTuple t ys) (hx:ys[i]?=none)
  (hE:∀ h' e,Heap.ExtBut it s.heap h'->(∃ o,h'.get? e=some o/\o.cls= .type "StopIteration")->E (.ref e) { s with heap:=h' }):wpAny (model prog w) A (Builtin.SmallTypes.nextOf (.ref it)) Q E s:=by
 obtain ⟨o,ho,hc,hd⟩:=id hit
 obtain ⟨ot,hot,_,nt,hdt⟩:=ht
 unfold Builtin.SmallTypes.nextOf
 refine wpAny_bind (wpAny_callSpecial?_slot (name:=Str.ofString "__next__") hit.typeIs F.slot_tuple_iterator_next
  (wpAny_call_entry F.slot_tuple_iterator_next hit.typeIs F.entry_tuple_iterator_next ?_
   (F.args_tuple_iterator_next_1 _)))
 refine wpAny_bind (m:=field (.ref it) 0) (wpAny_field ho hd (x:= .ref t) rfl ?_)
 have no:¬ ((Value.ref t == Value.none)=true):=Bool.false_ne_true
 show wpAny _ _ (if (Value.ref t == Value.none)=true then _ else
  _) _ _ s
 rw [if_neg no]
 refine wpAny_bind (m:=field (.ref it) 1) (wpAny_field ho hd (x:= .int i 0) rfl ?_)
 refine wpAny_bind (m:=seqItems? (.ref t)) (wpAny_seqItems hot hdt ?_)
 simp only [Int.toNat_natCast,hx]
 refine wpAny_bind (wpAny_rule (wpAny_bind (wpAny_setField ho hd (by simp) ?_)))
 refine wpAny_bind (m:=newExc (.type "StopIteration") []) ?_
 simp only [newExc,newTuple]
 refine wpAny_bind (wpAny_newObj_type ?_ (by size_fits))
 refine wpAny_bind (m:=firstArgMember _ _) (wpAny_of_eq (a:=Value.none)
  (by first | rfl | (simp only [firstArgMember]; rfl)) ?_)
 refine wpAny_newObj_type ?_ (by size_fits)
 simp only [raiseNew]
 refine wpAny_bind (wpAny_handled ?_)
 rw [show A.in1.handled=none from hh]
 refine wpAny_bind (wpAny_pure (wpAny_throw ?_))
 exact hE _ _ (((Heap.SameBut.update ..).extBut.push _).push _) ⟨_,Heap.get?_push_size _ rfl,rfl⟩
abbrev Z5 (h:Heap) (T:Addr) (a b c:Value):Prop:=h.get? T=some { cls:= .type "tuple",data:= .seq #[a,b,c] }
theorem acx {T:Addr}{a b c x:Value}{k:Nat}{Q:Unit->SP0} (hT:Z5 s.heap T a b c)
  (h:∀ h',h'.get? T=some { cls:= .type "tuple",data:= .seq ((#[a,b,c]:Array Value).setIfInBounds k x) }->Heap.SameBut T s.heap h'->Q () { s with heap:=h' }):
  wpAny (model prog w) A (updateSeq T (·.setIfInBounds k x)) Q E s:=by
 refine wpAny_updateSeq hT rfl (h _ ?_ (Heap.SameBut.update ..))
 rw [Heap.get?_update_self _ hT rfl]
 simp [Obj.mapSeq]
structure Apart3 (z TI TO i1 i2 i3 t1 t2 t3:Addr):Prop where
 nd:[z,TO,i1,i2,i3].Nodup
 ti:TI ∉ [z,TO,i1,i2,i3]
 s1:t1 ∉ [z,TO,i1,i2,i3]
 s2:t2 ∉ [z,TO,i1,i2,i3]
 s3:t3 ∉ [z,TO,i1,i2,i3]
structure Zip3 (h:Heap) (z TI TO i1 i2 i3 t1 t2 t3:Addr) (xs ys zs:Array Value) (f0:Value) (k:Nat):Prop where
 hz:IsZip h z TI TO f0
 hTI:Z5 h TI (.ref i1) (.ref i2) (.ref i3)
 hTO:∃ a b c,Z5 h TO a b c
 g1:h.IsTupleIter i1 t1 k
 g2:h.IsTupleIter i2 t2 k
 g3:h.IsTupleIter i3 t3 k
 a1:h.IsTuple t1 xs
 a2:h.IsTuple t2 ys
 a3:h.IsTuple t3 zs
theorem Zip3.keep {h h':Heap}{z TI TO i1 i2 i3 t1 t2 t3:Addr}{xs ys zs:Array Value}{f0:Value}{k:Nat} (S:Zip3 h z TI TO i1 i2 i3 t1 t2 t3 xs ys zs f0 k)
  (kp:∀ b ∈ [z,TI,TO,i1,i2,i3,t1,t2,t3],∀ o,h.get? b=some o->h'.get? b=some o):Zip3 h' z TI TO i1 i2 i3 t1 t2 t3 xs ys zs f0 k:=by
 obtain ⟨hz,hTI,⟨a,b,c,hTO⟩,⟨o1,e1,r1⟩,⟨o2,e2,r2⟩,⟨o3,e3,r3⟩,⟨p1,f1,q1⟩,⟨p2,f2,q2⟩,⟨p3,f3,q3⟩⟩:=S
 exact ⟨kp z (by simp) _ hz,kp TI (by simp) _ hTI,⟨a,b,c,kp TO (by simp) _ hTO⟩,⟨o1,kp i1 (by simp) _ e1,r1⟩,⟨o2,kp i2 (by simp) _ e2,r2⟩,⟨o3,kp i3 (by simp) _ e3,r3⟩,⟨p1,kp t1 (by simp) _ f1,q1⟩,⟨p2,kp t2 (by simp) _ f2,q2⟩,⟨p3,kp t3 (by simp) _ f3,q3⟩⟩
def But (l:List Addr) (h h':Heap):Prop:=∀ b o,b ∉ l->h.get? b=some o->h'.get? b=some o
theorem But.of {b:Addr}{l:List Addr}{h h':Heap} (x:Heap.ExtBut b h h') (hb:b ∈ l):But l h h':=fun c o hc e=>x c o (fun z=>hc (by rw [z]; exact hb)) e
theorem But.trans {l:List Addr}{h h1 h2:Heap} (a:But l h h1) (b:But l h1 h2):But l h h2:=fun c o hc e=>b c o hc (a c o hc e)
theorem aks {z TI TO i1 i2 i3 t1 t2 t3:Addr}{xs ys zs:Array Value}{k:Nat}{x y v:Value}{Q:Value->SP0} (D:Apart3 z TI TO i1 i2 i3 t1 t2 t3) (S:Zip3 s.heap z TI TO i1 i2 i3 t1 t2 t3 xs ys zs .none k)
  (hx:xs[k]?=some x) (hy:ys[k]?=some y) (hv:zs[k]?=some v)
  (hQ:∀ h',Zip3 h' z TI TO i1 i2 i3 t1 t2 t3 xs ys zs (rawInt s.heap.objs.size) (k+1)->Z5 h' s.heap.objs.size x y v->But [z,TO,i1,i2,i3] s.heap h'->Q (.ref s.heap.objs.size) { s with heap:=h' }):
  wpAny (model prog w) A (Builtin.«zip.__next__» ⟨[.ref z],[]⟩) (fun fin s'=>∃ v,fin= .done (.ret v)/\Q v s') E s:=by
 obtain ⟨hz,hTI,⟨a,b,c,hTO⟩,g1,g2,g3,a1,a2,a3⟩:=S
 obtain ⟨nd,ti,s1,s2,s3⟩:=D
 simp only [List.nodup_cons,List.mem_cons,List.not_mem_nil,or_false,not_or] at nd ti s1 s2 s3
 obtain ⟨⟨n1,n2,n3,n4⟩,⟨n5,n6,n7⟩,⟨n8,n9⟩,n10,_⟩:=nd
 obtain ⟨t1z,t1o,t11,t12,t13⟩:=s1
 obtain ⟨t2z,t2o,t21,t22,t23⟩:=s2
 obtain ⟨t3z,t3o,t31,t32,t33⟩:=s3
 obtain ⟨tiz,tio,ti1,ti2,ti3⟩:=ti
 refine wpAny_bind (m:=field (.ref z) 2) (wpAny_field hz rfl (x:= .bool false) rfl ?_)
 refine wpAny_bind (m:=field (.ref z) 3) (wpAny_field hz rfl (x:= .ref TI) rfl ?_)
 refine wpAny_bind (wpAny_seqItems hTI rfl ?_)
 refine wpAny_bind (m:=Builtin.SmallTypes.ownedTupleIsFree (.ref z)) ?_
 unfold Builtin.SmallTypes.ownedTupleIsFree
 refine wpAny_bind (wpAny_field hz rfl (x:= .none) rfl (wpAny_pure ?_))
 simp only [zzM]
 refine wpAny_bind (wpAny_rule ?_)
 refine wpAny_bind (wpAny_field hz rfl (x:= .ref TO) rfl ?_)
 refine wpAny_bind (wpAny_setField_rec hz (by simp) fun h1 hz1 b1=>?_)
 replace hz1:IsZip h1 z TI TO .ellipsis:=hz1
 refine wpAny_bind ?_
 simp only [List.zipIdx_cons,List.zipIdx_nil,List.forIn_cons,List.forIn_nil]
 refine wpAny_bind (wpAny_bind (wpAny_onRaise ?_))
 refine wpAny_bind (m:=Builtin.SmallTypes.nextOf (.ref i1)) ?_
 refine ZS (g1.extBut b1.extBut (Ne.symm n2)) (a1.extBut b1.extBut t1z) hx fun h2 g1' b2=>wpAny_pure ?_
 have o2:Z5 h2 TO a b c:=b2.extBut _ _ n5 (b1.extBut _ _ (Ne.symm n1) hTO)
 refine wpAny_bind (wpAny_seqItems o2 rfl ?_)
 refine wpAny_bind (acx o2 fun h3 o3 b3=>?_)
 replace o3:Z5 h3 TO x b c:=o3
 refine wpAny_bind (wpAny_letGo (wpAny_pure ?_))
 refine wpAny_bind (wpAny_bind (wpAny_onRaise ?_))
 refine wpAny_bind (m:=Builtin.SmallTypes.nextOf (.ref i2)) ?_
 refine ZS (((g2.extBut b1.extBut (Ne.symm n3)).extBut b2.extBut (Ne.symm n8)).extBut b3.extBut (Ne.symm n6)) (((a2.extBut b1.extBut t2z).extBut b2.extBut t21).extBut b3.extBut t2o) hy fun h4 g2' b4=>wpAny_pure ?_
 have o4:Z5 h4 TO x b c:=b4.extBut _ _ n6 o3
 refine wpAny_bind (wpAny_seqItems o4 rfl ?_)
 refine wpAny_bind (acx o4 fun h5 o5 b5=>?_)
 replace o5:Z5 h5 TO x y c:=o5
 refine wpAny_bind (wpAny_letGo (wpAny_pure ?_))
 refine wpAny_bind (wpAny_bind (wpAny_onRaise ?_))
 refine wpAny_bind (m:=Builtin.SmallTypes.nextOf (.ref i3)) ?_
 refine ZS (((((g3.extBut b1.extBut (Ne.symm n4)).extBut b2.extBut (Ne.symm n9)).extBut b3.extBut (Ne.symm n7)).extBut b4.extBut (Ne.symm n10)).extBut b5.extBut (Ne.symm n7))
  (((((a3.extBut b1.extBut t3z).extBut b2.extBut t31).extBut b3.extBut t3o).extBut b4.extBut t32).extBut b5.extBut t3o) hv fun h6 g3' b6=>wpAny_pure ?_
 have o6:Z5 h6 TO x y c:=b6.extBut _ _ n7 o5
 refine wpAny_bind (wpAny_seqItems o6 rfl ?_)
 refine wpAny_bind (acx o6 fun h7 o7 b7=>?_)
 replace o7:Z5 h7 TO x y v:=o7
 refine wpAny_bind (wpAny_letGo (wpAny_pure (wpAny_pure ?_)))
 refine wpAny_bind (wpAny_seqItems o7 rfl ?_)
 refine wpAny_bind (wpAny_newTuple ?_)
 have sz:h7.objs.size=s.heap.objs.size:=by rw [b7.1,b6.1,b5.1,b4.1,b3.1,b2.1,b1.1]
 have B:But [z,TO,i1,i2,i3] s.heap h7:=
  ((((((But.of b1.extBut (by simp)).trans (But.of b2.extBut (by simp))).trans (But.of b3.extBut (by simp))).trans (But.of b4.extBut (by simp))).trans (But.of b5.extBut (by simp))).trans (But.of b6.extBut (by simp))).trans (But.of b7.extBut (by simp))
 have z7:IsZip h7 z TI TO .ellipsis:=b7.extBut _ _ n1 (b6.extBut _ _ n4 (b5.extBut _ _ n1 (b4.extBut _ _ n3 (b3.extBut _ _ n1 (b2.extBut _ _ n2 hz1)))))
 have i17:h7.IsTupleIter i1 t1 (k+1):=((((g1'.extBut b3.extBut (Ne.symm n5)).extBut b4.extBut n8).extBut b5.extBut (Ne.symm n5)).extBut b6.extBut n9).extBut b7.extBut (Ne.symm n5)
 have i27:h7.IsTupleIter i2 t2 (k+1):=((g2'.extBut b5.extBut (Ne.symm n6)).extBut b6.extBut n10).extBut b7.extBut (Ne.symm n6)
 have i37:h7.IsTupleIter i3 t3 (k+1):=g3'.extBut b7.extBut (Ne.symm n7)
 refine wpAny_bind (m:=Builtin.SmallTypes.ownedTupleHandOut (.ref z) (.ref h7.objs.size)) ?_
 unfold Builtin.SmallTypes.ownedTupleHandOut
 have z8:IsZip (h7.push { cls:= .type "tuple",data:= .seq #[x,y,v] }) z TI TO .ellipsis:=Heap.get?_push_of_some _ z7
 refine wpAny_bind (wpAny_setField_rec z8 (by simp) fun h9 z9 b9=>?_)
 replace z9:IsZip h9 z TI TO (rawInt h7.objs.size):=z9
 refine wpAny_setField_rec z9 (by simp) fun h10 z10 b10=>?_
 replace z10:IsZip h10 z TI TO (rawInt h7.objs.size):=z10
 have up:∀ c o,c ≠ z->h7.get? c=some o->h10.get? c=some o:=fun c o c1 e=>b10.extBut _ _ c1 (b9.extBut _ _ c1 (Heap.get?_push_of_some _ e))
 have zlt:z<h7.objs.size:=Heap.lt_size z7
 have T10:Z5 h10 h7.objs.size x y v:=b10.extBut _ _ (Nat.ne_of_gt zlt) (b9.extBut _ _ (Nat.ne_of_gt zlt) (Heap.get?_push_size _ rfl))
 rw [sz] at z10 T10
 refine wpAny_pure ⟨_,rfl,?_⟩
 show Q (.ref h7.objs.size) _
 rw [sz]
 have itk:∀ {i t:Addr} {m:Nat},i ≠ z->h7.IsTupleIter i t m->h10.IsTupleIter i t m:=fun ne ⟨o,e,r⟩=>⟨o,up _ o ne e,r⟩
 have tuk:∀ {t:Addr} {us:Array Value},t ∉ [z,TO,i1,i2,i3]->s.heap.IsTuple t us->h10.IsTuple t us:=fun ne ⟨o,e,r⟩=>⟨o,up _ o (fun q=>ne (by simp [q])) (B _ o ne e),r⟩
 refine hQ h10 ⟨z10,up _ _ tiz (B _ _ (by simp [tiz,tio,ti1,ti2,ti3]) hTI),⟨x,y,v,up _ _ (Ne.symm n1) o7⟩,itk (Ne.symm n2) i17,itk (Ne.symm n3) i27,itk (Ne.symm n4) i37,
  tuk (by simp [t1z,t1o,t11,t12,t13]) a1,tuk (by simp [t2z,t2o,t21,t22,t23]) a2,tuk (by simp [t3z,t3o,t31,t32,t33]) a3⟩ T10 fun c o hc e=>up c o (fun q=>hc (by simp [q])) (B c o hc e)
theorem al3 {z TI TO i1 i2 i3 t1 t2 t3:Addr}{xs ys zs:Array Value}{k:Nat}{Q:Fin->SP0} (hh:A.handled=none) (D:Apart3 z TI TO i1 i2 i3 t1 t2 t3) (S:Zip3 s.heap z TI TO i1 i2 i3 t1 t2 t3 xs ys zs .none k) (hx:xs[k]?=none)
  (hE:∀ h' e,But [z,TO,i1,i2,i3] s.heap h'->(∃ o,h'.get? e=some o/\o.cls= .type "StopIteration")->E (.ref e) { s with heap:=h' }):
  wpAny (model prog w) A (Builtin.«zip.__next__» ⟨[.ref z],[]⟩) Q E s:=by
 obtain ⟨hz,hTI,⟨a,b,c,hTO⟩,g1,g2,g3,a1,a2,a3⟩:=S
 obtain ⟨nd,ti,s1,s2,s3⟩:=D
 simp only [List.nodup_cons,List.mem_cons,List.not_mem_nil,or_false,not_or] at nd ti s1 s2 s3
 obtain ⟨⟨n1,n2,n3,n4⟩,⟨n5,n6,n7⟩,⟨n8,n9⟩,n10,_⟩:=nd
 refine wpAny_bind (m:=field (.ref z) 2) (wpAny_field hz rfl (x:= .bool false) rfl ?_)
 refine wpAny_bind (m:=field (.ref z) 3) (wpAny_field hz rfl (x:= .ref TI) rfl ?_)
 refine wpAny_bind (wpAny_seqItems hTI rfl ?_)
 refine wpAny_bind (m:=Builtin.SmallTypes.ownedTupleIsFree (.ref z)) ?_
 unfold Builtin.SmallTypes.ownedTupleIsFree
 refine wpAny_bind (wpAny_field hz rfl (x:= .none) rfl (wpAny_pure ?_))
 simp only [zzM]
 refine wpAny_bind (wpAny_rule ?_)
 refine wpAny_bind (wpAny_field hz rfl (x:= .ref TO) rfl ?_)
 refine wpAny_bind (wpAny_setField_rec hz (by simp) fun h1 hz1 b1=>?_)
 replace hz1:IsZip h1 z TI TO .ellipsis:=hz1
 refine wpAny_bind ?_
 simp only [List.zipIdx_cons,List.zipIdx_nil,List.forIn_cons,List.forIn_nil]
 refine wpAny_bind (wpAny_bind (wpAny_onRaise ?_))
 refine wpAny_bind (m:=Builtin.SmallTypes.nextOf (.ref i1)) ?_
 refine akr hh (g1.extBut b1.extBut (Ne.symm n2)) (a1.extBut b1.extBut s1.1) hx fun h2 e b2 he=>?_
 obtain ⟨oe,ho,hc⟩:=he
 have z2:IsZip h2 z TI TO .ellipsis:=b2 _ _ n2 hz1
 have ez:e ≠ z:=fun q=>by subst q; rw [z2] at ho; cases ho; simp at hc
 refine wpAny_setField_rec z2 (by simp) fun h3 _ b3=>?_
 exact hE h3 e (((But.of b1.extBut (by simp)).trans (But.of b2 (by simp))).trans (But.of b3.extBut (by simp))) ⟨oe,b3.extBut _ _ ez ho,hc⟩
end
structure ZipC (h:Heap) (z TI TO i1 i2 i3 t1 t2 t3:Addr) (f0:Value) (k:Nat):Prop where
 hz:IsZip h z TI TO f0
 hTI:Z5 h TI (.ref i1) (.ref i2) (.ref i3)
 hTO:∃ a b c,Z5 h TO a b c
 g1:h.IsTupleIter i1 t1 k
 g2:h.IsTupleIter i2 t2 k
 g3:h.IsTupleIter i3 t3 k
theorem ZipC.all {h:Heap}{z TI TO i1 i2 i3 t1 t2 t3:Addr}{f0:Value}{k:Nat} (S:ZipC h z TI TO i1 i2 i3 t1 t2 t3 f0 k) {xs ys zs:Array Value} (a1:h.IsTuple t1 xs) (a2:h.IsTuple t2 ys) (a3:h.IsTuple t3 zs):
  Zip3 h z TI TO i1 i2 i3 t1 t2 t3 xs ys zs f0 k:=⟨S.hz,S.hTI,S.hTO,S.g1,S.g2,S.g3,a1,a2,a3⟩
theorem Zip3.c {h:Heap}{z TI TO i1 i2 i3 t1 t2 t3:Addr}{xs ys zs:Array Value}{f0:Value}{k:Nat} (S:Zip3 h z TI TO i1 i2 i3 t1 t2 t3 xs ys zs f0 k):ZipC h z TI TO i1 i2 i3 t1 t2 t3 f0 k:=⟨S.hz,S.hTI,S.hTO,S.g1,S.g2,S.g3⟩
theorem ZipC.keep {h h':Heap}{z TI TO i1 i2 i3 t1 t2 t3:Addr}{f0:Value}{k:Nat} (S:ZipC h z TI TO i1 i2 i3 t1 t2 t3 f0 k) (kp:∀ b ∈ [z,TI,TO,i1,i2,i3],∀ o,h.get? b=some o->h'.get? b=some o):
  ZipC h' z TI TO i1 i2 i3 t1 t2 t3 f0 k:=by
 obtain ⟨hz,hTI,⟨a,b,c,hTO⟩,⟨o1,e1,r1⟩,⟨o2,e2,r2⟩,⟨o3,e3,r3⟩⟩:=S
 exact ⟨kp z (by simp) _ hz,kp TI (by simp) _ hTI,⟨a,b,c,kp TO (by simp) _ hTO⟩,⟨o1,kp i1 (by simp) _ e1,r1⟩,⟨o2,kp i2 (by simp) _ e2,r2⟩,⟨o3,kp i3 (by simp) _ e3,r3⟩⟩
def Itz (K:Fg) (t1 t2 t3:Addr):It:=
 ⟨fun i H=>∃ xs ys zs x y v,SqT K H t1 xs/\SqT K H t2 ys/\SqT K H t3 zs/\xs[i]?=some x/\ys[i]?=some y/\zs[i]?=some v,
  fun i H u H'=>∃ p x y v,u= .ref p/\H p=none/\H'=upd H p (.tup [x,y,v])/\∀ xs ys zs,SqT K H t1 xs->SqT K H t2 ys->SqT K H t3 zs->xs[i]?=some x/\ys[i]?=some y/\zs[i]?=some v,
  fun i H=>∃ xs ys zs,SqT K H t1 xs/\SqT K H t2 ys/\SqT K H t3 zs/\xs.length<=i⟩
theorem al4 {P:Program}{w:World}{K:Fg}{elts:List Expr}{x1:Nat}{pos:Pos}{z TI TO i1 i2 i3 t1 t2 t3:Addr} (nd:[z,TO,i1,i2,i3].Nodup) (ti:TI ∉ [z,TO,i1,i2,i3]):
  Turn P w K (.Tuple elts x1 pos) (Itz K t1 t2 t3) [z,TI,TO,i1,i2,i3] z (fun i h=>ZipC h z TI TO i1 i2 i3 t1 t2 t3 .none i) where
 mem:=by simp
 obj:=fun i h st b hb=>by
  obtain ⟨hz,hTI,⟨a,b',c,hTO⟩,⟨o1,e1,_,d1⟩,⟨o2,e2,_,d2⟩,⟨o3,e3,_,d3⟩⟩:=st
  simp only [List.mem_cons,List.not_mem_nil,or_false] at hb
  rcases hb with rfl | rfl | rfl | rfl | rfl | rfl
  ·exact ⟨_,hz,fun v q=>by cases q⟩
  ·exact ⟨_,hTI,fun v q=>by cases q⟩
  ·exact ⟨_,hTO,fun v q=>by cases q⟩
  ·exact ⟨o1,e1,fun v q=>by rw [d1] at q; cases q⟩
  ·exact ⟨o2,e2,fun v q=>by rw [d2] at q; cases q⟩
  ·exact ⟨o3,e3,fun v q=>by rw [d3] at q; cases q⟩
 keep:=fun i h h' st k=>st.keep k
 item:=by
  intro X hP hw hK hc i Kp s σ H E I hf st hg
  subst hP hw hK
  obtain ⟨xs,ys,zs,x,y,v,q1,q2,q3,ex,ey,ev⟩:=hg
  obtain ⟨us1,r1,p1,z1⟩:=I.tuple q1
  obtain ⟨us2,r2,p2,z2⟩:=I.tuple q2
  obtain ⟨us3,r3,p3,z3⟩:=I.tuple q3
  obtain ⟨u1,m1,l1⟩:=r1.get ex
  obtain ⟨u2,m2,l2⟩:=r2.get ey
  obtain ⟨u3,m3,l3⟩:=r3.get ev
  have trk:∀ {t:Addr} {ws:List V},SqT X.K H t ws->t ∉ [z,TO,i1,i2,i3]:=fun {t ws} hq hb=>by
   have hb':t ∈ [z,TI,TO,i1,i2,i3]:=by
    simp only [List.mem_cons,List.not_mem_nil,or_false] at hb ⊢
    rcases hb with e | e | e | e | e <;> simp [e]
   rcases hq with (e | ⟨o,e⟩) | ⟨o,its,n,hk,hcl,hs,_,_⟩
   ·have:=(hf t hb').1; rw [e] at this; cases this
   ·have:=(hf t hb').1; rw [e] at this; cases this
   ·-- an object of the module is no iterator of ours
    obtain ⟨f0,f1,f2,f3,f4,f5⟩:=hf t hb'
    have hbase:=I.mod.kin t o hk
    rcases f3 with q | q
    ·exact I.ok.noex t o hbase q
    ·exact absurd (Nat.lt_of_lt_of_le (Heap.lt_size hbase) (Nat.le_trans I.ok.bsz q)) (Nat.lt_irrefl _)
  have D:Apart3 z TI TO i1 i2 i3 t1 t2 t3:=⟨nd,ti,trk q1,trk q2,trk q3⟩
  have S:=st.all (xs:=us1.toArray) (ys:=us2.toArray) (zs:=us3.toArray) p1 p2 p3
  have hT:s.TypeIs (.ref z) "zip":=⟨_,st.hz,rfl⟩
  unfold pyNext
  refine wpAny_bind (wpAny_attempt (wpAny_callSpecial?_slot (name:=Str.ofString "__next__") hT F.slot_zip_next
   (wpAny_call_entry F.slot_zip_next hT F.entry_zip_next (aks D S (by simpa using m1) (by simpa using m2) (by simpa using m3) fun h1 S1 T1 B1=>wpAny_pure ?_)
    (F.args_zip_next_1 _))))
  refine ⟨_,rfl,?_⟩
  refine wpAny_letOwnedTupleGo_zip (s:={ s with heap:=h1 }) S1.hz fun h2 z2' b2=>?_
  have nT:H s.heap.objs.size=none:=I.hok.fresh (Nat.le_refl _)
  have zlt:z<s.heap.objs.size:=Heap.lt_size st.hz
  have T2:Z5 h2 s.heap.objs.size u1 u2 u3:=b2.extBut _ _ (Nat.ne_of_gt zlt) T1
  have B2:But [z,TO,i1,i2,i3] s.heap h2:=B1.trans (But.of b2.extBut (by simp))
  have inF:∀ b ∈ [z,TO,i1,i2,i3],b ∈ [z,TI,TO,i1,i2,i3]:=fun b hb=>by
   simp only [List.mem_cons,List.not_mem_nil,or_false] at hb ⊢
   rcases hb with e | e | e | e | e <;> simp [e]
  have ntr:∀ b u,H b=some u->b ∉ [z,TO,i1,i2,i3]:=fun b u e hb=>by
   have:=(hf b (inF b hb)).1
   rw [e] at this; cases this
  have neT:∀ b u,H b=some u->b ≠ s.heap.objs.size:=fun b u e q=>by rw [q,nT] at e; cases e
  have hok2:HOk X.prog X.w (upd H s.heap.objs.size (.tup [x,y,v])) h2:=fun b u e=>by
   by_cases hb:b=s.heap.objs.size
   ·subst hb
    rw [ji] at e
    cases e
    exact ⟨by show 3<=sizeLine; rw [sizeLine_eq]; decide,[u1,u2,u3],.cons l1 (.cons l2 (.cons l3 .nil)),⟨_,T2,rfl,_,rfl⟩⟩
   ·rw [jo hb] at e
    refine (I.hok b u e).stay (fun c o hc' q=>B2 c o ?_ q) (fun c q=>by rw [jo (neT c _ q)]; exact q) fun c ws q=>by rw [jo (neT c _ q)]; exact q
    rcases hc' with q' | q'
    ·rw [q']; exact ntr b u e
    ·exact ntr c _ q'
  have I2:Inv X Kp σ (upd H s.heap.objs.size (.tup [x,y,v])) { s with heap:=h2,toks:=s.toks }:=by
   refine I.step (g':=s.gens) (d':=s.drawn) (ch:=[z,TO,i1,i2,i3]) (fun b hb=>?_) (fun b o _ _ hb e _=>B2 b o hb e) (fun b o _ _ hb e _=>⟨o.slots,B2 b o hb e⟩) (fun b o hb e n=>?_) (fun b o hb e=>⟨o,B2 b o hb e⟩)
    (fun b ws e=>by rw [jo (neT b _ e)]; exact e) (fun b ob ws e=>by rw [jo (neT b _ e)]; exact e) (fun b ps e=>⟨#[],by rw [jo (neT b _ e),e]; simp⟩) (fun m hm=>?_) hok2 I.bare
   ·obtain ⟨f0,f1,f2,f3,f4,f5⟩:=hf b (inF b hb)
    exact ⟨f3,f1,f4,f5⟩
   ·rw [jo (Nat.ne_of_lt (Heap.lt_size e))]; exact n
   ·obtain ⟨o,es,ep,ho,r⟩:=hm
    refine ⟨o,es,ep,B2 _ o (fun hb=>?_) ho,r⟩
    exact (hf _ (inF _ hb)).2.1 rfl
  refine ⟨.ref s.heap.objs.size,_,I2,rfl,⟨_,x,y,v,rfl,nT,rfl,fun as bs cs g1 g2 g3=>?_⟩,?_,fun b hb=>?_⟩
  ·rw [I.tuple_inj g1 q1,I.tuple_inj g2 q2,I.tuple_inj g3 q3]
   exact ⟨ex,ey,ev⟩
  ·have c1:=S1.c
   obtain ⟨_,hTI,⟨a,b,c,hTO⟩,⟨o1,e1,w1⟩,⟨o2,e2,w2⟩,⟨o3,e3,w3⟩⟩:=c1
   simp only [List.nodup_cons,List.mem_cons,List.not_mem_nil,or_false,not_or] at nd ti
   obtain ⟨⟨n1,n2,n3,n4⟩,_⟩:=nd
   exact ⟨z2',b2.extBut _ _ ti.1 hTI,⟨a,b,c,b2.extBut _ _ (Ne.symm n1) hTO⟩,⟨o1,b2.extBut _ _ (Ne.symm n2) e1,w1⟩,⟨o2,b2.extBut _ _ (Ne.symm n3) e2,w2⟩,⟨o3,b2.extBut _ _ (Ne.symm n4) e3,w3⟩⟩
  ·obtain ⟨o,ho,_⟩:∃ o,s.heap.get? b=some o/\True:=by
    obtain ⟨hz,hTI,⟨a,b',c,hTO⟩,⟨o1,e1,_⟩,⟨o2,e2,_⟩,⟨o3,e3,_⟩⟩:=st
    simp only [List.mem_cons,List.not_mem_nil,or_false] at hb
    rcases hb with rfl | rfl | rfl | rfl | rfl | rfl
    ·exact ⟨_,hz,trivial⟩
    ·exact ⟨_,hTI,trivial⟩
    ·exact ⟨_,hTO,trivial⟩
    ·exact ⟨_,e1,trivial⟩
    ·exact ⟨_,e2,trivial⟩
    ·exact ⟨_,e3,trivial⟩
   rw [jo (Nat.ne_of_lt (Heap.lt_size ho))]
   exact (hf b hb).1
 done:=by
  intro X hP hw hK hc i Kp s σ H E I hf st hg
  subst hP hw hK
  obtain ⟨xs,ys,zs,q1,q2,q3,hl⟩:=hg
  obtain ⟨us1,r1,p1,z1⟩:=I.tuple q1
  obtain ⟨us2,r2,p2,z2⟩:=I.tuple q2
  obtain ⟨us3,r3,p3,z3⟩:=I.tuple q3
  have trk:∀ {t:Addr} {ws:List V},SqT X.K H t ws->t ∉ [z,TO,i1,i2,i3]:=fun {t ws} hq hb=>by
   have hb':t ∈ [z,TI,TO,i1,i2,i3]:=by
    simp only [List.mem_cons,List.not_mem_nil,or_false] at hb ⊢
    rcases hb with e | e | e | e | e <;> simp [e]
   rcases hq with (e | ⟨o,e⟩) | ⟨o,its,n,hk,hcl,hs,_,_⟩
   ·have:=(hf t hb').1; rw [e] at this; cases this
   ·have:=(hf t hb').1; rw [e] at this; cases this
   ·obtain ⟨f0,f1,f2,f3,f4,f5⟩:=hf t hb'
    have hbase:=I.mod.kin t o hk
    rcases f3 with q | q
    ·exact I.ok.noex t o hbase q
    ·exact absurd (Nat.lt_of_lt_of_le (Heap.lt_size hbase) (Nat.le_trans I.ok.bsz q)) (Nat.lt_irrefl _)
  have D:Apart3 z TI TO i1 i2 i3 t1 t2 t3:=⟨nd,ti,trk q1,trk q2,trk q3⟩
  have S:=st.all (xs:=us1.toArray) (ys:=us2.toArray) (zs:=us3.toArray) p1 p2 p3
  have hT:s.TypeIs (.ref z) "zip":=⟨_,st.hz,rfl⟩
  have hlen:=r1.length
  unfold pyNext
  refine wpAny_bind (wpAny_attempt (wpAny_callSpecial?_slot (name:=Str.ofString "__next__") hT F.slot_zip_next
   (wpAny_call_entry F.slot_zip_next hT F.entry_zip_next (al3 (I.ok.hd hc) D S (by simp; omega) fun h1 e B1 he=>?_)
    (F.args_zip_next_1 _))))
  obtain ⟨o,ho,hcl⟩:=he
  refine wpAny_bind (wpAny_isInstance (T:="StopIteration") (b:=true) ⟨o,ho,hcl⟩ isSubtype_stop ?_)
  refine wpAny_pure ⟨rfl,?_⟩
  have inF:∀ b ∈ [z,TO,i1,i2,i3],b ∈ [z,TI,TO,i1,i2,i3]:=fun b hb=>by
   simp only [List.mem_cons,List.not_mem_nil,or_false] at hb ⊢
   rcases hb with e | e | e | e | e <;> simp [e]
  have ntr:∀ b u,H b=some u->b ∉ [z,TO,i1,i2,i3]:=fun b u e hb=>by
   have:=(hf b (inF b hb)).1
   rw [e] at this; cases this
  refine I.step (t':=s.toks) (g':=s.gens) (d':=s.drawn) (ch:=[z,TO,i1,i2,i3]) (fun b hb=>?_) (fun b o _ _ hb e _=>B1 b o hb e) (fun b o _ _ hb e _=>⟨o.slots,B1 b o hb e⟩) (fun b o hb e n=>n) (fun b o hb e=>⟨o,B1 b o hb e⟩)
   (fun b ws e=>e) (fun b ob ws e=>e) (fun b ps e=>⟨#[],by rw [e]; simp⟩) (fun m hm=>?_) (fun b u e=>?_) I.bare
  ·obtain ⟨f0,f1,f2,f3,f4,f5⟩:=hf b (inF b hb)
   exact ⟨f3,f1,f4,f5⟩
  ·obtain ⟨o,es,ep,ho,r⟩:=hm
   refine ⟨o,es,ep,B1 _ o (fun hb=>?_) ho,r⟩
   exact (hf _ (inF _ hb)).2.1 rfl
  ·refine (I.hok b u e).stay (fun c o hc' q=>B1 c o ?_ q) (fun c q=>q) fun c ws q=>q
   rcases hc' with q' | q'
   ·rw [q']; exact ntr b u e
   ·exact ntr c _ q'
 self:=fun _ _ _ _ _ st h=>wpAny_pyIter_zip st.hz h
theorem adu (a b c:Value):checkTypeCall "zip" ⟨[a,b,c],[]⟩=pure ():=by kernel_rfl
theorem aeV (a b c:Value):checkBuiltinCall "zip.__new__" ⟨[.type "zip",a,b,c],[]⟩=pure ():=by kernel_rfl
theorem ahR (a b c d:Value):argsOk "object.__init__" ⟨[a,b,c,d],[]⟩:=by
 unfold argsOk
 rw [signature?_of (id:="object.__init__") (n:=['_','_','t','i','n','i','_','_'])
  (o:=['t','c','e','j','b','o']) (by kernel_rfl) F.owner_object]
 kernel_rfl
noncomputable abbrev aqV (t:Addr):Obj:={ cls:= .type "tuple_iterator",data:= .fields #[.ref t,.int 0 0] }
abbrev zh1 (h:Heap) (a:Addr):Heap:=h.push (aqV a)
abbrev zh2 (h:Heap) (a b:Addr):Heap:=(zh1 h a).push (aqV b)
abbrev zh3 (h:Heap) (a b c:Addr):Heap:=(zh2 h a b).push (aqV c)
abbrev zh4 (h:Heap) (a b c:Addr):Heap:=(zh3 h a b c).push { cls:= .type "tuple",data:= .seq #[.ref h.objs.size,.ref (zh1 h a).objs.size,.ref (zh2 h a b).objs.size] }
abbrev zh5 (h:Heap) (a b c:Addr):Heap:=(zh4 h a b c).push { cls:= .type "tuple",data:= .seq #[.none,.none,.none] }
abbrev zh6 (h:Heap) (a b c:Addr):Heap:=(zh5 h a b c).push { cls:= .type "zip",data:= .fields #[.none,.bool false,.bool false,.ref (zh3 h a b c).objs.size,.ref (zh4 h a b c).objs.size] }
theorem al5 (a b c:Addr) (xs ys zs:Array Value):
  Meets (Builtin.«zip.__new__» ⟨[.type "zip",.ref a,.ref b,.ref c],[]⟩) (fun _ R s=>s.heap.IsTuple a xs/\s.heap.IsTuple b ys/\s.heap.IsTuple c zs/\
   R (.ok (.ret (.ref (zh5 s.heap a b c).objs.size))) { s with heap:=zh6 s.heap a b c }):=
 .of_wp fun prog w A R s h=>by
  obtain ⟨hp,g,d,tk,os⟩:=s
  obtain ⟨h1,h2,h3,h⟩:=h
  have hsub:=sub_zip
  have k1:Heap.IsTuple (Shared.heap ⟨hp,g,d,tk,os⟩) a xs:=h1
  have k2:Heap.IsTuple (Shared.heap ⟨zh1 hp a,g,d,tk,os⟩) b ys:=Heap.IsTuple.push h2 _
  have k3:Heap.IsTuple (Shared.heap ⟨zh2 hp a b,g,d,tk,os⟩) c zs:=Heap.IsTuple.push (Heap.IsTuple.push h3 _) _
  wp_walk using wpAny_pyIter_tuple k1,wpAny_pyIter_tuple k2,wpAny_pyIter_tuple k3
  exact ⟨_,rfl,h⟩
section
variable {X:Cx}
def asp (K:Fg) (ta:TA):TI:=fun σ H R=>ta σ H fun vs H1=>∃ a b c xs ys zs,vs=[.ref a,.ref b,.ref c]/\SqT K H1 a xs/\SqT K H1 b ys/\SqT K H1 c zs/\R (Itz K a b c) H1
theorem aoy {ea eb ec:Expr}{elts:List Expr}{x1:Nat}{tp:Pos}{ta:TA}{p pos:Pos} (hg:Gl X "zip") (hm:X.mg "zip"=none) (ha:PA X [ea,eb,ec] ta)
  (hs:starEach [ea,eb,ec] X.env=[(false,eval ea X.env),(false,eval eb X.env),(false,eval ec X.env)]:=by rfl) (hs2:starEach [eb,ec] X.env=[(false,eval eb X.env),(false,eval ec X.env)]:=by rfl):
  PI X (.Tuple elts x1 tp) (.Call (.Name "zip" p) [ea,eb,ec] [] pos) (asp X.K ta):=by
 intro Kp s σ H R I h
 refine Call_ (JW I hg hm boot_zip (PyProof.Rows.callWith_type1 (thn (ha pos Kp s σ H _ I h) fun us s1 ⟨vs,H1,I1,r1,q1⟩=>?_) (by rw [hs,hs2]) (by rw [hs2]; rfl)))
 obtain ⟨a,b,c,xs,ys,zs,e,q1,q2,q3,q⟩:=q1
 subst e
 cases r1 with
 | cons r1 rr=>
  cases rr with
  | cons r2 rr=>
   cases rr with
   | cons r3 rr=>
    cases rr
    cases r1; cases r2; cases r3
    obtain ⟨us1,v1,p1,z1⟩:=I1.tuple q1
    obtain ⟨us2,v2,p2,z2⟩:=I1.tuple q2
    obtain ⟨us3,v3,p3,z3⟩:=I1.tuple q3
    refine callType_new F.called_zip (by decide) (adu _ _ _) (aeV _ _ _) (fun obj=>ahR obj _ _ _) F.entry_zip_new
     (al5 a b c us1.toArray us2.toArray us3.toArray) ⟨p1,p2,p3,?_⟩
    have n1:(zh1 s1.heap a).objs.size=s1.heap.objs.size+1:=Heap.size_push ..
    have n2:(zh2 s1.heap a b).objs.size=s1.heap.objs.size+2:=by rw [Heap.size_push,n1]
    have n3:(zh3 s1.heap a b c).objs.size=s1.heap.objs.size+3:=by rw [Heap.size_push,n2]
    have n4:(zh4 s1.heap a b c).objs.size=s1.heap.objs.size+4:=by rw [Heap.size_push,n3]
    have n5:(zh5 s1.heap a b c).objs.size=s1.heap.objs.size+5:=by rw [Heap.size_push,n4]
    have g6:(zh6 s1.heap a b c).get? (zh5 s1.heap a b c).objs.size=some _:=Heap.get?_push_size _ rfl
    have g5:(zh6 s1.heap a b c).get? (zh4 s1.heap a b c).objs.size=some _:=Heap.get?_push_of_some _ (Heap.get?_push_size _ rfl)
    have g4:(zh6 s1.heap a b c).get? (zh3 s1.heap a b c).objs.size=some _:=Heap.get?_push_of_some _ (Heap.get?_push_of_some _ (Heap.get?_push_size _ rfl))
    have up3:∀ x o,(zh3 s1.heap a b c).get? x=some o->(zh6 s1.heap a b c).get? x=some o:=fun x o e=>Heap.get?_push_of_some _ (Heap.get?_push_of_some _ (Heap.get?_push_of_some _ e))
    have g3:(zh6 s1.heap a b c).get? (zh2 s1.heap a b).objs.size=some _:=up3 _ _ (Heap.get?_push_size _ rfl)
    have g2:(zh6 s1.heap a b c).get? (zh1 s1.heap a).objs.size=some _:=up3 _ _ (Heap.get?_push_of_some _ (Heap.get?_push_size _ rfl))
    have g1:(zh6 s1.heap a b c).get? s1.heap.objs.size=some _:=up3 _ _ (Heap.get?_push_of_some _ (Heap.get?_push_of_some _ (Heap.get?_push_size _ rfl)))
    have kp:∀ x o,s1.heap.get? x=some o->(zh6 s1.heap a b c).get? x=some o:=fun x o e=>up3 _ _ (Heap.get?_push_of_some _ (Heap.get?_push_of_some _ (Heap.get?_push_of_some _ e)))
    show _/\_
    refine ⟨⟨_,g6,rfl⟩,?_⟩
    refine wpAny_pyIter_zip g6 ?_
    have I2:Inv X Kp σ H1 { s1 with heap:=zh6 s1.heap a b c }:=I1.kept (t':=s1.toks) kp
    refine ⟨_,[(zh5 s1.heap a b c).objs.size,(zh3 s1.heap a b c).objs.size,(zh4 s1.heap a b c).objs.size,s1.heap.objs.size,(zh1 s1.heap a).objs.size,(zh2 s1.heap a b).objs.size],
     _,_,H1,rfl,I2,al4 (z:=(zh5 s1.heap a b c).objs.size) (TI:=(zh3 s1.heap a b c).objs.size) (TO:=(zh4 s1.heap a b c).objs.size) (i1:=s1.heap.objs.size) (i2:=(zh1 s1.heap a).objs.size) (i3:=(zh2 s1.heap a b).objs.size) (t1:=a) (t2:=b) (t3:=c) ?_ ?_,
     ⟨g6,g4,⟨_,_,_,g5⟩,⟨_,g1,rfl,rfl⟩,⟨_,g2,rfl,rfl⟩,⟨_,g3,rfl,rfl⟩⟩,fun x hx=>?_,q⟩
    ·rw [n5,n4,n1,n2]
     simp [List.nodup_cons]
    ·rw [n3,n5,n4,n1,n2]
     simp
    ·have hle:s1.heap.objs.size<=x:=by
      rw [n5,n3,n4,n1,n2] at hx
      simp only [List.mem_cons,List.not_mem_nil,or_false] at hx
      rcases hx with e | e | e | e | e | e <;> rw [e] <;> first | exact Nat.le_refl _ | exact Nat.le_add_right _ _
     exact I1.fpOk hle (I1.hok.fresh hle)
noncomputable def QO:LP->LP->LP->LP
 | x::xs,y::ys,z::zs=> .tuple [x,y,z]::QO xs ys zs
 | _,_,_=>[]
def ajd (ds:LP):Option (LP):=match ds with
 | [.tuple xs,.tuple ys,.tuple zs]=>if xs.length=ys.length/\ys.length=zs.length then some (QO xs ys zs) else none
 | _=>none
theorem adT:∀ (xs ys zs:LP),xs.length=ys.length->ys.length=zs.length->(QO xs ys zs).length=xs.length
 | [],_,_,_,_=>by simp [QO]
 | x::xs,[],_,h,_=>by simp at h
 | x::xs,y::ys,[],_,h=>by simp at h
 | x::xs,y::ys,z::zs,h,g=>by simp [QO,adT xs ys zs (by simpa using h) (by simpa using g)]
theorem adU:∀ (xs ys zs:LP) (i:Nat) (d:PyData),(QO xs ys zs)[i]?=some d->∃ x y z,xs[i]?=some x/\ys[i]?=some y/\zs[i]?=some z/\d= .tuple [x,y,z]
 | [],_,_,i,d,h=>by simp [QO] at h
 | x::xs,[],_,i,d,h=>by simp [QO] at h
 | x::xs,y::ys,[],i,d,h=>by simp [QO] at h
 | x::xs,y::ys,z::zs,0,d,h=>by simp [QO] at h; exact ⟨x,y,z,rfl,rfl,rfl,h.symm⟩
 | x::xs,y::ys,z::zs,i+1,d,h=>by
  obtain ⟨a,b,c,e1,e2,e3,e4⟩:=adU xs ys zs i d (by simpa [QO] using h)
  exact ⟨a,b,c,by simpa using e1,by simpa using e2,by simpa using e3,e4⟩
theorem al6 {ea eb ec:Expr}{elts:List Expr}{x1:Nat}{tp:Pos}{p pos:Pos}{fr:Rho->Option (LP)} (hm:X.mg "zip"=none) (ha:PAD X [ea,eb,ec] fr) (hg:Gl X "zip":=by rfl)
  (hs:starEach [ea,eb,ec] X.env=[(false,eval ea X.env),(false,eval eb X.env),(false,eval ec X.env)]:=by rfl) (hs2:starEach [eb,ec] X.env=[(false,eval eb X.env),(false,eval ec X.env)]:=by rfl):
  PID X (.Tuple elts x1 tp) (.Call (.Name "zip" p) [ea,eb,ec] [] pos) (fun ρ=>(fr ρ).bind ajd):=by
 with_unfolding_all
  refine PI.imp (aoy hg hm ha hs hs2) fun σ H R ⟨ρ,ds,en,q,k⟩=>?_
  cases h1:fr ρ with
  | none=>simp [h1] at q
  | some as=>
   have q':ajd as=some ds:=by simpa [h1] using q
   refine ⟨ρ,as,en,h1,fun vs H1 s1 r1=>?_⟩
   unfold ajd at q'
   split at q'
   ·rename_i xs ys zs
    split at q'
    ·rename_i hl
     cases q'
     obtain ⟨v1,w1,e1,⟨a,us1,ea',qa,ra⟩,v2,w2,e2,⟨b,us2,eb',qb,rb⟩,v3,w3,e3,⟨c,us3,ec',qc,rc⟩,e4⟩:=r1
     cases (show w3=[] from e4)
     subst ea'; subst eb'; subst ec'; subst e3; subst e2
     have l1:=ra.length
     have l2:=rb.length
     have l3:=rc.length
     have lz:=adT xs ys zs hl.1 hl.2
     refine ⟨a,b,c,us1,us2,us3,e1,qa,qb,qc,k _ H1 s1 fun i H2 s2=>⟨fun hi=>?_,fun hi=>?_,fun u H3 y=>?_⟩⟩
     ·rw [lz] at hi
      exact ⟨us1,us2,us3,us1[i]'(by omega),us2[i]'(by omega),us3[i]'(by omega),jx.tup s2 qa,jx.tup s2 qb,jx.tup s2 qc,by simp <;> omega,by simp <;> omega,by simp <;> omega⟩
     ·rw [lz] at hi
      exact ⟨us1,us2,us3,jx.tup s2 qa,jx.tup s2 qb,jx.tup s2 qc,by omega⟩
     ·obtain ⟨pp,x,y,v,e5,e6,e7,e8⟩:=y
      subst e5; subst e7
      refine ⟨jI e6,fun d hd=>?_⟩
      obtain ⟨dx,dy,dz,g1,g2,g3,g4⟩:=adU xs ys zs i d hd
      subst g4
      obtain ⟨f1,f2,f3⟩:=e8 us1 us2 us3 (jx.tup s2 qa) (jx.tup s2 qb) (jx.tup s2 qc)
      have m:=s2.trans (jp.a (jI (o:= .tup [x,y,v]) e6))
      obtain ⟨x',a1,a2⟩:=(Reps.monoA m _ _ ra).get g1
      obtain ⟨y',b1,b2⟩:=(Reps.monoA m _ _ rb).get g2
      obtain ⟨z',c1,c2⟩:=(Reps.monoA m _ _ rc).get g3
      rw [f1] at a1; cases a1
      rw [f2] at b1; cases b1
      rw [f3] at c1; cases c1
      exact ⟨pp,[x,y,v],rfl,SqT.of ji,x,_,rfl,a2,y,_,rfl,b2,v,_,rfl,c2,rfl⟩
    ·cases q'
   ·cases q'
def tyn:PyData->String
 | .none=>"NoneType"
 | .bool _=>"bool"
 | .int _=>"int"
 | .str _=>"str"
 | .tuple _=>"tuple"
 | .list _=>"list"
 | .dict kvs=>if zJ kvs then "list" else "dict"
noncomputable def isFn:PyData->Bool
 | .dict [(.str _,_)]=>true
 | .dict [(.bool _,_)]=>true
 | _=>false
def Z6 (T:String) (d:PyData):OP:=if isFn d=true then none else some (.bool (tyn d == T || (T == "int" && tyn d == "bool")))
theorem al7 {Kp:List (Addr × Obj)}{σ:St}{H:Hp}{s:Shared}{E:Value->SP0}{Q:Value->SP0}{d:PyData}{v:V}{u c:Value}{b:Bool} (I:Inv X Kp σ H s) (r:Rep X.K H d v) (hF:isFn d=false) (rv:jW v u)
  (e:PySem.W.kitOne X.K (.type (tyn d)) c=some b) (h:∀ tk,Q (.bool b) { s with toks:=tk }):wpAny (model X.prog X.w) X.A (call (.builtin "isinstance") [u,c]) Q E s:=by
 cases d with
 | none=>cases r; cases rv; exact PySem.W.kia_one PySem.W.kitx_none I.kIn True.intro e (fun z=>nomatch z) h
 | bool y=>cases r; cases rv; exact PySem.W.kia_one PySem.W.kitx_bool I.kIn True.intro e (fun z=>nomatch z) h
 | int i=>cases r; obtain ⟨t,rfl⟩:=rv; exact PySem.W.kia_one PySem.W.kitx_int I.kIn True.intro e (fun z=>nomatch z) h
 | str y=>cases r; obtain ⟨t,rfl⟩:=rv; exact PySem.W.kia_one PySem.W.kitx_str I.kIn True.intro e (fun z=>nomatch z) h
 | tuple ds=>
  obtain ⟨a,xs,e1,e2,e3⟩:=r
  subst e1; cases rv
  obtain ⟨its,_,⟨o,h1,h2,_⟩,_⟩:=I.tuple e2
  exact PySem.W.kia_one PySem.W.kitx_tuple I.kIn ⟨o,h1,h2⟩ e (fun z=>nomatch z) h
 | list ds=>
  obtain ⟨a,xs,e1,e2,e3⟩:=r
  subst e1; cases rv
  obtain ⟨its,_,⟨o,n,h1,h2,_⟩,_⟩:=I.list (SqL.of e2)
  exact PySem.W.kia_one PySem.W.kitx_list I.kIn ⟨o,h1,h2⟩ e (fun z=>nomatch z) h
 | dict ds=>
  obtain ⟨a,e1,⟨ns,e2,e3⟩ | ⟨ks,ob,e2,e3⟩ | ⟨x,e2,_⟩ | ⟨x,_,_,e2,_⟩ | e2⟩:=r
  ·subst e1; cases rv
   subst e3
   have e:PySem.W.kitOne X.K (.type "list") c=some b:=by simpa [tyn,adQ] using e
   obtain ⟨its,_,⟨o,n,h1,h2,_⟩,_⟩:=I.list e2
   exact PySem.W.kia_one PySem.W.kitx_list I.kIn ⟨o,h1,h2⟩ e (fun z=>nomatch z) h
  ·subst e1; cases rv
   obtain ⟨cc,rr,rfl,e4⟩:=e3.out
   have e:PySem.W.kitOne X.K (.type "dict") c=some b:=by simpa [tyn,zJ] using e
   obtain ⟨_,_,vs,_,dd⟩:=agq I.hok (.inr ⟨ob,e2⟩)
   obtain ⟨o,es,ep,h1,h2,_⟩:=dd
   exact PySem.W.kia_one PySem.W.kitx_dict I.kIn ⟨o,h1,h2.1⟩ e (fun z=>nomatch z) h
  ·subst e2; simp [isFn] at hF
  ·subst e2; simp [isFn] at hF
  ·subst e2; simp [isFn] at hF
def atH (K:Fg) (T:String):List V->Hp->VK->Prop:=fun xs H Q=>∃ x d b,xs=[x,.ty T]/\Rep K H d x/\isFn d=false/\PySem.W.kitOne K (.type (tyn d)) (.type T)=some b/\Q (.bl b) H
theorem agz {T:String}:zV X (.builtin "isinstance") (atH X.K T):=by
 intro Kp s σ H xs us Q I r ⟨x,d,b,e,h1,hF,h2,q⟩
 subst e
 obtain ⟨u,w',rfl,r1,r2⟩:=aiW r
 cases (show w'=_ from r2)
 exact al7 I h1 hF r1 h2 fun tk=>⟨.bl b,H,I.tok tk,rfl,q⟩
def Jv (T:String) (d:PyData):Bool:=tyn d == T || (T == "int" && tyn d == "bool")
@[simp] theorem arP (T:String):Z6 T .none=some (.bool (Jv T .none)):=rfl
@[simp] theorem arQ (T:String) (b:Bool):Z6 T (.bool b)=some (.bool (Jv T (.bool b))):=rfl
@[simp] theorem asq (T:String) (i:Int):Z6 T (.int i)=some (.bool (Jv T (.int i))):=rfl
@[simp] theorem asr (T:String) (x:Str):Z6 T (.str x)=some (.bool (Jv T (.str x))):=rfl
@[simp] theorem aqW (T:String) (ds:LP):Z6 T (.tuple ds)=some (.bool (Jv T (.tuple ds))):=rfl
@[simp] theorem arR (T:String) (ds:LP):Z6 T (.list ds)=some (.bool (Jv T (.list ds))):=rfl
theorem agA {T:String}{d e:PyData} (h:Z6 T d=some e):isFn d=false/\e= .bool (Jv T d):=by
 unfold Z6 at h
 split at h
 ·cases h
 ·rename_i hf; cases h; exact ⟨by simpa using hf,rfl⟩
theorem aoz {K:Fg}{T:String} (hT:T="bool" ∨ T="int" ∨ T="tuple") (d:PyData):PySem.W.kitOne K (.type (tyn d)) (.type T)=some (Jv T d):=by
 rcases hT with rfl | rfl | rfl <;> cases d <;> first | rfl | (rename_i kvs; by_cases h:zJ kvs=true <;> simp only [tyn,Jv,h] <;> rfl)
theorem aaY {a:Expr}{fa:RP}{T:Str}{Tn:String}{p p2 pos:Pos} (hT:Tn="bool" ∨ Tn="int" ∨ Tn="tuple") (hm1:X.mg "isinstance"=none) (hm2:X.mg T=none) (hv:bootBuiltins T=some (.type Tn)) (ha:PD X a fa)
  (hg1:Gl X "isinstance":=by rfl) (hg2:Gl X T:=by rfl) (hn:T ≠ "__name__":=by decide) (hd:(T == ("__debug__":Str))=false:=by decide)
  (he:starEach [a,.Name T p2] X.env=[(false,eval a X.env),(false,eval (.Name T p2) X.env)]:=by rfl) (he2:starEach [.Name T p2] X.env=[(false,eval (.Name T p2) X.env)]:=by rfl) (hpl:(backTo pos (starEach [.Name T p2] X.env)).any (·.1)=false:=by rfl):
  PD X (.Call (.Name "isinstance" p) [a,.Name T p2] [] pos) (fun ρ=>(fa ρ).bind fun d=>Z6 Tn d):=by
 with_unfolding_all
  have hT2:PE X (.Name T p2) (tC (.ty Tn)):=aiS hg2 hm2 hv rfl hn hd
  refine PE.imp (Z0 (agz (T:=Tn)) hg1 hm1 (by decide +kernel) (qG ha (qG hT2 zz (by rw [he2]; rfl)) (by rw [he,he2])) (by decide) (by decide) (by rw [he,he2]) hpl) fun σ H Q ⟨ρ,d,en,q,k⟩=>?_
  cases h1:fa ρ with
  | none=>simp [h1] at q
  | some c=>
   obtain ⟨hF,rfl⟩:=agA (show Z6 Tn c=some d by simpa [h1] using q)
   exact ⟨ρ,c,en,h1,fun v H1 s1 r1=>⟨v,c,_,rfl,r1,hF,aoz hT c,k _ H1 s1 rfl⟩⟩
end
def zK (H H':Hp):Prop:=∀ b o,H b=some o->(∀ xs,o ≠ .lst xs)->H' b=some o
theorem jp.n {H H':Hp} (e:jp H H'):zK H H':=fun b o h _=>e b o h
theorem zK.refl (H:Hp):zK H H:=fun _ _ h _=>h
theorem zK.trans {H H1 H2:Hp} (a:zK H H1) (b:zK H1 H2):zK H H2:=fun c o h n=>b c o (a c o h n) n
theorem zK.upd {H:Hp}{p:Addr}{xs ys:List V} (hp:H p=some (.lst xs)):zK H (upd H p (.lst ys)):=fun b o h n=>by
 have:b ≠ p:=fun e=>by subst e; rw [hp] at h; cases h; exact n _ rfl
 rw [jo this]; exact h
mutual
noncomputable def noL:PyData->Bool
 | .none=>true
 | .bool _=>true
 | .int _=>true
 | .str _=>true
 | .tuple ds=>noLs ds
 | .list _=>false
 | .dict _=>false
noncomputable def noLs:LP->Bool
 | []=>true
 | d::ds=>noL d && noLs ds
end
section
variable {K:Fg}{H H':Hp}
theorem zK.tup {a:Addr}{xs:List V} (e:zK H H') (h:SqT K H a xs):SqT K H' a xs:=by
 rcases h with (h | ⟨o,h⟩) | h
 ·exact .inl (.inl (e _ _ h fun _ z=>nomatch z))
 ·exact .inl (.inr ⟨o,e _ _ h fun _ z=>nomatch z⟩)
 ·exact .inr h
mutual
theorem Rep.monoN (e:zK H H'):∀ (d:PyData) (v:V),noL d=true->Rep K H d v->Rep K H' d v
 | .none,v,_,h=>h
 | .bool _,v,_,h=>h
 | .int _,v,_,h=>h
 | .str _,v,_,h=>h
 | .tuple ds,v,n,⟨a,xs,h1,h2,h3⟩=>⟨a,xs,h1,zK.tup e h2,Reps.monoN e ds xs (by simpa [noL] using n) h3⟩
 | .list ds,v,n,h=>by simp [noL] at n
 | .dict ds,v,n,h=>by simp [noL] at n
theorem Reps.monoN (e:zK H H'):∀ (ds:LP) (xs:List V),noLs ds=true->Reps K H ds xs->Reps K H' ds xs
 | [],xs,_,h=>h
 | d::ds,xs,n,⟨x,r,h1,h2,h3⟩=>by
  have n':noL d=true/\noLs ds=true:=by simpa [noLs] using n
  exact ⟨x,r,h1,Rep.monoN e d x n'.1 h2,Reps.monoN e ds r n'.2 h3⟩
end
theorem QP:∀ (ds es:LP),noLs (ds++es)=(noLs ds && noLs es)
 | [],es=>by simp [noLs]
 | d::ds,es=>by simp [noLs,QP ds es,Bool.and_assoc]
theorem acy:∀ {ds:LP},(∀ d ∈ ds,noL d=true)->noLs ds=true
 | [],_=>rfl
 | d::ds,h=>by simp [noLs,h d List.mem_cons_self,acy fun x hx=>h x (List.mem_cons_of_mem _ hx)]
end
end BX
end
section
namespace BX
open PySem PySem.Spec L2
open PyProof.Rows hiding St
def jm (P:Program) (w:World) (K:Fg) (mg:SV) (base:Heap) (x:Str) (ps:List Str) (k n:Nat) (g:LP->OP):Prop:=
 ∃ (f:Addr) (fd:FuncData),FnOk P w K mg base CX0 k f fd ps (Pur K n g)/\mg x=some (.ref f)/\PySem.W.keepIn K (.ref f)=true/\zW K fd ps []
theorem jk:∀ (ρ:Rho) (ds:LP),jB ρ=some ds->ds.length=0:=fun ρ ds h=>by cases h; rfl
theorem jc {fa:RP}{fr:Rho->Option (LP)}{n:Nat} (h:∀ (ρ:Rho) (ds:LP),fr ρ=some ds->ds.length=n):∀ (ρ:Rho) (ds:LP),jr fa fr ρ=some ds->ds.length=n+1:=fun ρ ds q=>by
 cases h1:fa ρ with
 | none=>simp [jr,h1] at q
 | some x=>
  cases h2:fr ρ with
  | none=>simp [jr,h1,h2] at q
  | some r=>
   have:x::r=ds:=by simpa [jr,h1,h2] using q
   subst this
   simp [h ρ r h2]
section
variable {X:Cx}{e:Expr}{es:List Expr}{pos:Pos}
theorem jl {k j n:Nat}{ps:List Str}{g:LP->OP}{x:Str}{p:Pos}{fr:Rho->Option (LP)} (c:jm X.prog X.w X.K X.mg X.base x ps k n g) (hr:Room j X.A) (hkj:k<=j) (ha:PAD X (e::es) fr)
  (hl:∀ (ρ:Rho) (ds:LP),fr ρ=some ds->ds.length=n) (hn:(e::es).length=n:=by rfl) (hg:Gl X x:=by rfl) (hdb:(x == ("__debug__":Str))=false:=by decide) (he:starEach (e::es) X.env=(false,eval e X.env)::starEach es X.env:=by rfl)
  (hpl:(backTo pos (starEach es X.env)).any (·.1)=false:=by rfl):PD X (.Call (.Name x p) (e::es) [] pos) (jL g fr):=by
 with_unfolding_all
  obtain ⟨f,fd,h1,h2,h3,h4⟩:=c
  exact aot h1 (hr.mono hkj) h2 h3 h4 hn ha (fun ρ ds q=>by rw [hl ρ ds q,hn]) hg hdb he hpl
end
theorem Z7 {ft:Rho->Option Bool}{fe:RP}{i:Nat} (p:PyData->Bool) (h:PyData->PyData):∀ (ds:LP) (τ:Rho),(∀ d ∈ ds,ft (τ.set i (some d))=some (p d))->(∀ d ∈ ds,p d=true->fe (τ.set i (some d))=some (h d))->
  Jc (jK i) ft fe ds τ=some ((ds.filter p).map h)
 | [],τ,_,_=>rfl
 | d::ds,τ,h1,h2=>by
  have ih:=Z7 p h ds (τ.set i (some d)) (fun c hc=>by rw [List.set_set]; exact h1 c (List.mem_cons_of_mem _ hc)) (fun c hc hp=>by rw [List.set_set]; exact h2 c (List.mem_cons_of_mem _ hc) hp)
  simp only [Jc,jK,zzD,h1 d List.mem_cons_self]
  by_cases hp:p d=true
  ·simp [hp,h2 d List.mem_cons_self hp,ih,List.filter_cons]
  ·simp [hp,ih,List.filter_cons]
theorem Qe {fe:RP}{i:Nat} (h:PyData->PyData) (ds:LP) (τ:Rho) (h2:∀ d ∈ ds,fe (τ.set i (some d))=some (h d)):Jc (jK i) asi fe ds τ=some (ds.map h):=by
 rw [Z7 (fun _=>true) h ds τ (fun _ _=>rfl) (fun d hd _=>h2 d hd),List.filter_eq_self.mpr (fun _ _=>rfl)]
noncomputable def aje (st:Scope) (N:List Str) (sc:Scope) (N':List Str) (cap:List (Option Nat)):Bool:=
 sc.names.all (fun x=>!decide (x.2= .free) || decide (st.names.lookup x.1=some .cell) || decide (st.names.lookup x.1=some .free)) && sc.names.all (fun x=>!decide (x.2= .cell)) && decide (sc.kind= .function) &&
 sc.names.all (fun x=>!decide (x.2= .local) || decide (sc.names.lookup x.1=some .local)) && decide (cap.length=N'.length) &&
 (List.range N'.length).all (fun j=>match N'[j]?,cap[j]? with
  | some x,some (some i)=>decide (N[i]?=some x) && decide (sc.names.lookup x=some .free)
  | _,_=>true)
theorem JD {X:Cx}{sc:Scope}{N':List Str}{cap:List (Option Nat)} (st:Scope) (N:List Str) (h:aje st N sc N' cap=true) (hst:X.env.scope=st:=by rfl) (hN:X.N=N:=by rfl):CompOk X sc N' cap:=by
 simp only [aje,Bool.and_eq_true,List.all_eq_true,Bool.or_eq_true,Bool.not_eq_true',decide_eq_true_eq,decide_eq_false_iff_not] at h
 obtain ⟨⟨⟨⟨⟨h1,h2⟩,h3⟩,h4⟩,h5⟩,h6⟩:=h
 subst hst; subst hN
 refine ⟨fun x hx e=>?_,h2,h3,fun x hx e=>?_,h5,fun j i x e1 e2=>?_⟩
 ·rcases h1 x hx with (z | z) | z
  ·exact absurd e z
  ·exact .inl z
  ·exact .inr z
 ·rcases h4 x hx with z | z
  ·exact absurd e z
  ·exact z
 ·have hj:j<N'.length:=(List.getElem?_eq_some_iff.mp e1).1
  have:=h6 j (List.mem_range.mpr hj)
  rw [e1,e2] at this
  simpa using this
def Cx.inB (X:Cx):Cx:={ X with A:=X.A.in1,xe:=NoX }
theorem Cx.Ok.inB {X:Cx} (ok:X.Ok):(Cx.inB X).Ok:=
 ⟨ok.mod,ok.kind,ok.glob,ok.blt,ok.above,ok.inj,ok.has,ok.cab,fun h=>ok.hd h,ok.frames,ok.stk,ok.exf,ok.bs,ok.bsz,ok.noex,ok.exfs,ok.funs,ok.frf⟩
theorem Cx.Ok.outB {X:Cx} (ok:(Cx.inB X).Ok):X.Ok:=
 ⟨ok.mod,ok.kind,ok.glob,ok.blt,ok.above,ok.inj,ok.has,ok.cab,fun h=>ok.hd h,ok.frames,ok.stk,ok.exf,ok.bs,ok.bsz,ok.noex,ok.exfs,ok.funs,ok.frf⟩
section
variable {X:Cx}{Kp:List (Addr × Obj)}{σ:St}{H:Hp}{s:Shared}
theorem Inv.inB (I:Inv X Kp σ H s):Inv (Cx.inB X) Kp σ H s:=⟨Cx.Ok.inB I.ok,I.os,I.bare,I.base,I.loc,I.cell,I.free,I.freeC,I.pin,I.hok,I.len⟩
theorem Inv.outB (I:Inv (Cx.inB X) Kp σ H s):Inv X Kp σ H s:=⟨Cx.Ok.outB I.ok,I.os,I.bare,I.base,I.loc,I.cell,I.free,I.freeC,I.pin,I.hok,I.len⟩
end
theorem ass {prog:Program}{w:World}{A:Around}{E:Value->SP0}{s:Shared}{a b:Int}{t u:Tok}{Q:Value->SP0} (h:Q (.bool (decide (a<b))) s):wpAny (model prog w) A (richCompare .Lt (.int a t) (.int b u)) Q E s:=
 CmpOf.ints_lt (prog:=prog) (w:=w) (A:=A) (P:=fun (i:Nat) v=>∃ t,v= .int (if i=0 then a else b) t) (fun i=>if i=0 then a else b) (fun _ _ q=>q) 0 1 _ _ _ _ _ ⟨t,rfl⟩ ⟨u,rfl⟩ h
noncomputable def ZI (kf:PyData->Int):PyData->LP->PyData
 | b,[]=>b
 | b,d::r=>if kf d<kf b then ZI kf d r else ZI kf b r
def adv (kf:PyData->Int):OP->LP->PyData
 | none,[]=> .none
 | none,d::r=>ZI kf d r
 | some b,r=>ZI kf b r
noncomputable def lob (us:Array Value) (c:Nat):Obj:={ cls:= .type "list",data:= .seq us c }
structure Own1 (X:Cx) (Kp:List (Addr × Obj)) (b:Addr):Prop where
 h1:b ≠ X.env.locals
 h2:b ∉ X.fs
 h3:X.s₀.heap.objs.size<=b
 h4:∀ x c,X.env.cells.lookup x=some c->c ≠ b
 h5:∀ p ∈ X.pn++Kp,p.1 ≠ b
def al8 (K:Fg) (H:Hp) (h:Heap) (S:Addr) (kf:PyData->Int):OP->Prop
 | none=>∃ c,h.get? S=some (lob #[] c)
 | some b=>∃ x u t c,Rep K H b x/\jW x u/\h.get? S=some (lob #[u,.int (kf b) t] c)
theorem aeW {h:Heap}{S:Addr}{us ws:Array Value}{c:Nat} (ho:h.get? S=some (lob us c)):∃ c2,(h.update S (Obj.mapSeq fun _=>ws)).get? S=some (lob ws c2):=by
 have e:=Heap.get?_update_self (Obj.mapSeq fun _=>ws) ho rfl
 exact ⟨_,e⟩
theorem Z8:(toString "min"++toString ".loop":String)="min.loop":=by decide
theorem akt {X:Cx}{k:Nat}{f:Addr}{fd:FuncData}{ps:List Str}{g:LP->OP}{kf:PyData->Int}{ds:LP}{xs:List V}{l it S:Addr}{Kp:List (Addr × Obj)}{σ:St}{R:Result->SP0} (hc:X.calm=true)
  (FO:FnOk X.prog X.w X.K X.mg X.base CX0 k f fd ps (Pur X.K 1 g)) (hr:Room (k+1) X.A) (hb:zW X.K fd ps []) (hk:∀ d ∈ ds,g [d]=some (.int (kf d))) (oI:Own1 X Kp it) (oS:Own1 X Kp S) (nIS:it ≠ S) (nlI:l ≠ it) (nlS:l ≠ S):
  ∀ (r:LP) (i:Nat) (bo:OP) (s:Shared) (H:Hp),ds.drop i=r->Inv (Cx.inB X) Kp σ H s->H l=some (.lst xs)->Reps X.K H ds xs->H it=none->H S=none->s.heap.IsListIter it l i->al8 X.K H s.heap S kf bo->
   (∀ v u s' H',Inv (Cx.inB X) Kp σ H' s'->jp H H'->jW v u->Rep X.K H' (adv kf bo r) v->R (.ok (.ret u)) s')->
   codeAny (model X.prog X.w) X.A (.builtin "min.loop" ⟨[.ref it,.ref f,.ref S],[("default",.none)]⟩) R s:=by
 have fpo:∀ {b:Addr} {H:Hp} {pl:List (Addr × Obj)},Own1 X Kp b->H b=none->(∀ p ∈ pl,p.1 ≠ b)->agh (Cx.inB X) (Kp++pl) H b:=fun {b H pl} o hn hp=>⟨hn,o.h1,o.h2,.inr o.h3,o.h4,fun p hq z=>by
  rcases List.mem_append.mp (show p ∈ X.pn++(Kp++pl) from hq) with q | q
  ·exact o.h5 p (List.mem_append_left _ q) z
  ·rcases List.mem_append.mp q with q | q
   ·exact o.h5 p (List.mem_append_right _ q) z
   ·exact hp p q z⟩
 intro r
 induction r with
 | nil=>
  intro i bo s H hd I hl hR hI hS st hB fin
  obtain ⟨its,rv,p,hz⟩:=I.list (SqL.of (K:=X.K) hl)
  have hle:ds.length<=i:=by
   have:=congrArg List.length hd
   simp at this; omega
  have hlen:=hR.length
  have hvl:=rv.length
  have f0:=fpo (pl:=[]) oI hI (fun _ z=>nomatch z)
  obtain ⟨q0,q1,q2,q3,q4,q5⟩:=f0
  refine codeAny_builtin PySem.F.entry_min_loop ?_
  rw [Around.under_plainId PySem.F.plain_min_loop _]
  cases bo with
  | none=>
   obtain ⟨c,hSo⟩:=hB
   refine wpAny_bind (m:=seqItems? (.ref S)) (wpAny_seqItems hSo rfl ?_)
   refine wpAny_bind (m:=tryCatch (pyNext (.ref it)) _) (wpAny_tryCatch (wpAny_pyNext_list_end (I.ok.hd hc) st p.isList (by simp; omega) fun h' eb=>?_))
   have I1:Inv (Cx.inB X) Kp σ H { s with heap:=h' }:=I.turned (t':=s.toks) (it:=it) (fun b o hb e=>eb b o hb e) hI oI.h1 (.inr oI.h3) oI.h4 oI.h5
   refine wpAny_bind (m:=rule _) (wpAny_rule ?_)
   exact wpAny_pure (fin .non _ _ H I1 (jp.refl H) rfl rfl)
  | some b=>
   obtain ⟨x,u,t,c,rx,ru,hSo⟩:=hB
   refine wpAny_bind (m:=seqItems? (.ref S)) (wpAny_seqItems hSo rfl ?_)
   refine wpAny_bind (m:=tryCatch (pyNext (.ref it)) _) (wpAny_tryCatch (wpAny_pyNext_list_end (I.ok.hd hc) st p.isList (by simp; omega) fun h' eb=>?_))
   have I1:Inv (Cx.inB X) Kp σ H { s with heap:=h' }:=I.turned (t':=s.toks) (it:=it) (fun b o hb e=>eb b o hb e) hI oI.h1 (.inr oI.h3) oI.h4 oI.h5
   have hS1:h'.get? S=some (lob #[u,.int (kf b) t] c):=eb S _ (Ne.symm nIS) hSo
   refine wpAny_bind (m:=updateSeq S fun _=>#[]) ?_
   refine wpAny_updateSeq hS1 rfl (wpAny_bind (wpAny_letGo (wpAny_pure ?_)))
   have I2:Inv (Cx.inB X) Kp σ H { s with heap:=h'.update S (Obj.mapSeq fun _=>(#[]:Array Value)) }:=Inv.turned (s:={ s with heap:=h' }) I1 (t':=s.toks) (it:=S) (fun b o hb e=>((Heap.SameBut.update h' S _).2 b hb).trans e) hS oS.h1 (.inr oS.h3) oS.h4 oS.h5
   exact fin x u _ H I2 (jp.refl H) ru rx
 | cons d r ih=>
  intro i bo s H hd I hl hR hI hS st hB fin
  obtain ⟨its,rv,p,hz⟩:=I.list (SqL.of (K:=X.K) hl)
  have hi:ds[i]?=some d:=by
   have:(ds.drop i)[0]?=some d:=by rw [hd]; rfl
   simpa using this
  have hd':ds.drop (i+1)=r:=by
   have:(ds.drop i).drop 1=r:=by rw [hd]; rfl
   simpa [List.drop_drop,Nat.add_comm] using this
  have hmem:d ∈ ds:=List.mem_of_getElem? hi
  obtain ⟨x,hx,rx⟩:=hR.get hi
  obtain ⟨u,hu,ru⟩:=rv.get hx
  refine codeAny_builtin PySem.F.entry_min_loop ?_
  rw [Around.under_plainId PySem.F.plain_min_loop _]
  obtain ⟨olds,hSo⟩:∃ olds:Obj,s.heap.get? S=some olds/\(∀ v,olds.data ≠ .cell v):=by
   cases bo with
   | none=>obtain ⟨c,e⟩:=hB; exact ⟨_,e,fun v z=>by cases z⟩
   | some b=>obtain ⟨_,_,_,c,_,_,e⟩:=hB; exact ⟨_,e,fun v z=>by cases z⟩
  obtain ⟨hSo,hSc⟩:=hSo
  have nxt:∀ {Q2:Option Value->SP0} {E2:Value->SP0},(∀ h' oi,Inv (Cx.inB X) (Kp++[(S,olds),(it,oi)]) σ H { s with heap:=h' }->(oi.cls= .type "list_iterator"/\oi.data= .fields #[.ref l,.int ((i+1:Nat):Int) 0])->Q2 (some u) { s with heap:=h' })->
    wpAny (model X.prog X.w) X.A.in1 (pyNext (.ref it)) Q2 E2 s:=by
   intro Q2 E2 go
   refine wpAny_pyNext_list_item st p.isList (x:=u) (by simpa using hu) fun h' st' sb=>?_
   have I1:Inv (Cx.inB X) Kp σ H { s with heap:=h' }:=I.turned (t':=s.toks) (it:=it) (fun b o hb e=>(sb.2 b hb).trans e) hI oI.h1 (.inr oI.h3) oI.h4 oI.h5
   have hS1:h'.get? S=some olds:=(sb.2 S (Ne.symm nIS)).trans hSo
   obtain ⟨oi,hoi,hci,hdi⟩:=id st'
   refine go h' oi (I1.pins_of fun q hq=>?_) ⟨hci,hdi⟩
   rcases List.mem_append.mp hq with z | z
   ·exact I1.pin q (List.mem_append_right _ z)
   ·rcases List.mem_cons.mp z with e | z
    ·subst e; exact ⟨hS1,hS,oS.h1,oS.h2,hSc⟩
    ·have e:q=(it,oi):=by simpa using z
     subst e; exact ⟨hoi,hI,oI.h1,oI.h2,fun v z=>by rw [hdi] at z; cases z⟩
  have key:∀ {Q3:Value->SP0} {E3:Value->SP0} {h':Heap} {oi:Obj},Inv (Cx.inB X) (Kp++[(S,olds),(it,oi)]) σ H { s with heap:=h' }->(oi.cls= .type "list_iterator"/\oi.data= .fields #[.ref l,.int ((i+1:Nat):Int) 0])->
    (∀ t s2 H2,Inv (Cx.inB X) Kp σ H2 s2->jp H H2->H2 it=none->H2 S=none->s2.heap.IsListIter it l (i+1)->s2.heap.get? S=some olds->Q3 (.int (kf d) t) s2)->wpAny (model X.prog X.w) X.A.in1 (call (.ref f) [u]) Q3 E3 { s with heap:=h' }:=by
   intro Q3 E3 h' oi I1p ho go
   have kk:(Pur X.K 1 g) [x] H (fun v H2=>v= .int (kf d)/\jp H H2) E0:=⟨[d],.int (kf d),rfl,⟨x,[],rfl,rx,rfl⟩,hk d hmem,fun v H2 s2 r2=>⟨r2,s2⟩⟩
   refine wpAny_mono (aeJ (X:=Cx.inB X) (dvs:=[]) (ds:=[]) (E:=E0) FO (Room.in1 hr) hb .nil adN I1p (.cons ru .nil) (by simpa using kk)) (fun kv s2 h2=>?_) fun _ _ z=>z.elim
   obtain ⟨v2,H2,I2,r2,e2,s2'⟩:=h2
   subst e2
   obtain ⟨t,rfl⟩:=r2
   have pS:=I2.pin (S,olds) (List.mem_append_right _ (List.mem_append_right _ (by simp)))
   have pI:=I2.pin (it,oi) (List.mem_append_right _ (List.mem_append_right _ (by simp)))
   have I2d:Inv (Cx.inB X) Kp σ H2 s2:=I2.pins_of fun q hq=>I2.pin q (List.mem_append_right _ (List.mem_append_left _ hq))
   exact go t s2 H2 I2d s2' pI.2.1 pS.2.1 ⟨oi,pI.1,ho.1,ho.2⟩ pS.1
  have back:∀ {b2:PyData} {s2:Shared} {H2:Hp},Inv (Cx.inB X) Kp σ H2 s2->jp H H2->H2 it=none->H2 S=none->s2.heap.IsListIter it l (i+1)->al8 X.K H2 s2.heap S kf (some b2)->adv kf bo (d::r)=adv kf (some b2) r->
    codeAny (model X.prog X.w) X.A (.builtin "min.loop" ⟨[.ref it,.ref f,.ref S],[("default",.none)]⟩) R s2:=fun {b2 s2 H2} I2 s12 hI2 hS2 st2 hB2 em=>
   ih (i+1) (some b2) s2 H2 hd' I2 (s12 _ _ hl) (Reps.mono s12 _ _ hR) hI2 hS2 st2 hB2 fun v u s' H' I' s' r' q'=>fin v u _ H' I' (s12.trans s') r' (by rw [em]; exact q')
  cases bo with
  | none=>
   obtain ⟨c,hSn⟩:=hB
   rw [hSn] at hSo; cases hSo
   refine wpAny_bind (m:=seqItems? (.ref S)) (wpAny_seqItems hSn rfl ?_)
   refine wpAny_bind (m:=tryCatch (pyNext (.ref it)) _) (wpAny_tryCatch (nxt fun h' oi I1p ho=>?_))
   refine wpAny_bind (m:=tryCatch (holding [u] (call (.ref f) [u])) _) (wpAny_tryCatch (wpAny_holding (key I1p ho fun t s2 H2 I2 s12 hI2 hS2 st2 hS2o=>?_)))
   refine wpAny_bind (m:=updateSeq S fun _=>#[u,.int (kf d) t]) ?_
   refine wpAny_updateSeq hS2o rfl ?_
   obtain ⟨c2,hc2⟩:=aeW (ws:=#[u,.int (kf d) t]) hS2o
   have sb:=Heap.SameBut.update s2.heap S (Obj.mapSeq fun _=>#[u,.int (kf d) t])
   have I3:Inv (Cx.inB X) Kp σ H2 { s2 with heap:=s2.heap.update S (Obj.mapSeq fun _=>#[u,.int (kf d) t]) }:=I2.turned (t':=s2.toks) (it:=S) (fun b o hb e=>(sb.2 b hb).trans e) hS2 oS.h1 (.inr oS.h3) oS.h4 oS.h5
   obtain ⟨oi,e1,e2⟩:=st2
   rw [Z8]
   exact wpAny_pure ⟨plainId_quiet PySem.F.plain_min_loop _,back (b2:=d) I3 s12 hI2 hS2 ⟨oi,(sb.2 it nIS).trans e1,e2⟩ ⟨x,u,t,c2,Rep.mono s12 _ _ rx,ru,hc2⟩ rfl⟩
  | some b=>
   obtain ⟨xb,ub,tb,c,rb,rub,hSn⟩:=hB
   rw [hSn] at hSo; cases hSo
   refine wpAny_bind (m:=seqItems? (.ref S)) (wpAny_seqItems hSn rfl ?_)
   refine wpAny_bind (m:=tryCatch (pyNext (.ref it)) _) (wpAny_tryCatch (nxt fun h' oi I1p ho=>?_))
   refine wpAny_bind (m:=tryCatch (holding [u] (call (.ref f) [u])) _) (wpAny_tryCatch (wpAny_holding (key I1p ho fun t s2 H2 I2 s12 hI2 hS2 st2 hS2o=>?_)))
   refine wpAny_bind (m:=tryCatch (holding [u,.int (kf d) t] (richCompare .Lt (.int (kf d) t) (.int (kf b) tb) >>= _)) _) (wpAny_tryCatch (wpAny_holding (wpAny_bind (ass ?_))))
   refine wpAny_bind (wpAny_holding (wpAny_truthy_bool ?_))
   refine wpAny_bind (wpAny_letGo (wpAny_pure ?_))
   by_cases hlt:kf d<kf b
   ·simp only [hlt,decide_true,zzM]
    refine wpAny_bind (m:=updateSeq S fun _=>#[u,.int (kf d) t]) ?_
    refine wpAny_updateSeq hS2o rfl (wpAny_bind (wpAny_letGo ?_))
    obtain ⟨c2,hc2⟩:=aeW (ws:=#[u,.int (kf d) t]) hS2o
    have sb:=Heap.SameBut.update s2.heap S (Obj.mapSeq fun _=>#[u,.int (kf d) t])
    have I3:Inv (Cx.inB X) Kp σ H2 { s2 with heap:=s2.heap.update S (Obj.mapSeq fun _=>#[u,.int (kf d) t]) }:=I2.turned (t':=s2.toks) (it:=S) (fun b o hb e=>(sb.2 b hb).trans e) hS2 oS.h1 (.inr oS.h3) oS.h4 oS.h5
    obtain ⟨oi,e1,e2⟩:=st2
    rw [Z8]
    exact wpAny_pure ⟨plainId_quiet PySem.F.plain_min_loop _,back (b2:=d) I3 s12 hI2 hS2 ⟨oi,(sb.2 it nIS).trans e1,e2⟩ ⟨x,u,t,c2,Rep.mono s12 _ _ rx,ru,hc2⟩ (by simp [adv,ZI,hlt])⟩
   ·simp only [hlt,decide_false,zzL,zzN]
    refine wpAny_bind (wpAny_letGo ?_)
    rw [Z8]
    exact wpAny_pure ⟨plainId_quiet PySem.F.plain_min_loop _,back (b2:=b) I2 s12 hI2 hS2 st2 ⟨xb,ub,tb,c,Rep.mono s12 _ _ rb,rub,hS2o⟩ (by simp [adv,ZI,hlt])⟩
theorem ahS (a v d:Value):argsOk "min" ⟨[a],[("key",v),("default",d)]⟩:=by unfold argsOk; kernel_rfl
theorem agB {X:Cx}{Kp:List (Addr × Obj)}{σ:St}{H:Hp}{s:Shared} (I:Inv X Kp σ H s) {b:Addr} (hb:s.heap.objs.size<=b):Own1 X Kp b:=by
 obtain ⟨_,h1,h2,h3,h4,h5⟩:=I.fpOk (H':=fun _=>none) hb rfl
 exact ⟨h1,h2,Nat.le_trans I.sz hb,h4,h5⟩
theorem ahT {X:Cx}{k:Nat}{f:Addr}{fd:FuncData}{ps:List Str}{g:LP->OP}{kf:PyData->Int}{ds:LP}{xs:List V}{l:Addr}{Kp:List (Addr × Obj)}{σ:St}{H:Hp}{s:Shared}{Q:VK} (hc:X.calm=true)
  (FO:FnOk X.prog X.w X.K X.mg X.base CX0 k f fd ps (Pur X.K 1 g)) (hr:Room (k+1) X.A) (hb:zW X.K fd ps []) (hk:∀ d ∈ ds,g [d]=some (.int (kf d))) (I:Inv X Kp σ H s) (hl:H l=some (.lst xs)) (hR:Reps X.K H ds xs)
  (q:∀ v H',jp H H'->Rep X.K H' (adv kf none ds) v->Q v H'):
  wpAny (model X.prog X.w) X.A (call (.builtin "min") [.ref l] [("key",.ref f),("default",.none)]) (EP X Kp σ Q) X.xe s:=by
 obtain ⟨its,rv,p,hz⟩:=I.list (SqL.of (K:=X.K) hl)
 have hlt:l<s.heap.objs.size:=I.hok.lt hl
 refine PyProof.Rows.kmk_tree PySem.F.kind_min PySem.F.plain_min PySem.F.entry_min (ahS _ _ _) ?_
 refine wpAny_bind (m:=Builtin.Builtins.bindParams "min" ["key","default"] 0 ⟨[],[("key",.ref f),("default",.none)]⟩)
  (wpAny_of_eq (show _=pure [some (.ref f),some .none] from rfl) ?_)
 refine wpAny_bind (wpAny_pure ?_)
 refine wpAny_bind (wpAny_pyIter_list p.isList ?_)
 refine wpAny_bind (wpAny_newList ?_ (Nat.zero_le _))
 rw [Z8]
 refine wpAny_pure ⟨plainId_quiet PySem.F.plain_min_loop _,?_⟩
 generalize hh1:s.heap.push { cls:= .type "list_iterator",data:= .fields #[.ref l,.int 0 0] }=h1
 have n1:h1.objs.size=s.heap.objs.size+1:=by rw [←hh1]; exact Heap.size_push ..
 have k2:∀ b o,s.heap.get? b=some o->(h1.push { cls:= .type "list",data:= .seq ([]:List Value).toArray }).get? b=some o:=fun b o e=>Heap.get?_push_of_some _ (by rw [←hh1]; exact Heap.get?_push_of_some _ e)
 have I2:Inv X Kp σ H { s with heap:=h1.push { cls:= .type "list",data:= .seq ([]:List Value).toArray } }:=I.kept (t':=s.toks) k2
 refine akt (kf:=kf) hc FO hr hb hk (agB I (Nat.le_refl _)) (agB I (b:=h1.objs.size) (by rw [n1]; exact Nat.le_succ _)) (by rw [n1]; exact Nat.ne_of_lt (Nat.lt_succ_self _)) (Nat.ne_of_lt hlt) (by rw [n1]; exact Nat.ne_of_lt (Nat.lt_succ_of_lt hlt))
  ds 0 none _ H rfl (Inv.inB I2) hl hR (I.hok.fresh (Nat.le_refl _)) (I.hok.fresh (by rw [n1]; exact Nat.le_succ _)) ⟨_,Heap.get?_push_of_some _ (by rw [←hh1]; exact Heap.get?_push_size _ rfl),rfl,rfl⟩ ⟨0,Heap.get?_push_size _ rfl⟩ fun v u s' H' I' s1 r' q'=>?_
 exact ⟨v,H',Inv.outB I',r',q v H' s1 q'⟩
def acz (g:LP->OP) (ds:LP):Bool:=ds.all fun d=>((g [d]).bind Z4).isSome
def Z9 (g:LP->OP) (d:PyData):Int:=((g [d]).bind Z4).getD 0
def aaZ (g:LP->OP):PyData->OP
 | .list ds=>if acz g ds=true then some (adv (Z9 g) none ds) else none
 | _=>none
theorem aku {d:PyData}{i:Int} (h:Z4 d=some i):d= .int i:=by
 cases d <;> simp [Z4] at h
 rw [h]
theorem al9 {g:LP->OP}{ds:LP} (h:acz g ds=true):∀ d ∈ ds,g [d]=some (.int (Z9 g d)):=fun d hd=>by
 have:=List.all_eq_true.mp h d hd
 cases e:g [d] with
 | none=>simp [e] at this
 | some c=>
  cases e2:Z4 c with
  | none=>simp [e,e2] at this
  | some i=>
   have:=aku e2
   subst this
   simp [Z9,e,Z4]
theorem aeX:bootBuiltins "min"=some (.builtin "min"):=by decide +kernel
theorem ama:bootBuiltins "max"=some (.builtin "max"):=by decide +kernel
section
variable {X:Cx}{a:Expr}{fa:RP}{pos p p2 p3 kp kp2:Pos}{j3:Nat}
theorem amb {k j:Nat}{ps:List Str}{g:LP->OP}{x:Str} (hc:X.calm=true) (c:jm X.prog X.w X.K X.mg X.base x ps k 1 g) (hr:Room j X.A) (hkj:k+1<=j) (hm:X.mg "min"=none) (ha:PD X a fa) (hg:Gl X "min":=by rfl) (hgx:Gl X x:=by rfl)
  (hdb:(x == ("__debug__":Str))=false:=by decide) (hs:starEach [a] X.env=[(false,eval a X.env)]:=by rfl):
  PD X (.Call (.Name "min" p) [a] [⟨some "key",.Name x p2,kp⟩,⟨some "default",.Constant .none j3 p3,kp2⟩] pos) (fun ρ=>(fa ρ).bind (aaZ g)):=by
 with_unfolding_all
  obtain ⟨f,fd,FO,hmx,hkp,hb⟩:=c
  intro Kp s σ H Q I h
  obtain ⟨ρ,d,en,q,kq⟩:=h
  cases h1:fa ρ with
  | none=>simp [h1] at q
  | some y=>
   have q':aaZ g y=some d:=by simpa [h1] using q
   refine wpAny_Call_Name_kw (JW I hg hm aeX ?_)
   have hA:PA X [a] (agm (tD X.K fa) aob):=qG ha zz (by rw [hs]; rfl)
   have hK:PK X [⟨some "key",.Name x p2,kp⟩,⟨some "default",.Constant .none j3 p3,kp2⟩] (agm (tC (.ref f)) (agm (tC .non) aob)):=aiX (aeC hgx hmx rfl hdb) (aiX alr aqE)
   refine callWith_kw (thn (hA pos Kp s σ H (fun vs H1=>∃ v,vs=[v]/\jp H H1/\Rep X.K H1 y v) I ⟨ρ,y,en,h1,fun v H1 s1 r1=>⟨v,rfl,s1,r1⟩⟩) fun us s1 ⟨vs,H1,I1,r1,v,e1,s1',rv⟩=>?_) (by rw [hs]; rfl) (by rw [hs]; rfl)
   subst e1
   obtain ⟨u,rfl,ru⟩:=abn r1
   refine thn (hK pos Kp s1 σ H1 (fun zs H2=>zs=[.ref f,.non]/\H2=H1) I1 ⟨rfl,rfl⟩) fun ws s2 ⟨zs,H2,I2,r2,e2,e3⟩=>?_
   subst e2; subst e3
   obtain ⟨w1,w2,rfl,a1,a2⟩:=aiW r2
   cases (show w1=_ from a1)
   cases (show w2=_ from a2)
   cases y with
   | list ds=>
    by_cases hko:acz g ds=true
    ·have:adv (Z9 g) none ds=d:=by simpa [aaZ,hko] using q'
     subst this
     obtain ⟨l,xs,e4,e5,e6⟩:=rv
     subst e4
     cases (show u=_ from ru)
     exact ahT (kf:=Z9 g) hc FO (hr.mono hkj) hb (al9 hko) I2 e5 e6 fun v H' s' r'=>kq v H' (s1'.trans s') r'
    ·simp [aaZ,hko] at q'
   | _=>simp [aaZ] at q'
end
noncomputable def ajf:Int->List Int->Int
 | b,[]=>b
 | b,d::r=>if d > b then ajf d r else ajf b r
def aqX:Option Int->List Int->PyData
 | none,[]=> .none
 | none,d::r=> .int (ajf d r)
 | some b,r=> .int (ajf b r)
section
variable {X:Cx}{a:Expr}{fa:RP}{pos p p3 kp2:Pos}{j3:Nat}
end
end BX
end
section
namespace BX.Srt
open PySem PySem.W
open PyProof.Rows (mirror bubble mirror_size mirror_perm bubble_size bubble_perm getElem?_mirror_all getElem?_bubble)
section
variable (rk:Nat->Int) (n:Nat)
noncomputable def val (p:Array Nat) (k:Nat):Int:=rk (p.getD k 0)
def Qr (p:Array Nat) (m:Nat):Prop:=∀ i j,i<=j->j<m->val rk p i<=val rk p j
def acA (p:Array Nat) (m:Nat):Prop:=∀ i j,i<=j->j<m->val rk p j<=val rk p i
def agC (p:Array Nat) (m q:Nat):Prop:=∀ i,m - (q+1)<=i->i<m->val rk p i=val rk p (m - 1)
def OKp (p:Array Nat):Prop:=p.Perm (List.range n).toArray
end
section
variable {rk:Nat->Int}{n:Nat}{p p':Array Nat}
theorem OKp.size (h:OKp n p):p.size=n:=by
 have:=h.size_eq
 simpa using this
theorem OKp.lt (h:OKp n p) {k:Nat} (hk:k<n):p.getD k 0<n:=by
 have hs:=h.size
 have e:p.getD k 0=p[k]'(by omega):=by simp [Array.getD,hs,hk]
 have:p[k]'(by omega) ∈ (List.range n).toArray:=h.mem_iff.mp (Array.getElem_mem _)
 rw [e]
 simpa using this
theorem Qs (p:Array Nat) (k:Nat):p.getD k 0=(p[k]?).getD 0:=by simp [Array.getD_eq_getD_getElem?]
theorem abL {i j k:Nat} (hj:j<=p.size):val rk (kas_rev p i j) k=if i<=k/\k<j then val rk p (i+j - 1 - k) else val rk p k:=by
 unfold val kas_rev
 rw [Qs,getElem?_mirror_all hj]
 by_cases h:i<=k/\k<j
 ·rw [if_pos h,if_pos h,←Qs]
 ·rw [if_neg h,if_neg h,←Qs]
theorem ajg {src d k:Nat} (hs:src<p.size) (hd:d<=src):val rk (bubble p src d) k=if k=src - d then val rk p src else if src - d<k/\k<=src then val rk p (k - 1) else val rk p k:=by
 unfold val
 rw [Qs,getElem?_bubble hs d hd k]
 by_cases h:k=src - d
 ·rw [if_pos h,if_pos h,←Qs]
 ·rw [if_neg h,if_neg h]
  by_cases h2:src - d<k/\k<=src
  ·rw [if_pos h2,if_pos h2,←Qs]
  ·rw [if_neg h2,if_neg h2,←Qs]
theorem OKp.rev (h:OKp n p) (i j:Nat):OKp n (kas_rev p i j):=(mirror_perm p i j _).trans h
theorem OKp.bub (h:OKp n p) (i j:Nat):OKp n (bubble p i j):=(bubble_perm p i j).trans h
theorem ZT {m q k:Nat} (hm:m<=p.size) (hq:q+1<=m) (h:agC rk p m q):val rk (kas_rev p (m - (q+1)) m) k=val rk p k:=by
 rw [abL hm]
 split
 ·rename_i hk
  rw [h _ (by omega) (by omega),h k hk.1 hk.2]
 ·rfl
end
variable {rk:Nat->Int}{n:Nat}{cmp:Nat->Nat->(Bool->SP0)->SP0}
section
variable {s:Shared} (hc:∀ i j (C:Bool->SP0),i<n->j<n->C (decide (rk i<rk j)) s->cmp i j C s)
include hc
theorem acB {α:Type}{p:Array Nat}{a b:Nat}{k:Bool->KasT α}{Q:α->SP0} (h:OKp n p) (ha:a<n) (hb:b<n) (h1:val rk p a<val rk p b->(k true).kasWp cmp Q s) (h2:val rk p b<=val rk p a->(k false).kasWp cmp Q s):
  (KasT.ask (p.getD a 0) (p.getD b 0) k).kasWp cmp Q s:=by
 refine hc _ _ _ (h.lt ha) (h.lt hb) ?_
 by_cases hl:rk (p.getD a 0)<rk (p.getD b 0)
 ·simp only [hl,decide_true]; exact h1 hl
 ·simp only [hl,decide_false]; exact h2 (Int.not_lt.mp hl)
theorem ahU {p:Array Nat} (h:OKp n p):∀ (f m:Nat) (Q:Nat->SP0),1<=m->m+f<=n->Qr rk p m->
  (∀ m',m<=m'->m'<=m+f->Qr rk p m'->(m'=m+f ∨ val rk p m' < val rk p (m' - 1))->Q m' s)->(kas_asc p f m).kasWp cmp Q s
 | 0,m,Q,_,_,hs,k=>k m (Nat.le_refl _) (Nat.le_refl _) hs (.inl rfl)
 | f+1,m,Q,h1,h2,hs,k=>by
  refine acB hc h (by omega) (by omega) (fun hl=>?_) (fun hl=>?_)
  ·show (if true=true then KasT.ret m else kas_asc p f (m+1)).kasWp cmp Q s
   rw [if_pos rfl]
   exact k m (Nat.le_refl _) (by omega) hs (.inr hl)
  ·show (if false=true then KasT.ret m else kas_asc p f (m+1)).kasWp cmp Q s
   rw [if_neg Bool.false_ne_true]
   refine ahU h f (m+1) Q (by omega) (by omega) (fun i j hij hj=>?_) fun m' a1 a2 a3 a4=>k m' (by omega) (by omega) a3 (a4.elim (fun e=> .inl (by omega)) .inr)
   by_cases hjm:j<m
   ·exact hs i j hij hjm
   ·have ej:j=m:=by omega
    subst ej
    by_cases him:i<j
    ·exact Int.le_trans (hs i (j - 1) (by omega) (by omega)) hl
    ·have ei:i=j:=by omega
     subst ei; exact Int.le_refl _
theorem abM:∀ (f:Nat) (p:Array Nat) (m q:Nat) (Q:Array Nat × Nat × Nat->SP0),OKp n p->q+1<=m->m+f<=n->acA rk p m->agC rk p m q->
  (∀ p' m' q',OKp n p'->q'+1<=m'->m'<=m+f->acA rk p' m'->agC rk p' m' q'->Q (p',m',q') s)->(kas_desc f p m q).kasWp cmp Q s
 | 0,p,m,q,Q,h,h1,h2,hn,he,k=>k p m q h h1 (Nat.le_refl _) hn he
 | f+1,p,m,q,Q,h,h1,h2,hn,he,k=>by
  have hsz:=h.size
  have grow:∀ {p':Array Nat},(∀ i,val rk p' i=val rk p i)->val rk p m<=val rk p (m - 1)->acA rk p' (m+1):=fun {p'} hv hl i j hij hj=>by
   rw [hv,hv]
   by_cases hjm:j<m
   ·exact hn i j hij hjm
   ·have ej:j=m:=by omega
    subst ej
    by_cases him:i<j
    ·exact Int.le_trans hl (hn i (j - 1) (by omega) (by omega))
    ·have ei:i=j:=by omega
     subst ei; exact Int.le_refl _
  refine acB hc h (by omega) (by omega) (fun hl=>?_) (fun hl=>?_)
  ·show (if true=true then (if q > 0 then kas_desc f (kas_rev p (m - (q+1)) m) (m+1) 0 else kas_desc f p (m+1) 0) else _).kasWp cmp Q s
   rw [if_pos rfl]
   have er:∀ {p':Array Nat},agC rk p' (m+1) 0:=fun {p'} i h3 h4=>by
    have e:i=m+1 - 1:=by omega
    rw [e]
   by_cases hq:q > 0
   ·rw [if_pos hq]
    exact abM f _ (m+1) 0 Q (h.rev _ _) (by omega) (by omega) (grow (fun i=>ZT (by omega) h1 he) (Int.le_of_lt hl)) er fun p' m' q' a1 a2 a3 a4 a5=>k p' m' q' a1 a2 (by omega) a4 a5
   ·rw [if_neg hq]
    exact abM f p (m+1) 0 Q h (by omega) (by omega) (grow (fun _=>rfl) (Int.le_of_lt hl)) er fun p' m' q' a1 a2 a3 a4 a5=>k p' m' q' a1 a2 (by omega) a4 a5
  ·show (if false=true then _ else KasT.ask (p.getD (m - 1) 0) (p.getD m 0) fun d=>if d=true then .ret (p,m,q) else kas_desc f p (m+1) (q+1)).kasWp cmp Q s
   rw [if_neg Bool.false_ne_true]
   refine acB hc h (by omega) (by omega) (fun hl2=>?_) (fun hl2=>?_)
   ·show (if true=true then KasT.ret (p,m,q) else kas_desc f p (m+1) (q+1)).kasWp cmp Q s
    rw [if_pos rfl]
    exact k p m q h h1 (by omega) hn he
   ·show (if false=true then KasT.ret (p,m,q) else kas_desc f p (m+1) (q+1)).kasWp cmp Q s
    rw [if_neg Bool.false_ne_true]
    have eq:val rk p m=val rk p (m - 1):=Int.le_antisymm hl2 hl
    refine abM f p (m+1) (q+1) Q h (by omega) (by omega) (grow (fun _=>rfl) hl2) (fun i h3 h4=>?_) fun p' m' q' a1 a2 a3 a4 a5=>k p' m' q' a1 a2 (by omega) a4 a5
    have e1:m+1 - 1=m:=by omega
    rw [e1]
    by_cases him:i<m
    ·rw [he i (by omega) him,eq]
    ·have ei:i=m:=by omega
     rw [ei]
theorem ajh {p:Array Nat}{m:Nat}{Q:Nat × Array Nat->SP0} (h:OKp n p) (h1:1<=m) (h2:m<=n) (hn:acA rk p m) (k:∀ m' p',OKp n p'->1<=m'->m'<=n->Qr rk p' m'->Q (m',p') s):(kas_tail3 m n p).kasWp cmp Q s:=by
 have hsz:=h.size
 unfold kas_tail3
 rw [KasT.kasWp_bind]
 refine ahU hc (h.rev 0 m) (n - m) m _ h1 (by omega) (fun i j hij hj=>?_) fun m' a1 a2 a3 _=>k m' _ (h.rev 0 m) (by omega) (by omega) a3
 rw [abL (by omega),abL (by omega),if_pos ⟨Nat.zero_le _,by omega⟩,if_pos ⟨Nat.zero_le _,hj⟩]
 exact hn _ _ (by omega) (by omega)
theorem abv {p:Array Nat}{m:Nat}{Q:Nat × Array Nat->SP0} (h:OKp n p) (h2:m+1<=n) (hn:acA rk p (m+1)) (k:∀ m' p',OKp n p'->1<=m'->m'<=n->Qr rk p' m'->Q (m',p') s):
  (kas_descPart m n p).kasWp cmp Q s:=by
 unfold kas_descPart
 rw [KasT.kasWp_bind]
 have er:agC rk p (m+1) 0:=fun i h3 h4=>by
  have e:i=m+1 - 1:=by omega
  rw [e]
 refine abM hc (n - (m+1)) p (m+1) 0 _ h (by omega) (by omega) hn er fun p' m' q' a1 a2 a3 a4 a5=>?_
 have hsz:=a1.size
 show (if q' > 0 then kas_tail3 m' n (kas_rev p' (m' - (q'+1)) m') else kas_tail3 m' n p').kasWp cmp Q s
 by_cases hq:q' > 0
 ·rw [if_pos hq]
  refine ajh hc (a1.rev _ _) (by omega) (by omega) (fun i j hij hj=>?_) k
  rw [ZT (by omega) a2 a5,ZT (by omega) a2 a5]
  exact a4 i j hij hj
 ·rw [if_neg hq]
  exact ajh hc a1 (by omega) (by omega) a4 k
theorem amc {p:Array Nat}{Q:Nat × Array Nat->SP0} (h:OKp n p) (hn1:1<=n) (k:∀ m' p',OKp n p'->1<=m'->m'<=n->Qr rk p' m'->Q (m',p') s):(kas_count n p).kasWp cmp Q s:=by
 have hsz:=h.size
 unfold kas_count
 rw [KasT.kasWp_bind]
 refine ahU hc h (n - 1) 1 _ (Nat.le_refl _) (by omega) (fun i j hij hj=>by
  have e1:i=0:=by omega
  have e2:j=0:=by omega
  rw [e1,e2]; exact Int.le_refl _) fun m a1 a2 a3 a4=>?_
 by_cases hm:(m == n)=true
 ·rw [if_pos hm]
  exact k m p h a1 (by omega) a3
 ·rw [if_neg hm]
  have hmn:m ≠ n:=by simpa using hm
  have hlast:val rk p m<val rk p (m - 1):=a4.resolve_left (by omega)
  by_cases hm1:m > 1
  ·rw [if_pos hm1]
   refine acB hc h (by omega) (by omega) (fun hl=>?_) (fun hl=>?_)
   ·show (if true=true then KasT.ret (m,p) else _).kasWp cmp Q s
    rw [if_pos rfl]
    exact k m p h a1 (by omega) a3
   ·show (if false=true then KasT.ret (m,p) else kas_descPart m n (kas_rev p 0 m)).kasWp cmp Q s
    rw [if_neg Bool.false_ne_true]
    have alleq:∀ i,i<m->val rk p i=val rk p (m - 1):=fun i hi=>by
     have b1:=a3 i (m - 1) (by omega) (by omega)
     have b2:=a3 0 i (Nat.zero_le _) hi
     omega
    have hv:∀ i,val rk (kas_rev p 0 m) i=val rk p i:=fun i=>by
     rw [abL (by omega)]
     split
     ·rename_i hi
      rw [alleq _ (by omega),alleq i hi.2]
     ·rfl
    refine abv hc (h.rev _ _) (by omega) (fun i j hij hj=>?_) k
    rw [hv,hv]
    by_cases hjm:j<m
    ·rw [alleq j hjm,alleq i (by omega)]; exact Int.le_refl _
    ·have ej:j=m:=by omega
     subst ej
     by_cases him:i<j
     ·rw [alleq i him]; exact Int.le_of_lt hlast
     ·have ei:i=j:=by omega
      rw [ei]; exact Int.le_refl _
  ·rw [if_neg hm1]
   have em:m=1:=by omega
   subst em
   refine abv hc h (by omega) (fun i j hij hj=>?_) k
   by_cases hj0:j=0
   ·have:i=0:=by omega
    rw [this,hj0]; exact Int.le_refl _
   ·have ej:j=1:=by omega
    subst ej
    by_cases hi0:i=0
    ·rw [hi0]; exact Int.le_of_lt hlast
    ·have ei:i=1:=by omega
     rw [ei]; exact Int.le_refl _
theorem acC {p:Array Nat}{k:Nat} (h:OKp n p) (hk:k<n) (hs:Qr rk p k):∀ (f l r:Nat) (Q:Nat->SP0),l<=r->r<=k->r - l<=f->(∀ i,i<l->val rk p i<=val rk p k)->(∀ i,r<=i->i<k->val rk p k<val rk p i)->
  (∀ l',l'<=k->(∀ i,i<l'->val rk p i<=val rk p k)->(∀ i,l'<=i->i<k->val rk p k<val rk p i)->Q l' s)->(kas_place p k f l r).kasWp cmp Q s
 | 0,l,r,Q,h1,h2,h3,a,b,q=>by
  have e:l=r:=by omega
  subst e
  exact q l h2 a b
 | f+1,l,r,Q,h1,h2,h3,a,b,q=>by
  show (if l >= r then KasT.ret l else .ask (p.getD k 0) (p.getD ((l+r) / 2) 0) fun c=>if c=true then kas_place p k f l ((l+r) / 2) else kas_place p k f ((l+r) / 2+1) r).kasWp cmp Q s
  by_cases hlr:l >= r
  ·rw [if_pos hlr]
   have e:l=r:=by omega
   subst e
   exact q l h2 a b
  ·rw [if_neg hlr]
   refine acB hc h hk (by omega) (fun hl=>?_) (fun hl=>?_)
   ·show (if true=true then kas_place p k f l ((l+r) / 2) else kas_place p k f ((l+r) / 2+1) r).kasWp cmp Q s
    rw [if_pos rfl]
    refine acC h hk hs f l ((l+r) / 2) Q (by omega) (by omega) (by omega) a (fun i h4 h5=>?_) q
    exact Int.lt_of_lt_of_le hl (hs _ i h4 h5)
   ·show (if false=true then kas_place p k f l ((l+r) / 2) else kas_place p k f ((l+r) / 2+1) r).kasWp cmp Q s
    rw [if_neg Bool.false_ne_true]
    refine acC h hk hs f ((l+r) / 2+1) r Q (by omega) h2 (by omega) (fun i h4=>?_) b q
    exact Int.le_trans (hs i ((l+r) / 2) (by omega) (by omega)) hl
theorem amd:∀ (f:Nat) (p:Array Nat) (k:Nat) (Q:Array Nat->SP0),OKp n p->k+f=n->Qr rk p k->(∀ p',OKp n p'->Qr rk p' n->Q p' s)->(kas_bin f p k).kasWp cmp Q s
 | 0,p,k,Q,h,hk,hs,q=>by
  have e:k=n:=by omega
  exact q p h (by rw [←e]; exact hs)
 | f+1,p,k,Q,h,hk,hs,q=>by
  have hsz:=h.size
  show ((kas_place p k k 0 k).bind fun l=>kas_bin f (bubble p k (k - l)) (k+1)).kasWp cmp Q s
  rw [KasT.kasWp_bind]
  refine acC hc h (by omega) hs k 0 k _ (Nat.zero_le _) (Nat.le_refl _) (by omega) (fun i hi=>absurd hi (Nat.not_lt_zero _)) (fun i h1 h2=>absurd h2 (by omega)) fun l hl a b=>?_
  refine amd f _ (k+1) Q (h.bub _ _) (by omega) (fun i j hij hj=>?_) q
  have hb:k - (k - l)=l:=by omega
  rw [ajg (by omega) (by omega),ajg (by omega) (by omega),hb]
  by_cases hi1:i=l
  ·rw [if_pos hi1]
   by_cases hj1:j=l
   ·rw [if_pos hj1]; exact Int.le_refl _
   ·rw [if_neg hj1,if_pos ⟨by omega,by omega⟩]
    exact Int.le_of_lt (b _ (by omega) (by omega))
  ·rw [if_neg hi1]
   by_cases hi2:l<i/\i<=k
   ·rw [if_pos hi2,if_neg (by omega),if_pos ⟨by omega,by omega⟩]
    exact hs _ _ (by omega) (by omega)
   ·rw [if_neg hi2]
    by_cases hj1:j=l
    ·rw [if_pos hj1]; exact a i (by omega)
    ·rw [if_neg hj1]
     by_cases hj2:l<j/\j<=k
     ·rw [if_pos hj2]
      exact hs _ _ (by omega) (by omega)
     ·rw [if_neg hj2]
      exact hs _ _ hij (by omega)
theorem sort_ok {Q:Array Nat->SP0} (hn1:1<=n) (q:∀ p',OKp n p'->Qr rk p' n->Q p' s):(kas_sort n).kasWp cmp Q s:=by
 unfold kas_sort
 rw [KasT.kasWp_bind]
 refine amc hc (p:=(List.range n).toArray) (Array.Perm.refl _) hn1 fun m p h h1 h2 hs=>?_
 show (if m<n then kas_bin (n - max m 1) p (max m 1) else KasT.ret p).kasWp cmp Q s
 have em:max m 1=m:=by omega
 by_cases hm:m<n
 ·rw [if_pos hm,em]
  exact amd hc (n - m) p m Q h (by omega) hs q
 ·rw [if_neg hm]
  have e:m=n:=by omega
  exact q p h (by rw [←e]; exact hs)
end
end BX.Srt
end
section
namespace BX
open PySem PySem.Spec L2
open PyProof.Rows hiding St
theorem aoA (vs:List Value):(vs.toArray.zip vs.toArray).map (·.2)=vs.toArray:=by
 apply Array.toList_inj.mp
 simp [List.map_snd_zip]
theorem aoB (vs:List Value):(arrOf (SortSt.mk' general' (vs.toArray.zip vs.toArray) #[] 7 none)).map (·.2)=vs.toArray:=aoA vs
section
variable {prog:Program}{w:World}{A:Around}{E:Value->SP0}{s:Shared}
end
theorem qK.there {P:Program}{w:World}{H:Hp}{h:Heap}{a:Addr}{o:HO} (x:qK P w H h a o):∃ u,h.get? a=some u:=by
 cases o with
 | lst xs=>obtain ⟨_,_,_,_,e⟩:=x; exact ⟨_,e⟩
 | tup xs=>obtain ⟨_,_,_,u,e,_⟩:=x; exact ⟨_,e⟩
 | dK kvs=>obtain ⟨_,_,_,_,o,_,_,e,_⟩:=x; exact ⟨_,e⟩
 | dT kvs=>obtain ⟨_,_,_,_,o,_,_,e,_⟩:=x; exact ⟨_,e⟩
 | set S n=>obtain ⟨o,_,_,_,e,_⟩:=x; exact ⟨_,e⟩
 | ins C dx fs=>obtain ⟨_,_,_,e,_⟩:=x; exact ⟨_,e⟩
 | own y=>obtain ⟨_,e⟩:=x; exact ⟨_,e⟩
 | xd fs=>obtain ⟨_,⟨_,_,_,e,_⟩,_⟩:=x; exact ⟨_,e⟩
 | rng lo hi=>obtain ⟨_,_,_,e⟩:=x; exact ⟨_,e⟩
 | frz ob u=>obtain ⟨e,_⟩:=x; exact ⟨_,e⟩
 | tbl ps=>exact ⟨_,(show h.get? a=some _ from x)⟩
 | met f y=>exact ⟨_,(show h.get? a=some _ from x)⟩
 | ext φ=>obtain ⟨_,⟨_,e⟩,_⟩:=x; exact ⟨_,e⟩
theorem aqY {h:Heap}{L:Addr}{m m':SV} (a:h.Ns L m) (b:h.Ns L m'):m=m':=by
 obtain ⟨o,es,ep,e1,d1,_,q1⟩:=a
 obtain ⟨o',es',ep',e2,d2,_,q2⟩:=b
 rw [e1] at e2; cases e2
 rw [d1] at d2; cases d2
 funext x
 rw [←q1 x,←q2 x]
theorem Inv.grownL {X:Cx}{Kp:List (Addr × Obj)}{σ:St}{H:Hp}{s:Shared}{h':Heap}{m:SV}{D:Addr}{ys:List V}{us:List Value}{c:Nat} (I:Inv X Kp σ H s) (hm:s.heap.Ns X.env.locals m) (hm':h'.Ns X.env.locals m)
  (kp:∀ b o,b ≠ X.env.locals->s.heap.get? b=some o->h'.get? b=some o) (hD:s.heap.get? D=none) (ho:h'.get? D=some (lob us.toArray c)) (rv:jG ys us) (hz:ys.length<=sizeLine):Inv X Kp σ (upd H D (.lst ys)) { s with heap:=h' }:=by
 have nD:H D=none:=by
  cases e:H D with
  | none=>rfl
  | some o=>obtain ⟨u,q⟩:=qK.there (I.hok D o e); rw [hD] at q; cases q
 have neD:∀ b u,H b=some u->b ≠ D:=fun b u e z=>by rw [z,nD] at e; cases e
 have nL:∀ b u,H b=some u->b ≠ X.env.locals:=fun b u e z=>by rw [z,I.free] at e; cases e
 refine I.step (t':=s.toks) (g':=s.gens) (d':=s.drawn) (ch:=[]) (fun b hb=>nomatch hb) (fun b o hL _ _ e _=>kp b o hL e) (fun b o hL _ _ e _=>⟨o.slots,kp b o hL e⟩) (fun b o _ e n=>?_) (fun b o _ e=>?_) (fun b ws e=>by rw [jo (neD b _ e)]; exact e)
  (fun b ob ws e=>by rw [jo (neD b _ e)]; exact e) (fun b ps e=>⟨#[],by rw [jo (neD b _ e),e]; simp⟩) (fun m2 h2=>by rw [←aqY hm h2]; exact hm') (fun b u e=>?_) I.bare
 ·have:b ≠ D:=fun z=>by rw [z,hD] at e; cases e
  rw [jo this]; exact n
 ·by_cases hb:b=X.env.locals
  ·obtain ⟨o',_,_,e',_⟩:=hm'
   exact ⟨o',by rw [hb]; exact e'⟩
  ·exact ⟨o,kp b o hb e⟩
 ·by_cases hb:b=D
  ·subst hb
   rw [ji] at e
   cases e
   exact ⟨hz,us,c,rv,ho⟩
  ·rw [jo hb] at e
   refine (I.hok b u e).stay (fun c' o hc' q=>kp c' o ?_ q) (fun c' q=>by rw [jo (neD c' _ q)]; exact q) fun c' ws q=>by rw [jo (neD c' _ q)]; exact q
   rcases hc' with q' | q'
   ·rw [q']; exact nL b u e
   ·exact nL c' _ q'
noncomputable def ame (p:Int × Int):PyData:= .tuple [.int p.1,.int p.2]
noncomputable def inB (p:Int × Int):Bool:=decide (0<=p.2) && decide (p.2<1000000)
structure PairAt (h:Heap) (u:Value) (p:Int × Int):Prop where
 ex:∃ a o k t t',u= .ref a/\h.get? a=some o/\o.cls= .type "tuple"/\o.data= .seq #[.int p.1 t,.int p.2 t'] k
theorem getD_some {α:Type}{l:List α}{i:Nat}{d x:α} (h:l[i]?=some x):l.getD i d=x:=by simp [List.getD,h]
theorem akv {us:List Value}{xs:List V} (rv:jG xs us) (is:List Nat) (h:∀ i ∈ is,i<us.length):jG (is.map fun i=>xs.getD i .non) (is.map fun i=>us.getD i Value.none):=by
 induction is with
 | nil=>exact .nil
 | cons i is ih=>
  have hi:=h i List.mem_cons_self
  have hl:=rv.length
  obtain ⟨u,e1,e2⟩:=rv.get (show xs[i]?=some (xs[i]'(by omega)) by simp [hl,hi])
  refine .cons ?_ (ih fun j hj=>h j (List.mem_cons_of_mem _ hj))
  show L2.jW (xs.getD i .non) (us.getD i Value.none)
  rw [getD_some e1,getD_some (show xs[i]?=some (xs[i]'(by omega)) by simp [hl,hi])]
  exact e2
section
variable {X:Cx}
variable {a b:Expr}{fa fb:RP}{pos p2:Pos}
noncomputable def ahV:PyData->OP
 | .int i=>some (.int (-i))
 | _=>none
theorem acD (h:PD X a fa):PD X (.UnaryOp .USub a pos) (fun ρ=>(fa ρ).bind ahV):=by
 with_unfolding_all
  refine PE.imp (ar2 aqz h) fun σ H Q ⟨ρ,d,en,q,k⟩=>?_
  cases h1:fa ρ with
  | none=>simp [h1] at q
  | some y=>
   refine ⟨ρ,y,en,h1,fun v H1 s1 r1=>?_⟩
   have q':ahV y=some d:=by simpa [h1] using q
   cases y with
   | int i=>cases q'; cases (show v=_ from r1); exact ⟨i,rfl,k _ H1 s1 rfl⟩
   | _=>cases q'
end
variable {X:Cx}
end BX
end
section
namespace BX
open PySem PySem.Spec L2
open PyProof.Rows hiding St
variable {X:Cx}
noncomputable def adw (f:Expr->OP):List Expr->Option (LP)
 | []=>some []
 | e::es=>(f e).bind fun d=>(adw f es).map fun ds=>d::ds
def lit:Nat->Expr->OP
 | 0,_=>none
 | n+1,e=>match e with
  | .Constant (.int i) _ _=>some (.int i)
  | .Constant (.bool b) _ _=>some (.bool b)
  | .Constant .none _ _=>some .none
  | .Constant (.str x) _ _=>some (.str x)
  | .Tuple es _ _=>(adw (lit n) es).bind fun ds=>if few ds=true then some (.tuple ds) else none
  | .List es _=>(adw (lit n) es).bind fun ds=>if few ds=true then some (.list ds) else none
  | _=>none
theorem PD.as {e:Expr}{F G:RP} (h:PD X e F) (hi:∀ ρ d,G ρ=some d->F ρ=some d):PD X e G:=by
 with_unfolding_all exact (PE.imp h fun σ H Q ⟨ρ,d,en,q,k⟩=>⟨ρ,d,en,hi ρ d q,k⟩)
theorem PAD.as {es:List Expr}{F G:Rho->Option (LP)} (h:PAD X es F) (hi:∀ ρ d,G ρ=some d->F ρ=some d):PAD X es G:=by
 with_unfolding_all exact (PA.imp h fun σ H Q ⟨ρ,d,en,q,k⟩=>⟨ρ,d,en,hi ρ d q,k⟩)
def amf (e:Expr):Prop:=∀ (es:List Expr) (env:Env),starEach (e::es) env=(false,eval e env)::starEach es env
theorem aeY {f:Expr->OP} (hf:∀ e d,f e=some d->PD X e (cst d)/\amf e):∀ (es:List Expr) (ds:LP),adw f es=some ds->PAD X es (fun _=>some ds)
 | [],ds,h=>by cases h; exact jd
 | e::es,ds,h=>by
  cases h1:f e with
  | none=>simp [adw,h1] at h
  | some d=>
   cases h2:adw f es with
   | none=>simp [adw,h1,h2] at h
   | some r=>
    have:d::r=ds:=by with_unfolding_all simpa [adw,h1,h2] using h
    subst this
    obtain ⟨p,st⟩:=hf e d h1
    exact (jb p (aeY hf es r h2) (st es X.env)).as fun ρ d' q=>by cases q; simp [jr,cst]
theorem ahW:∀ (n:Nat) (e:Expr) (d:PyData),lit n e=some d->PD X e (cst d)/\amf e
 | 0,e,d,h=>by cases h
 | n+1,e,d,h=>by
  unfold lit at h
  split at h
  ·cases h; exact ⟨jh,fun _ _=>rfl⟩
  ·cases h; exact ⟨zr,fun _ _=>rfl⟩
  ·cases h; exact ⟨aqP,fun _ _=>rfl⟩
  ·cases h; exact ⟨zA,fun _ _=>rfl⟩
  ·rename_i es x1 pos
   cases h1:adw (lit n) es with
   | none=>simp [h1] at h
   | some ds=>
    by_cases hf:few ds=true
    ·have:PyData.tuple ds=d:=by with_unfolding_all simpa [h1,hf] using h
     subst this
     exact ⟨(zM (aeY (ahW n) es ds h1)).as fun ρ d' q=>by cases q; simp [QF,hf],fun _ _=>rfl⟩
    ·simp [h1,hf] at h
  ·rename_i es pos
   cases h1:adw (lit n) es with
   | none=>simp [h1] at h
   | some ds=>
    by_cases hf:few ds=true
    ·have:PyData.list ds=d:=by simpa [h1,hf] using h
     subst this
     exact ⟨(QI (aeY (ahW n) es ds h1)).as fun ρ d' q=>by cases q; simp [Ja,hf],fun _ _=>rfl⟩
    ·simp [h1,hf] at h
  ·cases h
theorem aeZ (n:Nat) {e:Expr} (d:PyData) (h:lit n e=some d):PD X e (cst d):=by
 with_unfolding_all exact ((ahW n e d h).1)
end BX
end
section
namespace BX
open PySem L2
open PyProof.Rows hiding St
def jX (K:Fg) (x:Str) (st:Stmt):Prop:=
 ∃ (f:Addr) (oc:Value) (od an:Option Addr) (kV doc pm Kc ct:Value) (osl:Array (Option Value)),PySem.W.nsIn K mainGlobals x=some (some (.ref f))/\
  K.lookup f=some ⟨oc,od,.func (PySem.W.fnOf x x (zS st) (jS st) (je st) .none kV doc pm an Kc ct),osl⟩/\PySem.W.codeIn K Kc x=true/\PySem.W.keepIn K (.ref f)=true
theorem amg {K:Fg}{x:Str}{st:Stmt}{f:Addr}{oc:Value}{od an:Option Addr}{kV doc pm Kc ct:Value}{osl:Array (Option Value)} (a:PySem.W.nsIn K mainGlobals x=some (some (.ref f)))
  (l:K.lookup f=some ⟨oc,od,.func (PySem.W.fnOf x x (zS st) (jS st) (je st) .none kV doc pm an Kc ct),osl⟩) (c:PySem.W.codeIn K Kc x=true) (k:PySem.W.keepIn K (.ref f)=true):jX K x st:=
 ⟨f,oc,od,an,kV,doc,pm,Kc,ct,osl,a,l,c,k⟩
abbrev jw (x:Str) (st:Stmt) (ps:List Str):Prop:=∀ (kV doc pm:Value) (an:Option Addr) (Kc ct:Value) (us:List Value),us.length=ps.length->bindArgs (PySem.W.fnOf x x (zS st) (jS st) (je st) .none kV doc pm an Kc ct) ⟨us,[]⟩=pure (ps.zip us)
theorem jX.callee {P:Program}{w:World}{K:Fg}{mg:SV}{base h:Heap}{x:Str}{st:Stmt}{ps:List Str}{k n:Nat}{g:LP->OP} (T:jX K x st) (X:K.In h) (G:h.Ns mainGlobals mg)
  (hb:jw x st ps) (F:∀ (f:Addr) (fd:FuncData),Fun K x x st f fd->FnOk P w K mg base CX0 k f fd ps (Pur K n g)):jm P w K mg base x ps k n g:=by
 obtain ⟨f,oc,od,an,kV,doc,pm,Kc,ct,osl,a,l,c,kp⟩:=T
 have F1:=aaP (st:=st) l c kp
 exact ⟨f,_,F f _ F1,PySem.W.mg_of X G a,kp,F1.binds hb⟩
theorem jm.as {P:Program}{w:World}{K:Fg}{mg:SV}{base:Heap}{x:Str}{ps:List Str}{k n:Nat}{g g':LP->OP} (C:jm P w K mg base x ps k n g) (h:∀ ds d,g' ds=some d->g ds=some d):jm P w K mg base x ps k n g':=by
 obtain ⟨f,fd,F,a,b,c⟩:=C
 exact ⟨f,fd,asj F fun ds d _ q=>h ds d q,a,b,c⟩
theorem agD {K:Fg}{mg:SV}{h:Heap}{x:Str}{a:Addr}{ob:Obj}{ds:LP} (X:K.In h) (G:h.Ns mainGlobals mg) (e:PySem.W.nsIn K mainGlobals x=some (some (.ref a))) (l:K.lookup a=some ob)
  (hc:ob.cls= .type "tuple") (hi:∃ (its:Array Value) (n:Nat) (xs:List V),ob.data= .seq its n/\its.size<=sizeLine/\jG xs its.toList/\∀ H,Reps K H ds xs):∃ v u,mg x=some u/\jW v u/\∀ H,Rep K H (.tuple ds) v:=by
 obtain ⟨its,n,xs,h1,h2,h3,h4⟩:=hi
 exact ⟨.ref a,.ref a,PySem.W.mg_of X G e,rfl,fun H=>⟨a,xs,rfl,.inr ⟨ob,its,n,l,hc,h1,h2,h3⟩,h4 H⟩⟩
end BX
end
section
namespace BX
open PySem PySem.Spec L2
open PyProof.Rows hiding St
def j5 (a:Addr) (xs:List V):HO:= .ext fun h=>xs.length<=sizeLine/\∃ (its:List Value) (n:Nat),jG xs its/\h.get? a=some { cls:= .type "list",data:= .seq its.toArray n }
def aaa (P:Program) (w:World) (a:Addr) (ob:Obj) (ks:List (Key × V)):HO:= .ext fun h=>h.get? a=some ob/\ks.length<=sizeLine/\(a == sysModules)=false/\∃ vs,KV ks vs/\h.DictOf (qm P w) a vs
inductive Seal (P:Program) (w:World) (a:Addr):HO->HO->Prop where
 | l (xs:List V):Seal P w a (j5 a xs) (.lst xs)
 | d (ob:Obj) (ks:List (Key × V)):Seal P w a (aaa P w a ob ks) (.frz ob (.dK ks))
theorem Seal.ext {P:Program}{w:World}{a:Addr}{c o:HO} (S:Seal P w a c o):∃ φ,c= .ext φ:=by cases S <;> exact ⟨_,rfl⟩
section
variable {X:Cx}{Kp:List (Addr × Obj)}{σ:St}{H:Hp}{s:Shared}{a:Addr}{c o:HO}
theorem Inv.opened (I:Inv X Kp σ H s) (S:Seal X.prog X.w a c o) (e:H a=some c):Inv X Kp σ (upd H a o) s:=by
 have q:=I.hok a c e
 have mu:Mut (H a):=by rw [e]; obtain ⟨φ,rfl⟩:=S.ext; trivial
 cases S with
 | l xs=>
  obtain ⟨h1,h2,_⟩:=q
  exact I.write (x:=a) (e:=a) (h':=s.heap) (t':=s.toks) mu (.inl rfl) (fun _ _ _ z=>z) h2 h1
 | d ob ks=>
  obtain ⟨h1,h2,_⟩:=q
  exact I.write (x:=a) (e:=a) (h':=s.heap) (t':=s.toks) mu (.inl rfl) (fun _ _ _ z=>z) h2 ⟨h1.1,h1.2⟩
theorem Inv.redesc {o1 o2:HO} (I:Inv X Kp σ H s) (h1:H a=some o1) (n1:∀ y,o1 ≠ .own y) (n2:∀ xs,o1 ≠ .tup xs) (n3:∀ ps,o1 ≠ .tbl ps) (nf:∀ ob u,X.H₀ a ≠ some (.frz ob u)) (new:qK X.prog X.w (upd H a o2) s.heap a o2):Inv X Kp σ (upd H a o2) s:=by
 have na:∀ b,H b=none->upd H a o2 b=none:=fun b z=>by
  have:b ≠ a:=fun q=>by subst q; rw [h1] at z; cases z
  rw [jo this]; exact z
 refine ⟨I.ok,I.os,I.bare,⟨I.base.keep,I.base.slot,fun b u q n hx=>na b (I.base.free b u q n hx),I.base.there,fun b xs q=>?_,fun b ob u q=>?_,fun b ps q=>?_⟩,I.loc,I.cell,na _ I.free,fun x c' q=>na _ (I.freeC x c' q),fun p hp=>?_,fun b u q=>?_,I.len⟩
 ·have q':=I.base.tups b xs q
  have:b ≠ a:=fun z=>by subst z; rw [h1] at q'; cases q'; exact n2 _ rfl
  rw [jo this]; exact q'
 ·have:b ≠ a:=fun z=>by subst z; exact nf _ _ q
  rw [jo this]; exact I.base.frzs b ob u q
 ·obtain ⟨more,q'⟩:=I.base.tbls b ps q
  have:b ≠ a:=fun z=>by subst z; rw [h1] at q'; cases q'; exact n3 _ rfl
  exact ⟨more,by rw [jo this]; exact q'⟩
 ·obtain ⟨g1,g2,g3⟩:=I.pin p hp
  exact ⟨g1,na _ g2,g3⟩
 ·by_cases hb:b=a
  ·subst hb
   rw [ji] at q; cases q
   exact new
  ·rw [jo hb] at q
   refine (I.hok b u q).stay (fun c' v _ z=>z) (fun c' z=>?_) fun c' xs z=>?_
   ·have:c' ≠ a:=fun m=>by subst m; rw [h1] at z; cases z; exact n1 _ rfl
    rw [jo this]; exact z
   ·have:c' ≠ a:=fun m=>by subst m; rw [h1] at z; cases z; exact n2 _ rfl
    rw [jo this]; exact z
theorem Inv.nofrz {φ:Heap->Prop} (I:Inv X Kp σ H s) (e:H a=some (.ext φ)):∀ ob u,X.H₀ a ≠ some (.frz ob u):=fun ob u z=>by
 have:=I.base.frzs _ _ _ z
 rw [e] at this; cases this
theorem Inv.closed (I:Inv X Kp σ H s) (S:Seal X.prog X.w a c o) (e:H a=some o) (nf:∀ ob u,X.H₀ a ≠ some (.frz ob u)):Inv X Kp σ (upd H a c) s:=by
 have q:=I.hok a o e
 cases S with
 | l xs=>
  obtain ⟨h1,its,n,h2,h3⟩:=q
  refine I.write (x:=a) (e:=a) (h':=s.heap) (t':=s.toks) (by rw [e]; trivial) (.inl rfl) (fun _ _ _ z=>z) ⟨_,h3⟩ ⟨⟨h1,its,n,h2,h3⟩,⟨_,h3⟩,?_⟩
  rintro g1 g2 ⟨z1,its,n,z2,z3⟩ k
  exact ⟨z1,its,n,z2,k _ z3⟩
 | d ob ks=>
  obtain ⟨h0,h1,h2,vs,h3,ob',es,ep,h4,h5⟩:=q
  refine Inv.redesc I e (fun _ z=>nomatch z) (fun _ z=>nomatch z) (fun _ z=>nomatch z) nf ⟨⟨h0,h1,h2,vs,h3,ob',es,ep,h4,h5⟩,⟨_,h4⟩,?_⟩
  rintro g1 g2 ⟨z0,z1,z2,vs,z3,ob',es,ep,z4,z5⟩ k
  exact ⟨k _ z0,z1,z2,vs,z3,ob',es,ep,k _ z4,z5⟩
theorem Inv.sealedD {ks:List (Key × V)} (I:Inv X Kp σ H s) (e:H a=some (.dK ks)):∃ ob,Inv X Kp σ (upd H a (aaa X.prog X.w a ob ks)) s:=by
 obtain ⟨h1,h2,vs,h3,ob,es,ep,h4,h5⟩:=I.hok a _ e
 refine ⟨ob,I.write (x:=a) (e:=a) (h':=s.heap) (t':=s.toks) (by rw [e]; trivial) (.inl rfl) (fun _ _ _ z=>z) ⟨_,h4⟩ ⟨⟨h4,h1,h2,vs,h3,ob,es,ep,h4,h5⟩,⟨_,h4⟩,?_⟩⟩
 rintro g1 g2 ⟨z0,z1,z2,vs,z3,ob',es,ep,z4,z5⟩ k
 exact ⟨k _ z0,z1,z2,vs,z3,ob',es,ep,k _ z4,z5⟩
theorem Inv.openD {ob:Obj}{ks:List (Key × V)} (I:Inv X Kp σ H s) (e:H a=some (aaa X.prog X.w a ob ks)):Inv X Kp σ (upd H a (.dK ks)) s:=by
 obtain ⟨h1,h2,_⟩:=I.hok a _ e
 exact I.write (x:=a) (e:=a) (h':=s.heap) (t':=s.toks) (by rw [e]; trivial) (.inl rfl) (fun _ _ _ z=>z) h2 h1.2
end
mutual
noncomputable def noD:PyData->Bool
 | .tuple ds=>noDs ds
 | .list ds=>noDs ds
 | .dict _=>false
 | _=>true
noncomputable def noDs:LP->Bool
 | []=>true
 | d::ds=>noD d && noDs ds
end
def agE (H H':Hp):Prop:=∀ b o,H b=some o->(∀ ob ks,o ≠ .frz ob (.dK ks))->H' b=some o
section
variable {K:Fg}{H H':Hp}
theorem agE.tup {a:Addr}{xs:List V} (e:agE H H') (h:SqT K H a xs):SqT K H' a xs:=by
 rcases h with (h | ⟨o,h⟩) | h
 ·exact .inl (.inl (e _ _ h fun _ _ z=>nomatch z))
 ·exact .inl (.inr ⟨o,e _ _ h fun _ _ z=>nomatch z⟩)
 ·exact .inr h
mutual
theorem Rep.monoM (e:agE H H'):∀ (d:PyData) (v:V),noD d=true->Rep K H d v->Rep K H' d v
 | .none,v,_,h=>h
 | .bool _,v,_,h=>h
 | .int _,v,_,h=>h
 | .str _,v,_,h=>h
 | .tuple ds,v,n,⟨a,xs,h1,h2,h3⟩=>⟨a,xs,h1,agE.tup e h2,Reps.monoM e ds xs (by simpa [noD] using n) h3⟩
 | .list ds,v,n,⟨a,xs,h1,h2,h3⟩=>⟨a,xs,h1,e _ _ h2 (fun _ _ z=>nomatch z),Reps.monoM e ds xs (by simpa [noD] using n) h3⟩
 | .dict ds,v,n,h=>by simp [noD] at n
theorem Reps.monoM (e:agE H H'):∀ (ds:LP) (xs:List V),noDs ds=true->Reps K H ds xs->Reps K H' ds xs
 | [],xs,_,h=>h
 | d::ds,xs,n,⟨x,r,h1,h2,h3⟩=>by
  have n':noD d=true/\noDs ds=true:=by simpa [noDs] using n
  exact ⟨x,r,h1,Rep.monoM e d x n'.1 h2,Reps.monoM e ds r n'.2 h3⟩
end
end
def okB (c d:PyData):Bool:=match c with
 | .list _=>noL d
 | .dict _=>noD d
 | _=>false
def aab (P:Program) (w:World) (K:Fg) (H:Hp) (a:Addr):PyData->Prop
 | .list ds=>∃ xs,H a=some (j5 a xs)/\Reps K H ds xs
 | .dict kvs=>∃ ks r ob,kvs=(.none,.none)::r/\H a=some (aaa P w a ob ks)/\RepM K H r ks
 | _=>False
theorem aab.out {P:Program}{w:World}{K:Fg}{H:Hp}{a:Addr}{d:PyData} (h:aab P w K H a d):∃ c o,Seal P w a c o/\H a=some c/\
  (∀ H',j1 H H'->H' a=some o->Rep K H' d (.ref a))/\(∀ H',j1 H H'->H' a=some c->aab P w K H' a d)/\
  ∀ x H3 v,okB d x=true->H3 a=some o->Rep K H3 x v->Rep K (upd H3 a c) x v:=by
 cases d with
 | list ds=>
  obtain ⟨xs,h1,h2⟩:=h
  exact ⟨_,_,.l xs,h1,fun H' e q=>⟨a,xs,rfl,q,Reps.monoE e _ _ h2⟩,fun H' e q=>⟨xs,q,Reps.monoE e _ _ h2⟩,fun x H3 v n q r=>Rep.monoN (fun b u hb m=>by
   have:b ≠ a:=fun z=>by subst z; rw [q] at hb; cases hb; exact m _ rfl
   rw [jo this]; exact hb) x v n r⟩
 | dict kvs=>
  obtain ⟨ks,r,ob,rfl,h1,h2⟩:=h
  exact ⟨_,_,.d ob ks,h1,fun H' e q=>⟨a,rfl,.inr (.inl ⟨ks,ob,q,show RepM K H' r ks from RepM.monoE e _ _ h2⟩)⟩,fun H' e q=>⟨ks,r,ob,rfl,q,RepM.monoE e _ _ h2⟩,fun x H3 v n q r=>Rep.monoM (fun b u hb m=>by
   have:b ≠ a:=fun z=>by subst z; rw [q] at hb; cases hb; exact m _ _ rfl
   rw [jo this]; exact hb) x v n r⟩
 | none=>exact h.elim
 | bool _=>exact h.elim
 | int _=>exact h.elim
 | str _=>exact h.elim
 | tuple _=>exact h.elim
theorem j1.upd {H:Hp}{a:Addr}{φ:Heap->Prop}{o:HO} (e:H a=some (.ext φ)):j1 H (upd H a o):=fun b u h n=>by
 have:b ≠ a:=fun z=>by subst z; rw [e] at h; cases h; exact n _ rfl
 rw [jo this]; exact h
structure EnvO (P:Program) (w:World) (K:Fg) (Hs H:Hp) (own:Option Nat) (ρ:Rho) (σ:St):Prop where
 len:ρ.length=σ.length
 sm:jp Hs H
 pl:∀ i d,ρ[i]?=some (some d)->own ≠ some i->∃ v,σ[i]?=some (some v)/\Rep K H d v
 ow:∀ i,own=some i->∃ d a,ρ[i]?=some (some d)/\σ[i]?=some (some (.ref a))/\Hs a=none/\aab P w K H a d
def hid (own:Option Nat) (ρ:Rho):Rho:=match own with
 | none=>ρ
 | some i=>ρ.set i none
section
variable {P:Program}{w:World}{K:Fg}{Hs H H':Hp}{own:Option Nat}{ρ:Rho}{σ:St}
theorem EnvO.of (e:EnvR K H ρ σ) (s:jp Hs H):EnvO P w K Hs H none ρ σ:=⟨e.len,s,fun i d h _=>e.at' i d h,fun i z=>nomatch z⟩
theorem EnvO.to (e:EnvO P w K Hs H none ρ σ):EnvR K H ρ σ:=⟨e.len,fun i d h=>e.pl i d h (fun z=>nomatch z)⟩
theorem EnvO.hid (e:EnvO P w K Hs H own ρ σ):EnvR K H (hid own ρ) σ:=by
 cases own with
 | none=>exact e.to
 | some i=>
  refine ⟨by simp [BX.hid,e.len],fun j d h=>?_⟩
  by_cases hj:i=j
  ·subst hj
   simp only [BX.hid] at h
   rw [List.getElem?_set] at h
   simp at h
  ·simp only [BX.hid] at h
   rw [List.getElem?_set_ne hj] at h
   exact e.pl j d h (fun z=>hj (Option.some.inj z))
theorem aab.mono {a:Addr}{d:PyData} (h:aab P w K H a d) (s:jp H H'):aab P w K H' a d:=by
 obtain ⟨c,o,_,h1,_,h2,_⟩:=h.out
 exact h2 H' (jp.e s) (s _ _ h1)
theorem EnvO.mono (e:EnvO P w K Hs H own ρ σ) (s:jp H H'):EnvO P w K Hs H' own ρ σ:=
 ⟨e.len,e.sm.trans s,fun i d h n=>let ⟨v,h1,h2⟩:=e.pl i d h n; ⟨v,h1,Rep.mono s d v h2⟩,fun i n=>let ⟨d,a,h1,h2,h3,h4⟩:=e.ow i n; ⟨d,a,h1,h2,h3,h4.mono s⟩⟩
theorem EnvO.opn {i:Nat} (e:EnvO P w K Hs H (some i) ρ σ):∃ d a c o,ρ[i]?=some (some d)/\σ[i]?=some (some (.ref a))/\Hs a=none/\Seal P w a c o/\H a=some c/\EnvR K (upd H a o) ρ σ/\jp Hs (upd H a o)/\
  (∀ H3,jp (upd H a o) H3->j1 H (upd H3 a c)/\EnvO P w K Hs (upd H3 a c) (some i) ρ σ)/\∀ x H3 v,okB d x=true->H3 a=some o->Rep K H3 x v->Rep K (upd H3 a c) x v:=by
 obtain ⟨d,a,h1,h2,h3,h4⟩:=e.ow i rfl
 obtain ⟨c,o,S,h5,h6,h7,h8⟩:=h4.out
 obtain ⟨φ,rfl⟩:=S.ext
 have s1:j1 H (upd H a o):=j1.upd h5
 have sH:∀ {H2:Hp},(∀ b u,b ≠ a->H b=some u->H2 b=some u)->jp Hs H2:=fun {H2} k b u q=>k b u (fun z=>by subst z; rw [h3] at q; cases q) (e.sm b u q)
 refine ⟨d,a,_,o,h1,h2,h3,S,h5,⟨e.len,fun j x q=>?_⟩,sH fun b u n q=>by rw [jo n]; exact q,fun H3 s3=>⟨fun b u q m=>?_,e.len,sH fun b u n q=>by rw [jo n]; exact s3 b u (by rw [jo n]; exact q),fun j x q n=>?_,fun j n=>?_⟩,h8⟩
 ·by_cases hj:i=j
  ·subst hj
   rw [h1] at q; cases q
   exact ⟨.ref a,h2,h6 _ s1 ji⟩
  ·obtain ⟨v,g1,g2⟩:=e.pl j x q (fun z=>hj (Option.some.inj z))
   exact ⟨v,g1,Rep.monoE s1 _ _ g2⟩
 ·have:b ≠ a:=fun z=>by subst z; rw [h5] at q; cases q; exact m _ rfl
  rw [jo this]
  exact s3 b u (by rw [jo this]; exact q)
 ·have s4:j1 H (upd H3 a (.ext φ)):=fun b u q m=>by
   have:b ≠ a:=fun z=>by subst z; rw [h5] at q; cases q; exact m _ rfl
   rw [jo this]
   exact s3 b u (by rw [jo this]; exact q)
  obtain ⟨v,g1,g2⟩:=e.pl j x q n
  exact ⟨v,g1,Rep.monoE s4 _ _ g2⟩
 ·cases n
  have s4:j1 H (upd H3 a (.ext φ)):=fun b u q m=>by
   have:b ≠ a:=fun z=>by subst z; rw [h5] at q; cases q; exact m _ rfl
   rw [jo this]
   exact s3 b u (by rw [jo this]; exact q)
  exact ⟨d,a,h1,h2,h3,h7 _ s4 ji⟩
end
end BX
end
section
namespace BX
open PySem PySem.Spec L2
open PyProof.Rows hiding St
def brw (own:Option Nat) (f:RP):RP:=fun ρ=>match f (hid own ρ) with
 | some d=>some d
 | none=>match own with
  | none=>none
  | some i=>match f ρ,lkp i ρ with
   | some d,some c=>if okB c d=true then some d else none
   | _,_=>none
theorem aoC {own:Option Nat}{f:RP}{ρ:Rho}{d:PyData} (h:brw own f ρ=some d):f (hid own ρ)=some d ∨ ∃ i c,own=some i/\f ρ=some d/\ρ[i]?=some (some c)/\okB c d=true:=by
 unfold brw at h
 cases h1:f (hid own ρ) with
 | some x=>rw [h1] at h; exact .inl h
 | none=>
  rw [h1] at h
  cases own with
  | none=>cases h
  | some i=>
   simp only at h
   cases h2:f ρ with
   | none=>rw [h2] at h; cases h
   | some x=>
    rw [h2] at h
    cases h3:lkp i ρ with
    | none=>rw [h3] at h; cases h
    | some c=>
     rw [h3] at h
     simp only at h
     split at h
     ·rename_i ok
      cases h
      exact .inr ⟨i,c,rfl,rfl,qv h3,ok⟩
     ·cases h
section
variable {X:Cx}{e a b c tg src:Expr}{es:List Expr}{st:Stmt}{sts j9:List Stmt}{fa fb fc:RP}{F G:RO}{pos:Pos}{own:Option Nat}
def tE (P:Program) (w:World) (K:Fg) (own:Option Nat) (f:RP):TE:=fun σ H Q=>∃ Hs ρ d,EnvO P w K Hs H own ρ σ/\brw own f ρ=some d/\∀ v H',j1 H H'->EnvO P w K Hs H' own ρ σ->Rep K H' d v->Q v H'
theorem ahX (h:PD X e fa):PE X e (tE X.prog X.w X.K own fa):=by
 with_unfolding_all
  intro Kp s σ H Q I ⟨Hs,ρ,d,E,hb,k⟩
  rcases aoC hb with h1 | ⟨i,c,ho,h1,h2,ok⟩
  ·exact h Kp s σ H Q I ⟨hid own ρ,d,E.hid,h1,fun v H' s r=>k v H' (jp.e s) (E.mono s) r⟩
  ·subst ho
   obtain ⟨d0,a,cl,o,g1,g2,g3,S,g4,env,sm,back,keep⟩:=E.opn
   rw [h2] at g1; cases g1
   refine thn (h Kp s σ (upd H a o) (fun v H3=>jp (upd H a o) H3/\Rep X.K H3 d v) (Inv.opened I S g4) ⟨ρ,d,env,h1,fun v H3 s3 r3=>⟨s3,r3⟩⟩) fun u s1 ⟨v,H3,I3,r,s3,r3⟩=>?_
   have e3:H3 a=some o:=s3 _ _ ji
   exact ⟨v,upd H3 a cl,Inv.closed I3 S e3 (by obtain ⟨φ,rfl⟩:=S.ext; exact Inv.nofrz I g4),r,k v _ (back H3 s3).1 (back H3 s3).2 (keep d H3 v ok e3 r3)⟩
def tT (P:Program) (w:World) (K:Fg) (own:Option Nat) (f:Rho->Option Bool):TT:=fun σ H Q=>∃ Hs ρ d,EnvO P w K Hs H own ρ σ/\f ρ=some d/\∀ H',j1 H H'->EnvO P w K Hs H' own ρ σ->Q d H'
theorem aqZ {tc:Rho->Option Bool} (h:PTD X e tc):PT X e (tT X.prog X.w X.K own tc):=by
 with_unfolding_all
  intro Kp s σ H Q I ⟨Hs,ρ,d,E,h1,k⟩
  cases own with
  | none=>exact h Kp s σ H Q I ⟨ρ,d,E.to,h1,fun H' s=>k H' (jp.e s) (E.mono s)⟩
  | some i=>
   obtain ⟨d0,a,cl,o,g1,g2,g3,S,g4,env,sm,back,keep⟩:=E.opn
   refine thn (h Kp s σ (upd H a o) (fun b H3=>b=d/\jp (upd H a o) H3) (Inv.opened I S g4) ⟨ρ,d,env,h1,fun H3 s3=>⟨rfl,s3⟩⟩) fun b s1 ⟨H3,I3,hb,s3⟩=>?_
   subst hb
   exact ⟨upd H3 a cl,Inv.closed I3 S (s3 _ _ ji) (by obtain ⟨φ,rfl⟩:=S.ext; exact Inv.nofrz I g4),k _ (back H3 s3).1 (back H3 s3).2⟩
def tF (P:Program) (w:World) (K:Fg) (own:Option Nat) (f:RP):TE:=fun σ H Q=>∃ Hs ρ d,EnvO P w K Hs H own ρ σ/\f ρ=some d/\∀ v H',jp Hs H'->Rep K H' d v->Q v H'
theorem aq0 (h:PD X e fa):PE X e (tF X.prog X.w X.K own fa):=by
 with_unfolding_all
  intro Kp s σ H Q I ⟨Hs,ρ,d,E,h1,k⟩
  cases own with
  | none=>exact h Kp s σ H Q I ⟨ρ,d,E.to,h1,fun v H' s r=>k v H' (E.sm.trans s) r⟩
  | some i=>
   obtain ⟨d0,a,cl,o,g1,g2,g3,S,g4,env,sm,back,keep⟩:=E.opn
   exact h Kp s σ (upd H a o) Q (Inv.opened I S g4) ⟨ρ,d,env,h1,fun v H3 s3 r3=>k v H3 (sm.trans s3) r3⟩
def ast (P:Program) (w:World) (K:Fg) (Hs:Hp) (own:Option Nat) (D:Ends):Out->Prop
 | .nx ρ=>∀ σ H,EnvO P w K Hs H own ρ σ->D.nx σ H
 | .rt d=>∀ v H,jp Hs H->Rep K H d v->D.rt v H
 | .bk ρ=>∀ σ H,EnvO P w K Hs H own ρ σ->D.bk σ H
 | .ct ρ=>∀ σ H,EnvO P w K Hs H own ρ σ->D.ct σ H
def tOS (P:Program) (w:World) (K:Fg) (own:Option Nat) (F:RO):TS:=fun D σ H=>∃ Hs ρ o,EnvO P w K Hs H own ρ σ/\F ρ=some o/\ast P w K Hs own D o
@[irreducible] def PSO (X:Cx) (own:Option Nat) (st:Stmt) (F:RO):Prop:=PS X st (tOS X.prog X.w X.K own F)
@[irreducible] def adx (X:Cx) (own:Option Nat) (sts:List Stmt) (F:RO):Prop:=PSs X sts (tOS X.prog X.w X.K own F)
theorem acE (h:adx X none sts F):abC X sts F:=by
 with_unfolding_all
  refine PSs.imp h fun D σ H ⟨ρ,o,en,q,k⟩=>⟨H,ρ,o,EnvO.of en (jp.refl H),q,?_⟩
  cases o with
  | nx ρ'=>exact fun σ' H' E=>k σ' H' E.sm E.to
  | rt d=>exact fun v H' s r=>k v H' s r
  | bk ρ'=>exact fun σ' H' E=>k σ' H' E.sm E.to
  | ct ρ'=>exact fun σ' H' E=>k σ' H' E.sm E.to
theorem Jw:adx X own [] qx:=by
 with_unfolding_all
  refine PSs.imp aeD fun D σ H ⟨Hs,ρ,o,E,q,k⟩=>?_
  cases q
  exact k σ H E
theorem j6 (h1 : PSO X own st F) (h2 : adx X own j9 G) : adx X own (st :: j9) (jR F G) := by
  with_unfolding_all
   refine PSs.imp (zU h1 h2) fun D σ H ⟨Hs, ρ, o, E, q, k⟩ => ?_
   cases hf : F ρ with
   | none => simp [jR, hf] at q
   | some p =>
     refine ⟨Hs, ρ, p, E, hf, ?_⟩
     cases p with
     | nx ρ' => exact fun σ' H' E' => ⟨Hs, ρ', o, E', by simpa [jR, hf] using q, k⟩
     | rt d => have : Out.rt d = o := by simpa [jR, hf] using q
               subst this; exact k
     | bk d => have : Out.bk d = o := by simpa [jR, hf] using q
               subst this; exact k
     | ct d => have : Out.ct d = o := by simpa [jR, hf] using q
               subst this; exact k
theorem ae0 (h:PD X e fa):PSO X own (.Return (some e) pos) (qo fa):=by
 with_unfolding_all
  refine PS.imp (aeF (aq0 (own:=own) h)) fun D σ H ⟨Hs,ρ,o,E,q,k⟩=>?_
  cases h1:fa ρ with
  | none=>simp [qo,h1] at q
  | some d=>
   have:Out.rt d=o:=by simpa [qo,h1] using q
   subst this
   exact ⟨Hs,ρ,d,E,h1,k⟩
theorem EnvO.set {P:Program}{w:World}{K:Fg}{Hs H:Hp}{ρ:Rho}{σ:St}{i:Nat}{d:PyData}{v:V} (E:EnvO P w K Hs H own ρ σ) (hi:own ≠ some i) (r:Rep K H d v):EnvO P w K Hs H own (ρ.set i (some d)) (σ.set i (some v)):=by
 refine ⟨by simp [E.len],E.sm,fun j x q n=>?_,fun j n=>?_⟩
 ·by_cases hj:i=j
  ·subst hj
   rw [List.getElem?_set] at q ⊢
   simp only [zzM] at q ⊢
   by_cases hl:i < ρ.length
   ·rw [if_pos hl] at q
    rw [if_pos (by rw [←E.len]; exact hl)]
    cases q
    exact ⟨v,rfl,r⟩
   ·rw [if_neg hl] at q; cases q
  ·rw [List.getElem?_set_ne hj] at q ⊢
   exact E.pl j x q n
 ·have hj:i ≠ j:=fun z=>by subst z; exact hi n
  rw [List.getElem?_set_ne hj,List.getElem?_set_ne hj]
  exact E.ow j n
theorem JE (i:Nat) {x:Str}{pos':Pos} (hN:X.N.Nodup) (he:PD X e fa) (ho:own ≠ some i:=by decide) (hi:X.N[i]?=some x:=by rfl) (hx:Loc X.env.scope x:=by first | exact Or.inl rfl | exact Or.inr rfl) (hs:swapsWith e (some (.Name x pos')) pos.line X.env=pure false:=by rfl)
  (hf:X.fn x=true ∨ X.env.scope.names.lookup x=some .local:=by first | exact .inl rfl | exact .inr rfl | assumption):PSO X own (.Assign [.Name x pos'] e pos) (qQ (brw own fa) (jK i)):=by
 with_unfolding_all
  refine PS.imp (ZL hN hi hx (ahX (own:=own) he) hs hf) fun D σ H ⟨Hs,ρ,o,E,q,k⟩=>?_
  cases h1:brw own fa ρ with
  | none=>simp [qQ,h1] at q
  | some d=>
   have:Out.nx (ρ.set i (some d))=o:=by simpa [qQ,h1,jK] using q
   subst this
   exact ⟨Hs,ρ,d,E,h1,fun v H1 _ E1 r1=>k _ H1 (E1.set ho r1)⟩
end
section
variable {X:Cx}{e a b c tg src:Expr}{es:List Expr}{st:Stmt}{sts j9 body:List Stmt}{fa fb fc:RP}{F G:RO}{pos:Pos}{own:Option Nat}
@[irreducible] def PGO (X:Cx) (own:Option Nat) (tg:Expr) (ga:PyData->Rho->Option Rho):Prop:=
 PG X tg fun v σ H Q=>∃ Hs ρ d ρ',EnvO X.prog X.w X.K Hs H own ρ σ/\Rep X.K H d v/\ga d ρ=some ρ'/\∀ σ' H',EnvO X.prog X.w X.K Hs H' own ρ' σ'->Q σ' H'
@[irreducible] def aoD (X:Cx) (own:Option Nat) (ts:List Expr) (ga:LP->Rho->Option Rho):Prop:=
 PGs X ts fun vs σ H Q=>∃ Hs ρ ds ρ',EnvO X.prog X.w X.K Hs H own ρ σ/\Reps X.K H ds vs/\ga ds ρ=some ρ'/\∀ σ',EnvO X.prog X.w X.K Hs H own ρ' σ'->Q σ' H
theorem acF:aoD X own [] qp:=by
 with_unfolding_all
  refine PGs.imp aiT fun vs σ H Q ⟨Hs,ρ,ds,ρ',E,r,q,k⟩=>?_
  cases ds with
  | nil=>cases r; cases q; exact ⟨rfl,k σ E⟩
  | cons d ds=>cases q
theorem Jp (i:Nat) {x:Str}{gr:LP->Rho->Option Rho} (hN:X.N.Nodup) (h2:aoD X own es gr) (ho:own ≠ some i:=by decide) (hi:X.N[i]?=some x:=by rfl) (hx:Loc X.env.scope x:=by first | exact Or.inl rfl | exact Or.inr rfl)
  (hf:X.fn x=true ∨ X.env.scope.names.lookup x=some .local:=by first | exact .inl rfl | exact .inr rfl | assumption)
  (hs:(assignEach (.Name x pos::es) X.env).map (·.2)=assign (.Name x pos) X.env::(assignEach es X.env).map (·.2):=by rfl):aoD X own (.Name x pos::es) (jE (jK i) gr):=by
 with_unfolding_all
  refine PGs.imp (agg (abI hN hi hx hf) h2 hs) fun vs σ H Q ⟨Hs,ρ,ds,ρ',E,r,q,k⟩=>?_
  cases ds with
  | nil=>cases q
  | cons d ds=>
   obtain ⟨y,rr,e1,r1,r2⟩:=r
   subst e1
   exact ⟨y,rr,rfl,Hs,_,ds,ρ',E.set ho r1,r2,by simpa [jE,jK] using q,k⟩
theorem ae1 {k n:Nat}{gr:LP->Rho->Option Rho} (hc:X.calm=true) (h:aoD X own es gr) (hn:(assignEach es X.env).length=n:=by rfl) (hst:(assignEach es X.env).findIdx? (·.1)=none:=by rfl):
  PGO X own (.Tuple es k pos) (zy n gr):=by
 with_unfolding_all
  refine PG.imp (alD hc h hn hst) fun v σ H Q ⟨Hs,ρ,d,ρ',E,r,q,k⟩=>?_
  cases d with
  | tuple ds=>
   obtain ⟨a,xs,e1,e2,e3⟩:=r
   by_cases hl:ds.length=n
   ·exact ⟨a,xs,e1,e2,by rw [e3.length]; exact hl,Hs,ρ,ds,ρ',E,e3,by simpa [zy,hl] using q,fun σ' E'=>k σ' H E'⟩
   ·simp [zy,hl] at q
  | _=>simp [zy] at q
theorem EnvO.rebase {P:Program}{w:World}{K:Fg}{Hs H:Hp}{ρ:Rho}{σ:St} (E:EnvO P w K Hs H own ρ σ):∃ Hb,EnvO P w K Hb H own ρ σ/\(∀ H3,jp Hb H3->j1 H H3)/\
  (∀ H3 ρ3 σ3,EnvO P w K Hb H3 own ρ3 σ3->EnvO P w K Hs H3 own ρ3 σ3)/\∀ H3,jp Hb H3->jp Hs H3:=by
 cases own with
 | none=>exact ⟨H,⟨E.len,jp.refl H,E.pl,fun i z=>nomatch z⟩,fun _ s=>jp.e s,fun H3 ρ3 σ3 E3=>⟨E3.len,E.sm.trans E3.sm,E3.pl,fun i z=>nomatch z⟩,fun _ s=>E.sm.trans s⟩
 | some i=>
  obtain ⟨d,a,h1,h2,h3,h4⟩:=E.ow i rfl
  obtain ⟨c,o,S,h5,_⟩:=h4.out
  obtain ⟨φ,rfl⟩:=S.ext
  let Hb:Hp:=fun b=>if b=a then none else H b
  have ha:Hb a=none:=if_pos rfl
  have hb:∀ b,b ≠ a->Hb b=H b:=fun b n=>if_neg n
  have sH:∀ H3,jp Hb H3->jp Hs H3:=fun H3 s b u q=>by
   have n:b ≠ a:=fun z=>by subst z; rw [h3] at q; cases q
   exact s b u (by rw [hb b n]; exact E.sm b u q)
  refine ⟨Hb,⟨E.len,fun b u q=>?_,E.pl,fun j n=>?_⟩,fun H3 s b u q m=>?_,fun H3 ρ3 σ3 E3=>⟨E3.len,sH H3 E3.sm,E3.pl,fun j n=>?_⟩,sH⟩
  ·by_cases n:b=a
   ·subst n; rw [ha] at q; cases q
   ·rw [hb b n] at q; exact q
  ·cases n
   exact ⟨d,a,h1,h2,ha,h4⟩
  ·have n:b ≠ a:=fun z=>by subst z; rw [h5] at q; cases q; exact m _ rfl
   exact s b u (by rw [hb b n]; exact q)
  ·obtain ⟨d3,a3,g1,g2,g3,g4⟩:=E3.ow j n
   refine ⟨d3,a3,g1,g2,?_,g4⟩
   by_cases z:a3=a
   ·rw [z]; exact h3
   ·rw [hb a3 z] at g3
    cases q:Hs a3 with
    | none=>rfl
    | some u=>have:=E.sm _ _ q; rw [g3] at this; cases this
theorem aji {fi:Rho->Option (LP)}{ga:PyData->Rho->Option Rho} (hp:PassesOwn (model X.prog X.w) X.A X.env X.xe) (hc:X.calm=true) (hi:PID X tg src fi) (hg:PGO X own tg ga) (hb:adx X own body F)
  (hs:∀ x,foldedSetIterable src X.env x=pure x:=by intro _; rfl):PSO X own (.For tg src body [] pos) (aaT (fun ρ=>fi (hid own ρ)) ga F):=by
 with_unfolding_all
  refine PS.imp (aaK hp hc hi hg hb hs) fun D σ H ⟨Hs,ρ,o,E,q,k⟩=>?_
  cases h1:fi (hid own ρ) with
  | none=>simp [aaT,h1] at q
  | some ds=>
   have q':qj ga F ds ρ=some o:=by simpa [aaT,h1] using q
   refine ⟨hid own ρ,ds,E.hid,h1,fun J H1 s1 Y=>?_⟩
   obtain ⟨Hb,Eb,sE,back,sb⟩:=(E.mono s1).rebase
   refine ⟨fun i m σ H2=>m=ds.length - i/\i<=ds.length/\∃ ρ2,EnvO X.prog X.w X.K Hb H2 own ρ2 σ/\qj ga F (ds.drop i) ρ2=some o,⟨ds.length,by simp,Nat.zero_le _,ρ,Eb,by simpa using q'⟩,?_⟩
   rintro i m σ2 H2 ⟨rfl,hi,ρ2,en2,q2⟩
   obtain ⟨g1,g2,g3⟩:=Y i H2 (j1.a (sE H2 en2.sm))
   by_cases hlt:i<ds.length
   ·right
    have hd:ds.drop i=ds[i]::ds.drop (i+1):=List.drop_eq_getElem_cons hlt
    rw [hd] at q2
    refine ⟨g1 hlt,fun σ3 H3=>∃ ρ3,EnvO X.prog X.w X.K Hb H3 own ρ3 σ3/\qj ga F (ds.drop (i+1)) ρ3=some o,fun σ3 H3 ⟨ρ3,a2,a3⟩=>⟨ds.length - (i+1),by omega,rfl,hlt,ρ3,a2,a3⟩,fun x H3 y=>?_⟩
    obtain ⟨s3,r3⟩:=g3 x H3 y
    have r3':=r3 ds[i] (by simp [hlt])
    cases h4:ga ds[i] ρ2 with
    | none=>simp [qj,h4] at q2
    | some ρ4=>
     refine ⟨Hb,ρ2,ds[i],ρ4,en2.mono s3,r3',h4,fun σ5 H5 en5=>?_⟩
     cases h5:F ρ4 with
     | none=>simp [qj,h4,h5] at q2
     | some p=>
      refine ⟨Hb,ρ4,p,en5,h5,?_⟩
      cases p with
      | nx ρ6=>exact fun σ6 H6 en6=>⟨ρ6,en6,by simpa [qj,h4,h5] using q2⟩
      | ct ρ6=>exact fun σ6 H6 en6=>⟨ρ6,en6,by simpa [qj,h4,h5] using q2⟩
      | bk ρ6=>
       have:Out.nx ρ6=o:=by simpa [qj,h4,h5] using q2
       subst this
       exact fun σ6 H6 en6=>k σ6 H6 (back _ _ _ en6)
      | rt d=>
       have:Out.rt d=o:=by simpa [qj,h4,h5] using q2
       subst this
       exact fun v H6 s6 r6=>k v H6 (sb _ s6) r6
   ·left
    have he:i=ds.length:=by omega
    have hn:ds.drop i=[]:=by rw [he]; simp
    rw [hn] at q2
    have:Out.nx ρ2=o:=by simpa [qj] using q2
    subst this
    exact ⟨g2 (by omega),k σ2 H2 (back _ _ _ en2)⟩
def zD (tc:Rho->Option Bool) (F:RO):Nat->RO
 | 0,_=>none
 | n+1,ρ=>(tc ρ).bind fun x=>if x=true then (F ρ).bind fun o=>match o with
   | .nx ρ2=>zD tc F n ρ2
   | .ct ρ2=>zD tc F n ρ2
   | .bk ρ2=>some (.nx ρ2)
   | .rt d=>some (.rt d)
  else some (.nx ρ)
theorem akw (n:Nat) {tc:Rho->Option Bool} (hp:PassesOwn (model X.prog X.w) X.A X.env X.xe) (hc:PTD X c tc) (hb:adx X own body F):PSO X own (.While c body [] pos) (zD tc F n):=by
 with_unfolding_all
  refine PS.imp (alF hp (aqZ (own:=own) hc) hb) fun D σ H ⟨Hs,ρ,o,E,q,k⟩=>?_
  refine ⟨fun m σ H=>∃ ρ,EnvO X.prog X.w X.K Hs H own ρ σ/\zD tc F m ρ=some o,⟨n,ρ,E,q⟩,?_⟩
  rintro m σ2 H2 ⟨ρ2,E2,q2⟩
  cases m with
  | zero=>cases q2
  | succ m=>
   cases h1:tc ρ2 with
   | none=>simp [zD,h1] at q2
   | some x=>
    refine ⟨Hs,ρ2,x,E2,h1,fun H3 _ E3=>?_⟩
    cases x with
    | false=>
     rw [if_neg Bool.false_ne_true]
     have:Out.nx ρ2=o:=by simpa [zD,h1] using q2
     subst this
     exact k σ2 H3 E3
    | true=>
     rw [if_pos rfl]
     refine ⟨fun σ4 H4=>∃ ρ4,EnvO X.prog X.w X.K Hs H4 own ρ4 σ4/\zD tc F m ρ4=some o,fun σ4 H4 ⟨ρ4,a1,a2⟩=>⟨m,Nat.lt_succ_self m,ρ4,a1,a2⟩,?_⟩
     cases h5:F ρ2 with
     | none=>simp [zD,h1,h5] at q2
     | some p=>
      refine ⟨Hs,ρ2,p,E3,h5,?_⟩
      cases p with
      | nx ρ6=>exact fun σ6 H6 en6=>⟨ρ6,en6,by simpa [zD,h1,h5] using q2⟩
      | ct ρ6=>exact fun σ6 H6 en6=>⟨ρ6,en6,by simpa [zD,h1,h5] using q2⟩
      | bk ρ6=>
       have:Out.nx ρ6=o:=by simpa [zD,h1,h5] using q2
       subst this
       exact fun σ6 H6 en6=>k σ6 H6 en6
      | rt d=>
       have:Out.rt d=o:=by simpa [zD,h1,h5] using q2
       subst this
       exact fun v H6 s6 r6=>k v H6 s6 r6
end
theorem qF {H:Hp}{a:Addr}{o o':HO}:upd (upd H a o) a o'=upd H a o':=by
 funext b
 by_cases h:b=a
 ·subst h; rw [ji,ji]
 ·rw [jo h,jo h,jo h]
section
variable {P:Program}{w:World}{K:Fg}{Hs H:Hp}{ρ:Rho}{σ:St}{i:Nat}
theorem EnvO.put {a:Addr}{d d':PyData}{φ:Heap->Prop}{H3:Hp}{c:HO} (E:EnvO P w K Hs H (some i) ρ σ) (h0:ρ[i]?=some (some d)) (h2:σ[i]?=some (some (.ref a))) (h3:Hs a=none) (h5:H a=some (.ext φ))
  (s3:∀ b u,b ≠ a->H b=some u->H3 b=some u) (ow:aab P w K (upd H3 a c) a d'):EnvO P w K Hs (upd H3 a c) (some i) (ρ.set i (some d')) σ:=by
 have hi:i < ρ.length:=(List.getElem?_eq_some_iff.mp h0).1
 have s4:j1 H (upd H3 a c):=fun b u q m=>by
  have:b ≠ a:=fun z=>by subst z; rw [h5] at q; cases q; exact m _ rfl
  rw [jo this]; exact s3 b u this q
 refine ⟨by simp [E.len],fun b u q=>?_,fun j x q n=>?_,fun j n=>?_⟩
 ·have:b ≠ a:=fun z=>by subst z; rw [h3] at q; cases q
  rw [jo this]; exact s3 b u this (E.sm b u q)
 ·have hj:i ≠ j:=fun z=>n (by rw [z])
  rw [List.getElem?_set_ne hj] at q
  obtain ⟨v,g1,g2⟩:=E.pl j x q n
  exact ⟨v,g1,Rep.monoE s4 _ _ g2⟩
 ·cases n
  exact ⟨d',a,by rw [List.getElem?_set_self hi],h2,h3,ow⟩
theorem EnvO.opnL {ds:LP} (E:EnvO P w K Hs H (some i) ρ σ) (h:ρ[i]?=some (some (.list ds))):∃ a xs,σ[i]?=some (some (.ref a))/\Hs a=none/\H a=some (j5 a xs)/\Reps K H ds xs/\EnvR K (upd H a (.lst xs)) ρ σ:=by
 obtain ⟨d,a,h1,h2,h3,h4⟩:=E.ow i rfl
 rw [h] at h1; cases h1
 obtain ⟨xs,h5,h6⟩:=h4
 have s1:j1 H (upd H a (.lst xs)):=j1.upd h5
 refine ⟨a,xs,h2,h3,h5,h6,E.len,fun j x q=>?_⟩
 by_cases hj:i=j
 ·subst hj
  rw [h] at q; cases q
  exact ⟨.ref a,h2,a,xs,rfl,ji,Reps.monoE s1 _ _ h6⟩
 ·obtain ⟨v,g1,g2⟩:=E.pl j x q (fun z=>hj (Option.some.inj z))
  exact ⟨v,g1,Rep.monoE s1 _ _ g2⟩
end
section
variable {X:Cx}{e a b c tg src:Expr}{es:List Expr}{st:Stmt}{sts j9 body:List Stmt}{fa fb fc:RP}{F G:RO}{pos:Pos}
def aq1 (P:Program) (w:World) (K:Fg) (i:Nat) (g:RP):TE:=fun σ H Q=>∃ Hs ρ d',EnvO P w K Hs H (some i) ρ σ/\g ρ=some d'/\∀ H',EnvO P w K Hs H' (some i) (ρ.set i (some d')) σ->Q .non H'
noncomputable def amh (i:Nat) (g:RP):RO:=fun ρ=>(g ρ).map fun d=> .nx (ρ.set i (some d))
theorem ae2 {i:Nat}{g:RP} (h:PE X e (aq1 X.prog X.w X.K i g)) (hs:swapsWith e none pos.line X.env=pure false:=by rfl):PSO X (some i) (.Expr e pos) (amh i g):=by
 with_unfolding_all
  refine PS.imp (abH h hs) fun D σ H ⟨Hs,ρ,o,E,q,k⟩=>?_
  cases h1:g ρ with
  | none=>simp [amh,h1] at q
  | some d=>
   have:Out.nx (ρ.set i (some d))=o:=by simpa [amh,h1] using q
   subst this
   exact ⟨Hs,ρ,d,E,h1,fun H' E'=>k σ H' E'⟩
theorem Qt {n:Nat} (h:n<1000000):n<sizeLine:=Nat.lt_of_lt_of_le h (by rw [sizeLine_eq]; decide)
end
section
variable {X:Cx}{e a b c tg src:Expr}{es:List Expr}{st:Stmt}{sts j9 body:List Stmt}{fa fb fc:RP}{F G:RO}{pos:Pos}
@[irreducible] def PN (X:Cx) (e:Expr) (f:RP):Prop:=
 PE X e fun σ H Q=>∃ ρ d,EnvR X.K H ρ σ/\f ρ=some d/\∀ a H',jp H H'->H a=none->aab X.prog X.w X.K H' a d->Q (.ref a) H'
theorem aa0 {fr:Rho->Option (LP)} (h:PAD X es fr):PN X (.List es pos) (Ja fr):=by
 with_unfolding_all
  intro Kp s σ H Q I ⟨ρ,d,en,hf,k⟩
  cases h1:fr ρ with
  | none=>simp [Ja,h1] at hf
  | some ds=>
   by_cases hfew:few ds=true
   ·have:PyData.list ds=d:=by simpa [Ja,h1,hfew] using hf
    subst this
    refine thn (aeH h Kp s σ H (fun v H2=>∃ a xs H1,v= .ref a/\H1 a=none/\jp H H1/\H2=upd H1 a (.lst xs)/\Reps X.K H1 ds xs) I ⟨ρ,ds,en,h1,fun vs H1 s1 r1=>⟨by rw [r1.length]; exact ZQ (by simpa [few] using hfew),fun l hl=>⟨l,vs,H1,rfl,hl,s1,rfl,r1⟩⟩⟩) fun u s1 ⟨v,H2,I2,r,a,xs,H1,e1,e2,s1',e3,r1⟩=>?_
    subst e1
    have e4:H2 a=some (.lst xs):=by rw [e3]; exact ji
    have e5:upd H2 a (j5 a xs)=upd H1 a (j5 a xs):=by rw [e3,qF]
    have s2:jp H1 (upd H2 a (j5 a xs)):=by rw [e5]; exact jI e2
    exact ⟨.ref a,_,Inv.closed I2 (.l xs) e4 (fun ob u z=>by have:=I.base.frzs _ _ _ z; rw [s1'.free e2] at this; cases this),r,k a _ (s1'.trans s2) (s1'.free e2) ⟨xs,ji,Reps.mono s2 _ _ r1⟩⟩
   ·simp [Ja,h1,hfew] at hf
noncomputable def aa1 (i:Nat) (f:RP) (G:RO):RO:=fun ρ=>(f ρ).bind fun d=>if i < ρ.length then (G (ρ.set i (some d))).bind fun o=>match o with
  | .rt c=>some (.rt c)
  | _=>none
 else none
theorem acG (i:Nat) {x:Str}{pos':Pos} (hN:X.N.Nodup) (he:PN X e fa) (h:adx X (some i) j9 G) (hi:X.N[i]?=some x:=by rfl) (hx:Loc X.env.scope x:=by first | exact Or.inl rfl | exact Or.inr rfl) (hs:swapsWith e (some (.Name x pos')) pos.line X.env=pure false:=by rfl)
  (hf:X.fn x=true ∨ X.env.scope.names.lookup x=some .local:=by first | exact .inl rfl | exact .inr rfl | assumption):adx X none (.Assign [.Name x pos'] e pos::j9) (aa1 i fa G):=by
 with_unfolding_all
  refine PSs.imp (zU (ZL hN hi hx he hs hf) h) fun D σ H ⟨Hs,ρ,o,E,q,k⟩=>?_
  cases h1:fa ρ with
  | none=>simp [aa1,h1] at q
  | some d=>
   by_cases hl:i < ρ.length
   ·cases h2:G (ρ.set i (some d)) with
    | none=>simp [aa1,h1,h2] at q
    | some p=>
     cases p with
     | rt c=>
      have:Out.rt c=o:=by simpa [aa1,h1,h2,hl] using q
      subst this
      refine ⟨ρ,d,E.to,h1,fun a H' s hn ow=>⟨Hs,ρ.set i (some d),.rt c,⟨by simp [E.len],E.sm.trans s,fun j y q n=>?_,fun j n=>?_⟩,h2,k⟩⟩
      ·have hj:i ≠ j:=fun z=>n (by rw [z])
       rw [List.getElem?_set_ne hj] at q ⊢
       obtain ⟨v,g1,g2⟩:=E.pl j y q (fun z=>nomatch z)
       exact ⟨v,g1,Rep.mono s _ _ g2⟩
      ·cases n
       refine ⟨d,a,by rw [List.getElem?_set_self hl],by rw [List.getElem?_set_self (by rw [←E.len]; exact hl)],E.sm.free hn,ow⟩
     | nx _=>simp [aa1,h1,h2,hl] at q
     | bk _=>simp [aa1,h1,h2,hl] at q
     | ct _=>simp [aa1,h1,h2,hl] at q
   ·simp [aa1,h1,hl] at q
noncomputable def isI (n:Int):PyData->Bool
 | .int m=>decide (m=n)
 | _=>false
noncomputable def isS (t:Str):PyData->Bool
 | .str m=>decide (m=t)
 | _=>false
def aac (κ:Key) (d:PyData):Bool:=match κ with
 | .inl n=>isI n d
 | .inr t=>isS t d
theorem QQ (κ κ':Key):aac κ (acv κ')=decide (κ'=κ):=by
 cases κ <;> cases κ' <;> simp [aac,isI,isS,acv]
def zL (r:List (PyData × PyData)) (κ:Key):OP:=(r.find? fun p=>aac κ p.1).map (·.2)
def ZJ (r:List (PyData × PyData)) (κ:Key) (d:PyData):List (PyData × PyData):=if r.any (fun p=>aac κ p.1)=true then r.map (fun p=>if aac κ p.1=true then (p.1,d) else p) else r++[(acv κ,d)]
def atJ (r:List (PyData × PyData)) (n:Int) (d:PyData):List (PyData × PyData):=if r.any (fun p=>isI n p.1)=true then r.map (fun p=>if isI n p.1=true then (p.1,d) else p) else r++[(.int n,d)]
theorem aa2 {K:Fg}{H:Hp} (n:Key):∀ {r:List (PyData × PyData)}{ks:List (Key × V)},RepM K H r ks->(zL r n=none/\Qo ks n=none) ∨ ∃ d x,zL r n=some d/\Qo ks n=some x/\Rep K H d x
 | [],ks,h=>by cases (show ks=[] from h); exact .inl ⟨rfl,rfl⟩
 | (k,d)::r,ks,⟨i,x,s,h1,h2,h3,h4⟩=>by
  subst h1; subst h2
  by_cases hn:i=n
  ·subst hn
   exact .inr ⟨d,x,by simp [zL,QQ],by simp [Qo],h3⟩
  ·have e1:zL ((acv i,d)::r) n=zL r n:=by simp [zL,QQ,hn,List.find?_cons]
   have e2:Qo ((i,x)::s) n=Qo s n:=by simp [Qo,List.find?_cons,hn]
   rw [e1,e2]
   exact aa2 n h4
theorem RepM.anyK {K:Fg}{H:Hp} (n:Key):∀ {r:List (PyData × PyData)}{ks:List (Key × V)},RepM K H r ks->r.any (fun p=>aac n p.1)=ks.any fun kv=>decide (kv.1=n)
 | [],ks,h=>by cases (show ks=[] from h); rfl
 | (k,d)::r,ks,⟨i,x,s,h1,h2,h3,h4⟩=>by
  subst h1; subst h2
  rw [List.any_cons,List.any_cons,RepM.anyK n h4,QQ]
theorem RepM.any {K:Fg}{H:Hp} (n:Int) {r:List (PyData × PyData)}{ks:List (Key × V)} (h:RepM K H r ks):r.any (fun p=>isI n p.1)=ks.any fun kv=>decide (kv.1=(Sum.inl n:Key)):=RepM.anyK (.inl n) h
theorem RepM.replK {K:Fg}{H:Hp} (n:Key) {d':PyData}{x':V} (hr:Rep K H d' x'):∀ {r:List (PyData × PyData)}{ks:List (Key × V)},RepM K H r ks->
  RepM K H (r.map fun p=>if aac n p.1=true then (p.1,d') else p) (ks.map fun kv=>if kv.1=n then (kv.1,x') else kv)
 | [],ks,h=>by cases (show ks=[] from h); exact rfl
 | (k,d)::r,ks,⟨i,x,s,h1,h2,h3,h4⟩=>by
  subst h1; subst h2
  by_cases hn:i=n
  ·subst hn
   have c1:aac i ((acv i,d):PyData × PyData).1=true:=by simp [QQ]
   rw [List.map_cons,List.map_cons,if_pos c1,if_pos rfl]
   exact ⟨i,x',_,rfl,rfl,hr,RepM.replK i hr h4⟩
  ·have c1:¬ aac n ((acv i,d):PyData × PyData).1=true:=by simp [QQ,hn]
   rw [List.map_cons,List.map_cons,if_neg c1,if_neg hn]
   exact ⟨i,x,_,rfl,rfl,h3,RepM.replK n hr h4⟩
theorem RepM.snocK {K:Fg}{H:Hp} (n:Key) {d':PyData}{x':V} (hr:Rep K H d' x'):∀ {r:List (PyData × PyData)}{ks:List (Key × V)},RepM K H r ks->RepM K H (r++[(acv n,d')]) (ks++[(n,x')])
 | [],ks,h=>by cases (show ks=[] from h); exact ⟨n,x',[],rfl,rfl,hr,rfl⟩
 | (k,d)::r,ks,⟨i,x,s,h1,h2,h3,h4⟩=>by
  subst h2
  exact ⟨i,x,_,h1,rfl,h3,RepM.snocK n hr h4⟩
theorem RepM.putK {K:Fg}{H:Hp} (n:Key) {d':PyData}{x':V} (hr:Rep K H d' x') {r:List (PyData × PyData)}{ks:List (Key × V)} (h:RepM K H r ks):RepM K H (ZJ r n d') (_root_.L2.putK ks n x'):=by
 unfold ZJ _root_.L2.putK
 rw [h.anyK n]
 by_cases c:(ks.any fun kv=>decide (kv.1=n))=true
 ·rw [if_pos c,if_pos c]; exact h.replK n hr
 ·rw [if_neg c,if_neg c]; exact h.snocK n hr
theorem RepM.put {K:Fg}{H:Hp} (n:Int) {d':PyData}{x':V} (hr:Rep K H d' x') {r:List (PyData × PyData)}{ks:List (Key × V)} (h:RepM K H r ks):RepM K H (atJ r n d') (_root_.L2.putK ks (Sum.inl n) x'):=RepM.putK (.inl n) hr h
theorem RepM.length {K:Fg}{H:Hp}:∀ {r:List (PyData × PyData)}{ks:List (Key × V)},RepM K H r ks->ks.length=r.length
 | [],ks,h=>by cases (show ks=[] from h); rfl
 | (k,d)::r,ks,⟨i,x,s,h1,h2,h3,h4⟩=>by subst h2; simp [RepM.length h4]
end
noncomputable def Qu:PyData->Option (List (PyData × PyData))
 | .dict ((.none,_)::r)=>some r
 | _=>none
theorem JF {K:Fg}{H:Hp}{d:PyData}{r:List (PyData × PyData)}{v:V} (h:Qu d=some r) (q:Rep K H d v):∃ a ks ob,v= .ref a/\H a=some (.frz ob (.dK ks))/\RepM K H r ks:=by
 unfold Qu at h
 split at h
 ·cases h
  obtain ⟨a,h1,⟨ns,h2,h3⟩ | ⟨ks,ob,h2,h3⟩ | ⟨x,h2,_⟩ | ⟨x,_,_,h2,_⟩ | h2⟩:=q
  ·cases ns with
   | nil=>cases h3
   | cons n ns=>cases h3
  ·exact ⟨a,ks,ob,h1,h2,h3⟩
  ·cases h2
  ·cases h2
  ·cases h2
 ·cases h
section
variable {X:Cx}{e a b c tg src:Expr}{es:List Expr}{fa fb fc:RP}{pos:Pos}
end
section
variable {X:Cx}{e a b c tg src:Expr}{es:List Expr}{fa fb fc:RP}{pos:Pos}
end
end BX
end
section
namespace BX
open PySem PySem.Spec L2
section
open PyProof.Rows hiding St
variable {X:Cx}{e a b c tg src:Expr}{es:List Expr}{fa fb fc:RP}{pos:Pos}{j9:List Expr}
end
end BX
end
section
namespace BX
open PySem PySem.Spec L2
open PyProof.Rows hiding St
section
variable {X:Cx}{e a b c tg src:Expr}{es:List Expr}{fa fb fc:RP}{pos:Pos}{j9:List Expr}
noncomputable def asu (lo:Int) (n:Nat):It:=⟨fun i _=>i<n,fun i H x H'=>H'=H/\x= .int (lo - i),fun i _=>n<=i⟩
theorem agF {P:Program}{w:World}{K:Fg}{tg:Expr} (it:Addr) (lo:Int) (n:Nat):Turn P w K tg (asu lo n) [it] it (fun i h=>IsRangeIter h it (lo+(i:Nat)*(-1)) ((n:Int) - (i:Nat)) (-1)) where
 mem:=by simp
 obj:=fun i h st b hb=>by
  have e:b=it:=by simpa using hb
  subst e
  exact ⟨_,st,fun v z=>by
   have z':Data.fields _=Data.cell v:=z
   cases z'⟩
 keep:=fun i h h' st k=>k it (by simp) _ st
 item:=by
  intro X hP hw hK hc i Kp s σ H E I hf st hg
  subst hP hw hK
  obtain ⟨f0,f1,f2,f3,f4,f5⟩:=hf it (by simp)
  have W:=Walks.range (prog:=X.prog) (w:=X.w) (I.ok.hd hc) it lo (-1) n
  refine W.item i s _ _ hg st fun v h' tk hv st' kk=>?_
  obtain ⟨t,rfl⟩:=hv
  have I1:Inv X Kp σ H { s with heap:=h',toks:=tk }:=I.turned (fun b o hb e=>kk b o (by simpa using hb) e) f0 f1 f3 f4 f5
  refine ⟨_,rfl,agi (s:={ s with heap:=h',toks:=tk }) (n:="range_iterator") st' rfl rfl (by decide) ⟨.int (lo - i),H,I1,⟨t,?_⟩,⟨rfl,rfl⟩,st',fun b hb=>(hf b hb).1⟩⟩
  congr 1
  omega
 done:=by
  intro X hP hw hK hc i Kp s σ H E I hf st hg
  subst hP hw hK
  obtain ⟨f0,f1,f2,f3,f4,f5⟩:=hf it (by simp)
  exact wpAny_pyNext_range_end (I.ok.hd hc) st (by have:n<=i:=hg; omega) fun h' eb=>⟨rfl,I.turned (t':=s.toks) (fun b o hb e=>eb b o hb e) f0 f1 f3 f4 f5⟩
 self:=fun _ _ _ _ _ st h=>wpAny_pyIter_rangeiter st h
theorem QR (a b:Int):Builtin.Range.rangeSize a b (-1)=if a > b then a - b else 0:=by
 unfold Builtin.Range.rangeSize
 simp only [show ¬ (-1:Int) > 0 by decide,zzN,Int.neg_neg,Int.ediv_one]
 split <;> omega
theorem ahY {a b:Int} (ha:-1000000<=a) (ha':a<1000000) (hb:-1000000<=b) (hb':b<1000000):Builtin.Range.small a b (-1)=true:=by
 unfold Builtin.Range.small
 rw [QR]
 simp only [Builtin.Range.rangeFitsLong,Bool.and_eq_true,Bool.or_eq_true,decide_eq_true_eq,beq_iff_eq,show ¬ (-1:Int) > 0 by decide,zzN]
 split <;> omega
def asv (ta:TA):TI:=fun σ H R=>ta σ H fun vs H1=>∃ i j:Int,vs=[.int i,.int j,.int (-1)]/\(-1000000<=i/\i<1000000/\-1000000<=j/\j<1000000)/\R (asu i (i - j).toNat) H1
theorem akx {ta:TA}{p pos:Pos} (hg:Gl X "range") (hm:X.mg "range"=none) (ha:PA X [a,b,c] ta) (hs:starEach [a,b,c] X.env=[(false,eval a X.env),(false,eval b X.env),(false,eval c X.env)]:=by rfl) (hs2:starEach [b,c] X.env=[(false,eval b X.env),(false,eval c X.env)]:=by rfl):
  PI X tg (.Call (.Name "range" p) [a,b,c] [] pos) (asv ta):=by
 intro Kp s σ H R I h
 refine Call_ (JW I hg hm boot_range (PyProof.Rows.callWith_type1 (thn (ha pos Kp s σ H _ I h) fun us s1 ⟨vs,H1,I1,r1,q1⟩=>?_) (by rw [hs,hs2]) (by rw [hs2]; rfl)))
 obtain ⟨i,j,e,⟨q1,q2,q3,q4⟩,q⟩:=q1
 subst e
 cases r1 with
 | cons r rr=>
  cases rr with
  | cons r' rr=>
   cases rr with
   | cons r'' rr=>
    cases rr
    obtain ⟨t,rfl⟩:=r
    obtain ⟨t',rfl⟩:=r'
    obtain ⟨t'',rfl⟩:=r''
    refine PySem.call_range_3 (by decide) ?_ (Or.inl (PyProof.noPylong_small (by decide)))
    refine wpAny_pyIter_range (IsRange.new ..) (ahY q1 q2 q3 q4) ?_
    have I2:Inv X Kp σ H1 { s1 with heap:=s1.heap.push { cls:= .type "range",data:= .fields #[.int i t,.int j t',.int (-1) t''] },toks:=s1.toks }:=I1.kept fun b o e=>Heap.get?_push_of_some _ e
    refine ⟨(s1.heap.push { cls:= .type "range",data:= .fields #[.int i t,.int j t',.int (-1) t''] }).objs.size,[(s1.heap.push { cls:= .type "range",data:= .fields #[.int i t,.int j t',.int (-1) t''] }).objs.size],_,_,H1,rfl,
     I2.kept (t':=s1.toks) fun b o e=>Heap.get?_push_of_some _ e,agF _ i (i - j).toNat,?_,fun b hb=>?_,q⟩
    ·have e1:i+((0:Nat):Int)*(-1)=i:=by simp
     have e2:(((i - j).toNat:Nat):Int) - ((0:Nat):Int)=Builtin.Range.rangeSize i j (-1):=by rw [QR]; split <;> omega
     show IsRangeIter _ _ (i+((0:Nat):Int)*(-1)) ((((i - j).toNat:Nat):Int) - ((0:Nat):Int)) (-1)
     rw [e1,e2]
     exact Heap.get?_push_size _ rfl
    ·have e:b=(s1.heap.push { cls:= .type "range",data:= .fields #[.int i t,.int j t',.int (-1) t''] }).objs.size:=by simpa using hb
     subst e
     exact I2.fpOk (Nat.le_refl _) (I2.hok.fresh (Nat.le_refl _))
noncomputable def QS (lo:Int) (n:Nat):LP:=(List.range n).map fun (k:Nat)=>PyData.int (lo - (k:Int))
def aoE (ds:LP):Option (LP):=match ds with
 | [.int i,.int j,.int c]=>if c=-1/\-1000000<=i/\i<1000000/\-1000000<=j/\j<1000000 then some (QS i (i - j).toNat) else none
 | _=>none
theorem ahZ {p pos:Pos}{fr:Rho->Option (LP)} (hg:Gl X "range") (hm:X.mg "range"=none) (ha:PAD X [a,b,c] fr) (hs:starEach [a,b,c] X.env=[(false,eval a X.env),(false,eval b X.env),(false,eval c X.env)]:=by rfl) (hs2:starEach [b,c] X.env=[(false,eval b X.env),(false,eval c X.env)]:=by rfl):
  PID X tg (.Call (.Name "range" p) [a,b,c] [] pos) (fun ρ=>(fr ρ).bind aoE):=by
 with_unfolding_all
  refine PI.imp (akx hg hm ha hs hs2) fun σ H R ⟨ρ,ds,en,q,k⟩=>?_
  cases h1:fr ρ with
  | none=>simp [h1] at q
  | some as=>
   have q':aoE as=some ds:=by simpa [h1] using q
   refine ⟨ρ,as,en,h1,fun vs H1 s1 r1=>?_⟩
   unfold aoE at q'
   split at q'
   ·rename_i i j cc
    split at q'
    ·rename_i hj
     cases q'
     obtain ⟨rfl,hj⟩:=hj
     obtain ⟨x,r,e1,e2,y,r',e3,e4,z,r'',e5,e6,e7⟩:=r1
     cases (show x=V.int i from e2)
     cases (show y=V.int j from e4)
     cases (show z=V.int (-1) from e6)
     cases (show r''=[] from e7)
     subst e5; subst e3
     refine ⟨i,j,e1,hj,k _ H1 s1 fun n H2 s2=>?_⟩
     have hl:(QS i (i - j).toNat).length=(i - j).toNat:=by simp [QS]
     refine ⟨fun hi=>by rw [hl] at hi; exact hi,fun hi=>by rw [hl] at hi; exact hi,fun x H' y=>?_⟩
     obtain ⟨z1,z2⟩:=y
     subst z1
     refine ⟨jp.refl _,fun d hd=>?_⟩
     have hi:n<(i - j).toNat:=by
      have:=(List.getElem?_eq_some_iff.mp hd).1
      rw [hl] at this; exact this
     have:d= .int (i - n):=by
      simp [QS,hi] at hd
      exact hd.symm
     subst this
     exact z2
    ·cases q'
   ·cases q'
def ae3 (fa fb:RP):RP:=fun ρ=>(fa ρ).bind fun x=>(asB x).bind fun t=>if t=true then fb ρ else some (.bool false)
theorem ami {op:BoolOp} (ha:PD X a fa):PD X (.BoolOp op [a] pos) fa:=by
 with_unfolding_all exact (aly ha)
theorem amj (ha:PD X a fa) (hb:PD X (.BoolOp .And (b::j9) pos) fb):PD X (.BoolOp .And (a::b::j9) pos) (ae3 fa fb):=by
 with_unfolding_all
  refine PE.imp (alz ha hb) fun σ H Q ⟨ρ,d,en,h,k⟩=>?_
  cases h1:fa ρ with
  | none=>simp [ae3,h1] at h
  | some x=>
   cases h2:asB x with
   | none=>simp [ae3,h1,h2] at h
   | some t=>
    have hx:=zY h2
    subst hx
    refine ⟨ρ,_,en,h1,fun v H1 s1 r1=>⟨t,r1,?_⟩⟩
    cases t with
    | true=>rw [if_pos rfl]; exact ⟨ρ,d,en.mono s1,by simpa [ae3,h1,h2] using h,fun v H2 s2 r2=>k v H2 (s1.trans s2) r2⟩
    | false=>
     rw [if_neg Bool.false_ne_true]
     have:PyData.bool false=d:=by simpa [ae3,h1,h2] using h
     subst this
     exact k _ H1 s1 rfl
end
section
variable {X:Cx}{e a b c tg src:Expr}{es:List Expr}{fa fb fc:RP}{pos:Pos}
def aoF (c d:OP):OP:=match c,d with
 | some (.list ds),some (.list es)=>if noLs es=true/\ds.length+es.length<1000000 then some (.list (ds++es)) else none
 | _,_=>none
def asw (i:Nat) (fa:RP):RP:=fun ρ=>aoF (lkp i ρ) (fa ρ)
theorem amk {c d:OP}{r:PyData} (h:aoF c d=some r):∃ ds es,c=some (.list ds)/\d=some (.list es)/\noLs es=true/\ds.length+es.length<1000000/\r= .list (ds++es):=by
 unfold aoF at h
 split at h
 ·split at h
  ·rename_i hc
   cases h
   exact ⟨_,_,rfl,rfl,hc.1,hc.2,rfl⟩
  ·cases h
 ·cases h
theorem adV (i:Nat) {x:Str}{p1 apos cpos:Pos} (h:PD X e fa) (hN:X.N[i]?=some x:=by rfl) (hv:Vis X.env.scope x:=by first | exact Or.inl rfl | exact Or.inr (Or.inl rfl) | exact Or.inr (Or.inr rfl)) (hd:(x == ("__debug__":Str))=false:=by decide)
  (hcd:(x == ("__classdict__":Str))=false:=by decide) (hbase:attributeBase (.Name x p1) "extend" X.env (eval (.Name x p1) X.env)=eval (.Name x p1) X.env:=by rfl)
  (hfew:((backTo cpos (starEach [e] X.env)).all (fun x=>!x.1) && (backToKw cpos (keywordEach [] X.env)).all (fun x=>x.1.isSome) && decide ([e].length+([]:List Keyword).length+(if ([]:List Keyword).isEmpty then 0 else 1)<30))=true:=by rfl)
  (hline:(apos.endLine == cpos.line)=true:=by rfl) (hs:starEach [e] X.env=(false,eval e X.env)::starEach [] X.env:=by rfl) (hplain:(backTo cpos (starEach [] X.env)).any (·.1)=false:=by rfl):
  PE X (.Call (.Attribute (.Name x p1) "extend" apos) [e] [] cpos) (aq1 X.prog X.w X.K i (asw i fa)):=by
 with_unfolding_all
  intro Kp s σ H Q I ⟨Hs,ρ,d',E,hg,k⟩
  obtain ⟨ds,es,q1,q2,hn,hl,rfl⟩:=amk hg
  obtain ⟨a,xs,g2,g3,g4,g5,env⟩:=E.opnL (qv q1)
  have hlen:=g5.length
  have W:=alP (X:=X) (cpos:=cpos) (apos:=apos) PySem.F.plainAttrs_list PySem.F.slot_list_extend PySem.F.type_list_extend akc (Jt hN hv hd hcd) (qG h zz hs) hbase hfew hline hs hplain
  refine thn (W Kp s σ (upd H a (.lst xs)) (fun v H4=>∃ H3 zs,v= .non/\H4=upd H3 a (.lst (xs++zs))/\jp (upd H a (.lst xs)) H3/\Reps X.K H3 es zs) (Inv.opened I (.l xs) g4)
   ⟨.ref a,g2,.inl ⟨rfl,_,SqL.of ji⟩,ρ,.list es,env,q2,fun y H3 s3 r3=>?_⟩) fun u s1 ⟨v,H4,I4,r,H3,zs,e1,e2,s3,r3⟩=>?_
  ·obtain ⟨b,zs,z1,z2,z3⟩:=r3
   have hz:=z3.length
   exact ⟨a,b,xs,zs,rfl,by rw [z1],s3 _ _ ji,z2,by rw [hlen,hz]; exact Nat.le_of_lt (Qt hl),H3,zs,rfl,rfl,s3,z3⟩
  subst e1
  have e4:H4 a=some (.lst (xs++zs)):=by rw [e2]; exact ji
  have sb:∀ b u,b ≠ a->H b=some u->H4 b=some u:=fun b u n q=>by rw [e2,jo n]; exact s3 b u (by rw [jo n]; exact q)
  refine ⟨.non,upd H4 a (j5 a (xs++zs)),Inv.closed I4 (.l _) e4 (Inv.nofrz I g4),r,k _ (E.put (qv q1) g2 g3 g4 sb ⟨xs++zs,ji,?_⟩)⟩
  have s5:j1 H (upd H4 a (j5 a (xs++zs))):=fun b u q m=>by
   have:b ≠ a:=fun z=>by subst z; rw [g4] at q; cases q; exact m _ rfl
   rw [jo this]; exact sb b u this q
  have s6:zK H3 (upd H4 a (j5 a (xs++zs))):=fun b u q m=>by
   have e3:H3 a=some (.lst xs):=s3 _ _ ji
   have:b ≠ a:=fun z=>by subst z; rw [e3] at q; cases q; exact m _ rfl
   rw [jo this,e2,jo this]; exact q
  exact (Reps.monoE s5 _ _ g5).append (Reps.monoN s6 _ _ hn r3)
def asx:V->List V->Hp->VK->Prop:=fun x vs H Q=>∃ l xs y,x= .ref l/\vs=[.int 0,y]/\H l=some (.lst xs)/\xs.length<sizeLine/\Q .non (upd H l (.lst (y::xs)))
theorem ah0:MtM X "list.insert" asx:=by
 intro Kp s σ H x vs v us Q I rx rv h
 obtain ⟨l,xs,y,rfl,rfl,hH,hz,q⟩:=h
 cases rx
 cases rv with
 | cons r0 rv=>
  obtain ⟨t,rfl⟩:=r0
  obtain ⟨u,rfl,ru⟩:=jG.one rv
  obtain ⟨z,its,n,r,hl,e⟩:=I.lstM hH
  refine call_meets F.slot_list_insert ⟨_,e,rfl⟩ F.entry_list_insert (F.args_list_insert_3 _ _ _) (AutoSeq1.list_insert_list_int_val_1 l its.toArray n 0 t u (by decide) (by rw [List.size_toArray]; omega)) ⟨e,?_⟩
  refine ⟨.non,_,I.lset (its':=u::its) (t':=s.toks) hH e ?_ (.cons ru r) ?_,rfl,q⟩
  ·simp
  ·rw [List.length_cons]; omega
def aoG (c z d:OP):OP:=match c,z,d with
 | some (.list ds),some (.int 0),some d=>if noL d=true/\ds.length<1000000 then some (.list (d::ds)) else none
 | _,_,_=>none
def asy (i:Nat) (fz fa:RP):RP:=fun ρ=>aoG (lkp i ρ) (fz ρ) (fa ρ)
theorem aml {c z d:OP}{r:PyData} (h:aoG c z d=some r):∃ ds x,c=some (.list ds)/\z=some (.int 0)/\d=some x/\noL x=true/\ds.length<1000000/\r= .list (x::ds):=by
 unfold aoG at h
 split at h
 ·split at h
  ·rename_i hc
   cases h
   exact ⟨_,_,rfl,rfl,rfl,hc.1,hc.2,rfl⟩
  ·cases h
 ·cases h
theorem ah1 (i:Nat) {x:Str}{p1 apos cpos:Pos}{fz:RP} (hz:PD X b fz) (h:PD X e fa) (hN:X.N[i]?=some x:=by rfl) (hv:Vis X.env.scope x:=by first | exact Or.inl rfl | exact Or.inr (Or.inl rfl) | exact Or.inr (Or.inr rfl)) (hd:(x == ("__debug__":Str))=false:=by decide)
  (hcd:(x == ("__classdict__":Str))=false:=by decide) (hbase:attributeBase (.Name x p1) "insert" X.env (eval (.Name x p1) X.env)=eval (.Name x p1) X.env:=by rfl)
  (hfew:((backTo cpos (starEach [b,e] X.env)).all (fun x=>!x.1) && (backToKw cpos (keywordEach [] X.env)).all (fun x=>x.1.isSome) && decide ([b,e].length+([]:List Keyword).length+(if ([]:List Keyword).isEmpty then 0 else 1)<30))=true:=by rfl)
  (hline:(apos.endLine == cpos.line)=true:=by rfl) (hs:starEach [b,e] X.env=(false,eval b X.env)::starEach [e] X.env:=by rfl) (hs2:starEach [e] X.env=(false,eval e X.env)::starEach [] X.env:=by rfl) (hplain:(backTo cpos (starEach [e] X.env)).any (·.1)=false:=by rfl):
  PE X (.Call (.Attribute (.Name x p1) "insert" apos) [b,e] [] cpos) (aq1 X.prog X.w X.K i (asy i fz fa)):=by
 with_unfolding_all
  intro Kp s σ H Q I ⟨Hs,ρ,d',E,hg,k⟩
  obtain ⟨ds,d,q1,q0,q2,hn,hl,rfl⟩:=aml hg
  obtain ⟨a,xs,g2,g3,g4,g5,env⟩:=E.opnL (qv q1)
  have hlen:=g5.length
  have W:=alP (X:=X) (cpos:=cpos) (apos:=apos) PySem.F.plainAttrs_list PySem.F.slot_list_insert PySem.F.type_list_insert ah0 (Jt hN hv hd hcd) (qG hz (qG h zz hs2) hs) hbase hfew hline hs hplain
  refine thn (W Kp s σ (upd H a (.lst xs)) (fun v H4=>∃ H3 y,v= .non/\H4=upd H3 a (.lst (y::xs))/\jp (upd H a (.lst xs)) H3/\Rep X.K H3 d y) (Inv.opened I (.l xs) g4)
   ⟨.ref a,g2,.inl ⟨rfl,_,SqL.of ji⟩,ρ,.int 0,env,q0,fun y0 H2 s2 r2=>⟨ρ,d,env.mono s2,q2,fun y H3 s3 r3=>?_⟩⟩) fun u s1 ⟨v,H4,I4,r,H3,y,e1,e2,s3,r3⟩=>?_
  ·cases (show y0=V.int 0 from r2)
   exact ⟨a,xs,y,rfl,rfl,s3 _ _ (s2 _ _ ji),by rw [hlen]; exact Qt hl,H3,y,rfl,rfl,s2.trans s3,r3⟩
  subst e1
  have e4:H4 a=some (.lst (y::xs)):=by rw [e2]; exact ji
  have sb:∀ b u,b ≠ a->H b=some u->H4 b=some u:=fun b u n q=>by rw [e2,jo n]; exact s3 b u (by rw [jo n]; exact q)
  refine ⟨.non,upd H4 a (j5 a (y::xs)),Inv.closed I4 (.l _) e4 (Inv.nofrz I g4),r,k _ (E.put (qv q1) g2 g3 g4 sb ⟨y::xs,ji,?_⟩)⟩
  have s5:j1 H (upd H4 a (j5 a (y::xs))):=fun b u q m=>by
   have:b ≠ a:=fun z=>by subst z; rw [g4] at q; cases q; exact m _ rfl
   rw [jo this]; exact sb b u this q
  have s6:zK H3 (upd H4 a (j5 a (y::xs))):=fun b u q m=>by
   have e3:H3 a=some (.lst xs):=s3 _ _ ji
   have:b ≠ a:=fun z=>by subst z; rw [e3] at q; cases q; exact m _ rfl
   rw [jo this,e2,jo this]; exact q
  exact ⟨y,xs,rfl,Rep.monoN s6 _ _ hn r3,Reps.monoE s5 _ _ g5⟩
end
section
variable {X:Cx}{e a b c tg src:Expr}{es:List Expr}{fa fb fc:RP}{pos:Pos}
def asz:V->V->V->Hp->(Hp->Prop)->Prop:=fun o k v H Q=>∃ a xs n j,o= .ref a/\k= .int n/\H a=some (j5 a xs)/\ixN xs.length n=some j/\Q (upd H a (j5 a (xs.set j v)))
theorem amm:an3 X asz:=by
 intro Kp s σ H o k v ov iv u Q I ro rk rv ⟨a,xs,n,j,e1,e2,h1,h2,q⟩
 subst e1; subst e2
 refine thn (alN Kp s σ (upd H a (.lst xs)) (.ref a) (.int n) v ov iv u (fun H'=>H'=upd (upd H a (.lst xs)) a (.lst (xs.set j v))) (Inv.opened I (.l xs) h1) ro rk rv ⟨a,xs,n,j,rfl,rfl,ji,h2,rfl⟩) fun _ s1 ⟨H',I',e⟩=>?_
 subst e
 have I2:=Inv.closed I' (.l (xs.set j v)) ji (Inv.nofrz I h1)
 rw [qF,qF] at I2
 exact ⟨_,I2,q⟩
def amn (c v k:OP):OP:=match c,v,k with
 | some (.list ds),some d,some (.int n)=>(ixN ds.length n).map fun j=> .list (ds.set j d)
 | _,_,_=>none
theorem amo {c v k:OP}{o:PyData} (h:amn c v k=some o):∃ ds d n j,c=some (.list ds)/\v=some d/\k=some (.int n)/\ixN ds.length n=some j/\o= .list (ds.set j d):=by
 unfold amn at h
 split at h
 ·rename_i ds d n
  cases q:ixN ds.length n with
  | none=>rw [q] at h; cases h
  | some j=>rw [q] at h; cases h; exact ⟨_,_,_,_,rfl,rfl,rfl,q,rfl⟩
 ·cases h
theorem Reps.set {K:Fg}{H:Hp}{d:PyData}{v:V} (r:Rep K H d v):∀ {ds:LP}{xs:List V} (j:Nat),Reps K H ds xs->Reps K H (ds.set j d) (xs.set j v)
 | [],xs,j,h=>by cases (show xs=[] from h); exact rfl
 | _::ds,xs,0,⟨x,q,h1,h2,h3⟩=>by subst h1; exact ⟨v,q,rfl,r,h3⟩
 | _::ds,xs,j+1,⟨x,q,h1,h2,h3⟩=>by subst h1; exact ⟨x,_,rfl,h2,Reps.set r j h3⟩
def aoH (i:Nat) (fk fv:RP):RO:=fun ρ=>(amn (lkp i ρ) (brw (some i) fv ρ) (brw (some i) fk ρ)).map fun d=> .nx (ρ.set i (some d))
theorem amp (i:Nat) {x:Str}{p1 p2:Pos}{fk fv:RP} (hk:PD X b fk) (he:PD X e fv) (hN:X.N[i]?=some x:=by rfl) (hv:Vis X.env.scope x:=by first | exact Or.inl rfl | exact Or.inr (Or.inl rfl) | exact Or.inr (Or.inr rfl))
  (hd:(x == ("__debug__":Str))=false:=by decide) (hcd:(x == ("__classdict__":Str))=false:=by decide)
  (ha:∀ v,assign (.Subscript (.Name x p1) b p2) X.env v=(do
   let ov ←holding [v] (eval (.Name x p1) X.env)
   let iv ←holding [v,ov] (eval b X.env)
   standAt p2
   holding [v,ov,iv] (setItem ov iv v)
   release [v,ov,iv] []):=by intro _; rfl)
  (hs:swapsWithSole [.Subscript (.Name x p1) b p2] e pos.line X.env=pure false:=by rfl) (hw:swappedStores [.Subscript (.Name x p1) b p2] e X.env=pure none:=by rfl)
  (h1:(assignEach [.Subscript (.Name x p1) b p2] X.env).map (·.2)=[assign (.Subscript (.Name x p1) b p2) X.env]:=by rfl):PSO X (some i) (.Assign [.Subscript (.Name x p1) b p2] e pos) (aoH i fk fv):=by
 with_unfolding_all
  refine PS.imp (ahz (ahX (own:=some i) he) (alE (Jt hN hv hd hcd) (ahX (own:=some i) hk) amm ha) hs hw h1) fun D σ H ⟨Hs,ρ,o,E,q,k⟩=>?_
  cases hp:amn (lkp i ρ) (brw (some i) fv ρ) (brw (some i) fk ρ) with
  | none=>simp [aoH,hp] at q
  | some nw=>
   have:Out.nx (ρ.set i (some nw))=o:=by simpa [aoH,hp] using q
   subst this
   obtain ⟨ds,d,n,j,q1,q2,q3,hl,rfl⟩:=amo hp
   refine ⟨Hs,ρ,d,E,q2,fun v H1 s1 E1 r1=>?_⟩
   obtain ⟨d0,a,g1,g2,g3,g4⟩:=E1.ow i rfl
   rw [qv q1] at g1; cases g1
   refine ⟨.ref a,g2,Hs,ρ,.int n,E1,q3,fun kv H2 s2 E2 r2=>?_⟩
   cases (show kv=V.int n from r2)
   obtain ⟨d1,a1,f1,f2,f3,f4⟩:=E2.ow i rfl
   rw [qv q1] at f1; cases f1
   rw [g2] at f2; cases f2
   obtain ⟨xs,e2,e3⟩:=f4
   refine ⟨a,xs,n,j,rfl,rfl,e2,by rw [e3.length]; exact hl,k _ _ (E2.put (qv q1) g2 f3 e2 (fun _ _ _ z=>z) ⟨_,ji,?_⟩)⟩
   have s5:j1 H2 (upd H2 a (j5 a (xs.set j v))):=j1.upd e2
   exact Reps.set (Rep.monoE (s2.trans s5) _ _ r1) j (Reps.monoE s5 _ _ e3)
noncomputable def abN (ds:LP):OP:=match ds with
 | [.list xs]=>some (.list xs)
 | [.tuple xs]=>some (.list xs)
 | _=>none
noncomputable def ae4 (ds:LP):OP:=match ds with
 | [.list xs]=>some (.tuple xs)
 | [.tuple xs]=>some (.tuple xs)
 | _=>none
theorem agG:QM X (.type "tuple") ae4:=by
 refine ⟨_,ads,fun ds d xs H Q h r k=>?_⟩
 unfold ae4 at h
 split at h
 ·cases h
  obtain ⟨x,q,e1,e2,e3⟩:=r
  cases (show q=[] from e3)
  obtain ⟨a,us,g1,g2,g3⟩:=e2
  subst g1
  refine ⟨a,us,e1,.inl ⟨SqL.of g2,fun l hl=>?_⟩⟩
  have s1:=jI (o:= .tup us) hl
  exact k _ _ s1 ⟨l,us,rfl,SqT.of ji,Reps.mono s1 _ _ g3⟩
 ·cases h
  obtain ⟨x,q,e1,e2,e3⟩:=r
  cases (show q=[] from e3)
  obtain ⟨a,us,g1,g2,g3⟩:=e2
  subst g1
  exact ⟨a,us,e1,.inr ⟨g2,k _ H (jp.refl H) ⟨a,us,rfl,g2,g3⟩⟩⟩
 ·cases h
theorem aky {p:Pos}{fr:Rho->Option (LP)} (hm:X.mg "list"=none) (hv:bootBuiltins "list"=some (.type "list")) (ha:PAD X [e] fr) (hg:Gl X "list":=by rfl)
  (he:starEach [e] X.env=(false,eval e X.env)::starEach [] X.env:=by rfl) (hpl:(backTo pos (starEach [] X.env)).any (·.1)=false:=by rfl):PN X (.Call (.Name "list" p) [e] [] pos) (jL abN fr):=by
 with_unfolding_all
  intro Kp s σ H Q I ⟨ρ,d,en,hf,k⟩
  cases h1:fr ρ with
  | none=>simp [jL,h1] at hf
  | some as=>
   have q':abN as=some d:=by simpa [jL,h1] using hf
   have W:=aaO (X:=X) (pos:=pos) (p:=p) aeQ hg hm hv ha (by decide) (by decide) he hpl
   refine thn (W Kp s σ H (fun v H2=>∃ a ys H1 ds,v= .ref a/\H1 a=none/\jp H H1/\H2=upd H1 a (.lst ys)/\d= .list ds/\Reps X.K H1 ds ys) I ⟨ρ,as,en,h1,fun vs H1 s1 r1=>?_⟩) fun u s1 ⟨v,H2,I2,r,a,ys,H1,ds,e1,e2,s1',e3,e0,r1⟩=>?_
   ·unfold abN at q'
    split at q'
    ·cases q'
     obtain ⟨x,q,z1,z2,z3⟩:=r1
     cases (show q=[] from z3)
     obtain ⟨a,us,g1,g2,g3⟩:=z2
     subst g1
     exact ⟨a,us,z1,.inl (SqL.of g2),fun l hl=>⟨l,us,H1,_,rfl,hl,s1,rfl,rfl,g3⟩⟩
    ·cases q'
     obtain ⟨x,q,z1,z2,z3⟩:=r1
     cases (show q=[] from z3)
     obtain ⟨a,us,g1,g2,g3⟩:=z2
     subst g1
     exact ⟨a,us,z1,.inr g2,fun l hl=>⟨l,us,H1,_,rfl,hl,s1,rfl,rfl,g3⟩⟩
    ·cases q'
   ·subst e1; subst e0
    have e4:H2 a=some (.lst ys):=by rw [e3]; exact ji
    have e5:upd H2 a (j5 a ys)=upd H1 a (j5 a ys):=by rw [e3,qF]
    have s2:jp H1 (upd H2 a (j5 a ys)):=by rw [e5]; exact jI e2
    exact ⟨.ref a,_,Inv.closed I2 (.l ys) e4 (fun ob u z=>by have:=I.base.frzs _ _ _ z; rw [s1'.free e2] at this; cases this),r,k a _ (s1'.trans s2) (s1'.free e2) ⟨ys,ji,Reps.mono s2 _ _ r1⟩⟩
end
section
variable {X:Cx}{e a b c:Expr}{fa fb fc:RP}{pos p2:Pos}
def aad (ds:LP) (lo hi:Option Int):LP:=(ds.drop (HT.sIx ds.length 0 lo)).take (HT.sIx ds.length ds.length hi - HT.sIx ds.length 0 lo)
noncomputable def inI:PyData->Option Int
 | .int i=>some i
 | _=>none
theorem agH {d:PyData}{i:Int} (h:inI d=some i):d= .int i:=by cases d <;> simp [inI] at h; rw [h]
end
section
variable {prog:Program}{w:World}{A:Around}{E:Value->SP0}{s:Shared}
def ItA (g:Bool) (h:Heap) (i t:Addr) (k:Nat):Prop:=match g with
 | true=>h.IsListIter i t k
 | false=>h.IsTupleIter i t k
def SrA (g:Bool) (h:Heap) (t:Addr) (xs:Array Value):Prop:=match g with
 | true=>h.IsList t xs
 | false=>h.IsTuple t xs
theorem ItA.to {g:Bool}{h h':Heap}{i t:Addr}{k:Nat} (x:ItA g h i t k) (kp:∀ o,h.get? i=some o->h'.get? i=some o):ItA g h' i t k:=by
 cases g <;> exact (let ⟨o,e,r⟩:=x; ⟨o,kp o e,r⟩)
theorem SrA.to {g:Bool}{h h':Heap}{t:Addr}{xs:Array Value} (x:SrA g h t xs) (kp:∀ o,h.get? t=some o->h'.get? t=some o):SrA g h' t xs:=by
 cases g <;> exact (let ⟨o,e,r⟩:=x; ⟨o,kp o e,r⟩)
theorem ItA.extBut {g:Bool}{h h':Heap}{i t b:Addr}{k:Nat} (x:ItA g h i t k) (e:Heap.ExtBut b h h') (n:i ≠ b):ItA g h' i t k:=x.to fun o q=>e i o n q
theorem SrA.extBut {g:Bool}{h h':Heap}{t b:Addr}{xs:Array Value} (x:SrA g h t xs) (e:Heap.ExtBut b h h') (n:t ≠ b):SrA g h' t xs:=x.to fun o q=>e t o n q
theorem ItA.obj {g:Bool}{h:Heap}{i t:Addr}{k:Nat} (x:ItA g h i t k):∃ o vs,h.get? i=some o/\o.data= .fields vs:=by
 cases g <;> exact (let ⟨o,e,_,d⟩:=x; ⟨o,_,e,d⟩)
structure Apart2 (z TI TO i1 i2 t1 t2:Addr):Prop where
 nd:[z,TO,i1,i2].Nodup
 ti:TI ∉ [z,TO,i1,i2]
 s1:t1 ∉ [z,TO,i1,i2]
 s2:t2 ∉ [z,TO,i1,i2]
structure Zip2 (ga gb:Bool) (h:Heap) (z TI TO i1 i2 t1 t2:Addr) (f0:Value) (k:Nat):Prop where
 hz:IsZip h z TI TO f0
 hTI:IsPair h TI (.ref i1) (.ref i2)
 hTO:∃ a b,IsPair h TO a b
 g1:ItA ga h i1 t1 k
 g2:ItA gb h i2 t2 k
theorem Zip2.keep {ga gb:Bool}{h h':Heap}{z TI TO i1 i2 t1 t2:Addr}{f0:Value}{k:Nat} (S:Zip2 ga gb h z TI TO i1 i2 t1 t2 f0 k) (kp:∀ b ∈ [z,TI,TO,i1,i2],∀ o,h.get? b=some o->h'.get? b=some o):
  Zip2 ga gb h' z TI TO i1 i2 t1 t2 f0 k:=by
 obtain ⟨hz,hTI,⟨a,b,hTO⟩,g1,g2⟩:=S
 exact ⟨kp z (by simp) _ hz,kp TI (by simp) _ hTI,⟨a,b,kp TO (by simp) _ hTO⟩,g1.to (kp i1 (by simp)),g2.to (kp i2 (by simp))⟩
end
def Sq (g:Bool) (K:Fg) (H:Hp) (t:Addr) (xs:List V):Prop:=match g with
 | true=>SqL K H t xs
 | false=>SqT K H t xs
theorem Sq.inj {g:Bool}{X:Cx}{Kp:List (Addr × Obj)}{σ:St}{H:Hp}{s:Shared}{a:Addr}{xs ys:List V} (I:Inv X Kp σ H s) (q:Sq g X.K H a xs) (q':Sq g X.K H a ys):xs=ys:=by
 cases g with
 | true=>exact I.list_inj q q'
 | false=>exact I.tuple_inj q q'
theorem Sq.monoE {g:Bool}{K:Fg}{H H':Hp}{a:Addr}{xs:List V} (e:j1 H H') (h:Sq g K H a xs):Sq g K H' a xs:=by
 cases g with
 | true=>exact j1.sql e h
 | false=>exact j1.tup e h
theorem Sq.monoA {g:Bool}{K:Fg}{H H':Hp}{a:Addr}{xs:List V} (e:jx H H') (h:Sq g K H a xs):Sq g K H' a xs:=by
 cases g with
 | true=>exact jx.sql e h
 | false=>exact jx.tup e h
theorem Sq.at {g:Bool}{K:Fg}{H:Hp}{a:Addr}{xs:List V} (h:Sq g K H a xs):(∃ u,H a=some u) ∨ ∃ o,K.lookup a=some o:=by
 cases g with
 | true=>rcases h with (e | ⟨o,e⟩) | ⟨o,its,n,hk,_⟩ <;> first | exact .inl ⟨_,e⟩ | exact .inr ⟨_,hk⟩
 | false=>rcases h with (e | ⟨o,e⟩) | ⟨o,its,n,hk,_⟩ <;> first | exact .inl ⟨_,e⟩ | exact .inr ⟨_,hk⟩
section
variable {X:Cx}
end
section
variable {X:Cx}{e a b c:Expr}{fa fb fc:RP}{pos p2:Pos}
theorem Zb:∀ {is:List Int}{us:List Value},jG (is.map V.int) us->∀ (j:Nat) (i:Int),is[j]?=some i->∃ t,us[j]?=some (.int i t)
 | [],us,r,j,i,h=>by simp at h
 | i0::is,u::us,.cons r rr,j,i,h=>by
  cases j with
  | zero=>cases h; obtain ⟨t,rfl⟩:=r; exact ⟨t,rfl⟩
  | succ j=>exact Zb rr j i (by simpa using h)
end
structure OneCell (sc:Scope) (y0:Str) (pre post:List (Str × NameKind)):Prop where
 split:sc.names=pre++(y0,.cell)::post
 pre:∀ x ∈ pre,x.2 ≠ .cell
 post:∀ x ∈ post,x.2 ≠ .cell
structure CompOk1 (X:Cx) (sc:Scope) (N':List Str) (cap:List (Option Nat)) (y0:Str):Prop where
 fr:∀ x ∈ sc.names,x.2= .free->X.env.kindOf x.1=some .cell ∨ X.env.kindOf x.1=some .free
 one:∃ pre post,OneCell sc y0 pre post
 lk:sc.names.lookup y0=some .cell
 kind:sc.kind= .function
 nm:∀ x ∈ sc.names,x.2= .local->sc.names.lookup x.1=some .local
 len:cap.length=N'.length
 cp:∀ (j i:Nat) (x:Str),N'[j]?=some x->cap[j]?=some (some i)->X.N[i]?=some x/\sc.names.lookup x=some .free
section
variable {X:Cx}{e:Expr}{fa:RP}
end
section
variable {X:Cx}{tg src:Expr}{pos pos':Pos}
end
structure Mine (X:Cx) (H:Hp) (b:Addr):Prop where
 un:H b=none
 new:X.s₀.heap.get? b=none
 loc:b ≠ X.env.locals
 cel:∀ x c,X.env.cells.lookup x=some c->c ≠ b
 pin:∀ p ∈ X.pn,p.1 ≠ b
structure Xc (X:Cx) (H:Hp) (h:Heap) (e C:Addr):Prop where
 mine:Mine X H e
 ob:∃ oe vs,h.get? e=some oe/\(oe.cls= .ref C/\oe.dict=none)/\oe.data= .fields vs/\1<vs.size/\
  (vs[1]?=some .none ∨ ∃ T oT ts,vs[1]?=some (.ref T)/\T ≠ e/\Mine X H T/\h.get? T=some oT/\oT.data= .fields ts/\3<ts.size)
theorem Inv.exIn {X:Cx}{Kp:List (Addr × Obj)}{σ:St}{H:Hp}{s:Shared}{ch:List Addr} (I:Inv X Kp σ H s) (hn:∀ b ∈ ch,X.s₀.heap.get? b=none/\b ≠ X.env.locals/\∀ x c,X.env.cells.lookup x=some c->c ≠ b):Inv { X with ex:=ch++X.ex } Kp σ H s:=by
 have no:∀ b,b ∉ ch++X.ex->b ∉ X.ex:=fun b h z=>h (List.mem_append_right _ z)
 refine ⟨⟨I.ok.mod,I.ok.kind,I.ok.glob,I.ok.blt,I.ok.above,I.ok.inj,I.ok.has,I.ok.cab,I.ok.hd,I.ok.frames,I.ok.stk,fun b hb=>?_,I.ok.bs,I.ok.bsz,fun b o e hb=>?_,fun b hb z=>?_,I.ok.funs,I.ok.frf⟩,I.os,I.bare,
  ⟨fun b o e n hf hx=>I.base.keep b o e n hf (no b hx),fun b o e n hf hx=>I.base.slot b o e n hf (no b hx),fun b o e n hx=>I.base.free b o e n (no b hx),fun b o e hx=>I.base.there b o e (no b hx),I.base.tups,I.base.frzs,I.base.tbls⟩,I.loc,I.cell,I.free,I.freeC,I.pin,I.hok,I.len⟩
 ·rcases List.mem_append.mp hb with q | q
  ·exact (hn b q).2
  ·exact I.ok.exf b q
 ·rcases List.mem_append.mp hb with q | q
  ·have:=(I.ok.bs b o e).1
   rw [(hn b q).1] at this; cases this
  ·exact I.ok.noex b o e q
 ·rcases List.mem_append.mp hb with q | q
  ·obtain ⟨_,o,ho,_⟩:=I.ok.funs.mem z
   rw [(hn b q).1] at ho; cases ho
  ·exact I.ok.exfs b q z
theorem Inv.exOut {X:Cx}{Kp:List (Addr × Obj)}{σ:St}{H:Hp}{s:Shared}{ch:List Addr} (I:Inv { X with ex:=ch++X.ex } Kp σ H s) (ok:X.Ok) (hn:∀ b ∈ ch,X.s₀.heap.get? b=none):Inv X Kp σ H s:=by
 have no:∀ b o,X.s₀.heap.get? b=some o->b ∉ X.ex->b ∉ ch++X.ex:=fun b o e h z=>by
  rcases List.mem_append.mp z with q | q
  ·rw [hn b q] at e; cases e
  ·exact h q
 exact ⟨ok,I.os,I.bare,⟨fun b o e n hf hx=>I.base.keep b o e n hf (no b o e hx),fun b o e n hf hx=>I.base.slot b o e n hf (no b o e hx),fun b o e n hx=>I.base.free b o e n (no b o e hx),fun b o e hx=>I.base.there b o e (no b o e hx),I.base.tups,I.base.frzs,I.base.tbls⟩,I.loc,I.cell,I.free,I.freeC,I.pin,I.hok,I.len⟩
section
variable {X:Cx}{σ:St}{H:Hp}{s:Shared}{h':Heap}{e C:Addr}{E:Value->SP0}{A:Around}
theorem Inv.shake {ch:List Addr} (I:Inv X [] σ H s) (hm:∀ b ∈ ch,Mine X H b) (keep:∀ b o,b ∉ frs X.stack->b ∉ ch->s.heap.get? b=some o->h'.get? b=some o)
  (slot:∀ b o,b ∈ frs X.stack->b ∉ ch->s.heap.get? b=some o->∃ sl,h'.get? b=some { o with slots:=sl }):Inv X [] σ H { s with heap:=h' }:=by
 have u:Un (frs X.stack) ch H H s.heap h':=⟨fun b o q _ nf nc=>keep b o nf nc q,fun b o q _ hf nc=>slot b o hf nc q,fun _ _ _ n _=>n,fun b o q nc=>by
  by_cases hf:b ∈ frs X.stack
  ·obtain ⟨sl,z⟩:=slot b o hf nc q; exact ⟨_,z⟩
  ·exact ⟨o,keep b o hf nc q⟩,fun _ _ q=>q,fun _ _ _ q=>q,fun _ ps q=>⟨#[],by rw [q]; simp⟩⟩
 have hok:HOk X.prog X.w H h':=fun b o q=>(I.hok b o q).stay (fun c v hc r=>by
  have hb:H c ≠ none:=by
   rcases hc with rfl | hc
   ·rw [q]; exact fun z=>nomatch z
   ·rw [hc]; exact fun z=>nomatch z
  exact keep c v (fun z=>hb (I.stkFree c z)) (fun z=>hb (hm c z).un) r) (fun _ r=>r) fun _ _ r=>r
 exact Inv.exOut (Inv.call (X:={ X with ex:=ch++X.ex }) (g':=s.gens) (d':=s.drawn) (t':=s.toks) (Inv.exIn I fun b hb=>⟨(hm b hb).new,(hm b hb).loc,(hm b hb).cel⟩) u hok I.bare fun b hb=>⟨.inl (List.mem_append_left _ hb),(hm b hb).loc,(hm b hb).cel,fun p hp=>(hm b hb).pin p (by simpa using hp)⟩) I.ok fun b hb=>(hm b hb).new
structure XcT (X:Cx) (H:Hp) (h:Heap) (e C:Addr):Prop where
 mine:Mine X H e
 ob:∃ oe vs T oT ts,h.get? e=some oe/\(oe.cls= .ref C/\oe.dict=none)/\oe.data= .fields vs/\vs[1]?=some (.ref T)/\T ≠ e/\Mine X H T/\h.get? T=some oT/\oT.data= .fields ts/\3<ts.size
theorem XcT.c {h:Heap} (x:XcT X H h e C):Xc X H h e C:=by
 obtain ⟨oe,vs,T,oT,ts,h1,h2,h3,h4,h5,h6,h7,h8,h9⟩:=x.ob
 exact ⟨x.mine,oe,vs,h1,h2,h3,(Array.getElem?_eq_some_iff.mp h4).1,.inr ⟨T,oT,ts,h4,h5,h6,h7,h8,h9⟩⟩
structure Top0 (X:Cx):Prop where
 st:X.stack=X.env::X.Ko
 fr:X.env.frame=some X.env.locals
 ex:X.ex=[]
theorem Mine.nofr {b:Addr} (m:Mine X H b) (I:Inv X [] σ H s):b ∉ frs X.stack:=fun z=>by
 rcases List.mem_cons.mp (I.stkSub b z) with q | q
 ·exact m.loc q
 ·obtain ⟨_,o,ho,_⟩:=I.ok.funs.mem q
  rw [m.new] at ho; cases ho
theorem aoI {P:Program}{w:World}{h:Heap}{b:Addr}{u:HO} (hok:HOk P w H h) (hH:H b=some u) (hb:h.get? b=none):False:=by
 have x:=hok b u hH
 have no:∀ {o:Obj},h.get? b=some o->False:=fun {o} q=>by rw [hb] at q; cases q
 cases u with
 | lst xs=>obtain ⟨_,_,_,_,e⟩:=x; exact no e
 | tup xs=>obtain ⟨_,_,_,⟨_,e,_⟩⟩:=x; exact no e
 | dK kvs=>obtain ⟨_,_,_,_,o,_,_,e,_⟩:=x; exact no e
 | dT kvs=>obtain ⟨_,_,_,_,o,_,_,e,_⟩:=x; exact no e
 | set S n=>obtain ⟨o,_,_,_,e,_⟩:=x; exact no e
 | ins C dx fs=>obtain ⟨_,_,_,e,_⟩:=x; exact no e
 | own y=>obtain ⟨_,e⟩:=x; exact no e
 | xd fs=>obtain ⟨_,⟨_,_,_,e,_⟩,_⟩:=x; exact no e
 | rng lo hi=>obtain ⟨_,_,_,e⟩:=x; exact no e
 | frz ob u=>obtain ⟨e,_⟩:=x; exact no e
 | tbl ps=>exact no (show h.get? b=some _ from x)
 | met f y=>exact no (show h.get? b=some _ from x)
 | ext φ=>obtain ⟨_,⟨_,e⟩,_⟩:=x; exact no e
theorem aae (hx:X.ex=[]) (I:Inv X [] σ H s) {b:Addr} (hb:s.heap.get? b=none):Mine X H b:=by
 have no:∀ {o:Obj},s.heap.get? b=some o->False:=fun {o} q=>by rw [hb] at q; cases q
 refine ⟨?_,?_,fun z=>?_,fun x c q z=>?_,fun p hp z=>?_⟩
 ·cases hH:H b with
  | none=>rfl
  | some u=>exact (aoI I.hok hH hb).elim
 ·cases h0:X.s₀.heap.get? b with
  | none=>rfl
  | some o=>
   obtain ⟨o',q⟩:=I.base.there b o h0 (by rw [hx]; simp)
   exact (no q).elim
 ·subst z
  obtain ⟨m,⟨o,_,_,ho,_⟩,_⟩:=I.loc
  exact no ho
 ·obtain ⟨v,o,ho,_⟩:=I.cell x c q
  subst z
  exact no ho
 ·have:=(I.pin p (List.mem_append_left _ hp)).1
  rw [z] at this
  exact no this
theorem agI {oe:Obj}{vs:Array Value}{head:Value}{hadNext:Bool} (T0:Top0 X) (hA:A.frames=some X.stack) (I:Inv X [] σ H s) (me:Mine X H e) (he:s.heap.get? e=some oe) (hc:oe.cls= .ref C/\oe.dict=none) (hd:oe.data= .fields vs) (hsz:1<vs.size):
  wpAny (model X.prog X.w) A (do let a ←frameOf X.env; let pl ←entryPlaceOf X.env.locals hadNext; let b ←EntryCells.newEntry head a .none (rawInt X.env.locals) .none pl; setField (.ref e) 1 b) (fun _ s'=>Inv X [] σ H s'/\XcT X H s'.heap e C) E s:=by
 have hst:=T0.st
 have hfn:=I.stack
 rw [hst] at hfn hA
 have hene:e ∉ (X.env::X.Ko).filterMap (·.frame):=by
  have:=me.nofr I
  rw [hst] at this; exact this
 refine wpAny_bind (wpAny_frameOf_fun hA hfn T0.fr fun h₁ hs₁=>?_)
 refine wpAny_bind (wpAny_entryPlaceOf fun pl hpl=>?_)
 unfold EntryCells.newEntry newFields
 refine wpAny_bind (wpAny_newObj_type ?_ (hpl.sizeOk5 _ _ _ _ _))
 have he₁:h₁.get? e=some oe:=(hs₁.2.1 e hene).trans he
 generalize hob:({ cls:= .type "traceback",dict:=none,data:= .fields ([head,Value.ref X.env.locals,.none,rawInt X.env.locals,.none]++(if pl.isEmpty then List.replicate 6 Value.none else pl)).toArray }:Obj)=ob
 have obd:ob.data= .fields ([head,Value.ref X.env.locals,.none,rawInt X.env.locals,.none]++(if pl.isEmpty then List.replicate 6 Value.none else pl)).toArray:=by rw [←hob]
 have obf:ob.isFreed=false:=by rw [←hob]; rfl
 have he₂:(h₁.push ob).get? e=some oe:=Heap.get?_push_of_some ob he₁
 refine wpAny_setField he₂ hd hsz ?_
 have hTe:h₁.objs.size ≠ e:=Nat.ne_of_gt (Heap.lt_size he₁)
 have hd₃:=Obj.data_mapFields hd (·.setIfInBounds 1 (Value.ref h₁.objs.size))
 have he₃:=Heap.get?_update_self (Obj.mapFields (·.setIfInBounds 1 (Value.ref h₁.objs.size))) he₂ (Obj.isFreed_of_fields hd₃)
 have hT₃:((h₁.push ob).update e (Obj.mapFields (·.setIfInBounds 1 (Value.ref h₁.objs.size)))).get? h₁.objs.size=some ob:=(Heap.get?_update_other _ _ (Ne.symm hTe)).trans (Heap.get?_push_size h₁ obf)
 have keep:∀ b o,b ≠ e->h₁.get? b=some o->((h₁.push ob).update e (Obj.mapFields (·.setIfInBounds 1 (Value.ref h₁.objs.size)))).get? b=some o:=fun b o hb q=>by
  rw [Heap.get?_update_other _ _ (Ne.symm hb)]
  exact Heap.get?_push_of_some _ q
 have hfr:frs X.stack=(X.env::X.Ko).filterMap (·.frame):=by rw [hst]; rfl
 have sz:h₁.objs.size=s.heap.objs.size:=hs₁.1
 have J:Inv X [] σ H { s with heap:=(h₁.push ob).update e (Obj.mapFields (·.setIfInBounds 1 (Value.ref h₁.objs.size))) }:=by
  refine Inv.shake (s:=s) (ch:=[e]) I (fun b hb=>by rw [List.mem_singleton.mp hb]; exact me) (fun b o nf nc q=>keep b o (fun z=>nc (by simp [z])) ((hs₁.2.1 b (by rw [←hfr]; exact nf)).trans q)) (fun b o _ nc q=>?_)
  obtain ⟨sl,z⟩:=hs₁.2.2 b o q
  exact ⟨sl,keep b _ (fun w=>nc (by simp [w])) z⟩
 refine ⟨J,me,_,_,h₁.objs.size,ob,_,he₃,?_,hd₃,by simp [hsz],hTe,?_,hT₃,obd,?_⟩
 ·rw [Obj.cls_mapFields]; exact ⟨hc.1,by unfold Obj.mapFields; split <;> exact hc.2⟩
 ·exact aae T0.ex I (Heap.get?_none_of_le (by rw [sz]; exact Nat.le_refl _))
 ·simp only [List.size_toArray,List.length_append,List.length_cons,List.length_nil]; omega
theorem abO (T0:Top0 X) (hA:A.frames=some X.stack) (I:Inv X [] σ H s) (x:Xc X H s.heap e C):wpAny (model X.prog X.w) A (noteFrame (.ref e) X.env) (fun _ s'=>Inv X [] σ H s'/\XcT X H s'.heap e C) E s:=by
 obtain ⟨oe,vs,he,hc,hd,hsz,hT⟩:=x.ob
 unfold noteFrame
 simp only [T0.fr]
 rcases hT with h1 | ⟨T,oT,ts,h1,hTe,mT,hT,hdT,h3⟩
 ·refine wpAny_bind (wpAny_field he hd h1 ?_)
  rw [if_neg (by decide)]
  exact agI T0 hA I x.mine he hc hd hsz
 ·refine wpAny_bind (wpAny_field he hd h1 ?_)
  rw [if_pos (show (Value.ref T != Value.none)=true from by simp)]
  refine wpAny_bind (wpAny_field hT hdT (x:=ts[3]) (by simp [h3]) ?_)
  by_cases hq:(ts[3] == rawInt X.env.locals)=true
  ·rw [if_pos hq]
   exact wpAny_pure ⟨I,x.mine,oe,vs,T,oT,ts,he,hc,hd,h1,hTe,mT,hT,hdT,h3⟩
  ·rw [if_neg hq]
   refine wpAny_bind (wpAny_setField hT hdT h3 ?_)
   have other:∀ b,b ≠ T->(s.heap.update T (Obj.mapFields (·.setIfInBounds 3 Value.none))).get? b=s.heap.get? b:=fun b hb=>Heap.get?_update_other _ _ (Ne.symm hb)
   have J:Inv X [] σ H { s with heap:=s.heap.update T (Obj.mapFields (·.setIfInBounds 3 Value.none)) }:=
    Inv.shake (s:=s) (ch:=[T]) I (fun b hb=>by rw [List.mem_singleton.mp hb]; exact mT) (fun b o _ nc q=>(other b fun z=>nc (by simp [z])).trans q) fun b o _ nc q=>⟨o.slots,(other b fun z=>nc (by simp [z])).trans q⟩
   exact agI (s:={ s with heap:=s.heap.update T (Obj.mapFields (·.setIfInBounds 3 Value.none)) }) T0 hA J x.mine ((other e (Ne.symm hTe)).trans he) hc hd hsz
theorem Jq (fl:Option Addr) (I:Inv X [] σ H s) (x:XcT X H s.heap e C):wpAny (model X.prog X.w) A (setFlight (.ref e) fl) (fun _ s'=>Inv X [] σ H s'/\XcT X H s'.heap e C) E s:=by
 obtain ⟨oe,vs,T,oT,ts,he,hc,hd,h1,hTe,mT,hT,hdT,h3⟩:=x.ob
 unfold setFlight
 refine wpAny_bind (wpAny_field he hd h1 ?_)
 rw [if_pos (show (Value.ref T != Value.none)=true from by simp)]
 refine wpAny_setField hT hdT h3 ?_
 have other:∀ b,b ≠ T->(s.heap.update T (Obj.mapFields (·.setIfInBounds 3 (fl.elim Value.none fun f=>rawInt f)))).get? b=s.heap.get? b:=fun b hb=>Heap.get?_update_other _ _ (Ne.symm hb)
 have J:Inv X [] σ H { s with heap:=s.heap.update T (Obj.mapFields (·.setIfInBounds 3 (fl.elim Value.none fun f=>rawInt f))) }:=
  Inv.shake (s:=s) (ch:=[T]) I (fun b hb=>by rw [List.mem_singleton.mp hb]; exact mT) (fun b o _ nc q=>(other b fun z=>nc (by simp [z])).trans q) fun b o _ nc q=>⟨o.slots,(other b fun z=>nc (by simp [z])).trans q⟩
 exact ⟨J,x.mine,oe,vs,T,_,_,(other e (Ne.symm hTe)).trans he,hc,hd,h1,hTe,mT,Heap.get?_update_self _ hT (Obj.isFreed_of_fields (Obj.data_mapFields hdT _)),Obj.data_mapFields hdT _,by simpa using h3⟩
theorem aq2 {P:Value->SP0} (T0:Top0 X) (hA:A.frames=some X.stack) (hP:∀ e s,P e s->∃ a C σ H,e= .ref a/\Inv X [] σ H s/\Xc X H s.heap a C/\∀ s',Inv X [] σ H s'->XcT X H s'.heap a C->P e s'):PassesOwn (model X.prog X.w) A X.env P:=fun ev s' h=>by
 obtain ⟨a,C,σ,H,rfl,I,x,back⟩:=hP ev s' h
 refine wpAny_mono (abO (E:=fun _ _=>False) T0 hA I x) (fun _ s2 ⟨I2,x2⟩=>?_) fun _ _ z=>z.elim
 obtain ⟨oe,vs,T,oT,ts,he,hc,hd,h1,r⟩:=id x2.ob
 unfold cameBackBy
 refine wpAny_bind (wpAny_field he hd h1 ?_)
 rw [if_neg (by simp)]
 first
  | exact wpAny_mono (Jq (E:=fun _ _=>False) _ I2 x2) (fun _ s3 ⟨I3,x3⟩=>back s3 I3 x3) fun _ _ z=>z.elim
  | exact wpAny_bind (wpAny_pure (wpAny_mono (Jq (E:=fun _ _=>False) _ I2 x2) (fun _ s3 ⟨I3,x3⟩=>back s3 I3 x3) fun _ _ z=>z.elim))
end
structure XcO (h0:Heap) (H:Hp) (h:Heap) (e C:Addr):Prop where
 un:H e=none
 new:h0.get? e=none
 ob:∃ oe vs T oT ts,h.get? e=some oe/\(oe.cls= .ref C/\oe.dict=none)/\oe.data= .fields vs/\vs[1]?=some (.ref T)/\T ≠ e/\H T=none/\h0.get? T=none/\h.get? T=some oT/\oT.data= .fields ts/\3<ts.size
def CXt (P:Program) (w:World):CXT:=fun Ko H s E ev s'=>∃ e C H',ev= .ref e/\s'.os=s.os/\AllBare s'.gens/\Un (frs Ko) [] H H' s.heap s'.heap/\HOk P w H' s'.heap/\XcO s.heap H' s'.heap e C/\E (.ref C) none H'
section
variable {X:Cx}
theorem Xc.of (hx:X.ex=[]) {Kp:List (Addr × Obj)}{σ:St}{H H':Hp}{s s':Shared}{e0 C:Addr} (I:Inv X Kp σ H s) (x:XcO s.heap H' s'.heap e0 C):Xc X H' s'.heap e0 C:=by
 have J:Inv X [] σ H s:=I.pins_of fun p hp=>nomatch hp
 obtain ⟨oe,ws,T,oT,ts,h1,h2,h3,h4,h5,h6,h7,h8,h9,h10⟩:=x.ob
 have m1:=aae hx J x.new
 have m2:=aae hx J h7
 exact ⟨⟨x.un,m1.new,m1.loc,m1.cel,m1.pin⟩,oe,ws,h1,h2,h3,(Array.getElem?_eq_some_iff.mp h4).1,.inr ⟨T,oT,ts,h4,h5,⟨h6,m2.new,m2.loc,m2.cel,m2.pin⟩,h8,h9,h10⟩⟩
end
def Thr (X:Cx) (H:Hp) (c:Str) (ev:Value) (s':Shared):Prop:=∃ e C σ' H',ev= .ref e/\X.mg c=some (.ref C)/\Inv X [] σ' H' s'/\jp H H'/\Xc X H' s'.heap e C
theorem Thr.mono {X:Cx}{H H1:Hp}{c:Str}{ev:Value}{s':Shared} (s:jp H H1) (h:Thr X H1 c ev s'):Thr X H c ev s':=by
 obtain ⟨e,C,σ',H',h1,h2,h3,h4,h5⟩:=h
 exact ⟨e,C,σ',H',h1,h2,h3,s.trans h4,h5⟩
@[irreducible] def PDX (X:Cx) (e:Expr) (fx:Rho->Option Str):Prop:=∀ (s:Shared) (σ:St) (H:Hp) (ρ:Rho) (c:Str),Inv X [] σ H s->EnvR X.K H ρ σ->fx ρ=some c->(∀ ev s',Thr X H c ev s'->X.xe ev s')->wpAny (model X.prog X.w) X.A (eval e X.env) (fun _ _=>False) X.xe s
@[irreducible] def PSX (X:Cx) (st:Stmt) (fx:Rho->Option Str):Prop:=∀ (s:Shared) (σ:St) (H:Hp) (ρ:Rho) (c:Str),Inv X [] σ H s->EnvR X.K H ρ σ->fx ρ=some c->(∀ ev s',Thr X H c ev s'->X.xe ev s')->wpAny (model X.prog X.w) X.A (exec st X.env) (fun _ _=>False) X.xe s
@[irreducible] def abE (X:Cx) (sts:List Stmt) (fx:Rho->Option Str):Prop:=∀ (s:Shared) (σ:St) (H:Hp) (ρ:Rho) (c:Str),Inv X [] σ H s->EnvR X.K H ρ σ->fx ρ=some c->(∀ ev s',Thr X H c ev s'->X.xe ev s')->wpAny (model X.prog X.w) X.A (execs sts X.env) (fun _ _=>False) X.xe s
noncomputable def vB:List Value:=[.type "ValueError",.type "Exception",.type "BaseException",.type "object"]
def ZU (K:Fg) (mg:SV) (x:Str):Prop:=∃ C,mg x=some (.ref C)/\PySem.W.excIn K C vB "ValueError.__new__"=true
theorem ajj {K:Fg}{h:Heap}{C:Addr} (X:K.In h) (q:PySem.W.excIn K C vB "ValueError.__new__"=true):
  ∃ bm N nm qn bs hdct sn sub ab col dd k0 k1 k2 k3 k5 mN,h.get? C=some (excClassObj nm qn C N bs bm hdct sn sub ab col dd k0 k1 k2 k3 k5 "ValueError.__new__")/\h.Ns N mN/\mN "__init__"=none/\OwnTail h vB bm:=by
 unfold PySem.W.excIn at q
 split at q
 ·rename_i dd cd sl ho
  split at q
  ·rename_i C' bm k0 k1 k2 k3 n k5 hm hs
   simp only [Bool.and_eq_true,beq_iff_eq,Bool.not_eq_true'] at q
   obtain ⟨⟨⟨⟨⟨rfl,rfl⟩,hdel⟩,ht⟩,hok⟩,hni⟩:=q
   obtain ⟨nm,bs,mro,ns,qn,hd,sn,sub,ab,col,del⟩:=cd
   dsimp only at hm hdel hok hni
   subst hm hdel
   have hsl:sl=#[k0,k1,k2,k3,some (.builtin "ValueError.__new__"),k5]:=by
    obtain ⟨l⟩:=sl
    simp only at hs
    rw [hs]
   subst hsl
   exact ⟨bm,ns,nm,qn,bs,hd,sn,sub,ab,col,dd,k0,k1,k2,k3,k5,_,X _ _ ho,.of_isNs (PySem.W.isNs_of_in X hok),PySem.W.nsMap_none_of_in X hok hni,PySem.W.tail_of_in X ht⟩
  ·cases q
 ·cases q
section
variable {X:Cx}{e a b c:Expr}{es:List Expr}{st:Stmt}{sts j9:List Stmt}{fx gx:Rho->Option Str}{F:RO}{pos:Pos}
theorem jz (h:PSX X st fx):abE X (st::j9) fx:=by
 with_unfolding_all
  intro s σ H ρ c I en q k
  exact wpAny_execs_cons (wpAny_mono (h s σ H ρ c I en q k) (fun _ _ z=>z.elim) fun _ _ z=>z)
def nxX (F:RO) (gx:Rho->Option Str):Rho->Option Str:=fun ρ=>(F ρ).bind fun o=>match o with
 | .nx ρ'=>gx ρ'
 | _=>none
theorem qk (h1:PSD X st F) (h2:abE X j9 gx):abE X (st::j9) (nxX F gx):=by
 with_unfolding_all
  intro s σ H ρ c I en q k
  cases hF:F ρ with
  | none=>simp [nxX,hF] at q
  | some o=>
   cases o with
   | nx ρ'=>
    have q':gx ρ'=some c:=by simpa [nxX,hF] using q
    refine wpAny_execs_cons (wpAny_mono (h1 [] s σ H { nx:=fun σ' H'=>jp H H'/\EnvR X.K H' ρ' σ',rt:=fun _ _=>False,bk:=fun _ _=>False,ct:=fun _ _=>False } I ⟨ρ,.nx ρ',en,hF,fun σ' H' s1 e1=>⟨s1,e1⟩⟩) (fun f s1 z=>?_) fun _ _ z=>z)
    cases f with
    | next=>
     obtain ⟨σ',H',I',sm,e1⟩:=z
     exact wpAny_mono (h2 s1 σ' H' ρ' c I' e1 q' fun ev s' t=>k ev s' (t.mono sm)) (fun _ _ z=>z.elim) fun _ _ z=>z
    | brk=>obtain ⟨_,_,_,z⟩:=z; exact z.elim
    | cont=>obtain ⟨_,_,_,z⟩:=z; exact z.elim
    | ret u=>obtain ⟨_,_,_,_,_,z⟩:=z; exact z.elim
   | _=>simp [nxX,hF] at q
def ifX (tc:Rho->Option Bool) (fx gx:Rho->Option Str):Rho->Option Str:=fun ρ=>(tc ρ).bind fun x=>if x=true then fx ρ else gx ρ
def ah2:Rho->Option Str:=fun _=>none
theorem zf:abE X sts ah2:=by
 with_unfolding_all
  intro s σ H ρ c I en q k
  cases q
theorem QT {l r:List Stmt}{tc:Rho->Option Bool} (hc:PTD X a tc) (hl:abE X l fx) (hr:abE X r gx):PSX X (.If a l r pos) (ifX tc fx gx):=by
 with_unfolding_all
  intro s σ H ρ c I en q k
  cases ht:tc ρ with
  | none=>simp [ifX,ht] at q
  | some x=>
   refine wpAny_If (wpAny_mono (hc [] s σ H (fun b H'=>b=x/\jp H H') I ⟨ρ,x,en,ht,fun H' s1=>⟨rfl,s1⟩⟩) (fun d s1 z=>?_) fun _ _ z=>z)
   obtain ⟨H1,I1,rfl,s1'⟩:=z
   cases d with
   | true=>exact hl s1 σ H1 ρ c I1 (en.mono s1') (by simpa [ifX,ht] using q) fun ev s' t=>k ev s' (t.mono s1')
   | false=>exact hr s1 σ H1 ρ c I1 (en.mono s1') (by simpa [ifX,ht] using q) fun ev s' t=>k ev s' (t.mono s1')
theorem aaf (h:PDX X e fx):PSX X (.Return (some e) pos) fx:=by
 with_unfolding_all
  intro s σ H ρ c I en q k
  exact wpAny_Return_some (wpAny_mono (h s σ H ρ c I en q k) (fun _ _ z=>z.elim) fun _ _ z=>z)
theorem zg (h:PDX X e fx) (hs:swapsWith e none pos.line X.env=pure false:=by rfl):PSX X (.Expr e pos) fx:=by
 with_unfolding_all
  intro s σ H ρ c I en q k
  exact wpAny_Expr_any (wpAny_mono (h s σ H ρ c I en q k) (fun _ _ z=>z.elim) fun _ _ z=>z) I.quiet hs
theorem aoJ {x:Str}{pos':Pos} (h:PDX X e fx) (hs:swapsWith e (some (.Name x pos')) pos.line X.env=pure false:=by rfl):PSX X (.Assign [.Name x pos'] e pos) fx:=by
 with_unfolding_all
  intro s σ H ρ c I en q k
  exact wpAny_Assign_Name (wpAny_mono (h s σ H ρ c I en q k) (fun _ _ z=>z.elim) fun _ _ z=>z) hs
end
def ah3 (K:Fg) (mg:SV) (n:Nat) (gx:LP->Option Str):Sp:=fun vs H _ E=>∃ ds c,ds.length=n/\Reps K H ds vs/\gx ds=some c/\∀ C H',mg c=some (.ref C)->jp H H'->E (.ref C) none H'
def qJ (P:Program) (w:World) (K:Fg) (mg:SV) (base:Heap) (x:Str) (ps:List Str) (k n:Nat) (gx:LP->Option Str):Prop:=
 ∃ (f:Addr) (fd:FuncData),FnOk P w K mg base (CXt P w) k f fd ps (ah3 K mg n gx)/\mg x=some (.ref f)/\PySem.W.keepIn K (.ref f)=true/\zW K fd ps []
section
variable {X:Cx}{e a b c:Expr}{es:List Expr}{st:Stmt}{sts j9:List Stmt}{fx gx:Rho->Option Str}{F:RO}{pos:Pos}
theorem qh {k j n:Nat}{ps:List Str}{g:LP->Option Str}{x:Str}{p:Pos}{fr:Rho->Option (LP)} (hxe:X.ex=[]) (C:qJ X.prog X.w X.K X.mg X.base x ps k n g) (hr:Room j X.A) (hkj:k<=j) (ha:PAD X (e::es) fr) (hl:∀ ρ ds,fr ρ=some ds->ds.length=n)
  (hg:Gl X x:=by rfl) (hdb:(x == ("__debug__":Str))=false:=by decide) (he:starEach (e::es) X.env=(false,eval e X.env)::starEach es X.env:=by rfl)
  (hpl:(backTo pos (starEach es X.env)).any (·.1)=false:=by rfl):PDX X (.Call (.Name x p) (e::es) [] pos) (fun ρ=>(fr ρ).bind g):=by
 with_unfolding_all
  intro s σ H ρ c I en q k'
  obtain ⟨f,fd,F,hm,hk,hb⟩:=C
  cases hd:fr ρ with
  | none=>simp [hd] at q
  | some ds=>
   have q':g ds=some c:=by simpa [hd] using q
   refine wpAny_Call_Name_kw (Ql I hg hm ?_ hdb)
   refine PySem.W.callWith_K (h₀:=X.base) I.ok.mod.kin hk (thn (ha pos [] s σ H (fun vs H1=>jp H H1/\Reps X.K H1 ds vs) I ⟨ρ,ds,en,hd,fun vs H1 s1 r1=>⟨s1,r1⟩⟩) fun us s1 ⟨vs,H1,I1,r,sm,rd⟩=>⟨I1.kIn,?_⟩) he hpl
   have hsp:ah3 X.K X.mg n g vs H1 (fun _ _=>False) (fun cls _ H'=>X.mg c=some cls/\jp H1 H')->vs.length=ps.length:=fun z=>F.len _ _ _ _ z
   by_cases hn:ds.length=n
   ·have sp:ah3 X.K X.mg n g vs H1 (fun _ _=>False) (fun cls _ H'=>X.mg c=some cls/\jp H1 H'):=⟨ds,c,hn,rd,q',fun C H' hC s2=>⟨hC,s2⟩⟩
    have hlu:(us++[]).length=ps.length:=by rw [List.append_nil,←r.length]; exact hsp sp
    have hbd:=hb s1 us I1.kIn hlu
    rw [List.append_nil] at hbd
    refine wpAny_call (codeAny_mono (F.run X.A X.stack s1 H1 ⟨us,[]⟩ us vs _ _ (hr.mono hkj) I1.env0 hbd r sp) fun rs s' hq=>?_)
    cases rs with
    | error ev=>
     obtain ⟨e0,C,H',rfl,os,bare,un,hok,xc,hC,sm2⟩:=hq
     have J':Inv X [] σ H' s':=I1.call' (ch:=[]) os un hok bare fun b z=>nomatch z
     exact k' _ _ ⟨e0,C,σ,H',rfl,hC,J',sm.trans sm2,Xc.of hxe I1 xc⟩
    | ok fl=>
     cases fl with
     | ret u=>obtain ⟨v,H',_,_,_,_,_,z⟩:=hq; exact z.elim
     | next=>exact False.elim hq
     | brk=>exact False.elim hq
     | cont=>exact False.elim hq
   ·exact absurd (hl ρ ds hd) hn
theorem qN {x m:Str}{k0:_}{np p3 cpos:Pos} (hxe:X.ex=[]) (hE:ZU X.K X.mg x) (hc:X.calm=true) (hg:Gl X x:=by rfl) (hdb:(x == ("__debug__":Str))=false:=by decide)
  (he:starEach [.Constant (.str m) k0 p3] X.env=[(false,eval (.Constant (.str m) k0 p3) X.env)]:=by rfl):PSX X (.Raise (some (.Call (.Name x np) [.Constant (.str m) k0 p3] [] cpos)) none pos) (fun _=>some x):=by
 with_unfolding_all
  intro s σ H ρ c I en q k
  cases q
  obtain ⟨C,hm,hex⟩:=hE
  obtain ⟨bm,N,nm,qn,bs,hdct,sn,sub,ab,col,dd,k0',k1,k2,k3,k5,mN,hC,hN,hni,TL⟩:=ajj (h:=X.base) I.ok.mod.kin hex
  have hpl:(backTo cpos (starEach [.Constant (.str m) k0 p3] X.env)).any (·.1)=false:=by rw [he]; rfl
  refine wpAny_Raise_call_subT (C:=C) (nm:=nm) (q:=qn) (N:=N) (bs:=bs) (bm:=bm) (hdct:=hdct) (sn:=sn) (sub:=sub) (ab:=ab) (col:=col) (dd:=dd) (k0:=k0') (k1:=k1) (k2:=k2) (k3:=k3) (k5:=k5) PySem.F.excBase_ValueError (mN:=mN) (TL.hasType rfl) (I.ok.hd hc) hpl hni ?_
  refine wpAny_mono (aeC (pos:=np) hg hm (show jW (.ref C) (.ref C) from rfl) hdb [] s σ H (fun v H'=>v= .ref C/\H'=H) I ⟨rfl,rfl⟩) (fun v s1 ⟨y,H1,I1,r1,e1,e2⟩=>?_) fun _ _ z=>z
  subst e1; subst e2
  obtain rfl:v=Value.ref C:=r1
  refine ⟨rfl,?_⟩
  have pa:PA X [.Constant (.str m) k0 p3] _:=qG (X:=X) als zz he
  have hsp:=pa cpos [] s1 σ H1 (fun vs H'=>vs.length=1/\H'=H1) I1 ⟨rfl,rfl⟩
  rw [he] at hsp ⊢
  refine Calls.evalArgs_plain (wpAny_mono hsp (fun us s2 ⟨vs,H2,I2,r2,l2,e2⟩=>?_) fun _ _ z=>z)
  subst e2
  have kp:∀ b o,X.base.get? b=some o->s2.heap.get? b=some o:=fun b o e=>(I2.bs b o e).1
  refine ⟨rfl,?_,kp _ _ hC,hN.keeps kp,TL.keeps kp,fun h' e0 md=>?_⟩
  ·show us.length<=sizeLine
   rw [←r2.length,l2,sizeLine_eq]; decide
  ·obtain ⟨t,h1,h2,h3⟩:=md.there
   have I3:Inv X [] σ H2 { s2 with heap:=h' }:=I2.kept (t':=s2.toks) md.keeps
   have m0:=aae hxe I2 md.new
   exact k _ _ ⟨e0,C,σ,H2,rfl,hm,I3,jp.refl _,m0,_,_,h1,⟨rfl,rfl⟩,rfl,by simp,.inl rfl⟩
end
theorem ah4 {CX:CXT}{P:Program}{w:World}{K:Fg}{mg:SV}{base:Heap}{k:Nat}{f:Addr}{name qual:Str}{params:Arguments}{body:List Stmt}{scope:Scope}{dV kV doc pm Kc ct oc:Value}{an od:Option Addr}
  {osl:Array (Option Value)} {N ps:List Str} {sp:Sp} (lk:K.lookup f=some ⟨oc,od,.func (PySem.W.fnOf name qual params body scope dV kV doc pm an Kc ct),osl⟩) (hcd:PySem.W.codeIn K Kc qual=true) (S:FnScope N ps scope)
  (len:∀ vs H Q E,sp vs H Q E->vs.length=ps.length)
  (hbody:∀ (A:Around) (Ko:List Env) (s:Shared) (H:Hp) (vs:List V) (Q:VK) (E:XK) (s1:Shared),Room k (A.deeper (envOfC qual scope s.heap.objs.size f Kc))->sp vs H Q E->
   Inv (zX CX P w K mg base N qual scope f Kc A Ko s H E) [] (L2.Jj N vs) H s1->
   wpAny (model P w) (A.deeper (envOfC qual scope s.heap.objs.size f Kc)) (execs body (envOfC qual scope s.heap.objs.size f Kc)) (SP (zX CX P w K mg base N qual scope f Kc A Ko s H E) [] { nx:=fun _ H'=>Q .non H',rt:=Q }) (zX CX P w K mg base N qual scope f Kc A Ko s H E).xe s1):
  FnOk P w K mg base CX (k+1) f (PySem.W.fnOf name qual params body scope dV kV doc pm an Kc ct) ps sp:=by
 refine ⟨len,fun A Ko s H args us vs Q E hr e0 hb r hsp=>?_⟩
 have hl:=len _ _ _ _ hsp
 have KX:K.In s.heap:=e0.mod.kin.keeps fun b o e=>(e0.bs b o e).1
 have lim:s.heap.NoLimit:=e0.mod.nolimit.keeps fun b o e=>(e0.bs b o e).1
 have hkind:∀ y ∈ ps.zip us,scope.names.lookup y.1=some .local ∨ (scope.names.lookup y.1=some .cell/\((cellsFrom (s.heap.objs.size+1) scope.names []).lookup y.1).isSome=true):=fun ⟨n,v⟩ hy=>by
  rcases S.par n (List.of_mem_zip hy).1 with q | q
  ·exact .inl q
  ·exact .inr ⟨q,PySem.W.cellsFrom_some _ _ _ (.inl q)⟩
 refine codeAny_call_function hr.depth (KX _ _ lk) rfl S.co S.gen rfl (PySem.W.codeRec_of KX hcd) (hb _ _ _ _ ?_)
 refine wpAny_newFunctionEnv_cells S.kind hkind fun env he s1 x=>?_
 subst he
 refine ⟨lim.keeps x.toInCall.keep,codeAny_func ?_⟩
 have I:Inv (zX CX P w K mg base N qual scope f Kc A Ko s H E) [] (L2.Jj N vs) H s1:=adK S hr.hd e0 hl r x
 refine wpAny_mono (hbody A Ko s H vs Q E s1 (hr.deeper _) hsp I) (fun fl s' hs=>?_) fun e s' hs=>hs
 have fin:∀ {σ':St} {H':Hp} {v:V} {u:Value},Inv (zX CX P w K mg base N qual scope f Kc A Ko s H E) [] σ' H' s'->jW v u->Q v H'->CE Ko P w H s Q u s':=
  fun {σ' H' v u} J rv q=>⟨v,H',J.os,J.bare,J.base,J.hok,rv,q⟩
 cases fl with
 | ret u=>
  obtain ⟨v,σ',H',J,rv,q⟩:=hs
  exact fin J rv q
 | next=>
  obtain ⟨σ',H',J,q⟩:=hs
  exact fin (v:=V.non) (u:=Value.none) J rfl q
 | brk=>
  obtain ⟨_,_,_,q⟩:=hs
  exact False.elim q
 | cont=>
  obtain ⟨_,_,_,q⟩:=hs
  exact False.elim q
theorem acH {CX:CXT}{P:Program}{w:World}{K:Fg}{mg:SV}{base:Heap}{N:List Str}{qual:Str}{scope:Scope}{f:Addr}{cd:Value}{A:Around}{Ko:List Env}{s:Shared}{H:Hp}{E:XK}:Top0 (zX CX P w K mg base N qual scope f cd A Ko s H E):=⟨rfl,rfl,rfl⟩
section
variable {P:Program}{w:World}{K:Fg}{mg:SV}{base:Heap}
def zh (N:List Str) (n:Nat) (Fx:Rho->Option Str) (ds:LP):Option Str:=if ds.length=n then Fx (jJ N ds) else none
theorem zq {x qual:Str}{st:Stmt}{f:Addr}{fd:FuncData}{N ps:List Str}{k:Nat}{Fx:Rho->Option Str} (F:Fun K x qual st f fd) (S:FnScope N ps (je st))
  (body:∀ (Kc:Value) (A:Around) (Ko:List Env) (s:Shared) (H:Hp) (E:XK),Room k (A.deeper (envOfC qual (je st) s.heap.objs.size f Kc))->abE (zX (CXt P w) P w K mg base N qual (je st) f Kc A Ko s H E) (jS st) Fx):
  FnOk P w K mg base (CXt P w) (k+1) f fd ps (ah3 K mg ps.length (zh N ps.length Fx)):=by
 with_unfolding_all
  obtain ⟨oc,od,kV,doc,pm,an,Kc,ct,osl,rfl,lk,hcd⟩:=F.ex
  refine ah4 lk hcd S (fun vs H Q E h=>?_) fun A Ko s H vs Q E s1 hr h I=>?_
  ·obtain ⟨ds,c,h1,h2,_⟩:=h
   rw [h2.length]; exact h1
  ·obtain ⟨ds,c,h1,h2,h3,h4⟩:=h
   unfold zh at h3
   rw [if_pos h1] at h3
   refine wpAny_mono (body Kc A Ko s H E hr s1 (L2.Jj N vs) H (jJ N ds) c I (Qd h2) h3 fun ev s' t=>?_) (fun _ _ z=>z.elim) fun _ _ z=>z
   obtain ⟨e,C,σ',H',rfl,hC,J,sm,xc⟩:=t
   have T0:Top0 (zX (CXt P w) P w K mg base N qual (je st) f Kc A Ko s H E):=acH
   show wpAny (model P w) (A.deeper (envOfC qual (je st) s.heap.objs.size f Kc)) (leaving (envOfC qual (je st) s.heap.objs.size f Kc) (.ref e)) (fun _ s''=>CXt P w Ko H s E (.ref e) s'') (fun e' s''=>CXt P w Ko H s E e' s'') s'
   have n1:=abO (E:=fun _ _=>False) (A:=A.deeper (envOfC qual (je st) s.heap.objs.size f Kc)) T0 J.ok.frames J xc
   unfold leaving
   refine wpAny_bind (wpAny_mono n1 (fun _ s2 ⟨J2,t2⟩=>?_) fun _ _ z=>z.elim)
   have n2:=Jq (E:=fun _ _=>False) (A:=A.deeper (envOfC qual (je st) s.heap.objs.size f Kc)) none J2 t2
   refine wpAny_mono n2 (fun _ s3 ⟨J3,t3⟩=>?_) fun _ _ z=>z.elim
   obtain ⟨oe,ws,T,oT,ts,g1,g2,g3,g4,g5,g6,g7,g8,g9⟩:=t3.ob
   exact ⟨e,C,H',rfl,J3.os,J3.bare,J3.base,J3.hok,⟨t3.mine.un,t3.mine.new,oe,ws,T,oT,ts,g1,g2,g3,g4,g5,g6.un,g6.new,g7,g8,g9⟩,h4 C H' hC sm⟩
end
theorem Inv.asA {X:Cx}{Kp:List (Addr × Obj)}{σ:St}{H:Hp}{s:Shared}{A:Around}{cm:Bool}{xe:Value->SP0} (I:Inv X Kp σ H s) (hf:A.frames=some X.stack) (hd:cm=true->A.handled=none):Inv { X with A:=A,calm:=cm,xe:=xe } Kp σ H s:=
 ⟨⟨I.ok.mod,I.ok.kind,I.ok.glob,I.ok.blt,I.ok.above,I.ok.inj,I.ok.has,I.ok.cab,hd,hf,I.ok.stk,I.ok.exf,I.ok.bs,I.ok.bsz,I.ok.noex,I.ok.exfs,I.ok.funs,I.ok.frf⟩,I.os,I.bare,I.base,I.loc,I.cell,I.free,I.freeC,I.pin,I.hok,I.len⟩
theorem Inv.ofA {X:Cx}{Kp:List (Addr × Obj)}{σ:St}{H:Hp}{s:Shared}{A:Around}{cm:Bool}{xe:Value->SP0} (ok:X.Ok) (I:Inv { X with A:=A,calm:=cm,xe:=xe } Kp σ H s):Inv X Kp σ H s:=
 ⟨ok,I.os,I.bare,I.base,I.loc,I.cell,I.free,I.freeC,I.pin,I.hok,I.len⟩
theorem Mine.unwish {X:Cx}{E:Value->SP0}{H:Hp}{b:Addr} (m:Mine (X.wish E) H b):Mine X H b:=⟨m.un,m.new,m.loc,m.cel,m.pin⟩
theorem Xc.unwish {X:Cx}{E:Value->SP0}{H:Hp}{h:Heap}{e C:Addr} (x:Xc (X.wish E) H h e C):Xc X H h e C:=by
 obtain ⟨oe,vs,h1,h2,h3,h4,h5⟩:=x.ob
 refine ⟨x.mine.unwish,oe,vs,h1,h2,h3,h4,?_⟩
 rcases h5 with q | ⟨T,oT,ts,q1,q2,q3,q4⟩
 ·exact .inl q
 ·exact .inr ⟨T,oT,ts,q1,q2,q3.unwish,q4⟩
section
variable {X:Cx}{st:Stmt}{sts j9 tb hb:List Stmt}{F G:RO}{pos:Pos}
end
section
variable {X:Cx}{st b0:Stmt}{sts j9 tb hb:List Stmt}{F G:RO}{fx:Rho->Option Str}{pos:Pos}
def adW (n:Nat):Rho:=List.replicate n none
theorem akz {K:Fg}{H:Hp}{σ:St}:EnvR K H (adW σ.length) σ:=⟨by simp [adW],fun i d q=>by simp [adW,List.getElem?_replicate] at q⟩
noncomputable abbrev hX (X:Cx) (e:Addr):Cx:={ X with A:=X.A.mark (some (.ref e)),calm:=false,xe:=fun _ _=>False }
theorem SP.ofA {A:Around}{cm:Bool}{xe:Value->SP0}{D:Ends}{f:Flow}{s':Shared} (ok:X.Ok) (h:SP { X with A:=A,calm:=cm,xe:=xe } [] D f s'):SP X [] D f s':=by
 cases f with
 | next=>obtain ⟨σ',H',I,q⟩:=h; exact ⟨σ',H',Inv.ofA ok I,q⟩
 | brk=>obtain ⟨σ',H',I,q⟩:=h; exact ⟨σ',H',Inv.ofA ok I,q⟩
 | cont=>obtain ⟨σ',H',I,q⟩:=h; exact ⟨σ',H',Inv.ofA ok I,q⟩
 | ret u=>obtain ⟨v,σ',H',I,r,q⟩:=h; exact ⟨v,σ',H',Inv.ofA ok I,r,q⟩
end
section
variable {P:Program}{w:World}{K:Fg}{mg:SV}{base:Heap}
end
theorem aag {t sl:Addr}{items:Array Value}{vl vu:Value}{lo hi:Option Int}{Q:Value->SP0} (ht:IsTup s.heap t items) (hs:s.heap.IsSliceOf sl vl vu .none) (pl:IsPart vl lo) (pu:IsPart vu hi)
  (hw:HT.sIx items.size 0 lo=0/\HT.sIx items.size items.size hi=items.size) (h:Q (.ref t) s):wpAny (model prog w) A (getItem (.ref t) (.ref sl)) Q E s:=by
 obtain ⟨os,hos,hcs,hds⟩:=id hs
 have hTs:s.TypeIs (.ref sl) "slice":=⟨os,hos,hcs⟩
 unfold getItem
 first | (with_reducible refine wpAny_holding ?_) | skip
 first | refine wpAny_bind (wpAny_pure ?_) | skip
 refine wpAny_bind (wpAny_sequenceKey ht.typeIs (by decide) ?_)
 refine wpAny_bind (wpAny_callSpecial?_slot (name:=Str.ofString "__getitem__") ht.typeIs PyProof.Rows.slot_tuple_getitem (wpAny_call_entry PyProof.Rows.slot_tuple_getitem ht.typeIs entry_tuple_getitem ?_ (args_tuple_getitem _ _)))
 show wpAny _ _ (Builtin.Tuple.tupleItemsOf (.ref t) >>= _) _ _ s
 refine wpAny_bind (tupleItemsOf_ ht (wpAny_bind (wpAny_typeOf hTs ?_)))
 rw [if_pos (show (Value.type "slice" == Value.type "slice")=true by decide)]
 refine wpAny_bind (HT.sliceApplied_gen hs pl pu ?_)
 rw [hw.1,hw.2]
 have hyes:((((0:Nat):Int) == 0 && (1:Int) == 1 && (items.size - 0) == items.size)=true):=by simp
 show wpAny _ _ (if ((((0:Nat):Int) == 0 && (1:Int) == 1 && (items.size - 0) == items.size)=true) then _ else _) _ _ s
 rw [if_pos hyes]
 obtain ⟨o,ho,hc,hd⟩:=id ht
 have hT:s.TypeIs (.ref t) "tuple":=⟨o,ho,hc⟩
 have ex:∀ {R:Bool->SP0} {A':Around} {E':Value->SP0},R true s->wpAny (model prog w) A' (Builtin.Tuple.tupleIsExact (.ref t)) R E' s:=fun {R A' E'} hR=>by
  unfold Builtin.Tuple.tupleIsExact
  first
   | exact wpAny_bind (wpAny_typeOf hT (wpAny_pure hR))
   | (wp_walk; exact hR)
 first
  | exact wpAny_bind (ex (wpAny_bind (wpAny_rule (wpAny_pure ⟨_,rfl,wpAny_pure h⟩))))
  | exact wpAny_bind (ex (by rw [if_pos rfl]; exact wpAny_bind (wpAny_rule (wpAny_pure ⟨_,rfl,wpAny_pure h⟩))))
  | (refine wpAny_bind (ex ?_); wp_walk; exact ⟨_,rfl,wpAny_pure h⟩)
  | (refine wpAny_bind (wpAny_bind (ex ?_)); wp_walk; exact ⟨_,rfl,wpAny_pure h⟩)
section
variable {X:Cx}{e a b c:Expr}{fa fb fc:RP}{pos p2:Pos}
def asC (K:Fg):V->Option Int->Option Int->Hp->VK->Prop:=fun x lo hi H Q=>∃ a xs,x= .ref a/\SqT K H a xs/\(HT.sIx xs.length 0 lo=0/\HT.sIx xs.length xs.length hi=xs.length)/\Q (.ref a) H
theorem agJ:SlR X (asC X.K):=by
 intro Kp s σ H x v vl vu lo hi sl Q I rx hs pl pu h
 obtain ⟨a,xs,rfl,hx,hw,q⟩:=h
 cases rx
 obtain ⟨its,r,ht,hz⟩:=I.tuple hx
 have hlen:its.toArray.size=xs.length:=by rw [List.size_toArray]; exact r.length.symm
 exact ⟨"tuple",_,PyProof.Rows.slot_tuple_getitem.lookup,ht.typeIs,aag ht hs pl pu (by rw [hlen]; exact hw) ⟨.ref a,H,I,rfl,q⟩⟩
def agK (p:PyData) (lo hi:Option Int):OP:=match p with
 | .tuple ds=>some (.tuple (aad ds lo hi))
 | _=>none
theorem amq {K:Fg}{p d:PyData}{lo hi:Option Int}{x:V}{H:Hp}{Q:VK} (h:agK p lo hi=some d) (r:Rep K H p x) (k:∀ v H',jp H H'->Rep K H' d v->Q v H'):asb K x lo hi H Q ∨ asC K x lo hi H Q:=by
 unfold agK at h
 split at h
 ·rename_i ds
  cases h
  obtain ⟨a,xs,e1,e2,e3⟩:=r
  have hl:=e3.length
  have rr:Reps K H (aad ds lo hi) (ZE xs lo hi):=by
   unfold ZE aad
   rw [hl]
   exact (e3.drop _).take _
  by_cases hw:HT.sIx xs.length 0 lo=0/\HT.sIx xs.length xs.length hi=xs.length
  ·refine .inr ⟨a,xs,e1,e2,hw,k _ H (jp.refl H) ⟨a,xs,rfl,e2,?_⟩⟩
   have ex:ZE xs lo hi=xs:=by unfold ZE; rw [hw.1,hw.2]; simp
   rw [ex] at rr
   exact rr
  ·refine .inl ⟨a,xs,e1,e2,hw,fun q hq=>?_⟩
   have s1:=jI (o:= .tup (ZE xs lo hi)) hq
   exact k _ _ s1 ⟨q,_,rfl,SqT.of ji,Reps.mono s1 _ _ rr⟩
 ·cases h
def adX (fa fb:RP):RP:=fun ρ=>(fa ρ).bind fun p=>(fb ρ).bind fun q=>(inI q).bind fun i=>agK p none (some i)
theorem amr (ha:PD X a fa) (hb:PD X b fb):PD X (.Subscript a (.Slice none (some b) none p2) pos) (adX fa fb):=by
 with_unfolding_all
  refine PE.imp (acs (alL.or agJ) ha aeL (aeM hb)) fun σ H Q ⟨ρ,d,en,q,k⟩=>?_
  cases h1:fa ρ with
  | none=>simp [adX,h1] at q
  | some y=>
   cases h2:fb ρ with
   | none=>simp [adX,h1,h2] at q
   | some z=>
    cases h3:inI z with
    | none=>simp [adX,h1,h2,h3] at q
    | some i=>
     have q':agK y none (some i)=some d:=by simpa [adX,h1,h2,h3] using q
     have hz:=agH h3
     subst hz
     refine ⟨ρ,y,en,h1,fun v H1 s1 r1=>⟨ρ,_,en.mono s1,h2,fun u H2 s2 r2=>?_⟩⟩
     cases (show u=_ from r2)
     exact ⟨i,rfl,amq q' (Rep.mono s2 _ _ r1) fun v H' s r=>k v H' (s1.trans (s2.trans s)) r⟩
def Zc (fa fb:RP):RP:=fun ρ=>(fa ρ).bind fun p=>(fb ρ).bind fun q=>(inI q).bind fun i=>agK p (some i) none
theorem ah5 (ha:PD X a fa) (hb:PD X b fb):PD X (.Subscript a (.Slice (some b) none none p2) pos) (Zc fa fb):=by
 with_unfolding_all
  refine PE.imp (acs (alL.or agJ) ha (aeM hb) aeL) fun σ H Q ⟨ρ,d,en,q,k⟩=>?_
  cases h1:fa ρ with
  | none=>simp [Zc,h1] at q
  | some y=>
   cases h2:fb ρ with
   | none=>simp [Zc,h1,h2] at q
   | some z=>
    cases h3:inI z with
    | none=>simp [Zc,h1,h2,h3] at q
    | some i=>
     have q':agK y (some i) none=some d:=by simpa [Zc,h1,h2,h3] using q
     have hz:=agH h3
     subst hz
     refine ⟨ρ,y,en,h1,fun v H1 s1 r1=>⟨ρ,_,en.mono s1,h2,fun u H2 s2 r2=>?_⟩⟩
     cases (show u=_ from r2)
     exact ⟨i,rfl,amq q' (Rep.mono s2 _ _ r1) fun v H' s r=>k v H' (s1.trans (s2.trans s)) r⟩
end
section
variable {X:Cx}
end
section
variable {X:Cx}
end
section
variable {X:Cx}{e a b c:Expr}{fa fb fc:RP}{pos p2:Pos}
end
def Ite (K:Fg) (l:Addr):It:=
 ⟨fun i H=>∃ xs x,SqL K H l xs/\xs[i]?=some x,
  fun i H u H'=>∃ p x,u= .ref p/\H p=none/\H'=upd H p (.tup [.int (i:Int),x])/\∀ xs,SqL K H l xs->xs[i]?=some x,
  fun i H=>∃ xs,SqL K H l xs/\xs.length<=i⟩
theorem akA {P:Program}{w:World}{K:Fg}{elts:List Expr}{x1:Nat}{pos:Pos}{e it l:Addr} (hei:e ≠ it):
  Turn P w K (.Tuple elts x1 pos) (Ite K l) [e,it] e (fun i h=>(∃ old,IsEnum h e it i old)/\h.IsListIter it l i) where
 mem:=by simp
 obj:=fun i h st b hb=>by
  obtain ⟨⟨old,he⟩,⟨o,ho,hc,hd⟩⟩:=st
  simp only [List.mem_cons,List.not_mem_nil,or_false] at hb
  rcases hb with rfl | rfl
  ·exact ⟨_,he,fun v q=>by cases q⟩
  ·exact ⟨o,ho,fun v q=>by rw [hd] at q; cases q⟩
 keep:=fun i h h' st k=>by
  obtain ⟨⟨old,he⟩,⟨o,ho,r⟩⟩:=st
  exact ⟨⟨old,k e (by simp) _ he⟩,o,k it (by simp) o ho,r⟩
 item:=by
  intro X hP hw hK hc i Kp s σ H E I hf st hg
  subst hP hw hK
  obtain ⟨xs,x,q1,ex⟩:=hg
  obtain ⟨us1,r1,p1,_⟩:=I.list q1
  have p1:=p1.isList
  obtain ⟨u1,m1,l1⟩:=r1.get ex
  obtain ⟨⟨old,he⟩,hit⟩:=st
  refine wpAny_pyNext_enum_item he hit p1 (by simpa using m1) hei fun h1 ho hit1 hT hsz hk=>⟨_,rfl,?_⟩
  refine wpAny_letOwnedTupleGo_enum (s:={ s with heap:=h1,toks:=s.toks+1 }) ho fun h2 he2 hs2=>?_
  have nT:H s.heap.objs.size=none:=I.hok.fresh (Nat.le_refl _)
  have elt:e<s.heap.objs.size:=Heap.lt_size he
  have B2:∀ b o,b ∉ [e,it]->s.heap.get? b=some o->h2.get? b=some o:=fun b o hb q=>by
   simp only [List.mem_cons,List.not_mem_nil,or_false,not_or] at hb
   exact (hs2.2 b hb.1).trans (hk b o hb.1 hb.2 q)
  have T2:h2.get? s.heap.objs.size=some { cls:= .type "tuple",data:= .seq #[.int i s.toks,u1] }:=(hs2.2 _ (Nat.ne_of_gt elt)).trans hT
  have hit2:h2.IsListIter it l (i+1):=by
   obtain ⟨o,ho',r⟩:=hit1
   exact ⟨o,(hs2.2 it hei.symm).trans ho',r⟩
  have ntr:∀ b u,H b=some u->b ∉ [e,it]:=fun b u q hb=>by
   have:=(hf b hb).1
   rw [q] at this; cases this
  have neT:∀ b u,H b=some u->b ≠ s.heap.objs.size:=fun b u e q=>by rw [q,nT] at e; cases e
  have hok2:HOk X.prog X.w (upd H s.heap.objs.size (.tup [.int (i:Int),x])) h2:=fun b u q=>by
   by_cases hb:b=s.heap.objs.size
   ·subst hb
    rw [ji] at q
    cases q
    exact ⟨by show 2<=sizeLine; rw [sizeLine_eq]; decide,[.int i s.toks,u1],.cons ⟨_,rfl⟩ (.cons l1 .nil),⟨_,T2,rfl,_,rfl⟩⟩
   ·rw [jo hb] at q
    refine (I.hok b u q).stay (fun c o hc' z=>B2 c o ?_ z) (fun c z=>by rw [jo (neT c _ z)]; exact z) fun c ws z=>by rw [jo (neT c _ z)]; exact z
    rcases hc' with q' | q'
    ·rw [q']; exact ntr b u q
    ·exact ntr c _ q'
  have I2:Inv X Kp σ (upd H s.heap.objs.size (.tup [.int (i:Int),x])) { s with heap:=h2,toks:=s.toks+1 }:=by
   refine I.step (g':=s.gens) (d':=s.drawn) (ch:=[e,it]) (fun b hb=>?_) (fun b o _ _ hb q _=>B2 b o hb q) (fun b o _ _ hb q _=>⟨o.slots,B2 b o hb q⟩) (fun b o hb q n=>?_) (fun b o hb q=>⟨o,B2 b o hb q⟩)
    (fun b ws q=>by rw [jo (neT b _ q)]; exact q) (fun b ob ws q=>by rw [jo (neT b _ q)]; exact q) (fun b ps q=>⟨#[],by rw [jo (neT b _ q),q]; simp⟩) (fun m hm=>?_) hok2 I.bare
   ·obtain ⟨f0,f1,f2,f3,f4,f5⟩:=hf b hb
    exact ⟨f3,f1,f4,f5⟩
   ·rw [jo (Nat.ne_of_lt (Heap.lt_size q))]; exact n
   ·obtain ⟨o,es,ep,ho',r⟩:=hm
    refine ⟨o,es,ep,B2 _ o (fun hb=>?_) ho',r⟩
    exact (hf _ hb).2.1 rfl
  refine ⟨.ref s.heap.objs.size,_,I2,rfl,⟨_,x,rfl,nT,rfl,fun as g1=>?_⟩,⟨⟨_,by simpa using he2⟩,hit2⟩,fun b hb=>?_⟩
  ·rw [I.list_inj g1 q1]; exact ex
  ·have hlt:b<s.heap.objs.size:=by
    simp only [List.mem_cons,List.not_mem_nil,or_false] at hb
    rcases hb with rfl | rfl
    ·exact elt
    ·obtain ⟨o,ho',_⟩:=hit; exact Heap.lt_size ho'
   rw [jo (Nat.ne_of_lt hlt)]
   exact (hf b hb).1
 done:=by
  intro X hP hw hK hc i Kp s σ H E I hf st hg
  subst hP hw hK
  obtain ⟨xs,q1,hl⟩:=hg
  obtain ⟨us1,r1,p1,_⟩:=I.list q1
  have p1:=p1.isList
  have hlen:=r1.length
  obtain ⟨⟨old,he⟩,hit⟩:=st
  refine wpAny_pyNext_enum_end (I.ok.hd hc) he hit p1 (by simp; omega) fun h1 hx=>⟨rfl,?_⟩
  have ntr:∀ b u,H b=some u->b ≠ it:=fun b u q hb=>by
   have:=(hf it (by simp)).1
   rw [hb] at q
   rw [q] at this; cases this
  refine I.step (t':=s.toks) (g':=s.gens) (d':=s.drawn) (ch:=[it]) (fun b hb=>?_) (fun b o _ _ hb q _=>hx b o (by simpa using hb) q) (fun b o _ _ hb q _=>⟨o.slots,hx b o (by simpa using hb) q⟩) (fun b o hb q n=>n) (fun b o hb q=>⟨o,hx b o (by simpa using hb) q⟩)
   (fun b ws q=>q) (fun b ob ws q=>q) (fun b ps q=>⟨#[],by rw [q]; simp⟩) (fun m hm=>?_) (fun b u q=>?_) I.bare
  ·obtain ⟨f0,f1,f2,f3,f4,f5⟩:=hf b (by simp only [List.mem_cons,List.not_mem_nil,or_false] at hb ⊢; exact .inr hb)
   exact ⟨f3,f1,f4,f5⟩
  ·obtain ⟨o,es,ep,ho,r⟩:=hm
   refine ⟨o,es,ep,hx _ o (fun hb=>?_) ho,r⟩
   exact (hf it (by simp)).2.1 hb.symm
  ·refine (I.hok b u q).stay (fun c o hc' z=>hx c o ?_ z) (fun c z=>z) fun c ws z=>z
   rcases hc' with q' | q'
   ·rw [q']; exact ntr b u q
   ·exact ntr c _ q'
 self:=fun _ _ _ _ _ st h=>by
  obtain ⟨⟨old,he⟩,_⟩:=st
  exact wpAny_pyIter_enum he h
section
variable {X:Cx}
def asD (K:Fg) (ta:TA):TI:=fun σ H R=>ta σ H fun vs H1=>∃ a xs,vs=[.ref a]/\SqL K H1 a xs/\R (Ite K a) H1
theorem aoK {ea:Expr}{elts:List Expr}{x1:Nat}{tp:Pos}{ta:TA}{p pos:Pos} (hg:Gl X "enumerate") (hm:X.mg "enumerate"=none) (ha:PA X [ea] ta)
  (hs:starEach [ea] X.env=[(false,eval ea X.env)]:=by rfl):
  PI X (.Tuple elts x1 tp) (.Call (.Name "enumerate" p) [ea] [] pos) (asD X.K ta):=by
 intro Kp s σ H R I h
 refine Call_ (JW I hg hm boot_enumerate (PyProof.Rows.callWith_type1 (thn (ha pos Kp s σ H _ I h) fun us s1 ⟨vs,H1,I1,r1,q1⟩=>?_) (by rw [hs]; rfl) (by rfl)))
 obtain ⟨a,xs,e,q1,q⟩:=q1
 subst e
 cases r1 with
 | cons r1 rr=>
  cases rr
  cases r1
  obtain ⟨us1,v1,p1,_⟩:=I1.list q1
  refine call_enumerate_list p1.isList fun h' he hit hz kp=>?_
  refine wpAny_pyIter_enum he ?_
  have I2:Inv X Kp σ H1 { s1 with heap:=h' }:=I1.kept (t':=s1.toks) kp
  refine ⟨_,[s1.heap.objs.size+1,s1.heap.objs.size],_,_,H1,rfl,I2,akA (e:=s1.heap.objs.size+1) (it:=s1.heap.objs.size) (l:=a) (Nat.succ_ne_self _),⟨⟨_,he⟩,hit⟩,fun x hx=>?_,q⟩
  have hle:s1.heap.objs.size<=x:=by
   simp only [List.mem_cons,List.not_mem_nil,or_false] at hx
   rcases hx with e | e <;> rw [e] <;> omega
  exact I1.fpOk hle (I1.hok.fresh hle)
noncomputable def Jk:Nat->LP->LP
 | _,[]=>[]
 | i,d::ds=> .tuple [.int (i:Int),d]::Jk (i+1) ds
def aah (ds:LP):Option (LP):=match ds with
 | [.list xs]=>some (Jk 0 xs)
 | _=>none
theorem adY:∀ (xs:LP) (k:Nat),(Jk k xs).length=xs.length
 | [],_=>rfl
 | _::xs,k=>by simp [Jk,adY xs]
theorem adZ:∀ (xs:LP) (k i:Nat) (d:PyData),(Jk k xs)[i]?=some d->∃ x,xs[i]?=some x/\d= .tuple [.int ((k+i:Nat):Int),x]
 | [],_,_,_,h=>by simp [Jk] at h
 | x::xs,k,0,d,h=>by simp [Jk] at h; exact ⟨x,rfl,h.symm⟩
 | x::xs,k,i+1,d,h=>by
  simp only [Jk,zzB] at h
  obtain ⟨y,h1,h2⟩:=adZ xs (k+1) i d h
  exact ⟨y,by simpa using h1,by rw [h2,show k+1+i=k+(i+1) by omega]⟩
theorem agL {ea:Expr}{elts:List Expr}{x1:Nat}{tp:Pos}{p pos:Pos}{fr:Rho->Option (LP)} (hm:X.mg "enumerate"=none) (ha:PAD X [ea] fr) (hg:Gl X "enumerate":=by rfl)
  (hs:starEach [ea] X.env=[(false,eval ea X.env)]:=by rfl):
  PID X (.Tuple elts x1 tp) (.Call (.Name "enumerate" p) [ea] [] pos) (fun ρ=>(fr ρ).bind aah):=by
 with_unfolding_all
  refine PI.imp (aoK hg hm ha hs) fun σ H R ⟨ρ,ds,en,q,k⟩=>?_
  cases h1:fr ρ with
  | none=>simp [h1] at q
  | some as=>
   have q':aah as=some ds:=by simpa [h1] using q
   refine ⟨ρ,as,en,h1,fun vs H1 s1 r1=>?_⟩
   unfold aah at q'
   split at q'
   ·rename_i xs
    cases q'
    obtain ⟨v1,w1,e1,rp,e4⟩:=r1
    cases (show w1=[] from e4)
    obtain ⟨a,us,g1,g2,ra⟩:=rp
    subst g1
    have l1:=ra.length
    have lz:=adY xs 0
    have qa:SqL X.K H1 a us:=SqL.of g2
    refine ⟨a,us,e1,qa,k _ H1 s1 fun i H2 s2=>⟨fun hi=>?_,fun hi=>?_,fun u H3 y=>?_⟩⟩
    ·rw [lz] at hi
     exact ⟨us,us[i]'(by omega),jx.sql s2 qa,by simp <;> omega⟩
    ·rw [lz] at hi
     exact ⟨us,jx.sql s2 qa,by omega⟩
    ·obtain ⟨pp,x,e5,e6,e7,e8⟩:=y
     subst e5; subst e7
     refine ⟨jI e6,fun d hd=>?_⟩
     obtain ⟨dx,g3,g4⟩:=adZ xs 0 i d hd
     subst g4
     have f1:=e8 us (jx.sql s2 qa)
     have m:=s2.trans (jp.a (jI (o:= .tup [.int (i:Int),x]) e6))
     obtain ⟨x',a1,a2⟩:=(Reps.monoA m _ _ ra).get g3
     rw [f1] at a1; cases a1
     exact ⟨pp,[.int (i:Int),x],rfl,SqT.of ji,_,_,rfl,by show V.int (i:Int)=V.int ((0+i:Nat):Int); rw [Nat.zero_add],x,_,rfl,a2,rfl⟩
   ·cases q'
end
section
variable {X:Cx}{e:Expr}{es:List Expr}{pos p:Pos}
theorem ams {CX:CXT}{k i:Nat}{f:Addr}{fd:FuncData}{ps:List Str}{sp:Sp}{E:XK}{x y:Str}{t:TA} (F:FnOk X.prog X.w X.K X.mg X.base CX k f fd ps sp) (hr:Room k X.A) (hm:X.mg x=some (.ref f)) (hk:PySem.W.keepIn X.K (.ref f)=true) (hb:zW X.K fd ps []) (hx:aeI CX X E)
  (hN:X.N[i]?=some y) (hv:Vis X.env.scope y) (ha:PA X (e::es) t) (hdb:(y == ("__debug__":Str))=false:=by decide) (hcd:(y == ("__classdict__":Str))=false:=by decide) (he:starEach (e::es) X.env=(false,eval e X.env)::starEach es X.env:=by rfl) (hpl:(backTo pos (starEach es X.env)).any (·.1)=false:=by rfl):
  PE X (.Call (.Name y p) (e::es) [] pos) (fun σ H Q=>an1 i σ H fun v H1=>(∃ a,v= .ref a/\PySem.W.nsIn X.K mainGlobals x=some (some (.ref a)))/\apW sp [] E t σ H1 Q):=by
 intro Kp s σ H Q I h
 refine wpAny_Call_Name_kw (thn (Jt hN hv hdb hcd Kp s σ H _ I h) fun u s1 ⟨v,H1,I1,rv,⟨a,ev,ea⟩,q⟩=>?_)
 subst ev
 cases rv
 have hf:=(PySem.W.mg_of I1.mod.kin I1.mod.glob ea).symm.trans hm
 cases hf
 refine PySem.W.callWith_K (h₀:=X.base) I1.ok.mod.kin hk (thn (ha pos Kp s1 σ H1 _ I1 q) fun us s2 ⟨vs,H2,I2,r,q2⟩=>⟨I2.kIn,?_⟩) he hpl
 exact aeJ F hr hb .nil hx I2 r q2
noncomputable def abw (x:Str):PyData->Bool
 | .dict [(.str y,.none)]=>decide (y=x)
 | _=>false
theorem agM {x:Str}{d:PyData} (h:abw x d=true):d=fnD x:=by
 unfold abw at h
 split at h
 ·rw [of_decide_eq_true h]; rfl
 ·cases h
@[simp] theorem acI (x:Str):abw x (fnD x)=true:=by simp [abw,fnD]
def ah6 (i:Nat) (x:Str) (g:LP->OP) (fr:Rho->Option (LP)):RP:=fun ρ=>(lkp i ρ).bind fun d=>if abw x d=true then (fr ρ).bind g else none
theorem ajk {K:Fg}{H:Hp}{x:Str}{v:V} (h:Rep K H (fnD x) v):∃ a,v= .ref a/\PySem.W.nsIn K mainGlobals x=some (some (.ref a)):=by
 obtain ⟨a,h1,⟨ns,h2,h3⟩ | ⟨ks,ob,h2,h3⟩ | ⟨y,h2,h3⟩ | ⟨y,_,_,h2,_⟩ | h2⟩:=h
 ·cases ns with
  | nil=>cases h3
  | cons n ns=>cases h3
 ·exact h3.elim
 ·cases h2
  exact ⟨a,h1,h3⟩
 ·cases h2
 ·cases h2
theorem agN {k j n:Nat} (i:Nat) {ps:List Str}{g:LP->OP}{x y:Str}{fr:Rho->Option (LP)} (c:jm X.prog X.w X.K X.mg X.base x ps k n g) (hr:Room j X.A) (hkj:k<=j) (ha:PAD X (e::es) fr)
  (hl:∀ (ρ:Rho) (ds:LP),fr ρ=some ds->ds.length=n) (hn:(e::es).length=n:=by rfl) (hN:X.N[i]?=some y:=by rfl) (hv:Vis X.env.scope y:=by first | exact Or.inl rfl | exact Or.inr (Or.inl rfl) | exact Or.inr (Or.inr rfl))
  (hdb:(y == ("__debug__":Str))=false:=by decide) (hcd:(y == ("__classdict__":Str))=false:=by decide) (he:starEach (e::es) X.env=(false,eval e X.env)::starEach es X.env:=by rfl)
  (hpl:(backTo pos (starEach es X.env)).any (·.1)=false:=by rfl):PD X (.Call (.Name y p) (e::es) [] pos) (ah6 i x g fr):=by
 with_unfolding_all
  obtain ⟨f,fd,c1,c2,c3,c4⟩:=c
  refine PE.imp (ams c1 (hr.mono hkj) c2 c3 c4 adN hN hv ha hdb hcd he hpl) fun σ H Q ⟨ρ,d,en,q,k⟩=>?_
  cases h0:lkp i ρ with
  | none=>simp [ah6,h0] at q
  | some d0=>
   cases hF:abw x d0 with
   | false=>simp [ah6,h0,hF] at q
   | true=>
    have:=agM hF
    subst this
    cases h1:fr ρ with
    | none=>simp [ah6,h0,hF,h1] at q
    | some ds=>
     have q':g ds=some d:=by simpa [ah6,h0,hF,h1] using q
     obtain ⟨v,e1,e2⟩:=en.at' i _ (qv h0)
     refine ⟨v,e1,ajk e2,ρ,ds,en,h1,fun vs H1 s1 r1=>?_⟩
     exact ⟨ds,d,hl ρ ds h1,by rw [List.append_nil]; exact r1,q',fun v H' s r=>k v H' (s1.trans s) r⟩
end
@[irreducible] def PAX (X:Cx) (es:List Expr) (fx:Rho->Option Str):Prop:=∀ (pos:Pos) (s:Shared) (σ:St) (H:Hp) (ρ:Rho) (c:Str),Inv X [] σ H s->EnvR X.K H ρ σ->fx ρ=some c->(∀ ev s',Thr X H c ev s'->X.xe ev s')->wpAny (model X.prog X.w) X.A (spliced (backTo pos (starEach es X.env))) (fun _ _=>False) X.xe s
section
variable {X:Cx}{e a b c:Expr}{es:List Expr}{fa:RP}{fx gx:Rho->Option Str}{pos:Pos}
theorem amt (h:PDX X e fx) (hs:starEach (e::es) X.env=(false,eval e X.env)::starEach es X.env:=by rfl):PAX X (e::es) fx:=by
 with_unfolding_all
  intro pos s σ H ρ c I en q k
  rw [hs]
  show wpAny _ _ (spliced ((false,eval e X.env)::backTo pos (starEach es X.env))) _ _ s
  exact Calls.spliced_cons (wpAny_mono (h s σ H ρ c I en q k) (fun _ _ z=>z.elim) fun _ _ z=>z)
def aoL (fa:RP) (gx:Rho->Option Str):Rho->Option Str:=fun ρ=>(fa ρ).bind fun _=>gx ρ
theorem amu (ha:PD X e fa) (h:PAX X es gx) (hs:starEach (e::es) X.env=(false,eval e X.env)::starEach es X.env:=by rfl):PAX X (e::es) (aoL fa gx):=by
 with_unfolding_all
  intro pos s σ H ρ c I en q k
  cases h1:fa ρ with
  | none=>simp [aoL,h1] at q
  | some d=>
   have q':gx ρ=some c:=by simpa [aoL,h1] using q
   rw [hs]
   show wpAny _ _ (spliced ((false,eval e X.env)::backTo pos (starEach es X.env))) _ _ s
   refine Calls.spliced_cons (wpAny_mono (ha [] s σ H (fun v H'=>jp H H'/\Rep X.K H' d v) I ⟨ρ,d,en,h1,fun v H' s1 r=>⟨s1,r⟩⟩) (fun u s1 z=>?_) fun _ _ z=>z)
   obtain ⟨v,H1,I1,_,sm,_⟩:=z
   exact wpAny_mono (h pos s1 σ H1 ρ c I1 (en.mono sm) q' fun ev s' t=>k ev s' (t.mono sm)) (fun _ _ z=>z.elim) fun _ _ z=>z
theorem amv {k n:Nat}{ps:List Str}{g:LP->OP}{x:Str}{p:Pos} (C:jm X.prog X.w X.K X.mg X.base x ps k n g) (ha:PAX X (e::es) fx)
  (hg:Gl X x:=by rfl) (hdb:(x == ("__debug__":Str))=false:=by decide) (he:starEach (e::es) X.env=(false,eval e X.env)::starEach es X.env:=by rfl)
  (hpl:(backTo pos (starEach es X.env)).any (·.1)=false:=by rfl):PDX X (.Call (.Name x p) (e::es) [] pos) fx:=by
 with_unfolding_all
  intro s σ H ρ c I en q k'
  obtain ⟨f,fd,_,hm,hk,_⟩:=C
  refine wpAny_Call_Name_kw (Ql I hg hm ?_ hdb)
  exact PySem.W.callWith_K (h₀:=X.base) I.ok.mod.kin hk (wpAny_mono (ha pos s σ H ρ c I en q k') (fun _ _ z=>z.elim) fun _ _ z=>z) he hpl
end
@[irreducible] def aq3 (X:Cx) (own:Option Nat) (st:Stmt) (fx:Rho->Option Str):Prop:=∀ (s:Shared) (σ:St) (H Hs:Hp) (ρ:Rho) (c:Str),Inv X [] σ H s->EnvO X.prog X.w X.K Hs H own ρ σ->fx ρ=some c->(∀ ev s',Thr X Hs c ev s'->X.xe ev s')->wpAny (model X.prog X.w) X.A (exec st X.env) (fun _ _=>False) X.xe s
@[irreducible] def acJ (X:Cx) (own:Option Nat) (sts:List Stmt) (fx:Rho->Option Str):Prop:=∀ (s:Shared) (σ:St) (H Hs:Hp) (ρ:Rho) (c:Str),Inv X [] σ H s->EnvO X.prog X.w X.K Hs H own ρ σ->fx ρ=some c->(∀ ev s',Thr X Hs c ev s'->X.xe ev s')->wpAny (model X.prog X.w) X.A (execs sts X.env) (fun _ _=>False) X.xe s
section
variable {X:Cx}{own:Option Nat}{e a b c tg src:Expr}{es:List Expr}{st:Stmt}{sts j9 body:List Stmt}{fx gx:Rho->Option Str}{F:RO}{fa:RP}{pos:Pos}
theorem acK (h:aq3 X own st fx):acJ X own (st::j9) fx:=by
 with_unfolding_all
  intro s σ H Hs ρ c I E q k
  exact wpAny_execs_cons (wpAny_mono (h s σ H Hs ρ c I E q k) (fun _ _ z=>z.elim) fun _ _ z=>z)
theorem ah7 (h1:PSO X own st F) (h2:acJ X own j9 gx):acJ X own (st::j9) (nxX F gx):=by
 with_unfolding_all
  intro s σ H Hs ρ c I E q k
  cases hF:F ρ with
  | none=>simp [nxX,hF] at q
  | some o=>
   cases o with
   | nx ρ'=>
    have q':gx ρ'=some c:=by simpa [nxX,hF] using q
    refine wpAny_execs_cons (wpAny_mono (h1 [] s σ H { nx:=fun σ' H'=>EnvO X.prog X.w X.K Hs H' own ρ' σ',rt:=fun _ _=>False,bk:=fun _ _=>False,ct:=fun _ _=>False } I ⟨Hs,ρ,.nx ρ',E,hF,fun σ' H' e1=>e1⟩) (fun f s1 z=>?_) fun _ _ z=>z)
    cases f with
    | next=>
     obtain ⟨σ',H',I',e1⟩:=z
     exact wpAny_mono (h2 s1 σ' H' Hs ρ' c I' e1 q' k) (fun _ _ z=>z.elim) fun _ _ z=>z
    | brk=>obtain ⟨_,_,_,z⟩:=z; exact z.elim
    | cont=>obtain ⟨_,_,_,z⟩:=z; exact z.elim
    | ret u=>obtain ⟨_,_,_,_,_,z⟩:=z; exact z.elim
   | _=>simp [nxX,hF] at q
def aq4 (own:Option Nat) (fx:Rho->Option Str):Rho->Option Str:=fun ρ=>fx (hid own ρ)
theorem amw {x:Str}{pos':Pos} (h:PDX X e fx) (hs:swapsWith e (some (.Name x pos')) pos.line X.env=pure false:=by rfl):aq3 X own (.Assign [.Name x pos'] e pos) (aq4 own fx):=by
 with_unfolding_all
  intro s σ H Hs ρ c I E q k
  exact wpAny_Assign_Name (wpAny_mono (h s σ H (hid own ρ) c I E.hid q fun ev s' t=>k ev s' (t.mono E.sm)) (fun _ _ z=>z.elim) fun _ _ z=>z) hs
theorem amx (h:acJ X none sts fx):abE X sts fx:=by
 with_unfolding_all
  intro s σ H ρ c I en q k
  exact h s σ H H ρ c I (EnvO.of en (jp.refl H)) q k
def ah8 (i:Nat) (f:RP) (gx:Rho->Option Str):Rho->Option Str:=fun ρ=>(f ρ).bind fun d=>if i < ρ.length then gx (ρ.set i (some d)) else none
theorem akB (i:Nat) {x:Str}{pos':Pos} (hN:X.N.Nodup) (he:PN X e fa) (h:acJ X (some i) j9 gx) (hi:X.N[i]?=some x:=by rfl) (hx:Loc X.env.scope x:=by first | exact Or.inl rfl | exact Or.inr rfl) (hs:swapsWith e (some (.Name x pos')) pos.line X.env=pure false:=by rfl)
  (hf:X.fn x=true ∨ X.env.scope.names.lookup x=some .local:=by first | exact .inl rfl | exact .inr rfl | assumption):acJ X none (.Assign [.Name x pos'] e pos::j9) (ah8 i fa gx):=by
 with_unfolding_all
  intro s σ H Hs ρ c I E q k
  cases h1:fa ρ with
  | none=>simp [ah8,h1] at q
  | some d=>
   by_cases hl:i < ρ.length
   ·have q':gx (ρ.set i (some d))=some c:=by simpa [ah8,h1,hl] using q
    refine wpAny_execs_cons (wpAny_mono (ZL hN hi hx he hs hf [] s σ H { nx:=fun σ' H'=>EnvO X.prog X.w X.K Hs H' (some i) (ρ.set i (some d)) σ',rt:=fun _ _=>False,bk:=fun _ _=>False,ct:=fun _ _=>False } I
     ⟨ρ,d,E.to,h1,fun a H' s hn ow=>⟨by simp [E.len],E.sm.trans s,fun j y q n=>?_,fun j n=>?_⟩⟩) (fun f s1 z=>?_) fun _ _ z=>z)
    ·have hj:i ≠ j:=fun z=>n (by rw [z])
     rw [List.getElem?_set_ne hj] at q ⊢
     obtain ⟨v,g1,g2⟩:=E.pl j y q (fun z=>nomatch z)
     exact ⟨v,g1,Rep.mono s _ _ g2⟩
    ·cases n
     refine ⟨d,a,by rw [List.getElem?_set_self hl],by rw [List.getElem?_set_self (by rw [←E.len]; exact hl)],E.sm.free hn,ow⟩
    ·cases f with
     | next=>
      obtain ⟨σ',H',I',e1⟩:=z
      exact wpAny_mono (h s1 σ' H' Hs _ c I' e1 q' k) (fun _ _ z=>z.elim) fun _ _ z=>z
     | brk=>obtain ⟨_,_,_,z⟩:=z; exact z.elim
     | cont=>obtain ⟨_,_,_,z⟩:=z; exact z.elim
     | ret u=>obtain ⟨_,_,_,_,_,z⟩:=z; exact z.elim
   ·simp [ah8,h1,hl] at q
theorem Thr.unwish {W:Value->SP0}{Hb Hs:Hp}{c:Str}{ev:Value}{s':Shared} (sb:∀ H3,jp Hb H3->jp Hs H3) (h:Thr (X.wish W) Hb c ev s'):Thr X Hs c ev s':=by
 obtain ⟨e,C,σ',H',h1,h2,h3,h4,h5⟩:=h
 exact ⟨e,C,σ',H',h1,h2,h3.unwish,sb _ h4,h5.unwish⟩
def Qf (ga:PyData->Rho->Option Rho) (F:RO) (fx:Rho->Option Str):LP->Rho->Option Str
 | [],_=>none
 | d::r,ρ=>(ga d ρ).bind fun ρ1=>match F ρ1 with
  | some (.nx ρ2)=>Qf ga F fx r ρ2
  | some _=>none
  | none=>fx ρ1
def agO (fi:Rho->Option (LP)) (ga:PyData->Rho->Option Rho) (F:RO) (fx:Rho->Option Str):Rho->Option Str:=fun ρ=>(fi ρ).bind fun ds=>Qf ga F fx ds ρ
theorem amy {fi:Rho->Option (LP)}{ga:PyData->Rho->Option Rho} (T0:Top0 X) (hc:X.calm=true) (hi:∀ W,PID (X.wish W) tg src fi) (hg:∀ W,PGO (X.wish W) own tg ga) (hb:∀ W,adx (X.wish W) own body F) (hx:∀ W,acJ (X.wish W) own body fx)
  (hs:∀ x,foldedSetIterable src X.env x=pure x:=by intro _; rfl):aq3 X own (.For tg src body [] pos) (agO (fun ρ=>fi (hid own ρ)) ga F fx):=by
 with_unfolding_all
  intro s σ H Hs ρ c I E q k
  cases h1:fi (hid own ρ) with
  | none=>simp [agO,h1] at q
  | some ds=>
   have q':Qf ga F fx ds ρ=some c:=by simpa [agO,h1] using q
   let W:Value->SP0:=fun ev s'=>Thr X Hs c ev s'
   have hp:PassesOwn (model X.prog X.w) X.A X.env W:=aq2 (X:=X) T0 I.ok.frames fun ev s' t=>by
    obtain ⟨e,C,σ',H',h1,h2,h3,h4,h5⟩:=t
    exact ⟨e,C,σ',H',h1,h3,h5,fun s'' J xt=>⟨e,C,σ',H',h1,h2,J,h4,xt.c⟩⟩
   have hb':PSs (X.wish W) body (fun D σ H=>(∃ Hs ρ o,EnvO X.prog X.w X.K Hs H own ρ σ/\F ρ=some o/\(match o with
     | .nx ρ'=>∀ σ' H',EnvO X.prog X.w X.K Hs H' own ρ' σ'->D.nx σ' H'
     | _=>False)) ∨ ∃ Hs ρ c,EnvO X.prog X.w X.K Hs H own ρ σ/\fx ρ=some c/\∀ ev s',Thr (X.wish W) Hs c ev s'->W ev s'):=by
    intro Kp s σ H D I h
    rcases h with ⟨Hs,ρ,o,E,q,k⟩ | ⟨Hs,ρ,c,E,q,k⟩
    ·cases o with
     | nx ρ'=>exact hb W Kp s σ H D I ⟨Hs,ρ,.nx ρ',E,q,k⟩
     | _=>exact k.elim
    ·exact wpAny_mono (hx W s σ H Hs ρ c (I.pins_of fun p hp=>nomatch hp) E q k) (fun _ _ z=>z.elim) fun _ _ z=>z
   refine wpAny_mono (aaK (X:=X.wish W) hp hc (hi W) (hg W) hb' hs [] s σ H { nx:=fun _ _=>False,rt:=fun _ _=>False,bk:=fun _ _=>False,ct:=fun _ _=>False } (I.wish W)
    ⟨hid own ρ,ds,E.hid,h1,fun J H1 s1 Y=>?_⟩) (fun f s1 z=>?_) fun ev s' z=>k ev s' z
   ·obtain ⟨Hb,Eb,sE,back,sb⟩:=(E.mono s1).rebase
    refine ⟨fun i m σ H2=>m=ds.length - i/\i<=ds.length/\∃ ρ2,EnvO X.prog X.w X.K Hb H2 own ρ2 σ/\Qf ga F fx (ds.drop i) ρ2=some c,⟨ds.length,by simp,Nat.zero_le _,ρ,Eb,by simpa using q'⟩,?_⟩
    rintro i m σ2 H2 ⟨rfl,hi,ρ2,en2,q2⟩
    obtain ⟨g1,g2,g3⟩:=Y i H2 (j1.a (sE H2 en2.sm))
    by_cases hlt:i<ds.length
    ·right
     have hd:ds.drop i=ds[i]::ds.drop (i+1):=List.drop_eq_getElem_cons hlt
     rw [hd] at q2
     refine ⟨g1 hlt,fun σ3 H3=>∃ ρ3,EnvO X.prog X.w X.K Hb H3 own ρ3 σ3/\Qf ga F fx (ds.drop (i+1)) ρ3=some c,fun σ3 H3 ⟨ρ3,a2,a3⟩=>⟨ds.length - (i+1),by omega,rfl,hlt,ρ3,a2,a3⟩,fun x H3 y=>?_⟩
     obtain ⟨s3,r3⟩:=g3 x H3 y
     have r3':=r3 ds[i] (by simp [hlt])
     cases h4:ga ds[i] ρ2 with
     | none=>simp [Qf,h4] at q2
     | some ρ4=>
      refine ⟨Hb,ρ2,ds[i],ρ4,en2.mono s3,r3',h4,fun σ5 H5 en5=>?_⟩
      cases h5:F ρ4 with
      | none=>
       have q3:fx ρ4=some c:=by simpa [Qf,h4,h5] using q2
       exact .inr ⟨Hb,ρ4,c,en5,q3,fun ev s' t=>Thr.unwish sb t⟩
      | some p=>
       cases p with
       | nx ρ6=>exact .inl ⟨Hb,ρ4,.nx ρ6,en5,h5,fun σ6 H6 en6=>⟨ρ6,en6,by simpa [Qf,h4,h5] using q2⟩⟩
       | _=>simp [Qf,h4,h5] at q2
    ·exfalso
     have he:i=ds.length:=by omega
     have hn:ds.drop i=[]:=by rw [he]; simp
     rw [hn] at q2
     cases q2
   ·cases f with
    | next=>obtain ⟨_,_,_,z⟩:=z; exact z.elim
    | brk=>obtain ⟨_,_,_,z⟩:=z; exact z.elim
    | cont=>obtain ⟨_,_,_,z⟩:=z; exact z.elim
    | ret u=>obtain ⟨_,_,_,_,_,z⟩:=z; exact z.elim
end
section
variable {X:Cx}{e a b c:Expr}{es:List Expr}{st:Stmt}{sts j9:List Stmt}{fx gx:Rho->Option Str}{F:RO}{pos p:Pos}
def orX (fx gx:Rho->Option Str):Rho->Option Str:=fun ρ=>match fx ρ with
 | some c=>some c
 | none=>gx ρ
theorem zT (h1:abE X sts fx) (h2:abE X sts gx):abE X sts (orX fx gx):=by
 with_unfolding_all
  intro s σ H ρ c I en q k
  cases hf:fx ρ with
  | some c'=>
   have:c'=c:=by simpa [orX,hf] using q
   subst this
   exact h1 s σ H ρ c' I en hf k
  | none=>exact h2 s σ H ρ c I en (by simpa [orX,hf] using q) k
def acL (i:Nat) (x:Str) (g:LP->Option Str) (fr:Rho->Option (LP)):Rho->Option Str:=fun ρ=>(lkp i ρ).bind fun d=>if abw x d=true then (fr ρ).bind g else none
theorem akC {k j n:Nat} (i:Nat) {ps:List Str}{g:LP->Option Str}{x y:Str}{fr:Rho->Option (LP)} (hxe:X.ex=[]) (C:qJ X.prog X.w X.K X.mg X.base x ps k n g) (hr:Room j X.A) (hkj:k<=j) (ha:PAD X (e::es) fr) (hl:∀ ρ ds,fr ρ=some ds->ds.length=n)
  (hN:X.N[i]?=some y:=by rfl) (hv:Vis X.env.scope y:=by first | exact Or.inl rfl | exact Or.inr (Or.inl rfl) | exact Or.inr (Or.inr rfl))
  (hdb:(y == ("__debug__":Str))=false:=by decide) (hcd:(y == ("__classdict__":Str))=false:=by decide) (he:starEach (e::es) X.env=(false,eval e X.env)::starEach es X.env:=by rfl)
  (hpl:(backTo pos (starEach es X.env)).any (·.1)=false:=by rfl):PDX X (.Call (.Name y p) (e::es) [] pos) (acL i x g fr):=by
 with_unfolding_all
  intro s σ H ρ c I en q k'
  obtain ⟨f,fd,F,hm,hk,hb⟩:=C
  cases h0:lkp i ρ with
  | none=>simp [acL,h0] at q
  | some d0=>
   cases hF:abw x d0 with
   | false=>simp [acL,h0,hF] at q
   | true=>
    have:=agM hF
    subst this
    cases hd:fr ρ with
    | none=>simp [acL,h0,hF,hd] at q
    | some ds=>
     have q':g ds=some c:=by simpa [acL,h0,hF,hd] using q
     obtain ⟨v0,e1,e2⟩:=en.at' i _ (qv h0)
     refine wpAny_Call_Name_kw (thn (Jt hN hv hdb hcd [] s σ H (fun v H1=>v=v0/\H1=H) I ⟨v0,e1,rfl,rfl⟩) fun u s1 ⟨v,H1,I1,rv,ev,eH⟩=>?_)
     subst ev; subst eH
     obtain ⟨a,ea,na⟩:=ajk e2
     subst ea
     cases rv
     have hf:=(PySem.W.mg_of I1.mod.kin I1.mod.glob na).symm.trans hm
     cases hf
     refine PySem.W.callWith_K (h₀:=X.base) I1.ok.mod.kin hk (thn (ha pos [] s1 σ H1 (fun vs H2=>jp H1 H2/\Reps X.K H2 ds vs) I1 ⟨ρ,ds,en,hd,fun vs H2 s1 r1=>⟨s1,r1⟩⟩) fun us s2 ⟨vs,H2,I2,r,sm,rd⟩=>⟨I2.kIn,?_⟩) he hpl
     have hn:ds.length=n:=hl ρ ds hd
     have sp:ah3 X.K X.mg n g vs H2 (fun _ _=>False) (fun cls _ H'=>X.mg c=some cls/\jp H2 H'):=⟨ds,c,hn,rd,q',fun C H' hC s2=>⟨hC,s2⟩⟩
     have hlu:(us++[]).length=ps.length:=by rw [List.append_nil,←r.length]; exact F.len _ _ _ _ sp
     have hbd:=hb s2 us I2.kIn hlu
     rw [List.append_nil] at hbd
     refine wpAny_call (codeAny_mono (F.run X.A X.stack s2 H2 ⟨us,[]⟩ us vs _ _ (hr.mono hkj) I2.env0 hbd r sp) fun rs s' hq=>?_)
     cases rs with
     | error ev=>
      obtain ⟨e0,C,H',rfl,os,bare,un,hok,xc,hC,sm2⟩:=hq
      have J':Inv X [] σ H' s':=I2.call' (ch:=[]) os un hok bare fun b z=>nomatch z
      exact k' _ _ ⟨e0,C,σ,H',rfl,hC,J',sm.trans sm2,Xc.of hxe I2 xc⟩
     | ok fl=>
      cases fl with
      | ret u=>obtain ⟨v,H',_,_,_,_,_,z⟩:=hq; exact z.elim
      | next=>exact False.elim hq
      | brk=>exact False.elim hq
      | cont=>exact False.elim hq
end
section
variable {X:Cx}{a b c:Expr}{tc ta tb:Rho->Option Bool}{pos:Pos}
end
section
variable {X:Cx}{a b:Expr}{fa fb:RP}
end
structure RoomH (k:Nat) (A:Around):Prop where
 dp:A.depth+3*k+5<recursionLimit
 un:A.units+16*k+200<cLine
theorem RoomH.deeper {k:Nat}{A:Around} (r:RoomH (k+1) A) (env:Env):RoomH k (A.deeper env):=
 ⟨by have:=r.dp; show A.depth+1+3*k+5<_; omega,by have:=r.un; show A.units+3+16*k+200<_; omega⟩
theorem RoomH.mark {k:Nat}{A:Around}{v:Option Value} (r:RoomH k A):RoomH k (A.mark v):=⟨r.dp,r.un⟩
structure FnH (P:Program) (w:World) (K:Fg) (mg:SV) (base:Heap) (k:Nat) (f:Addr) (fd:FuncData) (ps:List Str) (sp:Sp):Prop where
 len:∀ vs H Q E,sp vs H Q E->vs.length=ps.length
 run:∀ (A:Around) (Ko:List Env) (s:Shared) (H:Hp) (args:Args) (us:List Value) (vs:List V) (Q:VK) (E:XK),RoomH k A->Env0 P w K mg base A Ko s H->BindsTo s fd args (ps.zip us)->jG vs us->sp vs H Q E->
  codeAny (model P w) A (.call (.ref f) args) (CR CX0 Ko P w H s Q E) s
def atc (P:Program) (w:World) (K:Fg) (mg:SV) (base:Heap) (x:Str) (ps:List Str) (k n:Nat) (g:LP->OP):Prop:=
 ∃ (f:Addr) (fd:FuncData),FnH P w K mg base k f fd ps (Pur K n g)/\mg x=some (.ref f)/\PySem.W.keepIn K (.ref f)=true/\zW K fd ps []
section
variable {P:Program}{w:World}{K:Fg}{mg:SV}{base:Heap}
end
section
variable {X:Cx}{e:Expr}{es:List Expr}{pos:Pos}
end
structure ExcK (K:Fg) (C:Addr):Prop where
 exc:PySem.W.excIn K C vB "ValueError.__new__"=true
 ga:PySem.W.findIn K (.ref C) "__getattribute__"=some (some (.builtin "BaseException.__getattribute__"))
 gt:PySem.W.findIn K (.ref C) "__getattr__"=some none
 cl:PySem.W.findIn K (.ref C) "__class__"=some (some (.builtin "object.__class__"))
 mo:PySem.W.mroIn K C (.type "object")=some true
 mb:PySem.W.mroIn K C (.type "BaseException")=some true
structure ClsG (K:Fg):Prop where
 gt:PySem.W.specialIn K (.builtin "object.__class__") "__get__"=some (some (.builtin "getset_descriptor.__get__"))
 tk:PySem.W.takesIn K (.builtin "object.__class__")=some true
section
variable {prog:Program}{w:World}{A:Around}{E:Value->SP0}{s:Shared}{K:Fg}{a C:Addr}{oe:Obj}
end
noncomputable def adr (K:Fg) (c:Str):Option Addr:=match PySem.W.nsIn K mainGlobals c with
 | some (some (.ref C))=>some C
 | _=>none
theorem aoM {K:Fg}{c:Str}{C:Addr} (h:adr K c=some C):PySem.W.nsIn K mainGlobals c=some (some (.ref C)):=by
 unfold adr at h
 split at h
 ·rename_i q; cases h; exact q
 ·cases h
def aq5 (K:Fg) (C:Addr):Bool:=PySem.W.excIn K C vB "ValueError.__new__" && ((PySem.W.findIn K (.ref C) "__getattribute__" == some (some (.builtin "BaseException.__getattribute__"))) && ((PySem.W.findIn K (.ref C) "__getattr__" == some none) && ((PySem.W.findIn K (.ref C) "__class__" == some (some (.builtin "object.__class__"))) && ((PySem.W.mroIn K C (.type "object") == some true) && (PySem.W.mroIn K C (.type "BaseException") == some true)))))
theorem amz {K:Fg}{C:Addr} (h:aq5 K C=true):ExcK K C:=by
 unfold aq5 at h
 simp only [Bool.and_eq_true,beq_iff_eq] at h
 obtain ⟨h1,h2,h3,h4,h5,h6⟩:=h
 exact ⟨h1,h2,h3,h4,h5,h6⟩
def ae5 (K:Fg) (y:Str) (cs:List Str):Bool:=(PySem.W.specialIn K (.builtin "object.__class__") "__get__" == some (some (.builtin "getset_descriptor.__get__"))) && ((PySem.W.takesIn K (.builtin "object.__class__") == some true) && (match adr K y with
 | none=>false
 | some B=>(PySem.W.typeIn K (.ref B) == some (.type "type")) && ((PySem.W.mroIn K B (.type "BaseException") == some true) && cs.all fun c=>match adr K c with
  | none=>false
  | some C=>aq5 K C && ((PySem.W.mroIn K C (.ref B) == some true) && ((PySem.W.kitOne K (.ref C) (.type "ValueError") == some true) && cs.all fun d=>match adr K d with
   | none=>false
   | some D=>PySem.W.kitOne K (.ref C) (.ref D) == some (c == d))))))
structure ErrT (K:Fg) (mg:SV) (y:Str) (cs:List Str):Prop where
 tab:ae5 K y cs=true
 mgs:∀ c C,adr K c=some C->mg c=some (.ref C)
section
variable {K:Fg}{mg:SV}{y:Str}{cs:List Str}
theorem ErrT.g (h:ErrT K mg y cs):ClsG K:=by
 have:=h.tab
 unfold ae5 at this
 simp only [Bool.and_eq_true,beq_iff_eq] at this
 exact ⟨this.1,this.2.1⟩
theorem ErrT.par (h:ErrT K mg y cs):∃ B,adr K y=some B/\mg y=some (.ref B)/\PySem.W.typeIn K (.ref B)=some (.type "type")/\PySem.W.mroIn K B (.type "BaseException")=some true/\
  ∀ c ∈ cs,∃ C,adr K c=some C/\mg c=some (.ref C)/\ExcK K C/\PySem.W.mroIn K C (.ref B)=some true/\PySem.W.kitOne K (.ref C) (.type "ValueError")=some true/\∀ d ∈ cs,∃ D,adr K d=some D/\mg d=some (.ref D)/\PySem.W.kitOne K (.ref C) (.ref D)=some (c == d):=by
 have q:=h.tab
 unfold ae5 at q
 simp only [Bool.and_eq_true,beq_iff_eq] at q
 obtain ⟨_,_,q⟩:=q
 cases hB:adr K y with
 | none=>rw [hB] at q; cases q
 | some B=>
  rw [hB] at q
  simp only [Bool.and_eq_true,beq_iff_eq,List.all_eq_true] at q
  obtain ⟨q1,q2,q3⟩:=q
  refine ⟨B,rfl,h.mgs y B hB,q1,q2,fun c hc=>?_⟩
  have z:=q3 c hc
  cases hC:adr K c with
  | none=>rw [hC] at z; cases z
  | some C=>
   rw [hC] at z
   simp only [Bool.and_eq_true,beq_iff_eq,List.all_eq_true] at z
   obtain ⟨z1,z2,z3,z4⟩:=z
   refine ⟨C,rfl,h.mgs c C hC,amz z1,z2,z3,fun d hd=>?_⟩
   have v:=z4 d hd
   cases hD:adr K d with
   | none=>rw [hD] at v; cases v
   | some D=>
    rw [hD] at v
    exact ⟨D,rfl,h.mgs d D hD,beq_iff_eq.mp v⟩
theorem ErrT.err (h:ErrT K mg y cs) {c:Str} (hc:c ∈ cs):ZU K mg c:=by
 obtain ⟨B,_,_,_,_,q⟩:=h.par
 obtain ⟨C,_,q2,q3,_⟩:=q c hc
 exact ⟨C,q2,q3.exc⟩
end
noncomputable def asE:PyData->Option Str
 | .dict [(.str c,.bool true)]=>some c
 | _=>none
@[simp] theorem aq6 (c:Str):asE (atF c)=some c:=rfl
section
variable {X:Cx}{a:Expr}{fa:RP}{pos p p2:Pos}{y:Str}{cs:List Str}
end
section
variable {X:Cx}{σ:St}{H:Hp}{s:Shared}{e C:Addr}
theorem Inv.take {oe:Obj} (I:Inv X [] σ H s) (m:Mine X H e) (he:s.heap.get? e=some oe):Inv X [] σ (upd H e (.frz oe (.own e))) s/\jp H (upd H e (.frz oe (.own e))):=by
 have ne:∀ b o,H b=some o->b ≠ e:=fun b o q z=>by subst z; rw [m.un] at q; cases q
 have sm:jp H (upd H e (.frz oe (.own e))):=fun b o q=>by rw [jo (ne b o q)]; exact q
 have u:Un (frs X.stack) [e] H (upd H e (.frz oe (.own e))) s.heap s.heap:=⟨fun b o q _ _ _=>q,fun b o q _ _ _=>⟨o.slots,q⟩,fun b o q n nc=>by rw [jo (fun z=>nc (by simp [z]))]; exact n,fun b o q _=>⟨o,q⟩,fun b xs q=>sm b _ q,fun b o v q=>sm b _ q,fun b ps q=>⟨#[],by rw [sm b _ q]; simp⟩⟩
 have hok:HOk X.prog X.w (upd H e (.frz oe (.own e))) s.heap:=fun b o q=>by
  by_cases hb:b=e
  ·subst hb
   rw [ji] at q; cases q
   exact ⟨he,_,he⟩
  ·rw [jo hb] at q
   exact (I.hok b o q).stay (fun c v hc r=>r) (fun c r=>sm _ _ r) fun c v r=>sm _ _ r
 refine ⟨?_,sm⟩
 have J:=Inv.call (X:={ X with ex:=[e]++X.ex }) (g':=s.gens) (d':=s.drawn) (t':=s.toks) (Inv.exIn I fun b hb=>by rw [List.mem_singleton.mp hb]; exact ⟨m.new,m.loc,m.cel⟩) u hok I.bare fun b hb=>by
  rw [List.mem_singleton.mp hb]
  exact ⟨.inl (List.mem_append_left _ (by simp)),m.loc,m.cel,fun p hp=>m.pin p (by simpa using hp)⟩
 exact Inv.exOut J I.ok fun b hb=>by rw [List.mem_singleton.mp hb]; exact m.new
end
section
variable {X:Cx}{st b0:Stmt}{sts j9 tb hb:List Stmt}{F G:RO}{fx:Rho->Option Str}{pos:Pos}
end
noncomputable abbrev atK:=Int × (Int × Int)
structure TripAt (h:Heap) (u:Value) (t:atK):Prop where
 ex:∃ a o k tk a2,u= .ref a/\h.get? a=some o/\o.cls= .type "tuple"/\o.data= .seq #[.int t.1 tk,.ref a2] k/\PairAt h (.ref a2) t.2
section
variable {X:Cx}
theorem amA {Kp:List (Addr × Obj)}{σ:St}{H:Hp}{s:Shared}{a:Addr}{o:Obj}{xs:Array Value}{k:Nat} (I:Inv X Kp σ H s) (eo:s.heap.get? a=some o) (dk:o.data= .seq xs k):a ≠ X.env.locals:=fun z=>by
 obtain ⟨_,⟨o',es,ep,h1,h2,_⟩,_⟩:=I.loc
 rw [z] at eo; rw [eo] at h1; cases h1
 rw [dk] at h2; cases h2
theorem aoN {Kp:List (Addr × Obj)}{σ:St}{H:Hp}{s:Shared}{v:V}{p:Int × Int}{u:Value}{h':Heap} (I:Inv X Kp σ H s) (r:Rep X.K H (ame p) v) (rv:jW v u) (kp:∀ b o,b ≠ X.env.locals->s.heap.get? b=some o->h'.get? b=some o):∃ a,u= .ref a/\PairAt h' u p:=by
 obtain ⟨a2,ws,e2,e3,x1,r1,e4,e5,x2,r2,e6,e7,e8⟩:=r
 cases (show x1=_ from e5)
 cases (show x2=_ from e7)
 cases (show r2=[] from e8)
 subst e6; subst e4; subst e2
 cases rv
 obtain ⟨its,r3,⟨o,eo,co,k,dk⟩,_⟩:=I.tuple e3
 cases r3 with
 | cons y1 r3=>
  cases r3 with
  | cons y2 r3=>
   cases r3
   obtain ⟨t,rfl⟩:=y1
   obtain ⟨t',rfl⟩:=y2
   exact ⟨a2,rfl,a2,o,k,t,t',rfl,kp a2 o (amA I eo dk) eo,co,by simpa using dk⟩
end
section
variable {α:Type}
noncomputable def akD (rk:α->Int) (p:α):List α->List α
 | []=>[p]
 | q::r=>if rk p<=rk q then p::q::r else q::akD rk p r
def acM (rk:α->Int):List α->List α
 | []=>[]
 | p::r=>akD rk p (acM rk r)
theorem aa3 (rk:α->Int) (p:α):∀ l,(akD rk p l).Perm (p::l)
 | []=>List.Perm.refl _
 | q::r=>by
  unfold akD
  split
  ·exact List.Perm.refl _
  ·exact ((aa3 rk p r).cons q).trans (List.Perm.swap p q r)
theorem acN (rk:α->Int):∀ l,(acM rk l).Perm l
 | []=>List.Perm.refl _
 | p::r=>(aa3 rk p _).trans ((acN rk r).cons p)
theorem abx (rk:α->Int) (p:α):∀ l,l.Pairwise (fun a b=>rk a<=rk b)->(akD rk p l).Pairwise (fun a b=>rk a<=rk b)
 | [],_=>List.pairwise_singleton _ _
 | q::r,h=>by
  have hq:=List.pairwise_cons.mp h
  unfold akD
  split
  ·rename_i hle
   refine List.pairwise_cons.mpr ⟨fun b hb=>?_,h⟩
   rcases List.mem_cons.mp hb with rfl | hb
   ·exact hle
   ·exact Int.le_trans hle (hq.1 b hb)
  ·rename_i hle
   refine List.pairwise_cons.mpr ⟨fun b hb=>?_,abx rk p r hq.2⟩
   rcases List.mem_cons.mp ((aa3 rk p r).mem_iff.mp hb) with rfl | hb
   ·omega
   ·exact hq.1 b hb
theorem aai (rk:α->Int):∀ l,(acM rk l).Pairwise (fun a b=>rk a<=rk b)
 | []=> .nil
 | p::r=>abx rk p _ (aai rk r)
theorem aby {rk:α->Int}:∀ {l l':List α},l.Pairwise (fun a b=>rk a<=rk b)->l'.Pairwise (fun a b=>rk a<=rk b)->l.Perm l'->(∀ p ∈ l,∀ q ∈ l,rk p=rk q->p=q)->l=l'
 | [],l',_,_,hp,_=>hp.nil_eq
 | a::l,[],_,_,hp,_=>by have:=hp.length_eq; simp at this
 | a::l,b::l',h1,h2,hp,hb=>by
  have h1':=List.pairwise_cons.mp h1
  have h2':=List.pairwise_cons.mp h2
  have hab:a=b:=by
   have ha:a ∈ b::l':=hp.mem_iff.mp List.mem_cons_self
   have hb':b ∈ a::l:=hp.mem_iff.mpr List.mem_cons_self
   rcases List.mem_cons.mp ha with e | ha'
   ·exact e
   ·rcases List.mem_cons.mp hb' with e | hb''
    ·exact e.symm
    ·exact hb a List.mem_cons_self b hb' (Int.le_antisymm (h1'.1 b hb'') (h2'.1 a ha'))
  subst hab
  rw [aby h1'.2 h2'.2 (List.Perm.cons_inv hp) fun p hp q hq=>hb p (List.mem_cons_of_mem _ hp) q (List.mem_cons_of_mem _ hq)]
end
section
variable {X:Cx}{e a b c:Expr}{es j9:List Expr}{st:Stmt}{sts srest:List Stmt}{fx gx:Rho->Option Str}{fa fb:RP}{F:RO}{pos:Pos}
theorem aq7 (h1:PSX X st fx) (h2:PSX X st gx):PSX X st (orX fx gx):=by
 with_unfolding_all
  intro s σ H ρ c I en q k
  cases hf:fx ρ with
  | some c'=>
   have:c'=c:=by simpa [orX,hf] using q
   subst this
   exact h1 s σ H ρ c' I en hf k
  | none=>exact h2 s σ H ρ c I en (by simpa [orX,hf] using q) k
noncomputable def items:PyData->Option (LP)
 | .list ds=>some ds
 | .tuple ds=>some ds
 | _=>none
def itS (fa:RP):Rho->Option (LP):=fun ρ=>(fa ρ).bind items
theorem aoO {tg:Expr} (h:PD X e fa):PID X tg e (itS fa):=by
 with_unfolding_all
  intro Kp s σ H R I ⟨ρ,ds,en,q,k⟩
  cases hf:fa ρ with
  | none=>simp [itS,hf] at q
  | some d=>
   have q':items d=some ds:=by simpa [itS,hf] using q
   cases d with
   | list es=>
    cases q'
    exact QK (tg:=tg) h Kp s σ H R I ⟨ρ,ds,en,by simp [itL,hf,QJ],k⟩
   | tuple es=>
    cases q'
    exact aeS (tg:=tg) h Kp s σ H R I ⟨ρ,ds,en,by simp [itT,hf,aaS],k⟩
   | _=>cases q'
end
theorem _root_.L2.Room.units1 {k:Nat}{A:Around} (r:Room k A):A.units+1<cLine:=by have:=r.un; omega
theorem RoomH.units {k:Nat}{A:Around} (r:RoomH k A):A.units+64<cLine:=by have:=r.un; omega
theorem RoomH.mono {j k:Nat}{A:Around} (r:RoomH k A) (h:j<=k):RoomH j A:=⟨by have:=r.dp; omega,by have:=r.un; omega⟩
section
variable {X:Cx}{a b:Expr}{pos:Pos}
end
@[irreducible] def PTX (X:Cx) (e:Expr) (fx:Rho->Option Str):Prop:=∀ (s:Shared) (σ:St) (H:Hp) (ρ:Rho) (c:Str),Inv X [] σ H s->EnvR X.K H ρ σ->fx ρ=some c->(∀ ev s',Thr X H c ev s'->X.xe ev s')->wpAny (model X.prog X.w) X.A (isTrue e X.env (eval e X.env)) (fun _ _=>False) X.xe s
section
variable {X:Cx}{e a b c:Expr}{l r:List Stmt}{fx gx:Rho->Option Str}{pos:Pos}
theorem aoP (h:PDX X e fx) (he:∀ whole,isTrue e X.env whole=(do let v ←whole; standAt e.pos; holding [v] (truthy v)):=by intro _; rfl):PTX X e fx:=by
 with_unfolding_all
  intro s σ H ρ c I en q k
  exact isTrue_plain (wpAny_mono (h s σ H ρ c I en q k) (fun _ _ z=>z.elim) fun _ _ z=>z) (he _)
theorem aoQ (h:PTX X e fx):PTX X (.UnaryOp .Not e pos) fx:=by
 with_unfolding_all
  intro s σ H ρ c I en q k
  exact isTrue_not (wpAny_mono (h s σ H ρ c I en q k) (fun _ _ z=>z.elim) fun _ _ z=>z)
theorem aoR (h:PTX X e fx):PSX X (.If e l r pos) fx:=by
 with_unfolding_all
  intro s σ H ρ c I en q k
  exact wpAny_If (wpAny_mono (h s σ H ρ c I en q k) (fun _ _ z=>z.elim) fun _ _ z=>z)
end
section
variable {X:Cx}{own:Option Nat}{tg:Expr}{st:Stmt}{sts:List Stmt}{fx:Rho->Option Str}{F:RO}
end
section
variable {X:Cx}{a i e:Expr}{es:List Expr}{pos fp:Pos}
end
section
variable {X:Cx}{own:Option Nat}{e a b c:Expr}{es:List Expr}{st:Stmt}{sts j9:List Stmt}{fa fb fc:RP}{F G:RO}{pos:Pos}
end
section
variable {X:Cx}{tg src:Expr}{pos pos':Pos}{own:Option Nat}
end
def asF (ps:List (Int × Int)):PyData:= .tuple (ps.map ame)
noncomputable def aaj (h:Heap):List Value->List (Int × Int)->Prop
 | [],ps=>ps=[]
 | v::vs,ps=>∃ p r a,ps=p::r/\v= .ref a/\PairAt h (.ref a) p/\aaj h vs r
theorem aaj.len {h:Heap}:∀ {vs:List Value}{ps:List (Int × Int)},aaj h vs ps->vs.length=ps.length
 | [],ps,e=>by cases (show ps=[] from e); rfl
 | v::vs,ps,⟨p,r,a,e,_,_,k⟩=>by rw [e,List.length_cons,List.length_cons,k.len]
structure SetAt (h:Heap) (u:Value) (ps:List (Int × Int)):Prop where
 ex:∃ a o k vs,u= .ref a/\h.get? a=some o/\o.cls= .type "tuple"/\o.data= .seq (List.toArray vs) k/\aaj h vs ps
section
variable {X:Cx}
theorem agP {Kp:List (Addr × Obj)}{σ:St}{H:Hp}{s:Shared}{h':Heap} (I:Inv X Kp σ H s) (kp:∀ b o,b ≠ X.env.locals->s.heap.get? b=some o->h'.get? b=some o):∀ (ps:List (Int × Int)) (xs:List V) (us:List Value),Reps X.K H (ps.map ame) xs->jG xs us->aaj h' us ps
 | [],xs,us,r,v=>by
  cases (show xs=[] from r)
  cases v
  rfl
 | p::ps,xs,us,r,v=>by
  obtain ⟨x,q,rfl,e2,e3⟩:=r
  cases v with
  | cons y v=>
   obtain ⟨a,rfl,pp⟩:=aoN I e2 y kp
   exact ⟨p,ps,a,rfl,rfl,pp,agP I kp ps _ _ e3 v⟩
theorem JY {Kp:List (Addr × Obj)}{σ:St}{H:Hp}{s:Shared}{v:V}{p:List (Int × Int)}{u:Value}{h':Heap} (I:Inv X Kp σ H s) (r:Rep X.K H (asF p) v) (rv:jW v u) (kp:∀ b o,b ≠ X.env.locals->s.heap.get? b=some o->h'.get? b=some o):SetAt h' u p:=by
 obtain ⟨a2,ws,e2,e3,e4⟩:=r
 subst e2
 cases rv
 obtain ⟨its,r3,⟨o,eo,co,k,dk⟩,_⟩:=I.tuple e3
 exact ⟨a2,o,k,its,rfl,kp a2 o (amA I eo dk) eo,co,dk,agP I kp p ws its e4 r3⟩
end
set_option maxHeartbeats 4000000 in
section
variable {X:Cx}
end
section
variable {prog:Program}{w:World}{A:Around}{E:Value->SP0}{s:Shared}
end
section
variable {X:Cx}{a:Expr}{fa:RP}{pos p1 p2 p3:Pos}{j:Nat}
theorem Reps.rev {K:Fg}{H:Hp}{ds:LP}{xs:List V} (h:Reps K H ds xs):Reps K H ds.reverse xs.reverse:=by
 have app:∀ {as bs:LP} {us vs:List V},Reps K H as us->Reps K H bs vs->Reps K H (as++bs) (us++vs):=by
  intro as
  induction as with
  | nil=>intro bs us vs h1 h2; cases (show us=[] from h1); exact h2
  | cons d as ih=>
   intro bs us vs ⟨x,r,e,h1,h2⟩ h3
   subst e
   exact ⟨x,r++vs,rfl,h1,ih h2 h3⟩
 induction ds generalizing xs with
 | nil=>cases (show xs=[] from h); rfl
 | cons d ds ih=>
  obtain ⟨x,r,rfl,h1,h2⟩:=h
  rw [List.reverse_cons,List.reverse_cons]
  exact app (ih h2) ⟨x,[],rfl,h1,rfl⟩
end
section
variable {X:Cx}{e b ev:Expr}{j9:List Stmt}{fe fk fv:RP}{G:RO}{pos pos2:Pos}
end
section
variable {X:Cx}
end
section
variable {X:Cx}{σ:St}{H:Hp}{s:Shared}{h':Heap}{e C:Addr}{E:Value->SP0}{A:Around}
end
section
variable {X:Cx}{e a b c:Expr}{es:List Expr}{pos:Pos}
end
section
variable {prog:Program}{w:World}{A:Around}{s:Shared}{R:Result->SP0}
end
section
variable {X:Cx}{tg src:Expr}
end
section
variable {X:Cx}{e:Expr}{st:Stmt}{j9:List Stmt}{fa:RP}{G F:RO}{pos:Pos}
end
section
variable {X:Cx}{e a b c:Expr}{fa fb fc:RP}{pos p2:Pos}
end
section
variable {X:Cx}{own:Option Nat}{e a b c tg src:Expr}{body:List Stmt}{F:RO}{pos:Pos}
variable {es:List Expr}
end
inductive Cell where
 | lst (ds:LP)
 | ins (x:Str) (fs:List (Str × PyData))
noncomputable abbrev jC:=Addr->Option Cell
def qY (μ:jC) (a:Addr) (c:Cell):jC:=fun b=>if b=a then some c else μ b
theorem jH {μ:jC}{a:Addr}{c:Cell}:qY μ a c a=some c:=if_pos rfl
theorem jD {μ:jC}{a b:Addr}{c:Cell} (h:b ≠ a):qY μ a c b=μ b:=if_neg h
def Qg (K:Fg) (H:Hp):List (Str × PyData)->List (Str × V)->Prop
 | [],vs=>vs=[]
 | (f,d)::fs,vs=>∃ v r,vs=(f,v)::r/\Rep K H d v/\Qg K H fs r
noncomputable def aoS (f:Str) (d:PyData):List (Str × PyData)->List (Str × PyData)
 | []=>[(f,d)]
 | (k,x)::r=>if k=f then (k,d)::r else (k,x)::aoS f d r
section
variable {K:Fg}{H H':Hp}
theorem Qg.monoA (s:jx H H'):∀ {fs:List (Str × PyData)}{vs:List (Str × V)},Qg K H fs vs->Qg K H' fs vs
 | [],_,h=>h
 | (f,d)::fs,_,⟨v,r,h1,h2,h3⟩=>⟨v,r,h1,Rep.monoA s d v h2,Qg.monoA s h3⟩
theorem Qg.length:∀ {fs:List (Str × PyData)}{vs:List (Str × V)},Qg K H fs vs->vs.length=fs.length
 | [],_,h=>by cases h; rfl
 | (f,d)::fs,_,⟨v,r,h1,h2,h3⟩=>by subst h1; simp [Qg.length h3]
theorem Qg.look {f:Str}{d:PyData}:∀ {fs:List (Str × PyData)}{vs:List (Str × V)},Qg K H fs vs->fs.lookup f=some d->∃ v,vs.lookup f=some v/\Rep K H d v
 | [],_,_,q=>by cases q
 | (k,x)::fs,_,⟨v,r,h1,h2,h3⟩,q=>by
  subst h1
  simp only [List.lookup] at q ⊢
  cases hb:f == k with
  | true=>rw [hb] at q; cases q; exact ⟨v,rfl,h2⟩
  | false=>rw [hb] at q; exact Qg.look h3 q
theorem Qg.lookN {f:Str}:∀ {fs:List (Str × PyData)}{vs:List (Str × V)},Qg K H fs vs->fs.lookup f=none->vs.lookup f=none
 | [],_,h,q=>by cases h; rfl
 | (k,x)::fs,_,⟨v,r,h1,h2,h3⟩,q=>by
  subst h1
  simp only [List.lookup] at q ⊢
  cases hb:f == k with
  | true=>rw [hb] at q; cases q
  | false=>rw [hb] at q; exact Qg.lookN h3 q
theorem Qg.put {f:Str}{d:PyData}{v:V} (rv:Rep K H d v):∀ {fs:List (Str × PyData)}{vs:List (Str × V)},Qg K H fs vs->Qg K H (aoS f d fs) (Qn f v vs)
 | [],_,h=>by cases h; exact ⟨v,[],rfl,rv,rfl⟩
 | (k,x)::fs,_,⟨w,r,h1,h2,h3⟩=>by
  subst h1
  show Qg K H (if k=f then (k,d)::fs else (k,x)::aoS f d fs) (if k=f then (k,v)::r else (k,w)::Qn f v r)
  by_cases hk:k=f
  ·rw [if_pos hk,if_pos hk]; exact ⟨v,r,rfl,rv,h3⟩
  ·rw [if_neg hk,if_neg hk]; exact ⟨w,_,rfl,h2,Qg.put rv h3⟩
end
def QU (K:Fg) (H:Hp) (a:Addr):Cell->Prop
 | .lst ds=>∃ xs,H a=some (j5 a xs)/\Reps K H ds xs
 | .ins x fs=>∃ C dx vs,PySem.W.nsIn K mainGlobals x=some (some (.ref C))/\H a=some (.ins C dx vs)/\Qg K H fs vs
def qe (K:Fg) (H:Hp) (μ:jC):Prop:=∀ a c,μ a=some c->QU K H a c
section
variable {K:Fg}{H H':Hp}{μ:jC}{a:Addr}{c:Cell}{ρ:Rho}{σ:St}
theorem EnvR.monoA (e:EnvR K H ρ σ) (h:jx H H'):EnvR K H' ρ σ:=⟨e.len,fun i d q=>let ⟨v,e1,e2⟩:=e.at' i d q; ⟨v,e1,Rep.monoA h d v e2⟩⟩
theorem QU.to (h:QU K H a c) (s:jx H H') (e:H' a=H a):QU K H' a c:=by
 cases c with
 | lst ds=>obtain ⟨xs,h1,h2⟩:=h; exact ⟨xs,e.trans h1,Reps.monoA s _ _ h2⟩
 | ins x fs=>obtain ⟨C,dx,vs,h1,h2,h3⟩:=h; exact ⟨C,dx,vs,h1,e.trans h2,h3.monoA s⟩
theorem QU.there (h:QU K H a c):∃ o,H a=some o/\alU o=false:=by
 cases c with
 | lst ds=>obtain ⟨xs,h1,h2⟩:=h; exact ⟨_,h1,rfl⟩
 | ins x fs=>obtain ⟨C,dx,vs,h1,h2,h3⟩:=h; exact ⟨_,h2,rfl⟩
theorem qe.mono (cs:qe K H μ) (s:jp H H'):qe K H' μ:=fun a c h=>by
 obtain ⟨o,h1,_⟩:=(cs a c h).there
 exact (cs a c h).to (jp.a s) ((s _ _ h1).trans h1.symm)
theorem qe.free (cs:qe K H μ) (h:H a=none):μ a=none:=by
 cases q:μ a with
 | none=>rfl
 | some c=>obtain ⟨o,h1,_⟩:=(cs a c q).there; rw [h] at h1; cases h1
theorem qe.put (cs:qe K H μ) (s:jx H H') (k:∀ b,b ≠ a->∀ o,H b=some o->H' b=some o) (new:QU K H' a c):qe K H' (qY μ a c):=fun b d h=>by
 by_cases hb:b=a
 ·subst hb; rw [jH] at h; cases h; exact new
 ·rw [jD hb] at h
  obtain ⟨o,h1,_⟩:=(cs b d h).there
  exact (cs b d h).to s ((k b hb o h1).trans h1.symm)
theorem qe.upd {o:HO} (cs:qe K H μ) (s:jx H (L2.upd H a o)) (new:QU K (L2.upd H a o) a c):qe K (L2.upd H a o) (qY μ a c):=
 cs.put s (fun b hb o h=>by rw [jo hb]; exact h) new
theorem jx.upd {o u:HO} (h:H a=some u) (hu:alU u=false):jx H (L2.upd H a o):=fun b x q d=>by
 have:b ≠ a:=fun z=>by subst z; rw [h] at q; cases q; rw [hu] at d; cases d
 rw [jo this]; exact q
end
inductive Res (α:Type) where
 | ok (d:α) | er (c:Str)
abbrev TR (α:Type):=Rho->jC->(Res α->jC->Prop)->Prop
inductive OutC where
 | nx (ρ:Rho) | rt (d:PyData) | bk (ρ:Rho) | ct (ρ:Rho) | er (c:Str)
abbrev TRS:=Rho->jC->(OutC->jC->Prop)->Prop
def ae6 (X:Cx) (H:Hp) (μ:jC) (c:Str) (ev:Value) (s':Shared):Prop:=∃ e C σ' H',ev= .ref e/\X.mg c=some (.ref C)/\Inv X [] σ' H' s'/\jx H H'/\qe X.K H' μ/\Xc X H' s'.heap e C
theorem ae6.mono {X:Cx}{H H1:Hp}{μ:jC}{c:Str}{ev:Value}{s':Shared} (s:jx H H1) (h:ae6 X H1 μ c ev s'):ae6 X H μ c ev s':=by
 obtain ⟨e,C,σ',H',h1,h2,h3,h4,h5⟩:=h
 exact ⟨e,C,σ',H',h1,h2,h3,s.trans h4,h5⟩
def qV {α:Type} (X:Cx) (H:Hp) (P:α->Hp->Prop):Res α->jC->Prop
 | .ok d,μ=>∀ H',jx H H'->qe X.K H' μ->P d H'
 | .er c,μ=>∀ ev s',ae6 X H μ c ev s'->X.xe ev s'
def JG (X:Cx) (H:Hp) (D:Ends):OutC->jC->Prop
 | .nx ρ,μ=>∀ σ H',jx H H'->EnvR X.K H' ρ σ->qe X.K H' μ->D.nx σ H'
 | .rt d,μ=>∀ v H',jx H H'->Rep X.K H' d v->qe X.K H' μ->D.rt v H'
 | .bk ρ,μ=>∀ σ H',jx H H'->EnvR X.K H' ρ σ->qe X.K H' μ->D.bk σ H'
 | .ct ρ,μ=>∀ σ H',jx H H'->EnvR X.K H' ρ σ->qe X.K H' μ->D.ct σ H'
 | .er c,μ=>∀ ev s',ae6 X H μ c ev s'->X.xe ev s'
section
variable {X:Cx}{α β:Type}{H H1:Hp}{σ:St}
theorem qV.mono {P:α->Hp->Prop}{o:Res α}{μ:jC} (h:qV X H P o μ) (s:jx H H1):qV X H1 P o μ:=by
 cases o with
 | ok d=>exact fun H' s1 c=>h H' (s.trans s1) c
 | er c=>exact fun ev s' t=>h ev s' (t.mono s)
theorem JG.mono {D:Ends}{o:OutC}{μ:jC} (h:JG X H D o μ) (s:jx H H1):JG X H1 D o μ:=by
 cases o with
 | nx ρ=>exact fun σ H' s1 e c=>h σ H' (s.trans s1) e c
 | rt d=>exact fun v H' s1 e c=>h v H' (s.trans s1) e c
 | bk ρ=>exact fun σ H' s1 e c=>h σ H' (s.trans s1) e c
 | ct ρ=>exact fun σ H' s1 e c=>h σ H' (s.trans s1) e c
 | er c=>exact fun ev s' t=>h ev s' (t.mono s)
def AtC (X:Cx) (σ:St) (H:Hp) (T:TR α) (P:α->Hp->Prop):Prop:=∃ ρ μ R,EnvR X.K H ρ σ/\qe X.K H μ/\T ρ μ R/\∀ o μ',R o μ'->qV X H P o μ'
def AtS (X:Cx) (σ:St) (H:Hp) (T:TRS) (D:Ends):Prop:=∃ ρ μ R,EnvR X.K H ρ σ/\qe X.K H μ/\T ρ μ R/\∀ o μ',R o μ'->JG X H D o μ'
def bindC (T:TR α) (k:α->TR β):TR β:=fun ρ μ R=>T ρ μ fun o μ'=>match o with
 | .ok d=>k d ρ μ' R
 | .er c=>R (.er c) μ'
def zi (T:TR α) (k:α->TRS):TRS:=fun ρ μ R=>T ρ μ fun o μ'=>match o with
 | .ok d=>k d ρ μ' R
 | .er c=>R (.er c) μ'
def j7 (f:Rho->Option α):TR α:=fun ρ μ R=>∃ d,f ρ=some d/\R (.ok d) μ
def qZ (o:Option α):TR α:=fun _ μ R=>∃ d,o=some d/\R (.ok d) μ
theorem AtC.bind {T:TR α}{k:α->TR β}{P:β->Hp->Prop} (h:AtC X σ H (bindC T k) P):AtC X σ H T fun d H1=>jx H H1/\AtC X σ H1 (k d) P:=by
 obtain ⟨ρ,μ,R,en,cs,t,kk⟩:=h
 refine ⟨ρ,μ,_,en,cs,t,fun o μ1 r=>?_⟩
 cases o with
 | ok d=>exact fun H1 s1 cs1=>⟨s1,ρ,μ1,R,en.monoA s1,cs1,r,fun o μ' q=>(kk o μ' q).mono s1⟩
 | er c=>exact kk (.er c) μ1 r
theorem AtS.bind {T:TR α}{k:α->TRS}{D:Ends} (h:AtS X σ H (zi T k) D):AtC X σ H T fun d H1=>jx H H1/\AtS X σ H1 (k d) D:=by
 obtain ⟨ρ,μ,R,en,cs,t,kk⟩:=h
 refine ⟨ρ,μ,_,en,cs,t,fun o μ1 r=>?_⟩
 cases o with
 | ok d=>exact fun H1 s1 cs1=>⟨s1,ρ,μ1,R,en.monoA s1,cs1,r,fun o μ' q=>(kk o μ' q).mono s1⟩
 | er c=>exact kk (.er c) μ1 r
theorem AtC.imp {T:TR α}{P P':α->Hp->Prop} (h:AtC X σ H T P) (hp:∀ d H1,jx H H1->P d H1->P' d H1):AtC X σ H T P':=by
 obtain ⟨ρ,μ,R,en,cs,t,kk⟩:=h
 refine ⟨ρ,μ,R,en,cs,t,fun o μ1 r=>?_⟩
 have q:=kk o μ1 r
 cases o with
 | ok d=>exact fun H1 s1 c1=>hp d H1 s1 (q H1 s1 c1)
 | er c=>exact q
theorem AtC.pure {f:Rho->Option α}{P:α->Hp->Prop} (h:AtC X σ H (j7 f) P):∃ ρ d,EnvR X.K H ρ σ/\f ρ=some d/\∀ H',jp H H'->P d H':=by
 obtain ⟨ρ,μ,R,en,cs,⟨d,hf,hR⟩,kk⟩:=h
 exact ⟨ρ,d,en,hf,fun H' s=>kk _ _ hR H' (jp.a s) (cs.mono s)⟩
theorem AtC.ret {o:Option α}{P:α->Hp->Prop} (h:AtC X σ H (qZ o) P):∃ d,o=some d/\∀ H',jp H H'->P d H':=by
 obtain ⟨ρ,μ,R,en,cs,⟨d,hf,hR⟩,kk⟩:=h
 exact ⟨d,hf,fun H' s=>kk _ _ hR H' (jp.a s) (cs.mono s)⟩
end
def tC (X:Cx) (T:TR PyData):TE:=fun σ H Q=>AtC X σ H T fun d H'=>∀ v,Rep X.K H' d v->Q v H'
def tCT (X:Cx) (T:TR Bool):TT:=fun σ H Q=>AtC X σ H T Q
def tCA (X:Cx) (T:TR (LP)):TA:=fun σ H Q=>AtC X σ H T fun ds H'=>∀ vs,Reps X.K H' ds vs->Q vs H'
def tCS (X:Cx) (T:TRS):TS:=fun D σ H=>AtS X σ H T D
@[irreducible] def PEC (X:Cx) (e:Expr) (T:TR PyData):Prop:=PE X e (tC X T)
@[irreducible] def PTC (X:Cx) (e:Expr) (T:TR Bool):Prop:=PT X e (tCT X T)
@[irreducible] def PWC (X:Cx) (e:Expr) (T:TR Bool):Prop:=PW X e (tCT X T)
@[irreducible] def PAC (X:Cx) (es:List Expr) (T:TR (LP)):Prop:=PA X es (tCA X T)
@[irreducible] def PSC (X:Cx) (st:Stmt) (T:TRS):Prop:=PS X st (tCS X T)
@[irreducible] def aak (X:Cx) (sts:List Stmt) (T:TRS):Prop:=PSs X sts (tCS X T)
section
variable {X:Cx}{e a b c:Expr}{es:List Expr}{st:Stmt}{sts j9:List Stmt}{fa:RP}{Ta Tb To:TR PyData}{Tt Tu:TR Bool}{F:RO}{S S':TRS}{pos:Pos}
theorem jg (h:PD X e fa):PEC X e (j7 fa):=by
 with_unfolding_all
  exact PE.imp h fun σ H Q h=>let ⟨ρ,d,en,hf,k⟩:=h.pure; ⟨ρ,d,en,hf,fun v H' s r=>k H' s v r⟩
theorem aa4 {tc:Rho->Option Bool} (h:PTD X e tc):PTC X e (j7 tc):=by
 with_unfolding_all
  exact PT.imp h fun σ H Q h=>let ⟨ρ,d,en,hf,k⟩:=h.pure; ⟨ρ,d,en,hf,fun H' s=>k H' s⟩
theorem jP:PAC X [] (qZ (some [])):=by
 with_unfolding_all
  exact PA.imp zz fun σ H Q h=>by
   obtain ⟨d,hd,k⟩:=AtC.ret h
   cases hd
   exact k H (jp.refl H) [] rfl
def Je (Ta:TR PyData) (Tr:TR (LP)):TR (LP):=bindC Ta fun d=>bindC Tr fun ds=>qZ (some (d::ds))
theorem jq {Tr:TR (LP)} (ha:PEC X e Ta) (hr:PAC X es Tr) (hs:starEach (e::es) X.env=(false,eval e X.env)::starEach es X.env:=by rfl):PAC X (e::es) (Je Ta Tr):=by
 with_unfolding_all
  exact PA.imp (qG ha hr hs) fun σ H Q h=>(AtC.bind h).imp fun d H1 _ ⟨s1,h1⟩ x rx=>h1.bind.imp fun ds H2 _ ⟨s2,h2⟩ xs rxs=>by
   obtain ⟨d',hd,k⟩:=h2.ret
   cases hd
   exact k H2 (jp.refl _) (x::xs) ⟨x,xs,rfl,Rep.monoA s2 _ _ rx,rxs⟩
def opC (g:PyData->PyData->OP) (Ta Tb:TR PyData):TR PyData:=bindC Ta fun p=>bindC Tb fun q=>qZ (g p q)
theorem ad0 {g:PyData->PyData->OP}{r:R2} (hr:∀ p q d x y H Q,g p q=some d->Rep X.K H p x->Rep X.K H q y->(∀ v H',jp H H'->Rep X.K H' d v->Q v H')->r x y H Q)
  {σ:St} {H:Hp} {Q:VK} (h:tC X (opC g Ta Tb) σ H Q):tOp r (tC X Ta) (tC X Tb) σ H Q:=
 (AtC.bind h).imp fun p H1 _ ⟨s1,h1⟩ x rx=>h1.bind.imp fun q H2 _ ⟨s2,h2⟩ y ry=>by
  obtain ⟨d,hd,k⟩:=h2.ret
  exact hr p q d x y H2 Q hd (Rep.monoA s2 _ _ rx) ry fun v H' s rv=>k H' s v rv
theorem aoT {op:Operator}{g:PyData->PyData->OP} (ho:OpD X (binaryOp op) g) (ha:PEC X a Ta) (hb:PEC X b Tb):PEC X (.BinOp a op b pos) (opC g Ta Tb):=by
 with_unfolding_all
  obtain ⟨r,h1,h2⟩:=ho
  exact PE.imp (apU h1 ha hb) fun σ H Q h=>ad0 h2 h
theorem JH {op:CmpOp}{g:PyData->PyData->OP} (ho:OpD X (compareOp op) g) (ha:PEC X a Ta) (hb:PEC X b Tb) (hm:behindInMarks op b=false:=by first | exact acp _ | with_unfolding_all rfl):PEC X (.Compare a [op] [b] pos) (opC g Ta Tb):=by
 with_unfolding_all
  obtain ⟨r,h1,h2⟩:=ho
  exact PE.imp (aiU h1 ha hb hm) fun σ H Q h=>ad0 h2 h
def ae7 (T:TR PyData):TR Bool:=bindC T fun d=>qZ (asB d)
theorem amB {σ:St}{H:Hp}{Q:Bool->Hp->Prop} (h:tCT X (ae7 Ta) σ H Q):tC X Ta σ H fun x H'=>∃ k,x= .bl k/\Q k H':=
 (AtC.bind h).imp fun d H1 _ ⟨s1,h1⟩ x rx=>by
  obtain ⟨b,hb,k⟩:=h1.ret
  cases zY hb
  exact ⟨b,rx,k H1 (jp.refl _)⟩
theorem zw {op:CmpOp}{g:PyData->PyData->OP} (ho:OpD X (compareOp op) g) (ha:PEC X a Ta) (hb:PEC X b Tb) (hm:behindInMarks op b=false:=by first | exact acp _ | with_unfolding_all rfl):PTC X (.Compare a [op] [b] pos) (ae7 (opC g Ta Tb)):=by
 with_unfolding_all
  obtain ⟨r,h1,h2⟩:=ho
  exact PT.imp (aiV h1 ha hb hm) fun σ H Q h=>ad0 h2 (amB h)
theorem aoU (h:PEC X e Ta) (he:∀ whole,isTrue e X.env whole=(do let v ←whole; standAt e.pos; holding [v] (truthy v)):=by intro _; rfl):PTC X e (ae7 Ta):=by
 with_unfolding_all
  exact PT.imp (alv h he) fun σ H Q h=>amB h
def atL (T:TR Bool):TR Bool:=bindC T fun b=>qZ (some (!b))
theorem ajl (h:PTC X a Tt):PTC X (.UnaryOp .Not a pos) (atL Tt):=by
 with_unfolding_all
  exact PT.imp (alx h) fun σ H Q h=>(AtC.bind h).imp fun b H1 _ ⟨s1,h1⟩=>by
   obtain ⟨d,hd,k⟩:=h1.ret
   cases hd
   exact k H1 (jp.refl _)
def orC (T U:TR Bool):TR Bool:=bindC T fun b=>if b=true then qZ (some true) else U
variable {er:List Expr}
theorem aal (ha:PTC X a Tt):PWC X (.BoolOp .Or [a] pos) Tt:=by
 with_unfolding_all exact (alw ha)
theorem acO (ha:PTC X a Tt) (hb:PWC X (.BoolOp .Or (b::er) pos) Tu):PWC X (.BoolOp .Or (a::b::er) pos) (orC Tt Tu):=by
 with_unfolding_all
  exact PW.imp (apR ha hb) fun σ H Q h=>(AtC.bind h).imp fun b H1 _ ⟨s1,h1⟩=>by
   cases b with
   | true=>
    rw [if_pos rfl] at h1 ⊢
    obtain ⟨d,hd,k⟩:=h1.ret
    cases hd
    exact k H1 (jp.refl _)
   | false=>
    rw [if_neg Bool.false_ne_true] at h1 ⊢
    exact h1
theorem QV (h:PWC X e Tt):PTC X e Tt:=by
 with_unfolding_all exact (PW.pt h)
def amC (T U:TR PyData):TR PyData:=bindC T fun d=>bindC (qZ (asB d)) fun b=>if b=true then U else qZ (some (.bool false))
theorem ajm {op} (h:PEC X a Ta):PEC X (.BoolOp op [a] pos) Ta:=by
 with_unfolding_all exact (aly h)
theorem ajn (ha:PEC X a Ta) (hb:PEC X (.BoolOp .And (b::er) pos) Tb):PEC X (.BoolOp .And (a::b::er) pos) (amC Ta Tb):=by
 with_unfolding_all
  exact PE.imp (alz ha hb) fun σ H Q h=>(AtC.bind h).imp fun d H1 _ ⟨s1,h1⟩ x rx=>by
   obtain ⟨ρ,μ,R,en,cs,⟨b,hb,t⟩,kk⟩:=h1
   cases zY hb
   refine ⟨b,rx,?_⟩
   cases b with
   | true=>exact ⟨ρ,μ,R,en,cs,t,kk⟩
   | false=>
    obtain ⟨d,hd,hR⟩:=t
    cases hd
    exact kk _ _ hR H1 (jx.refl _) cs (.bl false) rfl
def zc (S S':TRS):TRS:=fun ρ μ R=>S ρ μ fun o μ'=>match o with
 | .nx ρ'=>S' ρ' μ' R
 | o=>R o μ'
def abF:TRS:=fun ρ μ R=>R (.nx ρ) μ
theorem jt:aak X [] abF:=by
 with_unfolding_all
  exact PSs.imp aeD fun D σ H ⟨ρ,μ,R,en,cs,t,k⟩=>k _ _ t σ H (jx.refl _) en cs
theorem jj (h1:PSC X st S) (h2:aak X j9 S'):aak X (st::j9) (zc S S'):=by
 with_unfolding_all
  refine PSs.imp (zU h1 h2) fun D σ H ⟨ρ,μ,R,en,cs,t,k⟩=>⟨ρ,μ,_,en,cs,t,fun o μ' r=>?_⟩
  cases o with
  | nx ρ'=>exact fun σ' H' s e c=>⟨ρ',μ',R,e,c,r,fun o μ2 q=>(k o μ2 q).mono s⟩
  | rt d=>exact k (.rt d) μ' r
  | bk d=>exact k (.bk d) μ' r
  | ct d=>exact k (.ct d) μ' r
  | er d=>exact k (.er d) μ' r
noncomputable def ap3:Out->OutC
 | .nx ρ=> .nx ρ
 | .rt d=> .rt d
 | .bk ρ=> .bk ρ
 | .ct ρ=> .ct ρ
def acP (F:RO):TRS:=fun ρ μ R=>∃ o,F ρ=some o/\R (ap3 o) μ
theorem ah9 {H:Hp}{D:Ends}{o:Out}{μ:jC} (cs:qe X.K H μ) (h:JG X H D (ap3 o) μ):agt X.K D H o:=by
 cases o with
 | nx ρ=>exact fun σ H' s e=>h σ H' (jp.a s) e (cs.mono s)
 | rt d=>exact fun v H' s e=>h v H' (jp.a s) e (cs.mono s)
 | bk ρ=>exact fun σ H' s e=>h σ H' (jp.a s) e (cs.mono s)
 | ct ρ=>exact fun σ H' s e=>h σ H' (jp.a s) e (cs.mono s)
theorem zj (h:PSD X st F):PSC X st (acP F):=by
 with_unfolding_all
  exact PS.imp h fun D σ H ⟨ρ,μ,R,en,cs,⟨o,hF,hR⟩,k⟩=>⟨ρ,o,en,hF,ah9 cs (k _ _ hR)⟩
def atM (fx:Rho->Option Str):TRS:=fun ρ μ R=>∃ c,fx ρ=some c/\R (.er c) μ
theorem asG {H:Hp}{μ:jC}{c:Str}{ev:Value}{s':Shared} (cs:qe X.K H μ) (h:Thr X H c ev s'):ae6 X H μ c ev s':=by
 obtain ⟨e,C,σ',H',h1,h2,h3,h4,h5⟩:=h
 exact ⟨e,C,σ',H',h1,h2,h3,jp.a h4,cs.mono h4,h5⟩
theorem aa5 {fx:Rho->Option Str} (h:PSX X st fx):PSC X st (atM fx):=by
 with_unfolding_all
  intro Kp s σ H D I ⟨ρ,μ,R,en,cs,⟨c,hc,hR⟩,k⟩
  exact wpAny_mono (h s σ H ρ c (I.pins_of fun p hp=>nomatch hp) en hc fun ev s' t=>k _ _ hR ev s' (asG cs t)) (fun _ _ z=>z.elim) fun _ _ z=>z
def atN (i:Nat) (d:PyData):TRS:=fun ρ μ R=>R (.nx (ρ.set i (some d))) μ
theorem Zd (i:Nat) {x:Str}{pos':Pos} (hN:X.N.Nodup) (he:PEC X e Ta) (hi:X.N[i]?=some x:=by rfl) (hx:Loc X.env.scope x:=by first | exact Or.inl rfl | exact Or.inr rfl) (hs:swapsWith e (some (.Name x pos')) pos.line X.env=pure false:=by rfl)
  (hf:X.fn x=true ∨ X.env.scope.names.lookup x=some .local:=by first | exact .inl rfl | exact .inr rfl | assumption):PSC X (.Assign [.Name x pos'] e pos) (zi Ta (atN i)):=by
 with_unfolding_all
  exact PS.imp (ZL hN hi hx he hs hf) fun D σ H h=>(AtS.bind h).imp fun d H1 _ ⟨s1,ρ,μ,R,en,cs,t,k⟩ v rv=>k _ _ t _ H1 (jx.refl _) (en.set rv) cs
def asH (_:PyData):TRS:=fun ρ μ R=>R (.nx ρ) μ
theorem QW (h:PEC X e Ta) (hs:swapsWith e none pos.line X.env=pure false:=by rfl):PSC X (.Expr e pos) (zi Ta asH):=by
 with_unfolding_all
  exact PS.imp (abH h hs) fun D σ H h=>(AtS.bind h).imp fun d H1 _ ⟨s1,ρ,μ,R,en,cs,t,k⟩ v rv=>k _ _ t σ H1 (jx.refl _) en cs
def rtC (d:PyData):TRS:=fun _ μ R=>R (.rt d) μ
theorem qq (h:PEC X e Ta):PSC X (.Return (some e) pos) (zi Ta rtC):=by
 with_unfolding_all
  exact PS.imp (aeF h) fun D σ H h=>(AtS.bind h).imp fun d H1 _ ⟨s1,ρ,μ,R,en,cs,t,k⟩ v rv=>k _ _ t v H1 (jx.refl _) rv cs
def ifC (T:TR Bool) (S S':TRS):TRS:=zi T fun b=>if b=true then S else S'
theorem zx {l r:List Stmt} (hc:PTC X c Tt) (hl:aak X l S) (hr:aak X r S'):PSC X (.If c l r pos) (ifC Tt S S'):=by
 with_unfolding_all
  exact PS.imp (apS hc hl hr) fun D σ H h=>(AtS.bind h).imp fun b H1 _ ⟨s1,h1⟩=>by
   cases b with
   | true=>exact h1
   | false=>exact h1
end
theorem amD {a b:Addr} (h:jv a=jv b):a=b:=by
 have:(a:Int)=(b:Int):=by simpa [jv] using h
 exact Int.ofNat.inj this
def qH (K:Fg) (x f:Str):Prop:=∀ C,PySem.W.nsIn K mainGlobals x=some (some (.ref C))->Cls K C/\ZM K C f
section
variable {X:Cx}{e a b c o value:Expr}{es:List Expr}{st:Stmt}{Ta Tb To Tv:TR PyData}{Tr:TR (LP)}{pos pos' apos:Pos}{x f m:Str}
def aam (x f:Str) (d:PyData):TR PyData:=fun _ μ R=>∃ a fs v,d=jv a/\μ a=some (.ins x fs)/\fs.lookup f=some v/\R (.ok v) μ
theorem jU (hC:qH X.K x f) (h:PEC X e To) (hb:attributeBase e f X.env (eval e X.env)=eval e X.env:=by rfl):PEC X (.Attribute e f pos) (bindC To (aam x f)):=by
 with_unfolding_all
  exact PE.imp (ahG h hb) fun σ H Q h=>(AtC.bind h).imp fun d H1 _ ⟨s1,ρ,μ,R,en,cs,⟨a,fs,v,hd,hm,hl,hR⟩,kk⟩ y ry=>by
   subst hd
   cases Rep.celOut ry
   obtain ⟨C,dx,vs,h1,h2,h3⟩:=cs a _ hm
   obtain ⟨w,h4,h5⟩:=h3.look hl
   exact ⟨a,C,dx,vs,w,rfl,h2,(hC C h1).1,(hC C h1).2,h4,kk _ _ hR H1 (jx.refl _) cs w h5⟩
def asI (x f:Str) (d od:PyData):TRS:=fun ρ μ R=>∃ a fs,od=jv a/\μ a=some (.ins x fs)/\fs.length<1000/\R (.nx ρ) (qY μ a (.ins x (aoS f d fs)))
theorem Jn (hC:qH X.K x f) (ho:PEC X o To) (hv:PEC X value Tv) (hs:swapsWith value (some (.Attribute o f pos')) pos.line X.env=pure false:=by rfl):PSC X (.Assign [.Attribute o f pos'] value pos) (zi Tv fun d=>zi To (asI x f d)):=by
 with_unfolding_all
  exact PS.imp (aqC ho hv hs) fun D σ H h=>(AtS.bind h).imp fun d H1 _ ⟨s1,h1⟩ y ry=>h1.bind.imp fun od H2 _ ⟨s2,ρ,μ,R,en,cs,⟨a,fs,hd,hm,hl,hR⟩,kk⟩ z rz=>by
   subst hd
   cases Rep.celOut rz
   obtain ⟨C,dx,vs,h1,h2,h3⟩:=cs a _ hm
   have sA:jx H2 (upd H2 a (.ins C dx (Qn f y vs))):=jx.upd h2 rfl
   exact ⟨a,C,dx,vs,rfl,h2,(hC C h1).1,(hC C h1).2,by rw [h3.length]; exact hl,kk _ _ hR σ _ sA (en.monoA sA) (cs.upd sA ⟨C,dx,_,h1,ji,(h3.monoA sA).put (Rep.monoA (s2.trans sA) _ _ ry)⟩)⟩
abbrev GC3:=LP->jC->(Res PyData->jC->Prop)->Prop
def ady (K:Fg) (mg:SV) (n:Nat) (g:GC3):Sp:=fun vs H Q E=>∃ ds μ R,ds.length=n/\Reps K H ds vs/\qe K H μ/\g ds μ R/\(∀ d μ',R (.ok d) μ'->∀ v H',jx H H'->Rep K H' d v->qe K H' μ'->Q v H')/\
 ∀ c μ',R (.er c) μ'->∀ C H',mg c=some (.ref C)->jx H H'->qe K H' μ'->E (.ref C) none H'
def qO (P:Program) (w:World) (K:Fg) (mg:SV) (base:Heap) (x m:Str) (ps:List Str) (k n:Nat) (g:GC3):Prop:=
 ∃ (C f:Addr) (fd:FuncData),PySem.W.nsIn K mainGlobals x=some (some (.ref C))/\Cls K C/\Meth K C m f/\FnOk P w K mg base (CXt P w) k f fd ps (ady K mg n g)/\zW K fd ps []
def aoV (P:Program) (w:World) (K:Fg) (mg:SV) (base:Heap) (x:Str) (ps:List Str) (k n:Nat) (g:GC3):Prop:=
 ∃ (C f:Addr) (fd:FuncData),PySem.W.nsIn K mainGlobals x=some (some (.ref C))/\mg x=some (.ref C)/\Mk K C f/\FnOk P w K mg base (CXt P w) k f fd ps (ady K mg n g)/\zW K fd ps []
end
section
variable {X:Cx}{e a b c o value:Expr}{es:List Expr}{st:Stmt}{Ta Tb To Tv:TR PyData}{Tr:TR (LP)}{pos pos' apos:Pos}{x f m:Str}
theorem ap4 {Kp:List (Addr × Obj)}{σ:St}{H:Hp}{s:Shared}{Q:VK}{us:List Value}{vs:List V}{k n:Nat}{f:Addr}{fd:FuncData}{ps:List Str}{g:GC3}{ds:LP}{μ:jC}{R:Res PyData->jC->Prop} (hxe:X.ex=[])
  (F:FnOk X.prog X.w X.K X.mg X.base (CXt X.prog X.w) k f fd ps (ady X.K X.mg n g)) (hr:Room k X.A) (hb:zW X.K fd ps []) (I:Inv X Kp σ H s) (r:jG vs us) (rd:Reps X.K H ds vs) (cs:qe X.K H μ) (hn:ds.length=n) (hg:g ds μ R)
  (kk:∀ o μ',R o μ'->qV X H (fun d H'=>∀ v,Rep X.K H' d v->Q v H') o μ'):wpAny (model X.prog X.w) X.A (call (.ref f) us) (EP X Kp σ Q) X.xe s:=by
 have sp:ady X.K X.mg n g vs H Q (fun cls _ H'=>∃ c μ',X.mg c=some cls/\R (.er c) μ'/\jx H H'/\qe X.K H' μ'):=
  ⟨ds,μ,R,hn,rd,cs,hg,fun d μ' q v H' sA rv c=>(kk (.ok d) μ' q:qV X H (fun d H'=>∀ v,Rep X.K H' d v->Q v H') (.ok d) μ') H' sA c v rv,fun c μ' q C H' hC sA c'=>⟨c,μ',hC,q,sA,c'⟩⟩
 have hlu:(us++[]).length=ps.length:=by rw [List.append_nil,←r.length]; exact F.len _ _ _ _ sp
 have hbd:=hb s us I.kIn hlu
 rw [List.append_nil] at hbd
 refine wpAny_call (codeAny_mono (F.run X.A X.stack s H ⟨us,[]⟩ us vs _ _ hr I.env0 hbd r sp) fun rs s' hq=>?_)
 cases rs with
 | error ev=>
  obtain ⟨e0,C,H',rfl,os,bare,un,hok,xc,c,μ',hC,hR,sA,c'⟩:=hq
  have J':Inv X Kp σ H' s':=I.call' (ch:=[]) os un hok bare fun b z=>nomatch z
  have J0:Inv X [] σ H' s':=J'.pins_of fun p hp=>nomatch hp
  have k1:qV X H (fun d H'=>∀ v,Rep X.K H' d v->Q v H') (.er c) μ':=kk (.er c) μ' hR
  have x1:=Xc.of hxe I xc
  have t1:ae6 X H μ' c (.ref e0) s':=⟨e0,C,σ,H',rfl,hC,J0,sA,c',x1⟩
  exact k1 (.ref e0) s' t1
 | ok fl=>
  cases fl with
  | ret u=>exact I.after hq
  | next=>exact False.elim hq
  | brk=>exact False.elim hq
  | cont=>exact False.elim hq
end
section
variable {X:Cx}{e a b c o value:Expr}{es:List Expr}{st:Stmt}{Ta Tb To Tv:TR PyData}{Tr:TR (LP)}{pos pos' apos:Pos}{x f m:Str}
def QB (g:GC3) (n:Nat) (ds:LP):TR PyData:=fun _ μ R=>ds.length=n/\g ds μ R
end
section
variable {X:Cx}{e a b c o value:Expr}{es:List Expr}{st:Stmt}{Ta Tb To Tv:TR PyData}{Tr:TR (LP)}{pos pos' apos:Pos}{x f m:Str}
def JB (x m:Str) (g:GC3) (n:Nat) (Tr:TR (LP)) (od:PyData):TR PyData:=fun ρ μ R=>(∃ a fs,od=jv a/\μ a=some (.ins x fs)/\fs.lookup m=none)/\bindC Tr (fun ds=>QB g n (od::ds)) ρ μ R
theorem qP {k j n:Nat}{ps:List Str}{g:GC3}{pl:Sem Bool} (hxe:X.ex=[]) (C:qO X.prog X.w X.K X.mg X.base x m ps k n g) (hr:Room j X.A) (hkj:k<=j) (ho:PEC X o To) (ha:PAC X (e::es) Tr)
  (hst:starEach (e::es) X.env=(false,eval e X.env)::starEach es X.env:=by rfl) (hpl:(backTo pos (starEach es X.env)).any (·.1)=false:=by rfl)
  (ht:eval (.Call (.Attribute o m apos) (e::es) [] pos) X.env=(do
   let ov ←eval o X.env
   standAt apos.atName
   let (f,first) ←holding [ov] (getMethod ov m pl)
   callWith pos f first (backTo pos (starEach (e::es) X.env)) (backToKw pos (keywordEach [] X.env))):=by rfl):
  PEC X (.Call (.Attribute o m apos) (e::es) [] pos) (bindC To (JB x m g n Tr)):=by
 with_unfolding_all
  intro Kp s σ H Q I h
  obtain ⟨C,f,fd,hC,hcls,hmeth,F,hb⟩:=C
  refine PySem.W.methodCall_KW (pl:=pl) (thn (ho Kp s σ H (fun y H1=>∃ od,Rep X.K H1 od y/\AtC X σ H1 (JB x m g n Tr od) fun d H'=>∀ v,Rep X.K H' d v->Q v H') I ((AtC.bind h).imp fun od H1 _ ⟨s1,h1⟩ y ry=>⟨od,ry,h1⟩)) fun u s1 ⟨y,H1,I1,ry,od,rod,ρ,μ,R,en,cs,⟨⟨a,fs,hd,hm,hl⟩,t⟩,kk⟩=>?_) ht
  subst hd
  cases Rep.celOut rod
  obtain rfl:u=Value.ref a:=ry
  obtain ⟨C',dx,vs,h1,h2,h3⟩:=cs a _ hm
  rw [hC] at h1; cases h1
  refine ZN I1 h2 hcls hmeth (h3.lookN hl) ?_
  refine PySem.W.callWith_K (first:=[.ref a]) (h₀:=X.base) I.ok.mod.kin hmeth.kp (thn (ha pos Kp s1 σ H1 (fun ws H2=>∃ ds,Reps X.K H2 ds ws/\AtC X σ H2 (QB g n (jv a::ds)) fun d H'=>∀ v,Rep X.K H' d v->Q v H') I1 ((AtC.bind (show AtC X σ H1 (bindC Tr fun ds=>QB g n (jv a::ds)) _ from ⟨ρ,μ,R,en,cs,t,kk⟩)).imp fun ds H2 _ ⟨s2,h2⟩ ws rw=>⟨ds,rw,h2⟩)) fun us s2 ⟨ws,H2,I2,r,ds,rd,q⟩=>⟨I2.kIn,?_⟩) hst hpl
  obtain ⟨ρ2,μ2,R2,en2,cs2,⟨hn,hG⟩,kk2⟩:=q
  exact ap4 (us:= .ref a::us) (vs:= .ref a::ws) hxe F (hr.mono hkj) hb I2 (.cons rfl r) (show Reps X.K H2 (jv a::ds) (V.ref a::ws) from ⟨_,_,rfl,Rep.cel a,rd⟩) cs2 hn hG kk2
end
section
variable {X:Cx}{e a b c o value:Expr}{es:List Expr}{st:Stmt}{Ta Tb To Tv:TR PyData}{Tr:TR (LP)}{pos pos' apos:Pos}{x f m:Str}
theorem jO {k j n:Nat}{ps:List Str}{g:GC3}{pl:Sem Bool} (hxe:X.ex=[]) (C:qO X.prog X.w X.K X.mg X.base x m ps k n g) (hr:Room j X.A) (hkj:k<=j) (ho:PEC X o To)
  (ht:eval (.Call (.Attribute o m apos) [] [] pos) X.env=(do
   let ov ←eval o X.env
   standAt apos.atName
   let (f,first) ←holding [ov] (getMethod ov m pl)
   callWith pos f first (backTo pos (starEach [] X.env)) (backToKw pos (keywordEach [] X.env))):=by rfl):
  PEC X (.Call (.Attribute o m apos) [] [] pos) (bindC To (JB x m g n (qZ (some [])))):=by
 with_unfolding_all
  intro Kp s σ H Q I h
  obtain ⟨C,f,fd,hC,hcls,hmeth,F,hb⟩:=C
  refine PySem.W.methodCall_KW (pl:=pl) (thn (ho Kp s σ H (fun y H1=>∃ od,Rep X.K H1 od y/\AtC X σ H1 (JB x m g n (qZ (some [])) od) fun d H'=>∀ v,Rep X.K H' d v->Q v H') I ((AtC.bind h).imp fun od H1 _ ⟨s1,h1⟩ y ry=>⟨od,ry,h1⟩)) fun u s1 ⟨y,H1,I1,ry,od,rod,ρ,μ,R,en,cs,⟨⟨a,fs,hd,hm,hl⟩,t⟩,kk⟩=>?_) ht
  subst hd
  cases Rep.celOut rod
  obtain rfl:u=Value.ref a:=ry
  obtain ⟨C',dx,vs,h1,h2,h3⟩:=cs a _ hm
  rw [hC] at h1; cases h1
  refine ZN I1 h2 hcls hmeth (h3.lookN hl) ?_
  obtain ⟨ds,hds,hn,hG⟩:=t
  cases hds
  exact PySem.W.callWith_K0 (first:=[.ref a]) I1.kIn hmeth.kp (ap4 (us:=[.ref a]) (vs:=[.ref a]) hxe F (hr.mono hkj) hb I1 (.cons rfl .nil) (show Reps X.K H1 [jv a] [V.ref a] from ⟨_,_,rfl,Rep.cel a,rfl⟩) cs hn hG kk)
end
section
variable {X:Cx}{e a b c o value:Expr}{es:List Expr}{st:Stmt}{Ta Tb To Tv:TR PyData}{Tr:TR (LP)}{pos pos' apos:Pos}{x f m:Str}
def aq8 (x:Str) (g:GC3) (n:Nat) (ds:LP):TR PyData:=fun _ μ R=>(ds.length+1=n)/\∀ a,μ a=none->g (jv a::ds) (qY μ a (.ins x [])) fun o μ'=>match o with
 | .ok d=>d= .none/\R (.ok (jv a)) μ'
 | .er c=>R (.er c) μ'
theorem amE {k j n:Nat}{ps:List Str}{g:GC3}{p:Pos} (hxe:X.ex=[]) (C:aoV X.prog X.w X.K X.mg X.base x ps k n g) (hr:Room j X.A) (hkj:k+1<=j) (ha:PAC X (e::es) Tr)
  (hg:Gl X x:=by rfl) (hdb:(x == ("__debug__":Str))=false:=by decide) (he:starEach (e::es) X.env=(false,eval e X.env)::starEach es X.env:=by rfl)
  (hpl:(backTo pos (starEach es X.env)).any (·.1)=false:=by rfl):PEC X (.Call (.Name x p) (e::es) [] pos) (bindC Tr (aq8 x g n)):=by
 with_unfolding_all
  intro Kp s σ H Q I h
  obtain ⟨C,f,fd,hC,hm,M,F,hb⟩:=C
  refine wpAny_Call_Name_kw (Ql I hg hm ?_ hdb)
  refine PySem.W.callWith_K (h₀:=X.base) I.ok.mod.kin M.kp (thn (ha pos Kp s σ H (fun vs H1=>∃ ds,Reps X.K H1 ds vs/\AtC X σ H1 (aq8 x g n ds) fun d H'=>∀ v,Rep X.K H' d v->Q v H') I ((AtC.bind h).imp fun ds H1 _ ⟨s1,h1⟩ vs rv=>⟨ds,rv,h1⟩)) fun us s1 ⟨vs,H1,I1,r,ds,rd,q⟩=>⟨I1.kIn,?_⟩) he hpl
  obtain ⟨ρ,μ,R,en,cs,⟨hn,hG⟩,kk⟩:=q
  have hA:H1 (s1.heap.objs.size+1)=none:=I1.hok.fresh (Nat.le_succ _)
  have hD:H1 s1.heap.objs.size=none:=I1.hok.fresh (Nat.le_refl _)
  have ne:s1.heap.objs.size ≠ s1.heap.objs.size+1:=Nat.ne_of_lt (Nat.lt_succ_self _)
  have hq:=hG (s1.heap.objs.size+1) (cs.free hA)
  have I2:=Inv.made (C:=C) I1
  have sm:jp H1 (upd (upd H1 s1.heap.objs.size (.own (s1.heap.objs.size+1))) (s1.heap.objs.size+1) (.ins C s1.heap.objs.size [])):=fun b o q=>by
   have n1:b ≠ s1.heap.objs.size+1:=fun z=>by subst z; rw [hA] at q; cases q
   have n2:b ≠ s1.heap.objs.size:=fun z=>by subst z; rw [hD] at q; cases q
   rw [jo n1,jo n2]; exact q
  have cs2:qe X.K (upd (upd H1 s1.heap.objs.size (.own (s1.heap.objs.size+1))) (s1.heap.objs.size+1) (.ins C s1.heap.objs.size [])) (qY μ (s1.heap.objs.size+1) (.ins x [])):=
   cs.put (jp.a sm) (fun b _ o q=>sm b o q) ⟨C,_,[],hC,ji,rfl⟩
  have sp:ady X.K X.mg n g (V.ref (s1.heap.objs.size+1)::vs) (upd (upd H1 s1.heap.objs.size (.own (s1.heap.objs.size+1))) (s1.heap.objs.size+1) (.ins C s1.heap.objs.size [])) (fun v H2=>v= .non/\Q (.ref (s1.heap.objs.size+1)) H2)
    (fun cls _ H'=>∃ c μ',X.mg c=some cls/\R (.er c) μ'/\jx H1 H'/\qe X.K H' μ'):=
   ⟨jv (s1.heap.objs.size+1)::ds,_,_,hn,⟨V.ref (s1.heap.objs.size+1),vs,rfl,Rep.cel _,Reps.mono sm _ _ rd⟩,cs2,hq,fun d μ' q v H' sA rv c=>by
    obtain ⟨q1,q2⟩:=q
    subst q1
    exact ⟨rv,kk _ _ q2 H' ((jp.a sm).trans sA) c _ (Rep.cel _)⟩,fun c μ' q C H' hC' sA c'=>⟨c,μ',hC',q,(jp.a sm).trans sA,c'⟩⟩
  have r2:jG (V.ref (s1.heap.objs.size+1)::vs) (Value.ref (s1.heap.objs.size+1)::us):= .cons rfl r
  have hl:(Value.ref (s1.heap.objs.size+1)::us++[]).length=ps.length:=by
   rw [List.append_nil,←r2.length]
   exact F.len _ _ _ _ sp
  have hbd:=hb _ (Value.ref (s1.heap.objs.size+1)::us) I2.kIn hl
  rw [List.append_nil] at hbd
  refine wpAny_call (alJ (f:=f) I1.kIn M.makes M.init (beq_iff_eq.mp M.fn) (codeAny_mono (F.run _ X.stack _ _ ⟨Value.ref (s1.heap.objs.size+1)::us,[]⟩ (Value.ref (s1.heap.objs.size+1)::us) _ _ _ ((hr.mono hkj).make C us [])
   (I2.env0.make C us []) hbd r2 sp) fun rs s' hq'=>?_))
  cases rs with
  | error ev=>
   obtain ⟨e0,C0,H',rfl,os,bare,un,hok,xc,c,μ',hC',hR,sA,c'⟩:=hq'
   have J':Inv X Kp σ H' s':=I2.call' (ch:=[]) os un hok bare fun b z=>nomatch z
   have J0:Inv X [] σ H' s':=J'.pins_of fun p hp=>nomatch hp
   have k1:qV X H1 (fun d H'=>∀ v,Rep X.K H' d v->Q v H') (.er c) μ':=kk (.er c) μ' hR
   have x1:=Xc.of hxe I2 xc
   have t1:ae6 X H1 μ' c (.ref e0) s':=⟨e0,C0,σ,H',rfl,hC',J0,sA,c',x1⟩
   exact k1 (.ref e0) s' t1
  | ok fl=>
   cases fl with
   | ret u=>
    obtain ⟨v,H',I3,rv,ev,q3⟩:=I2.after hq'
    subst ev
    exact ⟨rv,⟨V.ref (s1.heap.objs.size+1),H',I3,rfl,q3⟩⟩
   | next=>exact False.elim hq'
   | brk=>exact False.elim hq'
   | cont=>exact False.elim hq'
end
theorem Reps.dropLast {K:Fg}{H:Hp}{ds:LP}{xs:List V} (h:Reps K H ds xs):Reps K H ds.dropLast xs.dropLast:=by
 rw [List.dropLast_eq_take,List.dropLast_eq_take,h.length]
 exact Reps.take _ h
section
variable {X:Cx}{e a b c o value:Expr}{es:List Expr}{st:Stmt}{Ta Tb To Tv:TR PyData}{Tr:TR (LP)}{pos pos' apos cpos:Pos}{x f m:Str}
def amF (od:PyData) (μ:jC):Prop:=∃ a ds,od=jv a/\μ a=some (.lst ds)
theorem ae8 {Kp:List (Addr × Obj)}{σ:St}{H:Hp}{s:Shared}{a:Addr}{xs:List V} (I:Inv X Kp σ H s) (h:H a=some (j5 a xs)):s.TypeIs (.ref a) "list"/\∀ b,Value.ref a= .ref b->∃ o,s.heap.get? b=some o/\o.dict=none:=
 alO (T:="list") (Inv.opened I (.l xs) h) (x:= .ref a) (v:= .ref a) rfl (.inl ⟨rfl,xs,SqL.of ji⟩)
theorem acQ {Kp:List (Addr × Obj)}{σ:St}{H H4:Hp}{s s':Shared}{a:Addr}{xs ys:List V} (I:Inv X Kp σ H s) (h:H a=some (j5 a xs)) (e4:H4=upd (upd H a (.lst xs)) a (.lst ys)) (I4:Inv X Kp σ H4 s'):Inv X Kp σ (upd H a (j5 a ys)) s':=by
 subst e4
 have:=Inv.closed I4 (.l ys) ji (Inv.nofrz I h)
 rw [L2.qF,L2.qF] at this
 exact this
def amG (od d:PyData):TR PyData:=fun _ μ R=>∃ a ds,od=jv a/\μ a=some (.lst ds)/\ds.length<1000000/\R (.ok .none) (qY μ a (.lst (ds++[d])))
theorem Qv (ho:PEC X o To) (ha:PEC X e Ta) (hbase:attributeBase o "append" X.env (eval o X.env)=eval o X.env:=by rfl)
  (hfew:((backTo cpos (starEach [e] X.env)).all (fun x=>!x.1) && (backToKw cpos (keywordEach [] X.env)).all (fun x=>x.1.isSome)
   && decide ([e].length+([]:List Keyword).length+(if ([]:List Keyword).isEmpty then 0 else 1)<30))=true:=by rfl)
  (hline:(apos.endLine == cpos.line)=true:=by rfl) (hs:starEach [e] X.env=(false,eval e X.env)::starEach [] X.env:=by rfl) (hplain:(backTo cpos (starEach [] X.env)).any (·.1)=false:=by rfl):
  PEC X (.Call (.Attribute o "append" apos) [e] [] cpos) (bindC To fun od ρ μ R=>amF od μ/\bindC Ta (amG od) ρ μ R):=by
 with_unfolding_all
  intro Kp s σ H Q I h
  refine wpAny_Call_method_late hbase hfew hline rfl (thn (ho Kp s σ H (fun y H1=>∃ od,Rep X.K H1 od y/\AtC X σ H1 (fun ρ μ R=>amF od μ/\bindC Ta (amG od) ρ μ R) fun d H'=>∀ v,Rep X.K H' d v->Q v H') I ((AtC.bind h).imp fun od H1 _ ⟨s1,h1⟩ y ry=>⟨od,ry,h1⟩)) fun v s1 ⟨y,H1,I1,ry,od,rod,ρ,μ,R,en,cs,⟨⟨l,ds0,hd,hm⟩,t⟩,kk⟩=>?_)
  subst hd
  cases Rep.celOut rod
  obtain rfl:v=Value.ref l:=ry
  obtain ⟨xs0,h2,_⟩:=cs l _ hm
  obtain ⟨t1,t2⟩:=ae8 I1 h2
  refine ⟨"list","list.append",PySem.F.plainAttrs_list,PySem.F.slot_list_append,PySem.F.type_list_append,t1,t2,?_⟩
  have pa:PA X [e] _:=qG (X:=X) ha zz hs
  have hA:=pa cpos Kp s1 σ H1 (fun ws H2=>∃ y d,ws=[y]/\Rep X.K H2 d y/\AtC X σ H2 (amG (jv l) d) fun d H'=>∀ v,Rep X.K H' d v->Q v H') I1
   ((AtC.bind (show AtC X σ H1 (bindC Ta (amG (jv l))) _ from ⟨ρ,μ,R,en,cs,t,kk⟩)).imp fun d H2 _ ⟨s2,h2⟩ y ry=>⟨y,d,rfl,ry,h2⟩)
  rw [hs] at hA ⊢
  refine Calls.callWith_builtin (by show (false || (backTo cpos (starEach [] X.env)).any (·.1))=false; rw [hplain] <;> rfl) (Calls.evalArgs_plain ?_)
  refine thn hA fun us s2 ⟨ws,H2,I2,r2,y,d,hws,ry,ρ2,μ2,R2,en2,cs2,⟨l2,ds,hd2,hm2,hl,hR⟩,kk2⟩=>?_
  subst hws
  cases amD hd2
  obtain ⟨xs,h3,rs⟩:=cs2 l _ hm2
  refine thn (adM Kp s2 σ (upd H2 l (.lst xs)) (.ref l) [y] (.ref l) us (fun w H4=>w= .non/\H4=upd (upd H2 l (.lst xs)) l (.lst (xs++[y]))) (Inv.opened I2 (.l xs) h3) rfl r2 ⟨l,xs,y,rfl,rfl,ji,by rw [rs.length]; exact Qt hl,rfl,rfl⟩) fun u s3 ⟨w,H4,I4,r4,e1,e4⟩=>?_
  subst e1
  have sA:jx H2 (upd H2 l (j5 l (xs++[y]))):=jx.upd h3 rfl
  have k1:=(kk2 (.ok .none) _ hR:qV X H2 (fun d H'=>∀ v,Rep X.K H' d v->Q v H') (.ok .none) _)
  exact ⟨.non,_,acQ I2 h3 e4 I4,r4,k1 _ sA (cs2.upd sA ⟨_,ji,(Reps.monoA sA _ _ rs).append ⟨y,[],rfl,Rep.monoA sA _ _ ry,rfl⟩⟩) .non rfl⟩
def asJ (od:PyData):TR PyData:=fun _ μ R=>∃ a ds d,od=jv a/\μ a=some (.lst ds)/\ds[ds.length - 1]?=some d/\R (.ok d) (qY μ a (.lst ds.dropLast))
theorem aoW (ho:PEC X o To) (hbase:attributeBase o "pop" X.env (eval o X.env)=eval o X.env:=by rfl) (hline:(apos.endLine == cpos.line)=true:=by rfl):PEC X (.Call (.Attribute o "pop" apos) [] [] cpos) (bindC To asJ):=by
 with_unfolding_all
  intro Kp s σ H Q I h
  refine wpAny_Call_method0_late hbase hline (thn (ho Kp s σ H (fun y H1=>∃ od,Rep X.K H1 od y/\AtC X σ H1 (asJ od) fun d H'=>∀ v,Rep X.K H' d v->Q v H') I ((AtC.bind h).imp fun od H1 _ ⟨s1,h1⟩ y ry=>⟨od,ry,h1⟩)) fun v s1 ⟨y,H1,I1,ry,od,rod,ρ,μ,R,en,cs,⟨l,ds,d,hd,hm,hl,hR⟩,kk⟩=>?_)
  subst hd
  cases Rep.celOut rod
  obtain rfl:v=Value.ref l:=ry
  obtain ⟨xs,h2,rs⟩:=cs l _ hm
  obtain ⟨t1,t2⟩:=ae8 I1 h2
  obtain ⟨z,hz,rz⟩:=rs.get hl
  refine ⟨"list","list.pop",PySem.F.plainAttrs_list,PySem.F.slot_list_pop,PySem.F.type_list_pop,t1,t2,Calls.callWith_builtin rfl (PySem.evalArgs_none ?_)⟩
  refine thn (aqH Kp s1 σ (upd H1 l (.lst xs)) (.ref l) [] (.ref l) [] (fun w H4=>w=z/\H4=upd (upd H1 l (.lst xs)) l (.lst xs.dropLast)) (Inv.opened I1 (.l xs) h2) rfl .nil ⟨l,xs,z,rfl,rfl,ji,by rw [rs.length]; exact hz,rfl,rfl⟩) fun u s3 ⟨w,H4,I4,r4,e1,e4⟩=>?_
  subst e1
  have sA:jx H1 (upd H1 l (j5 l xs.dropLast)):=jx.upd h2 rfl
  have k1:=(kk (.ok d) _ hR:qV X H1 (fun d H'=>∀ v,Rep X.K H' d v->Q v H') (.ok d) _)
  exact ⟨w,_,acQ I1 h2 e4 I4,r4,k1 _ sA (cs.upd sA ⟨_,ji,Reps.dropLast (Reps.monoA sA _ _ rs)⟩) w (Rep.monoA sA _ _ rz)⟩
def aq9 (od:PyData):TR PyData:=fun _ μ R=>∃ a ds,od=jv a/\μ a=some (.lst ds)/\R (.ok .none) (qY μ a (.lst []))
theorem akE (ho:PEC X o To) (hbase:attributeBase o "clear" X.env (eval o X.env)=eval o X.env:=by rfl) (hline:(apos.endLine == cpos.line)=true:=by rfl):PEC X (.Call (.Attribute o "clear" apos) [] [] cpos) (bindC To aq9):=by
 with_unfolding_all
  intro Kp s σ H Q I h
  refine wpAny_Call_method0_late hbase hline (thn (ho Kp s σ H (fun y H1=>∃ od,Rep X.K H1 od y/\AtC X σ H1 (aq9 od) fun d H'=>∀ v,Rep X.K H' d v->Q v H') I ((AtC.bind h).imp fun od H1 _ ⟨s1,h1⟩ y ry=>⟨od,ry,h1⟩)) fun v s1 ⟨y,H1,I1,ry,od,rod,ρ,μ,R,en,cs,⟨l,ds,hd,hm,hR⟩,kk⟩=>?_)
  subst hd
  cases Rep.celOut rod
  obtain rfl:v=Value.ref l:=ry
  obtain ⟨xs,h2,rs⟩:=cs l _ hm
  obtain ⟨t1,t2⟩:=ae8 I1 h2
  refine ⟨"list","list.clear",PySem.F.plainAttrs_list,PySem.F.slot_list_clear,PySem.F.type_list_clear,t1,t2,Calls.callWith_builtin rfl (PySem.evalArgs_none ?_)⟩
  refine thn (alQ Kp s1 σ (upd H1 l (.lst xs)) (.ref l) [] (.ref l) [] (fun w H4=>w= .non/\H4=upd (upd H1 l (.lst xs)) l (.lst [])) (Inv.opened I1 (.l xs) h2) rfl .nil ⟨l,xs,rfl,rfl,ji,rfl,rfl⟩) fun u s3 ⟨w,H4,I4,r4,e1,e4⟩=>?_
  subst e1
  have sA:jx H1 (upd H1 l (j5 l [])):=jx.upd h2 rfl
  have k1:=(kk (.ok .none) _ hR:qV X H1 (fun d H'=>∀ v,Rep X.K H' d v->Q v H') (.ok .none) _)
  exact ⟨.non,_,acQ I1 h2 e4 I4,r4,k1 _ sA (cs.upd sA ⟨_,ji,rfl⟩) .non rfl⟩
def atO (f:RP):TR PyData:=fun ρ μ R=>∃ ds,f ρ=some (.list ds)/\∀ a,μ a=none->R (.ok (jv a)) (qY μ a (.lst ds))
theorem ae9 {fe:RP} (h:PN X e fe):PEC X e (atO fe):=by
 with_unfolding_all
  exact PE.imp h fun σ H Q ⟨ρ,μ,R,en,cs,⟨ds,hf,hR⟩,kk⟩=>⟨ρ,_,en,hf,fun l H' s hn ow=>by
   have k1:=(kk (.ok (jv l)) _ (hR l (cs.free hn)):qV X H (fun d H'=>∀ v,Rep X.K H' d v->Q v H') (.ok (jv l)) _)
   exact k1 H' (jp.a s) (cs.put (jp.a s) (fun b _ o q=>s b o q) ow) (.ref l) (Rep.cel l)⟩
end
section
variable {X:Cx}{e a b c o value:Expr}{es:List Expr}{st:Stmt}{Ta Tb To Tv:TR PyData}{Tr:TR (LP)}{fa:RP}{pos pos' apos cpos:Pos}{x f m:Str}
theorem agQ {H:Hp}{ρ:Rho}{σ:St}{i:Nat}{l:Addr}{ds:LP}{xs:List V} (en:EnvR X.K H ρ σ) (hi:lkp i ρ=some (jv l)) (h:H l=some (j5 l xs)) (rs:Reps X.K H ds xs):EnvR X.K (upd H l (.lst xs)) (ρ.set i (some (.list ds))) σ:=by
 have sA:jx H (upd H l (.lst xs)):=jx.upd h rfl
 have hi':=qv hi
 have hl:i < ρ.length:=(List.getElem?_eq_some_iff.mp hi').1
 refine ⟨by rw [List.length_set]; exact en.len,fun j d q=>?_⟩
 by_cases hj:i=j
 ·subst hj
  rw [List.getElem?_set_self hl] at q; cases q
  obtain ⟨v,h1,h2⟩:=en.at' i _ hi'
  cases Rep.celOut h2
  exact ⟨_,h1,l,xs,rfl,ji,Reps.monoA sA _ _ rs⟩
 ·rw [List.getElem?_set_ne hj] at q
  exact (en.monoA sA).at' j d q
theorem acR {H H3:Hp}{l:Addr}{xs:List V}{o:HO} (h:H l=some (j5 l xs)) (s:jp (upd H l o) H3):jx H (upd H3 l (j5 l xs))/\∀ b,b ≠ l->∀ u,H b=some u->upd H3 l (j5 l xs) b=some u:=
 have k:∀ b,b ≠ l->∀ u,H b=some u->upd H3 l (j5 l xs) b=some u:=fun b hb u q=>by rw [jo hb]; exact s b u (by rw [jo hb]; exact q)
 ⟨fun b u q d=>k b (fun z=>by subst z; rw [h] at q; cases q; cases d) u q,k⟩
theorem Qw {H H3:Hp}{μ:jC}{l:Addr}{ds:LP}{xs:List V}{o:HO} (cs:qe X.K H μ) (hm:μ l=some (.lst ds)) (h:H l=some (j5 l xs)) (s:jp (upd H l o) H3):qe X.K (upd H3 l (j5 l xs)) μ:=fun b c q=>by
 obtain ⟨sA,k⟩:=acR h s
 by_cases hb:b=l
 ·subst hb
  exact (cs b c q).to sA (by rw [ji,h])
 ·obtain ⟨u,h1,_⟩:=(cs b c q).there
  exact (cs b c q).to sA ((k b hb u h1).trans h1.symm)
def atP (i:Nat) (f:RP):TR PyData:=fun ρ μ R=>∃ a ds d,lkp i ρ=some (jv a)/\μ a=some (.lst ds)/\f (ρ.set i (some (.list ds)))=some d/\noL d=true/\R (.ok d) μ
theorem aoX (i:Nat) (h:PD X e fa):PEC X e (atP i fa):=by
 with_unfolding_all
  intro Kp s σ H Q I ⟨ρ,μ,R,en,cs,⟨l,ds,d,hi,hm,hf,hn,hR⟩,kk⟩
  obtain ⟨xs,h1,rs⟩:=cs l _ hm
  refine thn (h Kp s σ (upd H l (.lst xs)) (fun v H3=>jp (upd H l (.lst xs)) H3/\Rep X.K H3 d v) (Inv.opened I (.l xs) h1) ⟨_,d,agQ en hi h1 rs,hf,fun v H3 s3 r3=>⟨s3,r3⟩⟩) fun u s1 ⟨v,H3,I3,r,s3,r3⟩=>?_
  have e3:H3 l=some (.lst xs):=s3 _ _ ji
  have k1:=(kk (.ok d) _ hR:qV X H (fun d H'=>∀ v,Rep X.K H' d v->Q v H') (.ok d) _)
  refine ⟨v,upd H3 l (j5 l xs),Inv.closed I3 (.l xs) e3 (Inv.nofrz I h1),r,k1 _ (acR h1 s3).1 (Qw cs hm h1 s3) v (Rep.monoN (fun b u hb m=>?_) d v hn r3)⟩
  have:b ≠ l:=fun z=>by subst z; rw [e3] at hb; cases hb; exact m _ rfl
  rw [jo this]; exact hb
def atQ (i:Nat) (f:Rho->Option Bool):TR Bool:=fun ρ μ R=>∃ a ds d,lkp i ρ=some (jv a)/\μ a=some (.lst ds)/\f (ρ.set i (some (.list ds)))=some d/\R (.ok d) μ
theorem aoY (i:Nat) {tc:Rho->Option Bool} (h:PTD X e tc):PTC X e (atQ i tc):=by
 with_unfolding_all
  intro Kp s σ H Q I ⟨ρ,μ,R,en,cs,⟨l,ds,d,hi,hm,hf,hR⟩,kk⟩
  obtain ⟨xs,h1,rs⟩:=cs l _ hm
  refine thn (h Kp s σ (upd H l (.lst xs)) (fun b H3=>b=d/\jp (upd H l (.lst xs)) H3) (Inv.opened I (.l xs) h1) ⟨_,d,agQ en hi h1 rs,hf,fun H3 s3=>⟨rfl,s3⟩⟩) fun b s1 ⟨H3,I3,hb,s3⟩=>?_
  subst hb
  have e3:H3 l=some (.lst xs):=s3 _ _ ji
  have k1:=(kk (.ok b) _ hR:qV X H Q (.ok b) _)
  exact ⟨upd H3 l (j5 l xs),Inv.closed I3 (.l xs) e3 (Inv.nofrz I h1),k1 _ (acR h1 s3).1 (Qw cs hm h1 s3)⟩
def ara (g:LP->OP) (od:PyData):TR PyData:=fun _ μ R=>∃ a ds d,od=jv a/\μ a=some (.lst ds)/\g [.list ds]=some d/\noL d=true/\R (.ok d) μ
theorem ajo {id:String}{g:LP->OP}{p:Pos} (hc:QM X (.builtin id) g) (hm0:X.mg x=none) (hv:bootBuiltins x=some (.builtin id)) (ho:PEC X e To) (hg:Gl X x:=by rfl) (hn0:x ≠ "__name__":=by decide) (hdb:(x == ("__debug__":Str))=false:=by decide)
  (he:starEach [e] X.env=(false,eval e X.env)::starEach [] X.env:=by rfl) (hpl:(backTo pos (starEach [] X.env)).any (·.1)=false:=by rfl):PEC X (.Call (.Name x p) [e] [] pos) (bindC To (ara g)):=by
 with_unfolding_all
  intro Kp s σ H Q I h
  obtain ⟨r,h1,h2⟩:=hc
  refine wpAny_Call_Name_kw (JW I hg hm0 hv ?_ hn0 hdb)
  have pa:PA X [e] _:=qG (X:=X) ho zz he
  refine PyProof.Rows.callWith_builtin1 (thn (pa pos Kp s σ H (fun ws H1=>∃ y od,ws=[y]/\Rep X.K H1 od y/\AtC X σ H1 (ara g od) fun d H'=>∀ v,Rep X.K H' d v->Q v H') I ((AtC.bind h).imp fun od H1 _ ⟨s1,h1⟩ y ry=>⟨y,od,rfl,ry,h1⟩)) fun us s1 ⟨ws,H1,I1,r1,y,od,hws,rod,ρ,μ,R,en,cs,⟨l,ds,d,hd,hm,hf,hn,hR⟩,kk⟩=>?_) he hpl
  subst hws
  subst hd
  cases Rep.celOut rod
  obtain ⟨xs,h3,rs⟩:=cs l _ hm
  have sA:jx H1 (upd H1 l (.lst xs)):=jx.upd h3 rfl
  refine thn (h1 Kp s1 σ (upd H1 l (.lst xs)) [.ref l] us (fun v H3=>jp (upd H1 l (.lst xs)) H3/\Rep X.K H3 d v) (Inv.opened I1 (.l xs) h3) r1 (h2 [.list ds] d [.ref l] _ _ hf ⟨.ref l,[],rfl,⟨l,xs,rfl,ji,Reps.monoA sA _ _ rs⟩,rfl⟩ fun v H3 s3 r3=>⟨s3,r3⟩)) fun u s2 ⟨v,H3,I3,r,s3,r3⟩=>?_
  have e3:H3 l=some (.lst xs):=s3 _ _ ji
  have k1:=(kk (.ok d) _ hR:qV X H1 (fun d H'=>∀ v,Rep X.K H' d v->Q v H') (.ok d) _)
  refine ⟨v,upd H3 l (j5 l xs),Inv.closed I3 (.l xs) e3 (Inv.nofrz I1 h3),r,k1 _ (acR h3 s3).1 (Qw cs hm h3 s3) v (Rep.monoN (fun b u hb m=>?_) d v hn r3)⟩
  have:b ≠ l:=fun z=>by subst z; rw [e3] at hb; cases hb; exact m _ rfl
  rw [jo this]; exact hb
def asK (od:PyData):TR Bool:=fun _ μ R=>∃ a ds,od=jv a/\μ a=some (.lst ds)/\R (.ok (!ds.isEmpty)) μ
theorem aoZ (ho:PEC X e To) (he:∀ whole,isTrue e X.env whole=(do let v ←whole; standAt e.pos; holding [v] (truthy v)):=by intro _; rfl):PTC X e (bindC To asK):=by
 with_unfolding_all
  intro Kp s σ H Q I h
  refine isTrue_plain (thn (ho Kp s σ H (fun y H1=>∃ od,Rep X.K H1 od y/\AtC X σ H1 (asK od) Q) I ((AtC.bind h).imp fun od H1 _ ⟨s1,h1⟩ y ry=>⟨od,ry,h1⟩)) fun v s1 ⟨y,H1,I1,ry,od,rod,ρ,μ,R,en,cs,⟨l,ds,hd,hm,hR⟩,kk⟩=>?_) (he _)
  subst hd
  cases Rep.celOut rod
  obtain ⟨xs,h3,rs⟩:=cs l _ hm
  have ee:xs.isEmpty=ds.isEmpty:=by
   have:=rs.length
   cases xs <;> cases ds <;> first | rfl | simp at this
  refine thn (aqB Kp s1 σ (upd H1 l (.lst xs)) (.ref l) v (fun k H3=>k=!xs.isEmpty/\H3=upd H1 l (.lst xs)) (Inv.opened I1 (.l xs) h3) ry ⟨!xs.isEmpty,.inl ⟨xs,SqL.of ji,rfl⟩,rfl,rfl⟩) fun b s2 ⟨H3,I3,hb,e3⟩=>?_
  subst hb
  have k1:=(kk (.ok (!ds.isEmpty)) _ hR:qV X H1 Q (.ok (!ds.isEmpty)) _)
  have s3:jp (upd H1 l (.lst xs)) H3:=by rw [e3]; exact jp.refl _
  rw [ee]
  exact ⟨upd H3 l (j5 l xs),Inv.closed I3 (.l xs) (s3 _ _ ji) (Inv.nofrz I1 h3),k1 _ (acR h3 s3).1 (Qw cs hm h3 s3)⟩
theorem agR {k j n:Nat}{ps:List Str}{g:LP->OP}{p:Pos} (C:jm X.prog X.w X.K X.mg X.base x ps k n g) (hr:Room j X.A) (hkj:k<=j) (ha:PAC X (e::es) Tr)
  (hg:Gl X x:=by rfl) (hdb:(x == ("__debug__":Str))=false:=by decide) (he:starEach (e::es) X.env=(false,eval e X.env)::starEach es X.env:=by rfl)
  (hpl:(backTo pos (starEach es X.env)).any (·.1)=false:=by rfl):PEC X (.Call (.Name x p) (e::es) [] pos) (bindC Tr fun ds=>qZ (if ds.length=n then g ds else none)):=by
 with_unfolding_all
  obtain ⟨f,fd,h1,h2,h3,h4⟩:=C
  exact PE.imp (aeK h1 (hr.mono hkj) hg h2 h3 h4 .nil adN ha hdb he hpl) fun σ H Q h=>(AtC.bind h).imp fun ds H1 _ ⟨s1,h1⟩ vs rv=>by
   obtain ⟨d,hd,k⟩:=h1.ret
   by_cases hn:ds.length=n
   ·rw [if_pos hn] at hd
    exact ⟨ds,d,hn,by rw [List.append_nil]; exact rv,hd,fun v H' s r=>k H' s v r⟩
   ·rw [if_neg hn] at hd; cases hd
def agS (n:Nat) (g:LP->OP) (t:LP->Option Str) (ds:LP):TR PyData:=fun _ μ R=>ds.length=n/\((∃ d,g ds=some d/\R (.ok d) μ) ∨ ∃ c,t ds=some c/\R (.er c) μ)
theorem Ze {k k' j n:Nat}{ps:List Str}{g:LP->OP}{gx:LP->Option Str}{p:Pos} (hxe:X.ex=[]) (C:jm X.prog X.w X.K X.mg X.base x ps k n g) (C':qJ X.prog X.w X.K X.mg X.base x ps k' n gx) (hr:Room j X.A) (hkj:k<=j) (hkj':k'<=j) (ha:PAC X (e::es) Tr)
  (hg:Gl X x:=by rfl) (hdb:(x == ("__debug__":Str))=false:=by decide) (he:starEach (e::es) X.env=(false,eval e X.env)::starEach es X.env:=by rfl)
  (hpl:(backTo pos (starEach es X.env)).any (·.1)=false:=by rfl):PEC X (.Call (.Name x p) (e::es) [] pos) (bindC Tr (agS n g gx)):=by
 with_unfolding_all
  intro Kp s σ H Q I h
  obtain ⟨f,fd,F,hm,hk,hb⟩:=C
  obtain ⟨f',fd',F',hm',hk',hb'⟩:=C'
  rw [hm] at hm'
  have ef:f=f':=by cases hm'; rfl
  subst ef
  refine wpAny_Call_Name_kw (Ql I hg hm ?_ hdb)
  refine PySem.W.callWith_K (h₀:=X.base) I.ok.mod.kin hk (thn (ha pos Kp s σ H (fun vs H1=>∃ ds,Reps X.K H1 ds vs/\AtC X σ H1 (agS n g gx ds) fun d H'=>∀ v,Rep X.K H' d v->Q v H') I ((AtC.bind h).imp fun ds H1 _ ⟨s1,h1⟩ vs rv=>⟨ds,rv,h1⟩)) fun us s1 ⟨vs,H1,I1,r,ds,rd,q⟩=>⟨I1.kIn,?_⟩) he hpl
  obtain ⟨ρ,μ,R,en,cs,⟨hn,hG⟩,kk⟩:=q
  rcases hG with ⟨d,hd,hR⟩ | ⟨c,hc,hR⟩
  ·have k1:=(kk (.ok d) _ hR:qV X H1 (fun d H'=>∀ v,Rep X.K H' d v->Q v H') (.ok d) _)
   exact aeJ F (hr.mono hkj) hb .nil adN I1 r ⟨ds,d,hn,by rw [List.append_nil]; exact rd,hd,fun v H' s r=>k1 H' (jp.a s) (cs.mono s) v r⟩
  ·have sp:ah3 X.K X.mg n gx vs H1 (fun _ _=>False) (fun cls _ H'=>X.mg c=some cls/\jp H1 H'):=⟨ds,c,hn,rd,hc,fun C H' hC s2=>⟨hC,s2⟩⟩
   have hlu:(us++[]).length=ps.length:=by rw [List.append_nil,←r.length]; exact F'.len _ _ _ _ sp
   have hbd:=hb' s1 us I1.kIn hlu
   rw [List.append_nil] at hbd
   refine wpAny_call (codeAny_mono (F'.run X.A X.stack s1 H1 ⟨us,[]⟩ us vs _ _ (hr.mono hkj') I1.env0 hbd r sp) fun rs s' hq=>?_)
   cases rs with
   | error ev=>
    obtain ⟨e0,C,H',rfl,os,bare,un,hok,xc,hC,sm2⟩:=hq
    have J':Inv X Kp σ H' s':=I1.call' (ch:=[]) os un hok bare fun b z=>nomatch z
    have J0:Inv X [] σ H' s':=J'.pins_of fun p hp=>nomatch hp
    have k1:=(kk (.er c) _ hR:qV X H1 (fun d H'=>∀ v,Rep X.K H' d v->Q v H') (.er c) _)
    have x1:=Xc.of hxe I1 xc
    have t1:ae6 X H1 μ c (.ref e0) s':=⟨e0,C,σ,H',rfl,hC,J0,jp.a sm2,cs.mono sm2,x1⟩
    exact k1 (.ref e0) s' t1
   | ok fl=>
    cases fl with
    | ret u=>obtain ⟨v,H',_,_,_,_,_,z⟩:=hq; exact z.elim
    | next=>exact False.elim hq
    | brk=>exact False.elim hq
    | cont=>exact False.elim hq
theorem ad1 {id:String}{g:LP->OP}{p:Pos} (hc:QM X (.builtin id) g) (hm:X.mg x=none) (hv:bootBuiltins x=some (.builtin id)) (ha:PAC X (e::es) Tr) (hg:Gl X x:=by rfl) (hn:x ≠ "__name__":=by decide) (hdb:(x == ("__debug__":Str))=false:=by decide)
  (he:starEach (e::es) X.env=(false,eval e X.env)::starEach es X.env:=by rfl) (hpl:(backTo pos (starEach es X.env)).any (·.1)=false:=by rfl):PEC X (.Call (.Name x p) (e::es) [] pos) (bindC Tr fun ds=>qZ (g ds)):=by
 with_unfolding_all
  obtain ⟨r,h1,h2⟩:=hc
  exact PE.imp (Z0 h1 hg hm hv ha hn hdb he hpl) fun σ H Q h=>(AtC.bind h).imp fun ds H1 _ ⟨s1,h3⟩ vs rv=>by
   obtain ⟨d,hd,k⟩:=h3.ret
   exact h2 ds d vs H1 Q hd rv fun v H' s r=>k H' s v r
theorem abP {x1} (h:PAC X es Tr):PEC X (.Tuple es x1 pos) (bindC Tr fun ds=>qZ (if few ds=true then some (.tuple ds) else none)):=by
 with_unfolding_all
  exact PE.imp (ahJ h) fun σ H Q h=>(AtC.bind h).imp fun ds H1 _ ⟨s1,h3⟩ vs rv=>by
   obtain ⟨d,hd,k⟩:=h3.ret
   by_cases hf:few ds=true
   ·rw [if_pos hf] at hd; cases hd
    refine ⟨by rw [rv.length]; exact ZQ (by simpa [few] using hf),fun p hp=>?_⟩
    exact k _ (jI hp) (.ref p) ⟨p,vs,rfl,SqT.of ji,Reps.mono (jI hp) _ _ rv⟩
   ·rw [if_neg hf] at hd; cases hd
end
section
variable {X:Cx}{e a b c o tg src:Expr}{es:List Expr}{st:Stmt}{body:List Stmt}{S:TRS}{Tt:TR Bool}{Tr:TR (LP)}{pos:Pos}{x:Str}
def ap5 (nx:Rho->jC->Prop) (R:OutC->jC->Prop):OutC->jC->Prop
 | .nx ρ,μ=>nx ρ μ
 | .ct ρ,μ=>nx ρ μ
 | .bk ρ,μ=>R (.nx ρ) μ
 | .rt d,μ=>R (.rt d) μ
 | .er c,μ=>R (.er c) μ
def ad2 (ga:PyData->Rho->Option Rho) (S:TRS):LP->TRS
 | []=>fun ρ μ R=>R (.nx ρ) μ
 | d::r=>fun ρ μ R=>∃ ρ1,ga d ρ=some ρ1/\S ρ1 μ (ap5 (fun ρ2 μ2=>ad2 ga S r ρ2 μ2 R) R)
def atR (fi:Rho->Option (LP)) (ga:PyData->Rho->Option Rho) (S:TRS):TRS:=fun ρ μ R=>∃ ds,fi ρ=some ds/\ad2 ga S ds ρ μ R
theorem afa {fi:Rho->Option (LP)}{ga:PyData->Rho->Option Rho} (hp:PassesOwn (model X.prog X.w) X.A X.env X.xe) (hc:X.calm=true) (hi:PID X tg src fi) (hg:PGD X tg ga) (hb:aak X body S)
  (hs:∀ x,foldedSetIterable src X.env x=pure x:=by intro _; rfl):PSC X (.For tg src body [] pos) (atR fi ga S):=by
 with_unfolding_all
  refine PS.imp (aaK hp hc hi hg hb hs) fun D σ H ⟨ρ,μ,R,en,cs,⟨ds,h1,q'⟩,k⟩=>?_
  refine ⟨ρ,ds,en,h1,fun J H1 s1 Y=>?_⟩
  refine ⟨fun i m σ2 H2=>m=ds.length - i/\i<=ds.length/\∃ ρ2 μ2,jx H1 H2/\EnvR X.K H2 ρ2 σ2/\qe X.K H2 μ2/\ad2 ga S (ds.drop i) ρ2 μ2 R,⟨ds.length,by simp,Nat.zero_le _,ρ,μ,jx.refl _,en.mono s1,cs.mono s1,by simpa using q'⟩,?_⟩
  rintro i m σ2 H2 ⟨rfl,hi,ρ2,μ2,sA,en2,cs2,q2⟩
  obtain ⟨g1,g2,g3⟩:=Y i H2 sA
  by_cases hlt:i<ds.length
  ·right
   rw [List.drop_eq_getElem_cons hlt] at q2
   obtain ⟨ρ4,h4,q3⟩:=q2
   refine ⟨g1 hlt,fun σ3 H3=>∃ ρ3 μ3,jx H1 H3/\EnvR X.K H3 ρ3 σ3/\qe X.K H3 μ3/\ad2 ga S (ds.drop (i+1)) ρ3 μ3 R,fun σ3 H3 z=>⟨ds.length - (i+1),by omega,rfl,hlt,z⟩,fun x H3 y=>?_⟩
   obtain ⟨s3,r3⟩:=g3 x H3 y
   have r3':=r3 ds[i] (by simp [hlt])
   refine ⟨ρ2,ds[i],ρ4,en2.mono s3,r3',h4,fun σ5 H5 s5 en5=>?_⟩
   have s15:jx H1 H5:=(sA.trans (jp.a s3)).trans (jp.a s5)
   have s05:jx H H5:=(jp.a s1).trans s15
   refine ⟨ρ4,μ2,_,en5,(cs2.mono s3).mono s5,q3,fun o μ' r=>?_⟩
   cases o with
   | nx ρ6=>exact fun σ6 H6 s6 e6 c6=>⟨ρ6,μ',s15.trans s6,e6,c6,r⟩
   | ct ρ6=>exact fun σ6 H6 s6 e6 c6=>⟨ρ6,μ',s15.trans s6,e6,c6,r⟩
   | bk ρ6=>exact fun σ6 H6 s6 e6 c6=>(k (.nx ρ6) μ' r:JG X H D (.nx ρ6) μ') σ6 H6 (s05.trans s6) e6 c6
   | rt d=>exact fun v H6 s6 e6 c6=>(k (.rt d) μ' r:JG X H D (.rt d) μ') v H6 (s05.trans s6) e6 c6
   | er c=>exact fun ev s' t=>(k (.er c) μ' r:JG X H D (.er c) μ') ev s' (t.mono s05)
  ·left
   have hn:ds.drop i=[]:=List.drop_of_length_le (by omega)
   rw [hn] at q2
   exact ⟨g2 (by omega),(k (.nx ρ2) μ2 q2:JG X H D (.nx ρ2) μ2) σ2 H2 ((jp.a s1).trans sA) en2 cs2⟩
end
def adz (R:Res PyData->jC->Prop):OutC->jC->Prop
 | .rt d,μ=>R (.ok d) μ
 | .nx _,μ=>R (.ok .none) μ
 | .er c,μ=>R (.er c) μ
 | _,_=>False
def qu (N:List Str) (T:TRS):GC3:=fun ds μ R=>T (jJ N ds) μ (adz R)
def acS (K:Fg) (n:Nat) (g:GC3):Sp:=fun vs H Q _=>∃ ds μ R,ds.length=n/\Reps K H ds vs/\qe K H μ/\g ds μ R/\(∀ d μ',R (.ok d) μ'->∀ v H',jx H H'->Rep K H' d v->qe K H' μ'->Q v H')/\∀ c μ',¬ R (.er c) μ'
def ad3 (P:Program) (w:World) (K:Fg) (mg:SV) (base:Heap) (x:Str) (ps:List Str) (k n:Nat) (g:GC3):Prop:=
 ∃ (f:Addr) (fd:FuncData),FnOk P w K mg base CX0 k f fd ps (acS K n g)/\mg x=some (.ref f)/\PySem.W.keepIn K (.ref f)=true/\zW K fd ps []
section
variable {P:Program}{w:World}{K:Fg}{mg:SV}{base:Heap}
theorem aan {x qual:Str}{st:Stmt}{f:Addr}{fd:FuncData}{N ps:List Str}{k:Nat}{T:TRS} (F:Fun K x qual st f fd) (S:FnScope N ps (je st))
  (body:∀ (Kc:Value) (A:Around) (Ko:List Env) (s:Shared) (H:Hp) (E:XK),Room k (A.deeper (envOfC qual (je st) s.heap.objs.size f Kc))->aak (zX (CXt P w) P w K mg base N qual (je st) f Kc A Ko s H E) (jS st) T):
  FnOk P w K mg base (CXt P w) (k+1) f fd ps (ady K mg ps.length (qu N T)):=by
 with_unfolding_all
  obtain ⟨oc,od,kV,doc,pm,an,Kc,ct,osl,rfl,lk,hcd⟩:=F.ex
  refine ah4 lk hcd S (fun vs H Q E h=>?_) fun A Ko s H vs Q E s1 hr h I=>?_
  ·obtain ⟨ds,μ,R,h1,h2,_⟩:=h
   rw [h2.length]; exact h1
  ·obtain ⟨ds,μ,R,h1,h2,h3,h4,h5,h6⟩:=h
   refine body Kc A Ko s H E hr [] s1 (L2.Jj N vs) H _ I ⟨jJ N ds,μ,_,Qd h2,h3,h4,fun o μ' r=>?_⟩
   cases o with
   | rt d=>exact fun v H' sA rv c=>h5 d μ' r v H' sA rv c
   | nx ρ=>exact fun σ H' sA e c=>h5 .none μ' r .non H' sA rfl c
   | bk ρ=>exact r.elim
   | ct ρ=>exact r.elim
   | er c=>
    intro ev s' t
    obtain ⟨e,C,σ',H',rfl,hC,J,sm,cs',xc⟩:=t
    have T0:Top0 (zX (CXt P w) P w K mg base N qual (je st) f Kc A Ko s H E):=acH
    show wpAny (model P w) (A.deeper (envOfC qual (je st) s.heap.objs.size f Kc)) (leaving (envOfC qual (je st) s.heap.objs.size f Kc) (.ref e)) (fun _ s''=>CXt P w Ko H s E (.ref e) s'') (fun e' s''=>CXt P w Ko H s E e' s'') s'
    have n1:=abO (E:=fun _ _=>False) (A:=A.deeper (envOfC qual (je st) s.heap.objs.size f Kc)) T0 J.ok.frames J xc
    unfold leaving
    refine wpAny_bind (wpAny_mono n1 (fun _ s2 ⟨J2,t2⟩=>?_) fun _ _ z=>z.elim)
    have n2:=Jq (E:=fun _ _=>False) (A:=A.deeper (envOfC qual (je st) s.heap.objs.size f Kc)) none J2 t2
    refine wpAny_mono n2 (fun _ s3 ⟨J3,t3⟩=>?_) fun _ _ z=>z.elim
    obtain ⟨oe,ws,T,oT,ts,g1,g2,g3,g4,g5,g6,g7,g8,g9⟩:=t3.ob
    exact ⟨e,C,H',rfl,J3.os,J3.bare,J3.base,J3.hok,⟨t3.mine.un,t3.mine.new,oe,ws,T,oT,ts,g1,g2,g3,g4,g5,g6.un,g6.new,g7,g8,g9⟩,h6 c μ' r C H' hC sm cs'⟩
theorem ap6 {x qual:Str}{st:Stmt}{f:Addr}{fd:FuncData}{N ps:List Str}{k:Nat}{T:TRS} (F:Fun K x qual st f fd) (S:FnScope N ps (je st))
  (body:∀ (Kc:Value) (A:Around) (Ko:List Env) (s:Shared) (H:Hp) (E:XK),Room k (A.deeper (envOfC qual (je st) s.heap.objs.size f Kc))->aak (zX CX0 P w K mg base N qual (je st) f Kc A Ko s H E).nox (jS st) T):
  FnOk P w K mg base CX0 (k+1) f fd ps (acS K ps.length (qu N T)):=by
 with_unfolding_all
  refine F.ok S (fun vs H Q E h=>?_) (fun Kc A Ko s H vs Q E hr h=>?_)
  ·obtain ⟨ds,μ,R,h1,h2,_⟩:=h
   rw [h2.length]; exact h1
  ·obtain ⟨ds,μ,R,h1,h2,h3,h4,h5,h6⟩:=h
   refine ⟨_,body Kc A Ko s H E hr,jJ N ds,μ,_,Qd h2,h3,h4,fun o μ' r=>?_⟩
   cases o with
   | rt d=>exact fun v H' sA rv c=>h5 d μ' r v H' sA rv c
   | nx ρ=>exact fun σ H' sA e c=>h5 .none μ' r .non H' sA rfl c
   | bk ρ=>exact r.elim
   | ct ρ=>exact r.elim
   | er c=>exact (h6 c μ' r).elim
end
section
variable {X:Cx}{e:Expr}{es:List Expr}{Tr:TR (LP)}{pos:Pos}{x:Str}
def arb (R:Res PyData->jC->Prop):Res PyData->jC->Prop
 | .ok d,μ=>R (.ok d) μ
 | .er _,_=>False
def ap7 (g:GC3) (n:Nat) (ds:LP):TR PyData:=fun _ μ R=>ds.length=n/\g ds μ (arb R)
theorem zN {k j n:Nat}{ps:List Str}{g:GC3}{p:Pos} (C:ad3 X.prog X.w X.K X.mg X.base x ps k n g) (hr:Room j X.A) (hkj:k<=j) (ha:PAC X (e::es) Tr)
  (hg:Gl X x:=by rfl) (hdb:(x == ("__debug__":Str))=false:=by decide) (he:starEach (e::es) X.env=(false,eval e X.env)::starEach es X.env:=by rfl)
  (hpl:(backTo pos (starEach es X.env)).any (·.1)=false:=by rfl):PEC X (.Call (.Name x p) (e::es) [] pos) (bindC Tr (ap7 g n)):=by
 with_unfolding_all
  obtain ⟨f,fd,h1,h2,h3,h4⟩:=C
  exact PE.imp (aeK h1 (hr.mono hkj) hg h2 h3 h4 .nil adN ha hdb he hpl) fun σ H Q h=>(AtC.bind h).imp fun ds H1 _ ⟨s1,ρ,μ,R,en,cs,⟨hn,t⟩,k⟩ vs rv=>
   ⟨ds,μ,_,hn,by rw [List.append_nil]; exact rv,cs,t,fun d μ' r v H' s rd c=>(k (.ok d) μ' r:qV X H1 (fun d H'=>∀ v,Rep X.K H' d v->Q v H') (.ok d) μ') H' s c v rd,fun c μ' r=>r⟩
end
@[irreducible] def ao0 (X:Cx) (st:Stmt) (T:TRS):Prop:=∀ (s:Shared) (σ:St) (H:Hp) (D:Ends),Inv X [] σ H s->AtS X σ H T D->wpAny (model X.prog X.w) X.A (exec st X.env) (SP X [] D) X.xe s
@[irreducible] def acT (X:Cx) (sts:List Stmt) (T:TRS):Prop:=∀ (s:Shared) (σ:St) (H:Hp) (D:Ends),Inv X [] σ H s->AtS X σ H T D->wpAny (model X.prog X.w) X.A (execs sts X.env) (SP X [] D) X.xe s
section
variable {X:Cx}{st b0:Stmt}{sts j9 tb hb:List Stmt}{S S':TRS}{G:RO}{pos:Pos}
theorem ajp (h:PSC X st S):ao0 X st S:=by
 with_unfolding_all
  exact fun s σ H D I t=>h [] s σ H D I t
theorem QX (h:aak X sts S):acT X sts S:=by
 with_unfolding_all
  exact fun s σ H D I t=>h [] s σ H D I t
theorem zO (h1:ao0 X st S) (h2:acT X j9 S'):acT X (st::j9) (zc S S'):=by
 with_unfolding_all
  intro s σ H D I ⟨ρ,μ,R,en,cs,t,k⟩
  refine wpAny_execs_cons (thn (h1 s σ H { D with nx:=fun σ' H'=>AtS X σ' H' S' D } I ⟨ρ,μ,_,en,cs,t,fun o μ' r=>?_⟩) fun f s1 q=>?_)
  ·cases o with
   | nx ρ'=>exact fun σ' H' s e c=>⟨ρ',μ',R,e,c,r,fun o μ2 q=>(k o μ2 q).mono s⟩
   | rt d=>exact k (.rt d) μ' r
   | bk d=>exact k (.bk d) μ' r
   | ct d=>exact k (.ct d) μ' r
   | er d=>exact k (.er d) μ' r
  ·cases f with
   | next=>
    obtain ⟨σ',H',I',q⟩:=q
    exact h2 s1 σ' H' D I' q
   | ret v=>exact q
   | brk=>exact q
   | cont=>exact q
end
section
variable {P:Program}{w:World}{K:Fg}{mg:SV}{base:Heap}
theorem arc {x qual:Str}{st:Stmt}{f:Addr}{fd:FuncData}{N ps:List Str}{k:Nat}{T:TRS} (F:Fun K x qual st f fd) (S:FnScope N ps (je st))
  (body:∀ (Kc:Value) (A:Around) (Ko:List Env) (s:Shared) (H:Hp) (E:XK),Room k (A.deeper (envOfC qual (je st) s.heap.objs.size f Kc))->acT (zX CX0 P w K mg base N qual (je st) f Kc A Ko s H E) (jS st) T):
  FnOk P w K mg base CX0 (k+1) f fd ps (acS K ps.length (qu N T)):=by
 with_unfolding_all
  obtain ⟨oc,od,kV,doc,pm,an,Kc,ct,osl,rfl,lk,hcd⟩:=F.ex
  refine ah4 lk hcd S (fun vs H Q E h=>?_) fun A Ko s H vs Q E s1 hr h I=>?_
  ·obtain ⟨ds,μ,R,h1,h2,_⟩:=h
   rw [h2.length]; exact h1
  ·obtain ⟨ds,μ,R,h1,h2,h3,h4,h5,h6⟩:=h
   refine body Kc A Ko s H E hr s1 (L2.Jj N vs) H _ I ⟨jJ N ds,μ,_,Qd h2,h3,h4,fun o μ' r=>?_⟩
   cases o with
   | rt d=>exact fun v H' sA rv c=>h5 d μ' r v H' sA rv c
   | nx ρ=>exact fun σ H' sA e c=>h5 .none μ' r .non H' sA rfl c
   | bk ρ=>exact r.elim
   | ct ρ=>exact r.elim
   | er c=>exact (h6 c μ' r).elim
def zE (K:Fg) (x m qual:Str) (st:Stmt):Prop:=
 ∃ (C f:Addr) (oc:Value) (od an:Option Addr) (kV doc pm Kc ct:Value) (osl:Array (Option Value)),PySem.W.nsIn K mainGlobals x=some (some (.ref C))/\PySem.W.findIn K (.ref C) m=some (some (.ref f))/\PySem.W.isFn K (.ref f)=true/\
  K.lookup f=some ⟨oc,od,.func (PySem.W.fnOf m qual (zS st) (jS st) (je st) .none kV doc pm an Kc ct),osl⟩/\PySem.W.codeIn K Kc qual=true/\PySem.W.keepIn K (.ref f)=true
theorem qI {x m qual:Str}{st:Stmt}{C f:Addr}{oc:Value}{od an:Option Addr}{kV doc pm Kc ct:Value}{osl:Array (Option Value)} (a:PySem.W.nsIn K mainGlobals x=some (some (.ref C))) (b:PySem.W.findIn K (.ref C) m=some (some (.ref f))) (i:PySem.W.isFn K (.ref f)=true)
  (l:K.lookup f=some ⟨oc,od,.func (PySem.W.fnOf m qual (zS st) (jS st) (je st) .none kV doc pm an Kc ct),osl⟩) (c:PySem.W.codeIn K Kc qual=true) (k:PySem.W.keepIn K (.ref f)=true):zE K x m qual st:=
 ⟨C,f,oc,od,an,kV,doc,pm,Kc,ct,osl,a,b,i,l,c,k⟩
def akF (K:Fg) (x:Str):Prop:=∃ C,PySem.W.nsIn K mainGlobals x=some (some (.ref C))/\Cls K C/\PySem.W.makesIn K C=true/\PySem.W.keepIn K (.ref C)=true
theorem ao1 {x:Str}{C:Addr} (a:PySem.W.nsIn K mainGlobals x=some (some (.ref C))) (b:PySem.W.plainGet K C Str.empty=true) (c:PySem.W.hasDictIn K C=true) (d:PySem.W.plainOver K C=true) (e:PySem.W.findIn K (.ref C) "__setattr__"=some (some (.builtin "object.__setattr__")))
  (f:PySem.W.makesIn K C=true) (g:PySem.W.keepIn K (.ref C)=true):akF K x:=⟨C,a,⟨b,c,d,e⟩,f,g⟩
theorem ao2 {x f:Str}{C:Addr} (T:akF K x) (a:PySem.W.nsIn K mainGlobals x=some (some (.ref C))) (b:PySem.W.findIn K (.ref C) f=some none):qH K x f:=fun C' h=>by
 obtain ⟨D,d1,d2,_⟩:=T
 rw [a] at h; cases h
 rw [a] at d1; cases d1
 exact ⟨d2,b⟩
abbrev jZ (x qual:Str) (st:Stmt) (ps:List Str):Prop:=∀ (kV doc pm:Value) (an:Option Addr) (Kc ct:Value) (us:List Value),us.length=ps.length->bindArgs (PySem.W.fnOf x qual (zS st) (jS st) (je st) .none kV doc pm an Kc ct) ⟨us,[]⟩=pure (ps.zip us)
theorem zE.met {x m qual:Str}{st:Stmt}{ps:List Str}{k n:Nat}{g:GC3} (T:zE K x m qual st) (Tc:akF K x) (hb:jZ m qual st ps)
  (F:∀ (f:Addr) (fd:FuncData),Fun K m qual st f fd->FnOk P w K mg base (CXt P w) k f fd ps (ady K mg n g)):qO P w K mg base x m ps k n g:=by
 obtain ⟨C,f,oc,od,an,kV,doc,pm,Kc,ct,osl,a,b,i,l,c,kp⟩:=T
 obtain ⟨C',a',cl,_⟩:=Tc
 rw [a] at a'; cases a'
 have F1:=aaP (st:=st) l c kp
 exact ⟨C,f,_,a,cl,⟨b,i,kp⟩,F f _ F1,F1.binds hb⟩
theorem zE.mak {h:Heap}{x qual:Str}{st:Stmt}{ps:List Str}{k n:Nat}{g:GC3} (T:zE K x "__init__" qual st) (Tc:akF K x) (X:K.In h) (G:h.Ns mainGlobals mg) (hb:jZ "__init__" qual st ps)
  (F:∀ (f:Addr) (fd:FuncData),Fun K "__init__" qual st f fd->FnOk P w K mg base (CXt P w) k f fd ps (ady K mg n g)):aoV P w K mg base x ps k n g:=by
 obtain ⟨C,f,oc,od,an,kV,doc,pm,Kc,ct,osl,a,b,i,l,c,kp⟩:=T
 obtain ⟨C',a',cl,mk,kc⟩:=Tc
 rw [a] at a'; cases a'
 have F1:=aaP (st:=st) l c kp
 exact ⟨C,f,_,a,PySem.W.mg_of X G a,⟨mk,b,i,kc⟩,F f _ F1,F1.binds hb⟩
theorem jX.cal0 {h:Heap}{x:Str}{st:Stmt}{ps:List Str}{k n:Nat}{g:GC3} (T:jX K x st) (X:K.In h) (G:h.Ns mainGlobals mg)
  (hb:jw x st ps) (F:∀ (f:Addr) (fd:FuncData),Fun K x x st f fd->FnOk P w K mg base CX0 k f fd ps (acS K n g)):ad3 P w K mg base x ps k n g:=by
 obtain ⟨f,oc,od,an,kV,doc,pm,Kc,ct,osl,a,l,c,kp⟩:=T
 have F1:=aaP (st:=st) l c kp
 exact ⟨f,_,F f _ F1,PySem.W.mg_of X G a,kp,F1.binds hb⟩
end
section
variable {X:Cx}{e a b tg src:Expr}{es:List Expr}{Tr:TR (LP)}{S:TRS}{body:List Stmt}{pos:Pos}
end
section
variable {X:Cx}{e a b c tg src:Expr}{es:List Expr}{Ta Tb:TR PyData}{Tr:TR (LP)}{S:TRS}{body:List Stmt}{pos:Pos}{x:Str}
end
def agT (K:Fg) (x f:Str):Prop:=∃ C,PySem.W.nsIn K mainGlobals x=some (some (.ref C))/\PySem.W.findIn K (.ref C) f=some none
theorem aao {K:Fg}{x f:Str}{C:Addr} (a:PySem.W.nsIn K mainGlobals x=some (some (.ref C))) (b:PySem.W.findIn K (.ref C) f=some none):agT K x f:=⟨C,a,b⟩
theorem agT.cls {K:Fg}{x f:Str} (h:agT K x f) (T:akF K x):qH K x f:=by
 obtain ⟨C,a,b⟩:=h
 exact ao2 T a b
section
variable {X:Cx}{tg src:Expr}{pos pos':Pos}
end
section
variable {X:Cx}
end
section
variable {X:Cx}
noncomputable def ap8 (ds:LP):OP:=match ds with
 | [.str z]=>if z.length<1000000 then some (.int z.length) else none
 | _=>none
theorem ao3:QM X (.builtin "len") ap8:=by
 refine ⟨_,aeP,fun ds d xs H Q h r k=>?_⟩
 unfold ap8 at h
 split at h
 ·split at h
  ·rename_i hz
   cases h
   obtain ⟨x,q,z1,z2,z3⟩:=r
   cases (show q=[] from z3)
   cases (show x=_ from z2)
   exact ⟨_,z1,by rw [sizeLine_eq]; omega,k _ H (jp.refl H) rfl⟩
  ·cases h
 ·cases h
open Builtin Builtin.Str in
noncomputable def ZV:LP->Option (List Str)
 | []=>some []
 | .str x::r=>(ZV r).map (x::·)
 | _=>none
theorem ad4 {K:Fg}{H:Hp}:∀ (ts:List Str),Reps K H (ts.map PyData.str) (ts.map V.str)
 | []=>rfl
 | t::ts=>⟨_,_,rfl,rfl,ad4 ts⟩
end
section
variable {X:Cx}{a b c:Expr}{fa fb fc:RP}{p2 pos:Pos}
noncomputable def ard:PyData->PyData->OP
 | .str z,.int i=>if 0<=i/\i<1000000/\i<z.length then (z.cps[i.toNat]?).map fun c=> .str ⟨#[c]⟩ else none
 | _,_=>none
theorem are (ha:PD X a fa) (hb:PD X b fb) (hs:agk b):PD X (.Subscript a b pos) (op2 ard fa fb):=by
 with_unfolding_all
  refine PE.imp (agl ha hb hs) fun σ H Q h=>alV (fun p q d x y H Q h rx ry k=>?_) h
  unfold ard at h
  split at h
  ·rename_i z i
   split at h
   ·rename_i hc
    cases h1:z.cps[i.toNat]? with
    | none=>simp [h1] at h
    | some c=>
     have:PyData.str ⟨#[c]⟩=d:=by simpa [h1] using h
     subst this
     cases (show x=_ from rx); cases (show y=_ from ry)
     exact ⟨z,i,c,rfl,rfl,hc.1,by omega,hc.2.2,h1,k _ H (jp.refl H) rfl⟩
   ·cases h
  ·cases h
theorem amH {K:Fg}{T:String} (hT:T="str") (d:PyData):PySem.W.kitOne K (.type (tyn d)) (.type T)=some (Jv T d):=by
 subst hT
 cases d <;> first | rfl | (rename_i kvs; by_cases h:zJ kvs=true <;> simp only [tyn,Jv,h] <;> rfl)
theorem ao4 {a:Expr}{fa:RP}{T:Str}{Tn:String}{p p2 pos:Pos} (hT:Tn="str") (hm1:X.mg "isinstance"=none) (hm2:X.mg T=none) (hv:bootBuiltins T=some (.type Tn)) (ha:PD X a fa)
  (hg1:Gl X "isinstance":=by rfl) (hg2:Gl X T:=by rfl) (hn:T ≠ "__name__":=by decide) (hd:(T == ("__debug__":Str))=false:=by decide)
  (he:starEach [a,.Name T p2] X.env=[(false,eval a X.env),(false,eval (.Name T p2) X.env)]:=by rfl) (he2:starEach [.Name T p2] X.env=[(false,eval (.Name T p2) X.env)]:=by rfl) (hpl:(backTo pos (starEach [.Name T p2] X.env)).any (·.1)=false:=by rfl):
  PD X (.Call (.Name "isinstance" p) [a,.Name T p2] [] pos) (fun ρ=>(fa ρ).bind fun d=>Z6 Tn d):=by
 with_unfolding_all
  have hT2:PE X (.Name T p2) (L2.tC (.ty Tn)):=aiS hg2 hm2 hv rfl hn hd
  refine PE.imp (Z0 (agz (T:=Tn)) hg1 hm1 (by decide +kernel) (qG ha (qG hT2 zz (by rw [he2]; rfl)) (by rw [he,he2])) (by decide) (by decide) (by rw [he,he2]) hpl) fun σ H Q ⟨ρ,d,en,q,k⟩=>?_
  cases h1:fa ρ with
  | none=>simp [h1] at q
  | some c=>
   obtain ⟨hF,rfl⟩:=agA (show Z6 Tn c=some d by simpa [h1] using q)
   exact ⟨ρ,c,en,h1,fun v H1 s1 r1=>⟨v,c,_,rfl,r1,hF,amH hT c,k _ H1 s1 rfl⟩⟩
end
theorem ad5 {H:Hp}{a:Addr}{ob:Obj}{ks:List (Key × V)} (h:H a=some (.frz ob (.dK ks))) (n:Str):aaQ H a (.str n) (Qo ks (Sum.inr n:Key)):= .inl ⟨ks,Sum.inr n,.inr ⟨ob,h⟩,rfl,rfl⟩
section
variable {X:Cx}{e a b c tg src:Expr}{es:List Expr}{fa fb fc:RP}{pos:Pos}
def ap9 (p q:PyData):OP:=match Qu p,q with
 | some r,.str n=>zL r (Sum.inr n)
 | _,_=>none
def ajq (neg:Bool) (q p:PyData):OP:=match Qu p,q with
 | some r,.str n=>some (.bool (if neg then !(zL r (Sum.inr n)).isSome else (zL r (Sum.inr n)).isSome))
 | _,_=>none
end
section
variable {X:Cx}{e a b c tg src:Expr}{es:List Expr}{st:Stmt}{sts j9 body:List Stmt}{fa fb fc:RP}{F G:RO}{pos:Pos}
def arf (P:Program) (w:World):V->V->V->Hp->(Hp->Prop)->Prop:=fun o k v H Q=>∃ a ks ob n,o= .ref a/\k= .str n/\H a=some (aaa P w a ob ks)/\ks.length<sizeLine/\∀ ob',Q (upd H a (aaa P w a ob' (putK ks (Sum.inr n) v)))
theorem akG (hu:X.A.units+1<cLine):an3 X (arf X.prog X.w):=by
 intro Kp s σ H o k v ov iv u Q I ro rk rv ⟨a,ks,ob,n,e1,e2,h1,h2,q⟩
 subst e1; subst e2
 cases ro
 obtain ⟨t,rfl⟩:=rk
 refine akh hu (Inv.openD I h1) (akf.k (k:=Sum.inr n) ji h2) ⟨t,rfl⟩ rv fun s' I'=>?_
 obtain ⟨ob',I2⟩:=Inv.sealedD I' ji
 rw [qF,qF] at I2
 exact ⟨_,I2,q ob'⟩
end
noncomputable def sg (x:Str):List Nat:=x.cps.toList
theorem arh {x y:Str} (h:sg x=sg y):x=y:=Str.ext' (by
 have:=congrArg List.toArray h
 simpa [sg] using this)
noncomputable def ItU (x:Str):It:=
 ⟨fun i _=>i<x.cps.size,fun i H v H'=>H'=H/\∃ c,x.cps[i]?=some c/\v= .str ⟨#[c]⟩,fun i _=>x.cps.size<=i⟩
theorem akH {P:Program}{w:World}{K:Fg}{tg:Expr} (it:Addr) (x:Str) (t:Tok):Turn P w K tg (ItU x) [it] it (fun i h=>h.IsStrIter it "str_ascii_iterator" x t i) where
 mem:=by simp
 obj:=fun i h st b hb=>by
  have e:b=it:=by simpa using hb
  subst e
  obtain ⟨o,e,c,d⟩:=st
  exact ⟨o,e,fun v z=>by rw [d] at z; cases z⟩
 keep:=fun i h h' st k=>by
  obtain ⟨o,e,r⟩:=st
  exact ⟨o,k it (by simp) o e,r⟩
 item:=by
  intro X hP hw hK hc i Kp s σ H E I hf st hg
  subst hP hw hK
  have hg:i<x.cps.size:=hg
  obtain ⟨f0,f1,f2,f3,f4,f5⟩:=hf it (by simp)
  refine wpAny_pyNext_ascii_item st (c:=x.cps[i]) (by simp [hg]) fun h' st' sb=>?_
  have I1:Inv X Kp σ H { s with heap:=h',toks:=s.toks+1 }:=I.turned (t':=s.toks+1) (fun b o hb e=>(sb.2 b hb).trans e) f0 f1 f3 f4 f5
  obtain ⟨o,e,c,d⟩:=id st'
  exact ⟨_,rfl,agi (s:={ s with heap:=h',toks:=s.toks+1 }) e c d (by decide) ⟨.str ⟨#[x.cps[i]]⟩,H,I1,⟨_,rfl⟩,⟨rfl,_,by simp [hg],rfl⟩,st',fun b hb=>(hf b hb).1⟩⟩
 done:=by
  intro X hP hw hK hc i Kp s σ H E I hf st hg
  subst hP hw hK
  have hg:x.cps.size<=i:=hg
  obtain ⟨f0,f1,f2,f3,f4,f5⟩:=hf it (by simp)
  exact wpAny_pyNext_ascii_end (I.ok.hd hc) st (by simp; omega) fun h' eb=>⟨rfl,I.turned (t':=s.toks) (fun b o hb e=>eb b o hb e) f0 f1 f3 f4 f5⟩
 self:=fun _ _ _ _ _ st h=>wpAny_pyIter_striter_ascii st h
noncomputable def aia (x:Str):Bool:=x.cps.all (· < 128)
noncomputable def aa6 (x:Str):LP:=x.cps.toList.map fun c=> .str ⟨#[c]⟩
section
variable {X:Cx}{e:Expr}{fa:RP}{tg:Expr}
def asL (tl:TE):TI:=fun σ H R=>tl σ H fun v H1=>∃ x,v= .str x/\aia x=true/\R (ItU x) H1
theorem ao5 {l:Expr}{tl:TE} (hl:PE X l tl):PI X tg l (asL tl):=by
 intro Kp s σ H R I h
 refine thn (hl Kp s σ H _ I h) fun v s1 ⟨x,H1,I1,r1,q1⟩=>?_
 obtain ⟨z,rfl,ha,q⟩:=q1
 obtain ⟨t,rfl⟩:=r1
 refine wpAny_pyIter_ascii ha ?_
 refine ⟨s1.heap.objs.size,[s1.heap.objs.size],_,_,H1,rfl,I1.kept (t':=s1.toks) fun b o e=>Heap.get?_push_of_some _ e,akH _ z t,⟨_,Heap.get?_push_size _ rfl,rfl,rfl⟩,fun b hb=>?_,q⟩
 have e:b=s1.heap.objs.size:=by simpa using hb
 subst e
 exact I1.fpOk (Nat.le_refl _) (I1.hok.fresh (Nat.le_refl _))
def afb:PyData->Option (LP)
 | .str x=>if aia x=true then some (aa6 x) else none
 | _=>none
def itU (fa:RP):Rho->Option (LP):=fun ρ=>(fa ρ).bind afb
theorem aib {x:Str}{i:Nat}{d:PyData} (h:(aa6 x)[i]?=some d):∃ c,x.cps[i]?=some c/\d= .str ⟨#[c]⟩:=by
 unfold aa6 at h
 rw [List.getElem?_map] at h
 cases hc:x.cps.toList[i]? with
 | none=>rw [hc] at h; cases h
 | some c=>
  rw [hc] at h
  cases h
  exact ⟨c,by simpa using hc,rfl⟩
theorem acU (x:Str):(aa6 x).length=x.cps.size:=by unfold aa6; simp
theorem amI (h:PD X e fa):PID X tg e (itU fa):=by
 with_unfolding_all
  refine PI.imp (ao5 h) fun σ H R ⟨ρ,ds,en,q,k⟩=>?_
  cases h1:fa ρ with
  | none=>simp [itU,h1] at q
  | some d=>
   cases d with
   | str x=>
    by_cases ha:aia x=true
    ·have:aa6 x=ds:=by simpa [itU,h1,afb,ha] using q
     subst this
     refine ⟨ρ,_,en,h1,fun v H1 s1 r1=>?_⟩
     cases (show v=_ from r1)
     refine ⟨x,rfl,ha,k _ H1 s1 fun i H2 s2=>⟨fun hi=>?_,fun hi=>?_,fun y H' z=>?_⟩⟩
     ·rw [acU] at hi; exact hi
     ·rw [acU] at hi; exact hi
     ·obtain ⟨z1,c,z2,z3⟩:=z
      subst z1
      refine ⟨jp.refl _,fun d hd=>?_⟩
      obtain ⟨c',e1,rfl⟩:=aib hd
      rw [z2] at e1; cases e1
      exact z3
    ·simp [itU,h1,afb,ha] at q
   | _=>simp [itU,h1,afb] at q
end
section
variable {X:Cx}
end
section
variable {prog:Program}{w:World}{A:Around}{E:Value->SP0}
end
section
variable {X:Cx}{es:List Expr}{pos:Pos}
end
section
variable {X:Cx}{a b:Expr}{fa fb:RP}{pos p1 p2 p3:Pos}{j:Nat}
end
noncomputable abbrev ltT (x y:Str):Bool:=decide (x.cps.toList<y.cps.toList)
def rkT (ts:List Str) (x:Str):Int:=((ts.filter fun y=>ltT y x).length:Int)
theorem amJ {α:Type}{p q:α->Bool}:∀ {l:List α},(∀ x ∈ l,p x=true->q x=true)->(l.filter p).length<=(l.filter q).length
 | [],_=>Nat.le_refl _
 | x::l,h=>by
  have ih:=amJ (l:=l) fun y hy=>h y (List.mem_cons_of_mem _ hy)
  by_cases hp:p x=true
  ·rw [List.filter_cons_of_pos hp,List.filter_cons_of_pos (h x List.mem_cons_self hp),List.length_cons,List.length_cons]; omega
  ·rw [List.filter_cons_of_neg hp]
   by_cases hq:q x=true
   ·rw [List.filter_cons_of_pos hq,List.length_cons]; omega
   ·rw [List.filter_cons_of_neg hq]; exact ih
theorem amK {α:Type}{p q:α->Bool}:∀ {l:List α},(∀ x ∈ l,p x=true->q x=true)->(∃ x ∈ l,q x=true/\p x=false)->(l.filter p).length<(l.filter q).length
 | [],_,⟨x,h,_⟩=>nomatch h
 | x::l,h,⟨y,hy,y1,y2⟩=>by
  have hl:∀ x ∈ l,p x=true->q x=true:=fun y hy=>h y (List.mem_cons_of_mem _ hy)
  rcases List.mem_cons.mp hy with e | hy
  ·rw [←e,List.filter_cons_of_neg (by rw [y2]; decide),List.filter_cons_of_pos y1,List.length_cons]
   have:=amJ hl
   omega
  ·have ih:=amK hl ⟨y,hy,y1,y2⟩
   by_cases hp:p x=true
   ·rw [List.filter_cons_of_pos hp,List.filter_cons_of_pos (h x List.mem_cons_self hp),List.length_cons,List.length_cons]; omega
   ·rw [List.filter_cons_of_neg hp]
    by_cases hq:q x=true
    ·rw [List.filter_cons_of_pos hq,List.length_cons]; omega
    ·rw [List.filter_cons_of_neg hq]; exact ih
theorem afc {ts:List Str}{x y:Str} (hx:x ∈ ts) (h:ltT x y=true):rkT ts x<rkT ts y:=by
 have h':x.cps.toList<y.cps.toList:=of_decide_eq_true h
 have:=amK (p:=fun z=>ltT z x) (q:=fun z=>ltT z y) (l:=ts) (fun z _ hz=>decide_eq_true (List.lt_trans (of_decide_eq_true hz) h')) ⟨x,hx,h,decide_eq_false (List.lt_irrefl _)⟩
 unfold rkT
 omega
theorem ajr (x y:Str):ltT x y=true ∨ x=y ∨ ltT y x=true:=by
 by_cases h1:x.cps.toList<y.cps.toList
 ·exact .inl (decide_eq_true h1)
 ·by_cases h2:y.cps.toList<x.cps.toList
  ·exact .inr (.inr (decide_eq_true h2))
  ·exact .inr (.inl (arh (List.le_antisymm (List.not_lt.mp h2) (List.not_lt.mp h1))))
theorem ao6 {ts:List Str}{x y:Str} (hx:x ∈ ts) (hy:y ∈ ts):rkT ts x<rkT ts y ↔ ltT x y=true:=by
 constructor
 ·intro h
  rcases ajr x y with z | z | z
  ·exact z
  ·rw [z] at h; omega
  ·have:=afc hy z; omega
 ·exact afc hx
theorem ao7 {ts:List Str}{x y:Str} (hx:x ∈ ts) (hy:y ∈ ts) (h:rkT ts x=rkT ts y):x=y:=by
 rcases ajr x y with z | z | z
 ·have:=afc hx z; omega
 ·exact z
 ·have:=afc hy z; omega
section
variable {X:Cx}
def ari:List V->Hp->VK->Prop:=fun xs H Q=>∃ d ob ks ts,xs=[.ref d]/\H d=some (.frz ob (.dK ks))/\ks.map (·.1)=ts.map (fun t=>(Sum.inr t:Key))/\ts.length<64/\∀ l,H l=none->Q (.ref l) (upd H l (.lst ((acM (rkT ts) ts).map V.str)))
theorem acV:∀ (ts:List Str) (us:List Value),us.length=ts.length->(∀ (i:Nat) (u:Value),us[i]?=some u->∃ (x:Str) (t:Tok),ts[i]?=some x/\u=Value.str x t)->jG (ts.map V.str) us
 | [],[],_,_=> .nil
 | [],_::_,h,_=>by cases h
 | _::_,[],h,_=>by cases h
 | t::ts,u::us,h,g=>by
  obtain ⟨x,tk,e1,e2⟩:=g 0 u rfl
  cases e1
  subst e2
  exact .cons ⟨tk,rfl⟩ (acV ts us (by simpa using h) fun i v hv=>g (i+1) v (by simpa using hv))
theorem aic (hc:X.calm=true):zV X (.builtin "sorted") ari:=by
 intro Kp s σ H xs us0 Q I r ⟨d,ob,ks,ts,e,hq,hk,h64,q⟩
 subst e
 obtain ⟨u,rfl,rx⟩:=abn r
 cases rx
 have hh:=I.ok.hd hc
 obtain ⟨o0,z,nm,vs,rel,ob',es,ep,h4,h5,h6,h7⟩:=I.hok d _ hq
 rw [o0] at h4; cases h4
 have hl:=rel.length
 have hkl:ks.length=ts.length:=by have:=congrArg List.length hk; simpa using this
 have key:∀ (ks:List (Key × V)) (vs:List (Key × Value)) (ts:List Str),KV ks vs->ks.map (·.1)=ts.map (fun t=>(Sum.inr t:Key))->∀ (i:Nat) (k:Key) (x:Value),vs[i]?=some (k,x)->∃ t:Str,ts[i]?=some t/\k=Sum.inr t:=by
  intro ks
  induction ks with
  | nil=>intro vs ts r _ i k x e; cases r; simp at e
  | cons p ks ih=>
   intro vs ts r hk i k x e
   cases r with
   | cons r1 r2=>
    cases ts with
    | nil=>simp at hk
    | cons t ts=>
     rw [List.map_cons,List.map_cons] at hk
     obtain ⟨e1,e2⟩:=List.cons.inj hk
     cases i with
     | zero=>
      simp at e
      subst e
      have r0:=r1.1
      simp only at r0
      exact ⟨t,rfl,by rw [←r0,e1]⟩
     | succ i=>exact ih _ ts r2 e2 i k x (by simpa using e)
 have da:s.heap.DictAt (qm X.prog X.w) d vs ep:=⟨ob,es,o0,h5,h6,h7⟩
 refine Calls.call_function_entry kind_sorted plain_sorted entry_sorted (args_sorted1 _) ?_
 unfold Builtin.«sorted»
 refine wpAny_bind (m:=checkCount "sorted" 1 1 _) (wpAny_pure ?_)
 refine wpAny_bind (PySem.W.kdu_collect (PySem.W.kdl_dict (knd:=qm X.prog X.w) (kvs:=vs) (ep:=ep) nm) (by first | exact hh | simp [hh]) da (by rw [sizeLine_eq]; omega) fun h1 tk acc k1 it=>?_)
 generalize hus:acc.toList=us
 have lu:us.length=ts.length:=by rw [←hus,Array.length_toList,it.1]; omega
 have ku:∀ (i:Nat) (u:Value),us[i]?=some u->∃ (x:Str) (t:Tok),ts[i]?=some x/\u=Value.str x t:=fun i u hu=>by
  have:acc[i]?=some u:=by rw [←hus] at hu; simpa using hu
  obtain ⟨k,x,e1,e2⟩:=it.2 i u this
  obtain ⟨t,e3,e4⟩:=key ks vs ts rel hk i k x e1
  rw [e4,ahy] at e2
  rcases qt e2 with ⟨n,t',e5,_⟩ | ⟨y,t',e5,e6⟩
  ·cases e5
  ·cases e5; exact ⟨t,t',e3,e6⟩
 have rv:=acV ts us lu ku
 have small:us.length<=sizeLine:=by rw [sizeLine_eq]; omega
 refine wpAny_bind (wpAny_newList ?_ small)
 have fD:s.heap.get? h1.objs.size=none:=by
  cases e3:s.heap.get? h1.objs.size with
  | none=>rfl
  | some o=>exact absurd (Heap.lt_size (k1 _ _ e3)) (Nat.lt_irrefl _)
 have nH:H h1.objs.size=none:=by
  cases e3:H h1.objs.size with
  | none=>rfl
  | some o=>obtain ⟨u,z⟩:=qK.there (I.hok _ o e3); rw [fD] at z; cases z
 have hD:(h1.push (seqObj "list" us.toArray 0)).get? h1.objs.size=some (seqObj "list" us.toArray 0):=Heap.get?_push_size _ rfl
 have kpD:∀ b o,s.heap.get? b=some o->(h1.push (seqObj "list" us.toArray 0)).get? b=some o:=fun b o e=>Heap.get?_push_of_some _ (k1 b o e)
 obtain ⟨m,F⟩:=I.fr
 refine wpAny_bind (wpAny_holding (wpAny_call_entry (s:={ s with heap:=h1.push (seqObj "list" us.toArray 0),toks:=tk }) slot_list_sort ⟨_,hD,rfl⟩ entry_list_sort ?body (args_list_sort _)))
 case body=>
  by_cases h2:us.length<2
  ·rw [list_sort_plain]
   refine wpAny_bind (listItems_at hD rfl ?_)
   refine wpAny_bind (listUpdate_at hD rfl ?_ (by rw [List.size_toArray]; exact small) (Nat.zero_le _))
   obtain ⟨e1,ho1⟩:∃ e1,((h1.push (seqObj "list" us.toArray 0)).update h1.objs.size (Obj.mapSeq fun _=>(#[]:Array Value))).get? h1.objs.size=some (seqObj "list" #[] e1):=⟨_,get?_update_seq hD fun _=>#[]⟩
   refine wpAny_bind (seqEpoch_at ho1 rfl ?_)
   refine wpAny_bind (wpAny_newTuple ?_ small)
   refine wpAny_bind (wpAny_newList ?_ (Nat.zero_le _))
   refine wpAny_holding ?_
   dsimp only
   have hlt:us.toArray.size<2:=by rw [List.size_toArray]; exact h2
   rw [if_pos hlt,if_pos hlt]
   refine wpAny_bind (wpAny_pure ?_)
   rw [StateT.run_pure]
   refine wpAny_bind (wpAny_pure ?_)
   dsimp only
   have ho3:((((h1.push (seqObj "list" us.toArray 0)).update h1.objs.size (Obj.mapSeq fun _=>(#[]:Array Value))).push (seqObj "tuple" us.toArray 0)).push (seqObj "list" #[] 0)).get? h1.objs.size=some (seqObj "list" #[] e1):=Heap.get?_push_of_some _ (Heap.get?_push_of_some _ ho1)
   refine wpAny_bind (seqEpoch_at ho3 rfl ?_)
   rw [aoB]
   refine wpAny_bind (listUpdate_at ho3 rfl ?_ (Nat.zero_le _) (by rw [List.size_toArray]; exact Nat.le_succ_of_le small))
   obtain ⟨c2,hc2⟩:=aeW (ws:=us.toArray) (show _=some (lob #[] e1) from ho3)
   simp only [bne_self_eq_false,zzL,zzN]
   refine wpAny_pure ⟨_,rfl,?_⟩
   refine wpAny_pure ⟨_,rfl,?_⟩
   have kp:∀ b o,s.heap.get? b=some o->(((((h1.push (seqObj "list" us.toArray 0)).update h1.objs.size (Obj.mapSeq fun _=>(#[]:Array Value))).push (seqObj "tuple" us.toArray 0)).push (seqObj "list" #[] 0)).update h1.objs.size (Obj.mapSeq fun _=>us.toArray)).get? b=some o:=fun b o q=>by
    have q1:=k1 b o q
    have lt1:b<h1.objs.size:=Heap.lt_size q1
    have u1:=Heap.SameBut.update (h1.push (seqObj "list" us.toArray 0)) h1.objs.size (Obj.mapSeq fun _=>(#[]:Array Value))
    have q2:=(u1.2 b (Nat.ne_of_lt lt1)).trans (Heap.get?_push_of_some _ q1)
    have q3:=Heap.get?_push_of_some { cls:= .type "list",data:= .seq (#[]:Array Value) } (Heap.get?_push_of_some { cls:= .type "tuple",data:= .seq us.toArray } q2)
    exact ((Heap.SameBut.update _ h1.objs.size (Obj.mapSeq fun _=>us.toArray)).2 b (Nat.ne_of_lt lt1)).trans q3
   have es1:acM (rkT ts) ts=ts:=by
    match ts,(show ts.length<2 by omega) with
    | [],_=>rfl
    | [t],_=>rfl
   refine ⟨.ref h1.objs.size,upd H h1.objs.size (.lst (ts.map V.str)),Inv.grownL (ys:=ts.map V.str) (I.tok tk) F.ns (F.kept kp).ns (fun b o _ e=>kp b o e) fD hc2 rv (by rw [List.length_map,sizeLine_eq]; omega),rfl,?_⟩
   have:=q h1.objs.size nH
   rw [es1] at this
   exact this
  ·have hL:X.env.locals<s.heap.objs.size:=F.ns.lt
   have N:News X.base X.env.locals s.heap (Jm X.base s.heap X.env.locals):=alq
   have tyS:∀ v ∈ us,∀ h,PySem.W.Looks (model X.prog X.w) h (typeOf v) (Value.type "str"):=fun v hv h=>by
    obtain ⟨i,hi,e⟩:=List.getElem_of_mem hv
    obtain ⟨x,t,_,rfl⟩:=ku i v (by rw [List.getElem?_eq_getElem hi,e])
    exact PySem.W.Looks.of_pure rfl
   have hLD:h1.objs.size ≠ X.env.locals:=fun z=>by
    obtain ⟨oL,esL,epL,hoL,_⟩:=F.ns
    have:=Heap.lt_size (k1 _ _ hoL)
    rw [z] at this
    exact absurd this (Nat.lt_irrefl _)
   refine PySem.W.kas_list_sort (T:=Value.type "str") (s:={ s with heap:=h1.push (seqObj "list" us.toArray 0),toks:=tk }) (h₀:=X.base) (L:=X.env.locals) (m:=m) (news:=Jm X.base s.heap X.env.locals) (F.kept kpD) (N.grown kpD) hD hLD
    (by
     cases e3:X.base.get? h1.objs.size with
     | none=>rfl
     | some o=>have:=F.keep _ o e3; rw [fD] at this; cases this)
    (fun p hp z=>by have:=(N p hp).1; rw [z,fD] at this; cases this) (by omega) (by omega) (fun e1 h' F' N' v hv=>tyS v hv h') (by decide) (by decide) fun e1 h' F' N'=>?_
   refine Srt.sort_ok (rk:=fun i=>rkT ts (ts.getD i Str.empty)) (n:=us.length) (s:={ s with heap:=h',toks:=tk }) (fun i j C hi hj hC=>?_) (by omega) fun p hp hs=>?_
   ·have gi:us[i]?=some us[i]:=List.getElem?_eq_getElem hi
    have gj:us[j]?=some us[j]:=List.getElem?_eq_getElem hj
    obtain ⟨x,t,ex,eu⟩:=ku i _ gi
    obtain ⟨y,t',ey,ev⟩:=ku j _ gj
    simp only [getD_some ex,getD_some ey] at hC
    show wpAny (model X.prog X.w) _ (keyLt' oneType' (us.getD i Value.none) (us.getD j Value.none)) C _ _
    rw [getD_some gi,getD_some gj,eu,ev]
    refine PySem.W.kas_lt_str ?_
    have:decide (rkT ts x<rkT ts y)=decide (x.cps.toList<y.cps.toList):=decide_eq_decide.mpr ((ao6 (List.mem_of_getElem? ex) (List.mem_of_getElem? ey)).trans ⟨of_decide_eq_true,decide_eq_true⟩)
    rw [←this]; exact hC
   ·have mem:∀ i ∈ p.toList,i<us.length:=fun i hi=>by
     have:i ∈ (List.range us.length).toArray:=hp.mem_iff.mp (by simpa using hi)
     simpa using this
    have permN:p.toList.Perm (List.range us.length):=by simpa using hp.toList
    have hltD:∀ z ∈ Jm X.base s.heap X.env.locals,z.1 ≠ h1.objs.size:=fun z hz e=>by have:=(N z hz).1; rw [e,fD] at this; cases this
    refine PySem.W.KasFin.intro (news:=(h1.objs.size,seqObj "list" #[] e1)::Jm X.base s.heap X.env.locals) (g:=fun o'=>(h1.objs.size,o')::Jm X.base s.heap X.env.locals) F' N' (.head fun z hz=>hltD z hz) fun h2 c F2 N2=>?_
    have kp2:∀ b o,b ≠ X.env.locals->s.heap.get? b=some o->h2.get? b=some o:=fun b o hb e=>by
     cases e3:X.base.get? b with
     | some u=>have:=F.keep b u e3; rw [e] at this; cases this; exact F2.keep b _ e3
     | none=>exact (N2 (b,o) (List.mem_cons_of_mem _ (agd hb e3 e))).1
    have hD2:=(N2 (h1.objs.size,PySem.W.listOf (List.toArray (p.toList.map fun i=>us.getD i Value.none)) c) List.mem_cons_self).1
    have hqs:(p.toList.map fun i=>(ts.map V.str).getD i V.non)=(acM (rkT ts) ts).map V.str:=by
     have e1:(p.toList.map fun i=>(ts.map V.str).getD i V.non)=(p.toList.map fun i=>ts.getD i Str.empty).map V.str:=by
      rw [List.map_map]
      refine List.map_congr_left fun i hi=>?_
      have hi':=mem i hi
      have g1:ts[i]?=some (ts[i]'(by omega)):=List.getElem?_eq_getElem _
      show (ts.map V.str).getD i V.non=V.str (ts.getD i Str.empty)
      rw [getD_some g1]
      refine getD_some ?_
      rw [List.getElem?_map,g1]; rfl
     rw [e1]
     congr 1
     have e5:(List.range us.length).map (fun i=>ts.getD i Str.empty)=ts:=by
      apply List.ext_getElem?
      intro i
      rw [List.getElem?_map]
      by_cases hi:i<us.length
      ·rw [List.getElem?_range hi,List.getElem?_eq_getElem (show i<ts.length by omega)]
       show some (ts.getD i Str.empty)=_
       rw [getD_some (List.getElem?_eq_getElem (show i<ts.length by omega))]
      ·rw [List.getElem?_eq_none_iff.mpr (show (List.range us.length).length<=i by rw [List.length_range]; omega),List.getElem?_eq_none_iff.mpr (show ts.length<=i by omega)]
       rfl
     have pm:=permN.map (fun i=>ts.getD i Str.empty)
     rw [e5] at pm
     refine aby ?_ (aai (rkT ts) ts) (pm.trans (acN (rkT ts) ts).symm) fun x hx y hy h=>ao7 (pm.mem_iff.mp hx) (pm.mem_iff.mp hy) h
     rw [List.pairwise_map,List.pairwise_iff_getElem]
     intro i j hi hj hij
     have hps:p.size=us.length:=hp.size
     have hi':i<p.size:=by simpa using hi
     have hj':j<p.size:=by simpa using hj
     have:=hs i j (Nat.le_of_lt hij) (by omega)
     simp only [Srt.val] at this
     have g1:p.getD i 0=p.toList[i]:=by simp [Array.getD,hi']
     have g2:p.getD j 0=p.toList[j]:=by simp [Array.getD,hj']
     rw [g1,g2] at this
     exact this
    have hln:(p.toList.map fun i=>(ts.map V.str).getD i V.non).length<=sizeLine:=by
     rw [List.length_map,permN.length_eq,List.length_range]; exact small
    have I2:=Inv.grownL (ys:=p.toList.map fun i=>(ts.map V.str).getD i V.non) (I.tok tk) F.ns F2.ns kp2 fD hD2 (akv rv _ mem) hln
    rw [hqs] at I2
    exact ⟨_,rfl,wpAny_pure ⟨_,rfl,.ref h1.objs.size,_,I2,rfl,q _ nH⟩⟩
def afd (ds:LP):OP:=match ds with
 | [p]=>(Qu p).bind fun r=>(ZV (r.map (·.1))).bind fun ts=>if ts.length<64 then some (.list ((acM (rkT ts) ts).map .str)) else none
 | _=>none
theorem RepM.strs {K:Fg}{H:Hp}:∀ {r:List (PyData × PyData)}{ks:List (Key × V)}{ts:List Str},RepM K H r ks->ZV (r.map (·.1))=some ts->ks.map (·.1)=ts.map (fun t=>(Sum.inr t:Key))
 | [],ks,ts,h,e=>by cases (show ks=[] from h); cases e; rfl
 | (k,c)::r,ks,ts,⟨i,x,s,h1,h2,h3,h4⟩,e=>by
  subst h1; subst h2
  cases i with
  | inl n=>simp [acv,ZV] at e
  | inr t=>
   have e':(ZV (r.map (·.1))).map (t::·)=some ts:=e
   cases hr:ZV (r.map (·.1)) with
   | none=>rw [hr] at e'; cases e'
   | some us=>
    rw [hr] at e'
    cases e'
    rw [List.map_cons,List.map_cons,RepM.strs h4 hr]
theorem amL (hc:X.calm=true):QM X (.builtin "sorted") afd:=by
 refine ⟨_,aic hc,fun ds d xs H Q h r k=>?_⟩
 unfold afd at h
 split at h
 ·rename_i p
  cases h1:Qu p with
  | none=>simp [h1] at h
  | some pr=>
   cases h2:ZV (pr.map (·.1)) with
   | none=>simp [h1,h2] at h
   | some ts=>
    rw [h1,zzD,h2,zzD] at h
    by_cases h3:ts.length<64
    ·rw [if_pos h3] at h
     cases h
     obtain ⟨x,q,e1,e2,e3⟩:=r
     cases (show q=[] from e3)
     obtain ⟨a,ks,ob,g1,g2,g3⟩:=JF h1 e2
     subst g1
     exact ⟨a,ob,ks,ts,e1,g2,g3.strs h2,h3,fun l hl=>k _ _ (jI hl) ⟨l,_,rfl,ji,ad4 _⟩⟩
    ·rw [if_neg h3] at h; cases h
 ·cases h
end
section
variable {X:Cx}{e a b c:Expr}{pos:Pos}
def ao8:List V->Hp->VK->Prop:=fun xs H Q=>∃ d ob ks,xs=[.ref d]/\H d=some (.frz ob (.dK ks))/\∀ l,H l=none->Q (.ref l) (upd H l (.dK ks))
theorem agU:zV X (.type "dict") ao8:=by
 intro Kp s σ H xs us Q I r ⟨d,ob,ks,e,hq,q⟩
 subst e
 obtain ⟨u,rfl,rx⟩:=abn r
 cases rx
 obtain ⟨o0,z,nm,vs,rel,ob',es,ep,h4,h5⟩:=I.hok d _ hq
 have hl:=rel.length
 refine kt_call_dict (knd:=qm X.prog X.w) nm ⟨ob',es,ep,h4,h5⟩ (by omega) fun h' hm hs=>?_
 have kp:∀ b o,s.heap.get? b=some o->h'.get? b=some o:=fun b o e=>(hs.2 b (Nat.ne_of_lt (Heap.lt_size e))).trans (Heap.get?_push_of_some _ e)
 have nS:(s.heap.objs.size == sysModules)=false:=beq_false_of_ne (Nat.ne_of_gt (Inv.big I))
 exact ⟨.ref s.heap.objs.size,_,I.laid (t':=s.toks) (o:= .dK ks) kp (Nat.le_refl _) ⟨z,nS,vs,rel,hm⟩,rfl,q _ (I.hok.fresh (Nat.le_refl _))⟩
theorem amM:PD X (.Dict [] [] pos) (cst (.dict [(.none,.none)])):=by
 with_unfolding_all
  intro Kp s σ H Q I ⟨ρ,d,en,hf,k⟩
  cases hf
  refine thn (alT Kp s σ H (fun v H2=>∃ a,v= .ref a/\H a=none/\H2=upd H a (.dK [])) I (fun l hl=>⟨l,rfl,hl,rfl⟩)) fun u s1 ⟨v,H2,I2,r,a,e1,e2,e3⟩=>?_
  subst e1
  have e4:H2 a=some (.dK []):=by rw [e3]; exact ji
  obtain ⟨ob,I3⟩:=Inv.sealedD I2 e4
  have I6:=Inv.opened I3 (.d ob _) ji
  rw [qF,e3,qF] at I6
  exact ⟨.ref a,_,I6,r,k _ _ (jI e2) ⟨a,rfl,.inr (.inl ⟨[],ob,ji,rfl⟩)⟩⟩
def asM (i s j:Nat) (cls f1 f2:Str) (S:TRS):TRS:=fun ρ μ R=>∃ a fs r d n,lkp s ρ=some (jv a)/\μ a=some (.ins cls fs)/\fs.lookup f1=some (.dict ((.none,.none)::r))/\fs.lookup f2=some d/\lkp j ρ=some (.str n)/\r.length<1000000/\i ≠ s/\i ≠ j/\i < ρ.length/\
 S (ρ.set i (some (.dict ((.none,.none)::ZJ r (Sum.inr n) d)))) μ R
theorem akI (i s j:Nat) {x y me cls f1 f2:Str}{S:TRS}{j9:List Stmt}{pos' p p1 p2 p3 pc ps pa ps' pa' pos2:Pos} (hu:X.A.units+1<cLine) (hN:X.N.Nodup) (hm:X.mg "dict"=none) (hv:bootBuiltins "dict"=some (.type "dict")) (hC1:qH X.K cls f1) (hC2:qH X.K cls f2) (hR:aak X j9 S)
  (hi:X.N[i]?=some x:=by rfl) (hsn:X.N[s]?=some me:=by rfl) (hj:X.N[j]?=some y:=by rfl) (hx:Loc X.env.scope x:=by first | exact Or.inl rfl | exact Or.inr rfl)
  (hs:swapsWith (.Call (.Name "dict" p) [.Attribute (.Name me ps) f1 pa] [] pc) (some (.Name x pos')) pos.line X.env=pure false:=by rfl)
  (hf:X.fn x=true ∨ X.env.scope.names.lookup x=some .local:=by first | exact .inl rfl | exact .inr rfl | assumption)
  (hg:Gl X "dict":=by rfl) (he:starEach [.Attribute (.Name me ps) f1 pa] X.env=(false,eval (.Attribute (.Name me ps) f1 pa) X.env)::starEach [] X.env:=by rfl) (hpl:(backTo pc (starEach [] X.env)).any (·.1)=false:=by rfl)
  (hvs:Vis X.env.scope me:=by first | exact Or.inl rfl | exact Or.inr (Or.inl rfl) | exact Or.inr (Or.inr rfl)) (hvx:Vis X.env.scope x:=by first | exact Or.inl rfl | exact Or.inr (Or.inl rfl) | exact Or.inr (Or.inr rfl)) (hvy:Vis X.env.scope y:=by first | exact Or.inl rfl | exact Or.inr (Or.inl rfl) | exact Or.inr (Or.inr rfl))
  (d1:(me == ("__debug__":Str))=false:=by decide) (d2:(me == ("__classdict__":Str))=false:=by decide) (d3:(x == ("__debug__":Str))=false:=by decide) (d4:(x == ("__classdict__":Str))=false:=by decide) (d5:(y == ("__debug__":Str))=false:=by decide) (d6:(y == ("__classdict__":Str))=false:=by decide)
  (hb1:attributeBase (.Name me ps) f1 X.env (eval (.Name me ps) X.env)=eval (.Name me ps) X.env:=by rfl) (hb2:attributeBase (.Name me ps') f2 X.env (eval (.Name me ps') X.env)=eval (.Name me ps') X.env:=by rfl)
  (ha:∀ v,assign (.Subscript (.Name x p1) (.Name y p2) p3) X.env v=(do
   let ov ←holding [v] (eval (.Name x p1) X.env)
   let iv ←holding [v,ov] (eval (.Name y p2) X.env)
   standAt p3
   holding [v,ov,iv] (setItem ov iv v)
   release [v,ov,iv] []):=by intro _; rfl)
  (hs2:swapsWithSole [.Subscript (.Name x p1) (.Name y p2) p3] (.Attribute (.Name me ps') f2 pa') pos2.line X.env=pure false:=by rfl) (hw2:swappedStores [.Subscript (.Name x p1) (.Name y p2) p3] (.Attribute (.Name me ps') f2 pa') X.env=pure none:=by rfl)
  (h12:(assignEach [.Subscript (.Name x p1) (.Name y p2) p3] X.env).map (·.2)=[assign (.Subscript (.Name x p1) (.Name y p2) p3) X.env]:=by rfl):
  aak X (.Assign [.Name x pos'] (.Call (.Name "dict" p) [.Attribute (.Name me ps) f1 pa] [] pc) pos :: .Assign [.Subscript (.Name x p1) (.Name y p2) p3] (.Attribute (.Name me ps') f2 pa') pos2::j9) (asM i s j cls f1 f2 S):=by
 with_unfolding_all
  have hR':PSs X j9 (fun D σ H=>∃ l ob ks,H l=some (aaa X.prog X.w l ob ks)/\tCS X S D σ (upd H l (.frz ob (.dK ks)))):=by
   intro Kp s σ H D I ⟨l,ob,ks,h1,h2⟩
   exact hR Kp s σ _ D (Inv.opened I (.d ob ks) h1) h2
  have hd:PE X (.Call (.Name "dict" p) [.Attribute (.Name me ps) f1 pa] [] pc) (fun σ H Q=>ar8 X.K (an1 s) f1 σ H fun v H1=>∃ d ob ks,v= .ref d/\H1 d=some (.frz ob (.dK ks))/\∀ l ob',H1 l=none->Q (.ref l) (upd H1 l (aaa X.prog X.w l ob' ks))):=by
   intro Kp s0 σ H Q I h
   have W:=aaO (X:=X) (pos:=pc) (p:=p) agU hg hm hv (qG (ahG (Jt hsn hvs d1 d2) hb1) zz he) (by decide) (by decide) he hpl
   refine thn (W Kp s0 σ H (fun v H2=>∃ l ks H1,v= .ref l/\H1 l=none/\H2=upd H1 l (.dK ks)/\∀ ob',Q (.ref l) (upd H1 l (aaa X.prog X.w l ob' ks))) I ?_) fun u s1 ⟨v,H2,I2,r,l,ks,H1,e1,e2,e3,e4⟩=>?_
   ·obtain ⟨v0,e0,a0,C,dx,fs,v,g1,g2,g3,g4,g5,d,ob,ks,g6,g7,g8⟩:=h
    exact ⟨v0,e0,a0,C,dx,fs,v,g1,g2,g3,g4,g5,d,ob,ks,by rw [g6],g7,fun l hl=>⟨l,ks,H,rfl,hl,rfl,fun ob'=>g8 l ob' hl⟩⟩
   ·subst e1
    have e5:H2 l=some (.dK ks):=by rw [e3]; exact ji
    obtain ⟨ob,I3⟩:=Inv.sealedD I2 e5
    rw [e3,qF] at I3
    exact ⟨.ref l,_,I3,r,e4 ob⟩
  refine PSs.imp (zU (ZL hN hi hx hd hs hf) (zU (ahz (ahG (Jt hsn hvs d1 d2) hb2) (alE (Jt hi hvx d3 d4) (Jt hj hvy d5 d6) (akG hu) ha) hs2 hw2 h12) hR')) fun D σ H h=>?_
  obtain ⟨ρ,μ,R,en,cs,⟨ad,fs,r,d,n,q1,q2,q3,q4,q5,q6,q7,q8,q9,q10⟩,kk⟩:=h
  obtain ⟨C,dx,vs,h1,h2,h3⟩:=cs ad _ q2
  obtain ⟨w1,l1,r1⟩:=h3.look q3
  obtain ⟨w2,l2,r2⟩:=h3.look q4
  obtain ⟨a1,ks,ob,g1,g2,g3⟩:=JF (show Qu (.dict ((.none,.none)::r))=some r from rfl) r1
  subst g1
  obtain ⟨vs',es1,rs1⟩:=en.at' s _ (qv q1)
  cases Rep.celOut rs1
  obtain ⟨vy,es2,rs2⟩:=en.at' j _ (qv q5)
  cases (show vy=V.str n from rs2)
  refine ⟨_,es1,ad,C,dx,vs,_,rfl,h2,(hC1 C h1).1,(hC1 C h1).2,l1,a1,ob,ks,rfl,g2,fun l ob' hl=>?_⟩
  have nea:ad ≠ l:=fun z=>by rw [z,hl] at h2; cases h2
  have nes:i ≠ s:=q7
  have hil:i < σ.length:=by rw [←en.len]; exact q9
  have kl:=g3.length
  refine ⟨_,by rw [List.getElem?_set_ne nes]; exact es1,ad,C,dx,vs,w2,rfl,by rw [jo nea]; exact h2,(hC2 C h1).1,(hC2 C h1).2,l2,.ref l,by rw [List.getElem?_set_self hil],.str n,by rw [List.getElem?_set_ne q8]; exact es2,l,ks,ob',n,rfl,rfl,ji,by rw [kl]; exact Qt q6,fun ob2=>?_⟩
  refine ⟨l,ob2,putK ks (Sum.inr n) w2,ji,?_⟩
  rw [qF,qF]
  have sm:jp H (upd H l (.frz ob2 (.dK (putK ks (Sum.inr n) w2)))):=jI hl
  refine ⟨_,μ,R,⟨by simp [en.len],fun m z hz=>?_⟩,cs.mono sm,q10,fun o μ' hR'=>(kk o μ' hR').mono (jp.a sm)⟩
  by_cases hmi:i=m
  ·subst hmi
   rw [List.getElem?_set_self q9] at hz
   cases hz
   exact ⟨.ref l,by rw [List.getElem?_set_self hil],l,rfl,.inr (.inl ⟨_,ob2,ji,RepM.putK (Sum.inr n) (Rep.mono sm _ _ r2) (RepM.mono sm _ _ g3)⟩)⟩
  ·rw [List.getElem?_set_ne hmi] at hz ⊢
   obtain ⟨v,e1,e2⟩:=en.at' m z hz
   exact ⟨v,e1,Rep.mono sm _ _ e2⟩
end
section
variable {X:Cx}{e a b c o:Expr}{pos:Pos}{Ta Tb To:TR PyData}
theorem amN (hu:X.A.units+1<cLine) (ha:PEC X a Ta) (hb:PEC X b Tb) (hs:aqN b:=by intro _ _; rfl):PEC X (.Subscript a b pos) (opC ap9 Ta Tb):=by
 with_unfolding_all
  refine PE.imp (aom hu ha hb hs) fun σ H Q h=>ad0 (r:=fun x y H Q=>∃ ad v,x= .ref ad/\aaQ H ad y (some v)/\Q v H) (fun p q d x y H Q h rx ry k=>?_) h
  unfold ap9 at h
  split at h
  ·rename_i r n hp
   cases (show y=V.str n from ry)
   obtain ⟨ad,ks,ob,e1,e2,e3⟩:=JF hp rx
   rcases aa2 (Sum.inr n) e3 with ⟨z,_⟩ | ⟨d',v,z1,z2,z3⟩
   ·rw [z] at h; cases h
   ·rw [z1] at h; cases h
    exact ⟨ad,v,e1,by rw [←z2]; exact ad5 e2 n,k v H (jp.refl H) z3⟩
  ·cases h
theorem arj {neg:Bool}{p q d:PyData}{x y:V}{H:Hp}{Q:VK} (h:ajq neg p q=some d) (rx:Rep X.K H p x) (ry:Rep X.K H q y) (k:∀ v H',jp H H'->Rep X.K H' d v->Q v H'):∃ ad ov,y= .ref ad/\aaQ H ad x ov/\Q (.bl (if neg then !ov.isSome else ov.isSome)) H:=by
 unfold ajq at h
 split at h
 ·rename_i r n hp
  cases h
  cases (show x=V.str n from rx)
  obtain ⟨ad,ks,ob,e1,e2,e3⟩:=JF hp ry
  refine ⟨ad,_,e1,ad5 e2 n,k _ H (jp.refl H) ?_⟩
  rcases aa2 (Sum.inr n) e3 with ⟨z1,z2⟩ | ⟨d',x,z1,z2,z3⟩
  ·rw [z1,z2]; rfl
  ·rw [z1,z2]; rfl
 ·cases h
theorem aid (hu:X.A.units+1<cLine) (ha:PEC X a Ta) (hb:PEC X b Tb) (hm:behindInMarks .NotIn b=false:=by first | exact acp _ | with_unfolding_all rfl):PTC X (.Compare a [.NotIn] [b] pos) (ae7 (opC (ajq true) Ta Tb)):=by
 with_unfolding_all
  exact PT.imp (aqp (aki hu ha hb) hm) fun σ H Q h=>ad0 (r:=fun x y H Q=>∃ ad ov,y= .ref ad/\aaQ H ad x ov/\Q (.bl (!ov.isSome)) H) (fun p q d x y H Q h rx ry k=>arj (neg:=true) h rx ry k) (amB h)
theorem ark (ha:PEC X a Ta) (hb:PEC X b Tb) (hs:abJ b:=by intro _ _; rfl):PEC X (.Subscript a b pos) (opC dIx Ta Tb):=by
 with_unfolding_all
  obtain ⟨r,h1,h2⟩:=ixd (X:=X)
  exact PE.imp (alM h1 ha hb hs) fun σ H Q h=>ad0 h2 h
def atS (ga:PyData->Rho->Option Rho) (d:PyData):TRS:=fun ρ μ R=>∃ ρ',ga d ρ=some ρ'/\R (.nx ρ') μ
theorem ao9 {tg:Expr}{ga:PyData->Rho->Option Rho} (he:PEC X e Ta) (hg:PGD X tg ga) (hs:swapsWithSole [tg] e pos.line X.env=pure false:=by rfl) (hw:swappedStores [tg] e X.env=pure none:=by rfl)
  (h1:(assignEach [tg] X.env).map (·.2)=[assign tg X.env]:=by rfl):PSC X (.Assign [tg] e pos) (zi Ta (atS ga)):=by
 with_unfolding_all
  exact PS.imp (ahz he hg hs hw h1) fun D σ H h=>(AtS.bind h).imp fun d H1 _ ⟨s1,ρ,μ,R,en,cs,⟨ρ',hg',hR⟩,k⟩ v rv=>⟨ρ,d,ρ',en,rv,hg',fun σ' H' s' e'=>k _ _ hR σ' H' (jp.a s') e' (cs.mono s')⟩
theorem akJ:OpR X (compareOp .LtE) (fun x y H Q=>∃ i j,x= .str i/\y= .str j/\Q (.bl (!decide (j.cps.toList<i.cps.toList))) H):=by
 intro Kp s σ H x y v u Q I rx ry h
 obtain ⟨i,j,rfl,rfl,q⟩:=h
 obtain ⟨t,rfl⟩:=rx
 obtain ⟨t',rfl⟩:=ry
 exact PySem.P.le_str (aqA I q rfl)
noncomputable def asN:PyData->PyData->OP
 | .str i,.str j=>some (.bool (!decide (j.cps.toList<i.cps.toList)))
 | _,_=>none
theorem ajs:OpD X (compareOp .LtE) asN:=by
 refine ⟨_,akJ,fun p q d x y H Q h rx ry k=>?_⟩
 unfold asN at h
 split at h
 ·cases h; cases (show x=_ from rx); cases (show y=_ from ry)
  exact ⟨_,_,rfl,rfl,k _ H (jp.refl H) rfl⟩
 ·cases h
theorem ajt {Tt:TR Bool}{S S':TRS}{l r:List Stmt} (hc:PTC X c Tt) (hl:acT X l S) (hr:acT X r S'):ao0 X (.If c l r pos) (ifC Tt S S'):=by
 with_unfolding_all
  intro s σ H D I h
  refine wpAny_If (thn (hc [] s σ H (fun b H1=>AtS X σ H1 (if b=true then S else S') D) I ((AtS.bind h).imp fun b H1 _ ⟨s1,h1⟩=>h1)) fun d s1 ⟨H1,I1,q1⟩=>?_)
  cases d with
  | true=>exact hl s1 σ H1 D I1 q1
  | false=>exact hr s1 σ H1 D I1 q1
def asO (n:Nat) (y:Str) (G:RO) (R:OutC->jC->Prop):OutC->jC->Prop
 | .er c,μ=>c=y/\∃ d,G (adW n)=some (.rt d)/\R (.rt d) μ
 | o,μ=>R o μ
def asP (n:Nat) (y:Str) (S:TRS) (G:RO):TRS:=fun ρ μ R=>S ρ μ (asO n y G R)
theorem ad7 {y:Str}{np hpos:Pos}{n:Nat}{b0:Stmt}{tb hb:List Stmt}{S:TRS}{G:RO} (T0:Top0 X) (hN:X.N.length=n) (hE:ZU X.K X.mg y) (hn:∀ E,aak (X.wish E) tb S) (hh:∀ e,abC (hX X e) (b0::hb) G)
  (hg:Gl X y:=by rfl) (hdb:(y == ("__debug__":Str))=false:=by decide):ao0 X (.Try tb [.ExceptHandler (some (.Name y np)) none (b0::hb) hpos] [] [] pos) (asP n y S G):=by
 with_unfolding_all
  intro s σ H D I ⟨ρ,μ,R,en,cs0,t0,k⟩
  refine wpAny_Try_except ?_
  let E':Value->SP0:=fun ev s1=>wpAny (model X.prog X.w) X.A (noteFrame ev X.env) (fun _ s₂=>wpAny (model X.prog X.w) X.A (setFlight ev none) (fun _ s₃=>wpAny (model X.prog X.w) X.A (handleBy ev X.env [.ExceptHandler (some (.Name y np)) none (b0::hb) hpos]) (SP X [] D) X.xe s₃) X.xe s₂) X.xe s1
  refine wpAny_mono (hn E' [] s σ H D (I.wish E') ⟨ρ,μ,_,en,cs0,t0,fun o μ' r=>?_⟩) (fun f s1 z=>?_) fun _ _ z=>z
  ·cases o with
   | nx ρ'=>exact (k (.nx ρ') μ' r:JG X H D (.nx ρ') μ')
   | rt d=>exact (k (.rt d) μ' r:JG X H D (.rt d) μ')
   | bk d=>exact (k (.bk d) μ' r:JG X H D (.bk d) μ')
   | ct d=>exact (k (.ct d) μ' r:JG X H D (.ct d) μ')
   | er c=>
    obtain ⟨hy,d,hG,hR⟩:=r
    subst hy
    intro ev s1 t
    obtain ⟨e,C,σ1,H1,rfl,hm,J,sm,c1,xc⟩:=t
    have J0:=J.unwish
    have x0:=xc.unwish
    show wpAny _ X.A (noteFrame (.ref e) X.env) _ _ s1
    refine wpAny_mono (abO (E:=fun _ _=>False) T0 J0.ok.frames J0 x0) (fun _ s2 ⟨J2,t2⟩=>?_) fun _ _ z=>z.elim
    refine wpAny_mono (Jq (E:=fun _ _=>False) none J2 t2) (fun _ s3 ⟨J3,t3⟩=>?_) fun _ _ z=>z.elim
    have ok:=J3.ok
    obtain ⟨C',hm',hex⟩:=hE
    have hm0:X.mg c=some (.ref C):=hm
    rw [hm0] at hm'; cases hm'
    have fr:(X.A.mark (some (.ref e))).frames=some X.stack:=ok.frames
    have J4:Inv (hX X e) [] σ1 H1 s3:=Inv.asA J3 fr (fun z=>nomatch z)
    refine wpAny_handleBy_cons (codeAny_handlers_test ?_) (fun z=>nomatch z)
    refine Ql (X:=hX X e) J4 hg hm0 ?_ hdb
    obtain ⟨oe,ws,T,oT,ts,g1,g2,g3,g4,g5,g6,g7,g8,g9⟩:=t3.ob
    obtain ⟨bm,N,nm,qn,bs,hdct,sn,sub,ab,col,dd,k0',k1,k2,k3,k5,mN,hC,hNs,hni,TL⟩:=ajj J4.kIn hex
    obtain ⟨h3,gg3,d3,tk3,os3⟩:=s3
    refine wpAny_excMatches_sub_self hC g1 g2.1 (TL.hasType rfl) ?_
    refine codeAny_handlers_suite ?_
    refine wpAny_mono (Jq (A:=X.A.mark (some (.ref e))) (E:=fun _ _=>False) none J3 t3) (fun _ s5 ⟨J5,t5⟩=>?_) fun _ _ z=>z.elim
    have J6:Inv (hX X e) [] σ1 H1 s5:=Inv.asA J5 fr (fun z=>nomatch z)
    have eb:EnvR X.K H1 (adW n) σ1:=by rw [←hN,←J5.len]; exact akz
    have k1:=(k (.rt d) μ' hR:JG X H D (.rt d) μ')
    exact wpAny_mono (hh e [] s5 σ1 H1 D J6 ⟨adW n,.rt d,eb,hG,fun v H' sm' r=>k1 v H' (sm.trans (jp.a sm')) r (c1.mono sm')⟩) (fun f s6 z=>SP.ofA J5.ok z) fun _ _ z=>z.elim
  ·have z':=SP.unwish z
   cases f with
   | next=>exact wpAny_execs_nil z'
   | brk=>exact z'
   | cont=>exact z'
   | ret u=>exact z'
end
def acW (ga:PyData->Rho->Option Rho) (T:TR PyData):LP->LP->Rho->jC->(LP->jC->Prop)->Prop
 | [],acc=>fun _ μ R=>R acc μ
 | d::r,acc=>fun ρ μ R=>∃ ρ1,ga d ρ=some ρ1/\T ρ1 μ fun o μ'=>match o with
  | .ok y=>acW ga T r (acc++[y]) ρ1 μ' R
  | .er _=>False
def amO (fi:Rho->Option (LP)) (cap:List (Option Nat)) (ga:PyData->Rho->Option Rho) (T:TR PyData):TR PyData:=fun ρ μ R=>∃ ds,fi ρ=some ds/\few ds=true/\acW ga T ds [] (aaU cap ρ) μ fun ys μ'=>R (.ok (.list ys)) μ'
def tC0 (K:Fg) (T:TR PyData):TE:=fun σ H Q=>∃ ρ μ R,EnvR K H ρ σ/\qe K H μ/\T ρ μ R/\(∀ d μ',R (.ok d) μ'->∀ H',jx H H'->qe K H' μ'->∀ v,Rep K H' d v->Q v H')/\∀ c μ',¬ R (.er c) μ'
theorem akK {X:Cx}{e:Expr}{T:TR PyData} (h:PEC X e T):PE X e (tC0 X.K T):=by
 with_unfolding_all
  exact PE.imp h fun σ H Q ⟨ρ,μ,R,en,cs,t,k1,k2⟩=>⟨ρ,μ,R,en,cs,t,fun o μ' r=>match o,r with
   | .ok d,r=>fun H' s c v rv=>k1 d μ' r H' s c v rv
   | .er c,r=>absurd r (k2 c μ')⟩
theorem amP {X:Cx}{tg src:Expr}{el:Expr}{sc:Scope}{ps:Pos}{fi:Rho->Option (LP)}{ga:PyData->Rho->Option Rho}{T:TR PyData} (N':List Str) (cap:List (Option Nat)) (hc:X.calm=true) (hi:PID X tg src fi) (ok:CompOk X sc N' cap)
  (body:∀ cl C s0 H0 fp pn,PGD (blk X N' sc cl C s0 H0 fp pn) tg ga/\PEC (blk X N' sc cl C s0 H0 fp pn) el T)
  (hs:∀ x,foldedSetIterable src X.env x=pure x:=by intro _; rfl):PEC X (.ListComp el [⟨tg,src,[],0⟩] sc ps) (amO fi cap ga T):=by
 have body':∀ cl C s0 H0 fp pn,PE (blk X N' sc cl C s0 H0 fp pn) el (tC0 X.K T):=fun cl C s0 H0 fp pn=>akK (body cl C s0 H0 fp pn).2
 with_unfolding_all
  refine PE.imp (ai7 (g:=tDG X.K ga) (tt:=apZ) (te:=tC0 X.K T) hc hi ok (fun cl C s0 H0 fp pn=>⟨(body cl C s0 H0 fp pn).1,ai6,body' cl C s0 H0 fp pn⟩) hs) fun σ H Q ⟨ρ,μ,R,en,cs,⟨ds,h1,hf,q⟩,k⟩=>?_
  refine ⟨ρ,ds,en,h1,fun J H1 s1 Y=>?_⟩
  refine ⟨fun i m τ us H2=>m=ds.length - i/\i<=ds.length/\us.length<=i/\jx H1 H2/\∃ ρ2 μ2 zs,EnvR X.K H2 ρ2 τ/\qe X.K H2 μ2/\Reps X.K H2 zs us/\acW ga T (ds.drop i) zs ρ2 μ2 (fun ys μ'=>R (.ok (.list ys)) μ'),
   ⟨ds.length,by simp,Nat.zero_le _,Nat.le_refl _,jx.refl _,aaU cap ρ,μ,[],(en.mono s1).cap cap,cs.mono s1,rfl,by simpa using q⟩,?_⟩
  rintro i m τ us H2 ⟨rfl,hi',hu,sA,ρ2,μ2,zs,en2,cs2,r2,q2⟩
  have hsm:us.length<sizeLine:=Nat.lt_of_le_of_lt (Nat.le_trans hu hi') (Nat.lt_of_lt_of_le (by simpa [few] using hf) (by rw [sizeLine_eq]; decide:1000000<=sizeLine))
  obtain ⟨g1,g2,g3⟩:=Y i H2 sA
  refine ⟨hsm,?_⟩
  by_cases hlt:i<ds.length
  ·right
   rw [List.drop_eq_getElem_cons hlt] at q2
   obtain ⟨ρ4,h4,q3⟩:=q2
   refine ⟨g1 hlt,fun x H3 y=>?_⟩
   obtain ⟨s3,r3⟩:=g3 x H3 y
   have r3':=r3 ds[i] (by simp [hlt])
   refine ⟨ρ2,ds[i],ρ4,en2.mono s3,r3',h4,fun σ5 H5 s5 en5=>?_⟩
   show tC0 X.K T σ5 H5 _
   have s25:jx H2 H5:=(jp.a s3).trans (jp.a s5)
   refine ⟨ρ4,μ2,_,en5,(cs2.mono s3).mono s5,q3,fun d μ' r H6 s6 c6 v rv=>?_,fun c μ' r=>r⟩
   exact ⟨ds.length - (i+1),by omega,rfl,hlt,by rw [List.length_append]; simp; omega,sA.trans (s25.trans s6),ρ4,μ',zs++[d],en5.monoA s6,c6,(Reps.monoA (s25.trans s6) _ _ r2).append ⟨v,[],rfl,rv,rfl⟩,r⟩
  ·left
   have hn:ds.drop i=[]:=List.drop_of_length_le (by omega)
   rw [hn] at q2
   refine ⟨g2 (by omega),fun l hl=>?_⟩
   have s3:jp H2 (upd H2 l (.lst us)):=jI hl
   exact (k (.ok (.list zs)) μ2 q2) _ ((jp.a s1).trans (sA.trans (jp.a s3))) (cs2.mono s3) _ ⟨l,us,rfl,ji,Reps.mono s3 _ _ r2⟩
section
variable {X:Cx}{e o:Expr}{es:List Expr}{To:TR PyData}{Tr:TR (LP)}{pos apos:Pos}{x m:Str}
theorem arl {Kp:List (Addr × Obj)}{σ:St}{H:Hp}{s:Shared}{Q:VK}{us:List Value}{vs:List V}{k n:Nat}{f:Addr}{fd:FuncData}{ps:List Str}{g:GC3}{ds:LP}{μ:jC}{R:Res PyData->jC->Prop}
  (F:FnOk X.prog X.w X.K X.mg X.base (CXt X.prog X.w) k f fd ps (ady X.K X.mg n g)) (hr:Room k X.A) (hb:zW X.K fd ps []) (I:Inv X Kp σ H s) (r:jG vs us) (rd:Reps X.K H ds vs) (cs:qe X.K H μ) (hn:ds.length=n) (hg:g ds μ (arb R))
  (kk:∀ o μ',R o μ'->qV X H (fun d H'=>∀ v,Rep X.K H' d v->Q v H') o μ'):wpAny (model X.prog X.w) X.A (call (.ref f) us) (EP X Kp σ Q) X.xe s:=by
 have sp:ady X.K X.mg n g vs H Q (fun cls _ H'=>False):=
  ⟨ds,μ,_,hn,rd,cs,hg,fun d μ' q v H' sA rv c=>(kk (.ok d) μ' q:qV X H (fun d H'=>∀ v,Rep X.K H' d v->Q v H') (.ok d) μ') H' sA c v rv,fun c μ' q C H' hC sA c'=>q⟩
 have hlu:(us++[]).length=ps.length:=by rw [List.append_nil,←r.length]; exact F.len _ _ _ _ sp
 have hbd:=hb s us I.kIn hlu
 rw [List.append_nil] at hbd
 refine wpAny_call (codeAny_mono (F.run X.A X.stack s H ⟨us,[]⟩ us vs _ _ hr I.env0 hbd r sp) fun rs s' hq=>?_)
 cases rs with
 | error ev=>
  obtain ⟨e0,C,H',rfl,os,bare,un,hok,xc,z⟩:=hq
  exact z.elim
 | ok fl=>
  cases fl with
  | ret u=>exact I.after hq
  | next=>exact False.elim hq
  | brk=>exact False.elim hq
  | cont=>exact False.elim hq
def aju (x m:Str) (g:GC3) (n:Nat) (od:PyData):TR PyData:=fun _ μ R=>(∃ a fs,od=jv a/\μ a=some (.ins x fs)/\fs.lookup m=none)/\[od].length=n/\g [od] μ (arb R)
theorem aie {k j n:Nat}{ps:List Str}{g:GC3}{pl:Sem Bool} (C:qO X.prog X.w X.K X.mg X.base x m ps k n g) (hr:Room j X.A) (hkj:k<=j) (ho:PEC X o To)
  (ht:eval (.Call (.Attribute o m apos) [] [] pos) X.env=(do
   let ov ←eval o X.env
   standAt apos.atName
   let (f,first) ←holding [ov] (getMethod ov m pl)
   callWith pos f first (backTo pos (starEach [] X.env)) (backToKw pos (keywordEach [] X.env))):=by rfl):
  PEC X (.Call (.Attribute o m apos) [] [] pos) (bindC To (aju x m g n)):=by
 with_unfolding_all
  intro Kp s σ H Q I h
  obtain ⟨C,f,fd,hC,hcls,hmeth,F,hb⟩:=C
  refine PySem.W.methodCall_KW (pl:=pl) (thn (ho Kp s σ H (fun y H1=>∃ od,Rep X.K H1 od y/\AtC X σ H1 (aju x m g n od) fun d H'=>∀ v,Rep X.K H' d v->Q v H') I ((AtC.bind h).imp fun od H1 _ ⟨s1,h1⟩ y ry=>⟨od,ry,h1⟩)) fun u s1 ⟨y,H1,I1,ry,od,rod,ρ,μ,R,en,cs,⟨⟨a,fs,hd,hm,hl⟩,hn,hG⟩,kk⟩=>?_) ht
  subst hd
  cases Rep.celOut rod
  obtain rfl:u=Value.ref a:=ry
  obtain ⟨C',dx,vs,h1,h2,h3⟩:=cs a _ hm
  rw [hC] at h1; cases h1
  refine ZN I1 h2 hcls hmeth (h3.lookN hl) ?_
  exact PySem.W.callWith_K0 (first:=[.ref a]) I1.kIn hmeth.kp (arl (us:=[.ref a]) (vs:=[.ref a]) F (hr.mono hkj) hb I1 (.cons rfl .nil) (show Reps X.K H1 [jv a] [V.ref a] from ⟨_,_,rfl,Rep.cel a,rfl⟩) cs hn hG kk)
def asQ (Tr:TR (LP)):TR PyData:=bindC Tr fun ds=>fun _ μ R=>few ds=true/\∀ a,μ a=none->R (.ok (jv a)) (qY μ a (.lst ds))
theorem amQ (h:PAC X es Tr):PEC X (.List es pos) (asQ Tr):=by
 with_unfolding_all
  intro Kp s σ H Q I q
  refine thn (aeH h Kp s σ H (fun v H2=>∃ a xs H1 ds μ R,v= .ref a/\H1 a=none/\H2=upd H1 a (.lst xs)/\Reps X.K H1 ds xs/\qe X.K H1 μ/\(∀ a,μ a=none->R (.ok (jv a)) (qY μ a (.lst ds)))/\∀ o μ',R o μ'->qV X H1 (fun d H'=>∀ v,Rep X.K H' d v->Q v H') o μ') I ((AtC.bind q).imp fun ds H1 _ ⟨s1,ρ,μ,R,en,cs,⟨hf,hR⟩,kk⟩ vs rv=>⟨by rw [rv.length]; exact ZQ (by simpa [few] using hf),fun p hp=>⟨p,vs,H1,ds,μ,R,rfl,hp,rfl,rv,cs,hR,kk⟩⟩)) fun u s1 ⟨v,H2,I2,r,a,xs,H1,ds,μ,R,e1,e2,e3,rs,cs,hR,kk⟩=>?_
  subst e1
  have e4:H2 a=some (.lst xs):=by rw [e3]; exact ji
  have e5:upd H2 a (j5 a xs)=upd H1 a (j5 a xs):=by rw [e3,qF]
  have s2:jp H1 (upd H2 a (j5 a xs)):=by rw [e5]; exact jI e2
  have k1:=(kk (.ok (jv a)) _ (hR a (cs.free e2)):qV X H1 (fun d H'=>∀ v,Rep X.K H' d v->Q v H') (.ok (jv a)) _)
  exact ⟨.ref a,_,Inv.closed I2 (.l xs) e4 (fun ob u z=>by have:=I2.base.frzs _ _ _ z; rw [e4] at this; cases this),r,k1 _ (jp.a s2) (cs.put (jp.a s2) (fun b _ o q=>s2 b o q) ⟨xs,ji,Reps.mono s2 _ _ rs⟩) (.ref a) (Rep.cel a)⟩
end
section
variable {X:Cx}{e a b c o:Expr}{pos p2:Pos}{Ta Tb To:TR PyData}
theorem agV {H:Hp}{l:Addr}{u:HO} (h:H l=some u):upd H l u=H:=by
 funext b
 by_cases z:b=l
 ·subst z; rw [ji,h]
 ·rw [jo z]
theorem agW {H:Hp}{l m:Addr}{u w:HO} (h:l ≠ m):upd (upd H l u) m w=upd (upd H m w) l u:=by
 funext b
 by_cases z:b=l
 ·subst z; rw [jo h,ji,ji]
 ·by_cases z2:b=m
  ·subst z2; rw [ji,jo z,ji]
  ·rw [jo z2,jo z,jo z,jo z2]
def atT:R2:=fun x y H Q=>∃ p xs i v,x= .ref p/\y= .int i/\H p=some (j5 p xs)/\atI xs i=some v/\Q v H
theorem arm:IxR X atT:=by
 intro value slice Kp s σ H x y v u Q I rx ry h hs
 obtain ⟨p,xs,i,z,rfl,rfl,hq,he,q⟩:=h
 refine thn (ai1 value slice Kp s σ (upd H p (.lst xs)) (.ref p) (.int i) v u (fun w H'=>w=z/\H'=upd H p (.lst xs)) (Inv.opened I (.l xs) hq) rx ry ⟨p,xs,i,z,rfl,rfl,SqL.of ji,he,rfl,rfl⟩ hs) fun w s1 ⟨w',H',I',r,e1,e2⟩=>?_
 subst e1; subst e2
 have I2:=Inv.closed I' (.l xs) ji (Inv.nofrz I hq)
 rw [qF,agV hq] at I2
 exact ⟨_,_,I2,r,q⟩
def atU:V->Option Int->Option Int->Hp->VK->Prop:=fun x lo hi H Q=>∃ a xs,x= .ref a/\H a=some (j5 a xs)/\∀ p,H p=none->Q (.ref p) (upd H p (.lst (ZE xs lo hi)))
theorem arn:SlR X atU:=by
 intro Kp s σ H x v vl vu lo hi sl Q I rx hs pl pu h
 obtain ⟨a,xs,rfl,hx,q⟩:=h
 obtain ⟨T,id,h1,h2,h3⟩:=aoe Kp s σ (upd H a (.lst xs)) (.ref a) v vl vu lo hi sl (fun w H'=>∃ p,w= .ref p/\upd H a (.lst xs) p=none/\H'=upd (upd H a (.lst xs)) p (.lst (ZE xs lo hi))) (Inv.opened I (.l xs) hx) rx hs pl pu ⟨a,xs,rfl,SqL.of ji,fun p hp=>⟨p,rfl,hp,rfl⟩⟩
 refine ⟨T,id,h1,h2,thn h3 fun w s1 ⟨w',H',I',r,p,e1,e2,e3⟩=>?_⟩
 subst e1; subst e3
 have ne:p ≠ a:=fun z=>by rw [z,ji] at e2; cases e2
 rw [jo ne] at e2
 have I2:=Inv.closed I' (.l xs) (by rw [jo (Ne.symm ne)]; exact ji) (Inv.nofrz I hx)
 rw [agW (Ne.symm ne),qF,←agW (Ne.symm ne),agV hx] at I2
 exact ⟨_,_,I2,r,q p e2⟩
def asR (od kd:PyData):TR PyData:=fun _ μ R=>∃ l ds i d,od=jv l/\μ l=some (.lst ds)/\kd= .int i/\atI ds i=some d/\R (.ok d) μ
theorem abQ (ha:PEC X a Ta) (hb:PEC X b Tb) (hs:abJ b:=by intro _ _; rfl):PEC X (.Subscript a b pos) (bindC Ta fun od=>bindC Tb (asR od)):=by
 with_unfolding_all
  exact PE.imp (alM arm ha hb hs) fun σ H Q h=>(AtC.bind h).imp fun od H1 _ ⟨s1,h1⟩ x rx=>h1.bind.imp fun kd H2 _ ⟨s2,ρ,μ,R,en,cs,⟨l,ds,i,d,e1,hm,e2,hd,hR⟩,k⟩ y ry=>by
   subst e1; subst e2
   cases Rep.celOut (Rep.monoA s2 _ _ rx)
   cases (show y=V.int i from ry)
   obtain ⟨xs,g1,g2⟩:=cs l _ hm
   obtain ⟨z,g3,g4⟩:=aeU g2 hd
   exact ⟨l,xs,i,z,rfl,rfl,g1,g3,(k (.ok d) μ hR:qV X H2 (fun d H'=>∀ v,Rep X.K H' d v->Q v H') (.ok d) μ) H2 (jx.refl _) cs z g4⟩
def asS (od kd:PyData):TR PyData:=fun _ μ R=>∃ l ds i,od=jv l/\μ l=some (.lst ds)/\kd= .int i/\R (.ok (.list (aad ds none (some i)))) μ
theorem apa (ha:PEC X a Ta) (hb:PEC X b Tb):PEC X (.Subscript a (.Slice none (some b) none p2) pos) (bindC Ta fun od=>bindC Tb (asS od)):=by
 with_unfolding_all
  exact PE.imp (acs arn ha aeL (aeM hb)) fun σ H Q h=>(AtC.bind h).imp fun od H1 _ ⟨s1,h1⟩ x rx=>h1.bind.imp fun kd H2 _ ⟨s2,ρ,μ,R,en,cs,⟨l,ds,i,e1,hm,e2,hR⟩,k⟩ y ry=>by
   subst e1; subst e2
   cases Rep.celOut (Rep.monoA s2 _ _ rx)
   cases (show y=V.int i from ry)
   obtain ⟨xs,g1,g2⟩:=cs l _ hm
   refine ⟨i,rfl,l,xs,rfl,g1,fun p hp=>?_⟩
   have s3:=jI (o:= .lst (ZE xs none (some i))) hp
   have rr:Reps X.K H2 (aad ds none (some i)) (ZE xs none (some i)):=by
    unfold ZE aad
    rw [g2.length]
    exact (g2.drop _).take _
   exact (k _ μ hR:qV X H2 (fun d H'=>∀ v,Rep X.K H' d v->Q v H') (.ok _) μ) _ (jp.a s3) (cs.mono s3) _ ⟨p,_,rfl,ji,Reps.mono s3 _ _ rr⟩
end
end BX
end
local macro_rules
  | `(tactic| dsimp? [$xs,*])=>`(tactic| simp only [BX.jR,BX.ifS,BX.ifD,BX.ifX,BX.adt,BX.orB,BX.zB,BX.tst,BX.op2,BX.chn,BX.jL,BX.QF,BX.Ja,BX.jr,BX.jB,BX.lkp,BX.cst,BX.qo,BX.abD,BX.qQ,BX.jK,BX.qx,BX.nxX,BX.orX,BX.ah2,BX.aor,BX.asB,zzA,zzB,zzC,zzD,zzH,zzE,zzI,zzF,zzG,zzJ,zzK,zzL,zzM,zzN,$(⟨xs.elemsAndSeps⟩),*])
section
namespace Rods
open PySem L2 BX
open PyProof.Rows hiding St
noncomputable def top (i:Nat):Stmt:=PySem.Challenge.pw_beadrods_k72_whole_back.main.body.getD i (.Pass ⟨0,0,0,0⟩)
structure Bare (mg:SV):Prop where
 isi:mg "isinstance"=none
 bool:mg "bool"=none
 int:mg "int"=none
 tuple:mg "tuple"=none
 zip:mg "zip"=none
 range:mg "range"=none
 all:mg "all"=none
 len:mg "len"=none
 max:mg "max"=none
 min:mg "min"=none
 sum:mg "sum"=none
 sorted:mg "sorted"=none
 abs:mg "abs"=none
 list:mg "list"=none
 enum:mg "enumerate"=none
 vale:mg "ValueError"=none
 str:mg "str"=none
 set:mg "set"=none
 dict:mg "dict"=none
theorem apb:bootBuiltins "bool"=some (.type "bool"):=by decide +kernel
theorem aro:bootBuiltins "int"=some (.type "int"):=by decide +kernel
theorem Qh:bootBuiltins "tuple"=some (.type "tuple"):=by decide +kernel
theorem apc:bootBuiltins "list"=some (.type "list"):=by decide +kernel
theorem arp:bootBuiltins "str"=some (.type "str"):=by decide +kernel
theorem apd:bootBuiltins "dict"=some (.type "dict"):=by decide +kernel
theorem aif:bootBuiltins "all"=some (.builtin "all"):=by decide +kernel
theorem qS:bootBuiltins "len"=some (.builtin "len"):=by decide +kernel
theorem ama:bootBuiltins "max"=some (.builtin "max"):=by decide +kernel
theorem aeX:bootBuiltins "min"=some (.builtin "min"):=by decide +kernel
theorem akL:bootBuiltins "sorted"=some (.builtin "sorted"):=by decide +kernel
abbrev aap:Stmt:=top 11
abbrev Zf:Stmt:=top 20
abbrev aaq:Stmt:=top 19
abbrev afe:Stmt:=top 22
abbrev zk (C:Program->World->Fg->(SV)->Heap->Prop) (qual:Str) (st:Stmt) (N:List Str) (k:Nat) (B:RO):Prop:=
 ∀ (P:Program) (w:World) (K:Fg) (mg:SV) (base:Heap) (f:Addr) (Kc:Value) (A:Around) (Ko:List Env) (s:Shared) (H:Hp) (E:XK),C P w K mg base->Room k (A.deeper (envOfC qual (je st) s.heap.objs.size f Kc))->
  abC (zX CX0 P w K mg base N qual (je st) f Kc A Ko s H E).nox (jS st) B
theorem aig:FnScope ["thing","least","most"] ["thing","least","most"] (je aap):=⟨rfl,rfl,rfl,by decide +kernel,rfl,by decide +kernel,by decide +kernel⟩
def aar:{ B:RO // zk (fun _ _ _ mg _=>Bare mg) "is_whole" aap ["thing","least","most"] 0 B }:=
 ⟨_,fun P w K mg base f Kc A Ko s H E T hr=>
  jf (ql (zZ (ZP (qg (aaY (.inl rfl) T.isi T.bool apb (ja 0))) (Qp (qd (qg (aaY (.inr (.inl rfl)) T.isi T.int aro (ja 0))))))) (jf (jy zr) jn) jn)
  (jf (jy (agy aaX aaX (ja 1) (ja 0) (ja 2))) jn)⟩
def jV:LP->OP:=jA ["thing","least","most"] 3 aar.1
theorem agX:FnScope ["manner","rod"] ["manner","rod"] (je Zf):=⟨rfl,rfl,rfl,by decide +kernel,rfl,by decide +kernel,by decide +kernel⟩
def aa7:{ B:RO // zk (fun _ _ _ _ _=>True) "rod_worth" Zf ["manner","rod"] 0 B }:=
 ⟨_,fun P w K mg base f Kc A Ko s H E T hr=>
  jf (jy (ju jF (ju zC (jQ (ja 1) jh) (jQ (ja 0) jh)) (jQ (ja 1) jh))) jn⟩
def qD:LP->OP:=jA ["manner","rod"] 2 aa7.1
theorem amR:FnScope ["rod"] ["rod"] (je afe):=⟨rfl,rfl,rfl,by decide +kernel,rfl,by decide +kernel,by decide +kernel⟩
def aih:{ B:RO // zk (fun _ _ _ _ _=>True) "beads" afe ["rod"] 0 B }:=
 ⟨_,fun P w K mg base f Kc A Ko s H E T hr=>jf (jy (ju jF (jQ (ja 0) jh) (jQ (ja 0) jh))) jn⟩
def Ji:LP->OP:=jA ["rod"] 1 aih.1
noncomputable def JZ (i:Nat) (m:Nat):LP:=(List.range m).map fun (j:Nat)=>PyData.tuple [.int (i:Int),.int (j:Int)]
def QC (n m:Nat):LP:=(List.range n).flatMap fun (i:Nat)=>JZ i m
theorem agY (i m:Nat):JZ i (m+1)=JZ i m++[PyData.tuple [.int (i:Int),.int (m:Int)]]:=by simp [JZ,List.range_succ]
theorem ZW (n m:Nat):QC (n+1) m=QC n m++JZ n m:=by simp [QC,List.range_succ]
theorem agZ (i m:Nat):noLs (JZ i m)=true:=acy fun d hd=>by
 obtain ⟨j,_,rfl⟩:=List.mem_map.mp hd
 simp [noL,noLs]
theorem akM (n m:Nat):noLs (QC n m)=true:=by
 induction n with
 | zero=>simp [QC,noLs]
 | succ n ih=>rw [ZW,QP,ih,agZ]; rfl
theorem ajv (i m:Nat):(JZ i m).length=m:=by simp [JZ]
theorem ag0 (n m:Nat):(QC n m).length=n*m:=by
 induction n with
 | zero=>simp [QC]
 | succ n ih=>rw [ZW,List.length_append,ih,ajv,Nat.succ_mul]
def Jx (ds:LP):OP:=match ds with
 | [.tuple [.int u,.int _,.int l,.int _]]=>if 0<=u/\u<1000/\0<=l/\l<1000 then some (.list (QC (u+1).toNat (l+1).toNat)) else none
 | _=>none
theorem Qx:FnScope ["manner","rods","upper","lower"] ["manner"] (je aaq):=⟨rfl,rfl,rfl,by decide +kernel,rfl,by decide +kernel,by decide +kernel⟩
section
variable {P:Program}{w:World}{K:Fg}{mg:SV}{base:Heap}
theorem aii {f:Addr}{fd:FuncData} (F:Fun K "all_rods" "all_rods" aaq f fd) (T:Bare mg):FnOk P w K mg base CX0 1 f fd ["manner"] (Pur K 1 Jx):=by
 with_unfolding_all
  refine F.ok Qx (fun vs H Q E h=>?_) (fun Kc A Ko s H vs Q E hr h=>?_)
  ·obtain ⟨ds,d,h1,h2,_⟩:=h
   rw [h2.length]; exact h1
  ·obtain ⟨ds,d,h1,h2,h3,k⟩:=h
   unfold Jx at h3
   split at h3
   ·rename_i u e l b
    split at h3
    ·rename_i hb
     obtain ⟨hu0,hu1,hl0,hl1⟩:=hb
     cases h3
     refine ⟨_,zU (ZL (i:=1) Qx.nd rfl (Or.inl rfl) (aeH zz))
      (zU (aaK PassesOwn.never rfl (aaJ rfl T.range (jb (ju jF (jQ (ja 0) jh) jh) jd)) (abI (i:=2) Qx.nd rfl (Or.inl rfl))
       (aeE (aaK PassesOwn.never rfl (aaJ rfl T.range (jb (ju jF (jQ (ja 0) jh) jh) jd)) (abI (i:=3) Qx.nd rfl (Or.inl rfl))
        (aeE (abH (alP PySem.F.plainAttrs_list PySem.F.slot_list_append PySem.F.type_list_append adM (pv 1) (qG (ahJ (qG (pv 2) (qG (pv 3) zz))) zz)))))))
      (aeE (aeF (pv 1)))),?_⟩
     obtain ⟨mv,rr,e1,em,e2⟩:=h2
     cases (show rr=[] from e2)
     subst e1
     have nm:noL (PyData.tuple [.int u,.int e,.int l,.int b])=true:=by simp [noL,noLs]
     refine ⟨Nat.zero_le _,fun p hp=>?_⟩
     have envr:∀ {H2:Hp} {x2 x3:Option V} {y:Option V},jp H H2->EnvR K H2 [some (PyData.tuple [.int u,.int e,.int l,.int b]),none,none,none] [some mv,y,x2,x3]:=fun {H2 x2 x3 y} s2=>
      ⟨rfl,fun i d q=>by
       cases i with
       | zero=>cases q; exact ⟨mv,rfl,Rep.mono s2 _ _ em⟩
       | succ i=>
        match i,q with
        | 0,q=>cases q
        | 1,q=>cases q
        | 2,q=>cases q
        | j+3,q=>simp at q⟩
     refine ⟨_,[.int (u+1)],envr (jI hp),by simp [jr,jB,op2,lkp,dIx,atI,ixN,cst,Jd],fun vs1 H1 s1 r1=>?_⟩
     obtain ⟨y1,q1,f1,f2,f3⟩:=r1
     cases (show y1=V.int (u+1) from f2)
     cases (show q1=[] from f3)
     subst f1
     refine ⟨u+1,rfl,by omega,by omega,adF (n:=(u+1).toNat) (fun i σ H2=>∃ x2 x3 xs,σ=[some mv,some (.ref p),x2,x3]/\jp H H2/\H2 p=some (.lst xs)/\Reps K H2 (QC i (l+1).toNat) xs)
      ⟨none,none,[],rfl,(jI hp).trans s1,s1 _ _ ji,rfl⟩ ?_ ?_⟩
     ·rintro i σ H2 hi ⟨x2,x3,xs,rfl,s2,hp2,r2⟩
      refine ⟨_,[.int (l+1)],envr s2,by simp [jr,jB,op2,lkp,dIx,atI,ixN,cst,Jd],fun vs2 H3 s3 r3=>?_⟩
      obtain ⟨y2,q2,g1,g2,g3⟩:=r3
      cases (show y2=V.int (l+1) from g2)
      cases (show q2=[] from g3)
      subst g1
      refine ⟨l+1,rfl,by omega,by omega,adF (n:=(l+1).toNat) (fun j σ H4=>∃ x3 ys,σ=[some mv,some (.ref p),some (.int (0+i)),x3]/\jp H H4/\H4 p=some (.lst ys)/\Reps K H4 (QC i (l+1).toNat++JZ i j) ys)
       ⟨x3,xs,rfl,s2.trans s3,s3 _ _ hp2,by simpa [JZ] using Reps.mono s3 _ _ r2⟩ ?_ ?_⟩
      ·rintro j σ H4 hj ⟨x3',ys,rfl,s4,hp4,r4⟩
       have hlen:ys.length<sizeLine:=by
        rw [r4.length,List.length_append,ag0,ajv,sizeLine_eq]
        have h1:i*(l+1).toNat<=1000*1001:=Nat.mul_le_mul (by omega) (by omega)
        omega
       refine ⟨_,rfl,.inl ⟨rfl,ys,SqL.of hp4⟩,_,rfl,_,rfl,by show 2<=sizeLine; rw [sizeLine_eq]; decide,fun q hq=>?_⟩
       have npq:p ≠ q:=qR hp4 hq
       refine ⟨p,ys,.ref q,rfl,rfl,by rw [jo npq]; exact hp4,hlen,?_⟩
       have t1:zK H4 (upd (upd H4 q (.tup [.int (0+(i:Int)),.int (0+(j:Int))])) p (.lst (ys++[.ref q]))):=
        (jp.n (jI hq)).trans (zK.upd (xs:=ys) (by rw [jo npq]; exact hp4))
       refine ⟨_,ys++[.ref q],rfl,fun c o hc=>?_,ji,?_⟩
       ·have hc4:=s4 c o hc
        rw [jo (qR hc hp),jo (qR hc4 hq)]
        exact hc4
       ·rw [agY,←List.append_assoc]
        refine (Reps.monoN t1 _ _ (by rw [QP,akM,agZ]; rfl) r4).append ⟨.ref q,[],rfl,⟨q,_,rfl,SqT.of (by rw [jo (Ne.symm npq)]; exact ji),?_⟩,rfl⟩
        exact ⟨_,_,rfl,by show _=V.int _; rw [Int.zero_add],_,_,rfl,by show _=V.int _; rw [Int.zero_add],rfl⟩
      ·rintro σ H4 ⟨x3',ys,rfl,s4,hp4,r4⟩
       exact ⟨_,x3',ys,rfl,s4,hp4,by rw [ZW]; exact r4⟩
     ·rintro σ H2 ⟨x2,x3,xs,rfl,s2,hp2,r2⟩
      exact ⟨_,rfl,k _ _ s2 ⟨p,xs,rfl,hp2,r2⟩⟩
    ·cases h3
   ·cases h3
end
abbrev Zg:Stmt:=top 16
abbrev Zh:Stmt:=top 15
noncomputable abbrev CC:=Program->World->Fg->(SV)->Heap->Prop
structure CHasAll (P:Program) (w:World) (K:Fg) (mg:SV) (base:Heap):Prop where
 t:Bare mg
 allRods:jm P w K mg base "all_rods" ["manner"] 1 1 Jx
 rodWorth:jm P w K mg base "rod_worth" ["manner","rod"] 1 2 qD
theorem ad8:FnScope ["manner","worths"] ["manner"] (je Zg):=⟨rfl,rfl,rfl,by decide +kernel,rfl,by decide +kernel,by decide +kernel⟩
theorem nd2:(["rod","manner"]:List Str).Nodup:=by decide +kernel
theorem nd3:(["digit","worths"]:List Str).Nodup:=by decide +kernel
def aff:{ B:RO // zk CHasAll "has_all_digits" Zg ["manner","worths"] 1 B }:=
 ⟨_,fun P w K mg base f Kc A Ko s H E C hr=>
  jf (j8 1 ad8.nd (Qq ["rod","manner"] [none,some 0] rfl (QK (jl C.allRods hr (Nat.le_refl _) (jb (ja 0) jd) (jc jk))) (JD (je Zg) ["manner","worths"] (by decide +kernel))
   fun cl C' s0 H0 fp pn=>⟨qi 0 nd2,QL,jl C.rodWorth hr (Nat.le_refl _) (jb (ja 1) (jb (ja 0) jd)) (jc (jc jk))⟩))
  (jf (jy (jY (ahQ rfl) C.t.all aif (jb (Qq ["digit","worths"] [none,some 1] rfl (ZR rfl C.t.range (jb (jQ (ja 0) jh) jd)) (JD (je Zg) ["manner","worths"] (by decide +kernel))
   fun cl C' s0 H0 fp pn=>⟨qi 0 nd3,QL,alW (alZ hr.units) (ja 0) (ja 1)⟩) jd))) jn)⟩
abbrev acX:Stmt:=top 17
abbrev Qi:Stmt:=top 21
abbrev abR:Stmt:=top 23
def GC (K:Fg) (mg:SV) (x:Str) (d:PyData):Prop:=∃ v u,mg x=some u/\jW v u/\∀ H,Rep K H d v
theorem QD {X:Cx}{pos:Pos}{x:Str}{d:PyData} (c:GC X.K X.mg x d) (hg:Gl X x:=by rfl) (hd:(x == ("__debug__":Str))=false:=by decide):PD X (.Name x pos) (cst d):=by
 with_unfolding_all
  obtain ⟨v,u,h1,h2,h3⟩:=c
  exact aop hg h1 h2 h3 hd
def aas:LP->OP:=jA ["manner","worths"] 1 aff.1
structure CIsManner (P:Program) (w:World) (K:Fg) (mg:SV) (base:Heap):Prop where
 t:Bare mg
 least:GC K mg "LEAST_PARTS" (.tuple [.int 0,.int 1,.int 0,.int 2])
 most:GC K mg "MOST_PARTS" (.tuple [.int 3,.int 16,.int 12,.int 16])
 isWhole:jm P w K mg base "is_whole" ["thing","least","most"] 1 3 jV
 hasAll:jm P w K mg base "has_all_digits" ["manner"] 2 1 aas
theorem JI:FnScope ["thing","part","least","most"] ["thing"] (je Zh):=⟨rfl,rfl,rfl,by decide +kernel,rfl,by decide +kernel,by decide +kernel⟩
def aa8:{ B:RO // zk CIsManner "is_manner" Zh ["thing","part","least","most"] 2 B }:=
 ⟨_,fun P w K mg base f Kc A Ko s H E C hr=>
  jf (ql (zZ (ZP (qd (qg (aaY (.inr (.inr rfl)) C.t.isi C.t.tuple Qh (ja 0)))) (Qp (jT (zp hr.units) (jY qX C.t.len qS (jb (ja 0) jd)) (jY qX C.t.len qS (jb (QD C.most) jd)))))) (jf (jy zr) jn) jn)
  (jf (ai9 PassesOwn.never rfl (al6 C.t.zip (jb (ja 0) (jb (QD C.least) (jb (QD C.most) jd)))) (ai8 (n:=3) rfl (Qb (qi 1 JI.nd) (Qb (qi 2 JI.nd) (Qb (qi 3 JI.nd) agu))))
   (jf (ql (qd (qg (jl C.isWhole hr (by decide) (jb (ja 1) (jb (ja 2) (jb (ja 3) jd))) (jc (jc (jc jk)))))) (jf (jy zr) jn) jn) jn))
  (jf (jy (jl C.hasAll hr (Nat.le_refl _) (jb (ja 0) jd) (jc jk))) jn))⟩
def qW:LP->OP:=jA ["thing","part","least","most"] 1 aa8.1
structure CCheck (P:Program) (w:World) (K:Fg) (mg:SV) (base:Heap):Prop where
 isManner:jm P w K mg base "is_manner" ["thing"] 3 1 qW
theorem ag1:FnScope ["thing"] ["thing"] (je acX):=⟨rfl,rfl,rfl,by decide +kernel,rfl,by decide +kernel,by decide +kernel⟩
def aij:{ B:RO // zk CCheck "check_manner" acX ["thing"] 3 B }:=
 ⟨_,fun P w K mg base f Kc A Ko s H E C hr=>
  jf (ql (qd (qg (jl C.isManner hr (Nat.le_refl _) (jb (ja 0) jd) (jc jk)))) zd jn) jn⟩
def QY:LP->OP:=jA ["thing"] 1 aij.1
structure CRodsWith (P:Program) (w:World) (K:Fg) (mg:SV) (base:Heap):Prop where
 allRods:jm P w K mg base "all_rods" ["manner"] 1 1 Jx
 rodWorth:jm P w K mg base "rod_worth" ["manner","rod"] 1 2 qD
theorem ag2:FnScope ["manner","worth"] ["manner","worth"] (je Qi):=⟨rfl,rfl,rfl,by decide +kernel,rfl,by decide +kernel,by decide +kernel⟩
theorem nd4:(["rod","manner","worth"]:List Str).Nodup:=by decide +kernel
def aa9:{ B:RO // zk CRodsWith "rods_with" Qi ["manner","worth"] 1 B }:=
 ⟨_,fun P w K mg base f Kc A Ko s H E C hr=>
  jf (jy (Qq ["rod","manner","worth"] [none,some 0,some 1] rfl (QK (jl C.allRods hr (Nat.le_refl _) (jb (ja 0) jd) (jc jk))) (JD (je Qi) ["manner","worth"] (by decide +kernel))
   fun cl C' s0 H0 fp pn=>⟨qi 0 nd4,agw (jT (ze hr.units) (jl C.rodWorth hr (Nat.le_refl _) (jb (ja 1) (jb (ja 0) jd)) (jc (jc jk))) (ja 2)),ja 0⟩)) jn⟩
def Zi:LP->OP:=jA ["manner","worth"] 2 aa9.1
structure CFewest (P:Program) (w:World) (K:Fg) (mg:SV) (base:Heap):Prop where
 t:Bare mg
 rodsWith:jm P w K mg base "rods_with" ["manner","worth"] 2 2 Zi
 beads:jm P w K mg base "beads" ["rod"] 1 1 Ji
theorem akN:FnScope ["manner","worth"] ["manner","worth"] (je abR):=⟨rfl,rfl,rfl,by decide +kernel,rfl,by decide +kernel,by decide +kernel⟩
def afg:{ B:RO // zk CFewest "fewest_beads" abR ["manner","worth"] 2 B }:=
 ⟨_,fun P w K mg base f Kc A Ko s H E C hr=>
  jf (jy (amb rfl C.beads hr (Nat.le_refl _) C.t.min (jl C.rodsWith hr (by decide) (jb (ja 0) (jb (ja 1) jd)) (jc (jc jk))))) jn⟩
def JJ:LP->OP:=jA ["manner","worth"] 2 afg.1
abbrev Jy:Stmt:=top 29
abbrev zF:Stmt:=top 30
abbrev Jf:Stmt:=top 31
abbrev Jr:Stmt:=top 32
abbrev asT (C:CC) (qual:Str) (st:Stmt) (N:List Str) (k:Nat) (sts:List Stmt) (B:RO):Prop:=
 ∀ (P:Program) (w:World) (K:Fg) (mg:SV) (base:Heap) (f:Addr) (Kc:Value) (A:Around) (Ko:List Env) (s:Shared) (H:Hp) (E:XK),C P w K mg base->Room k (A.deeper (envOfC qual (je st) s.heap.objs.size f Kc))->
  abC (zX CX0 P w K mg base N qual (je st) f Kc A Ko s H E).nox sts B
abbrev amS (own:Nat) (C:CC) (qual:Str) (st:Stmt) (N:List Str) (k:Nat) (sts:List Stmt) (B:RO):Prop:=
 ∀ (P:Program) (w:World) (K:Fg) (mg:SV) (base:Heap) (f:Addr) (Kc:Value) (A:Around) (Ko:List Env) (s:Shared) (H:Hp) (E:XK),C P w K mg base->Room k (A.deeper (envOfC qual (je st) s.heap.objs.size f Kc))->
  adx (zX CX0 P w K mg base N qual (je st) f Kc A Ko s H E).nox (some own) sts B
noncomputable def Zj:Stmt->List Stmt
 | .For _ _ b _ _=>b
 | _=>[]
noncomputable def aik (l:List Stmt) (i:Nat):Stmt:=l.getD i (.Pass ⟨0,0,0,0⟩)
structure CNum (P:Program) (w:World) (K:Fg) (mg:SV) (base:Heap):Prop where
 rodWorth:jm P w K mg base "rod_worth" ["manner","rod"] 1 2 qD
noncomputable abbrev ape:List Str:=["manner","setting","number","rod"]
theorem afh:FnScope ape ["manner","setting"] (je Jr):=⟨rfl,rfl,rfl,by decide +kernel,rfl,by decide +kernel,by decide +kernel⟩
def afi:{ B:RO // asT CNum "number_on" Jr ape 1 (Zj (aik (jS Jr) 1)) B }:=
 ⟨_,fun P w K mg base f Kc A Ko s H E C hr=>
  jf (j8 2 afh.nd (ju jF (ju zC (ja 2) (jQ (ja 0) jh)) (jl C.rodWorth hr (Nat.le_refl _) (jb (ja 0) (jb (ja 3) jd)) (jc (jc jk))))) jn⟩
def apf:{ B:RO // zk CNum "number_on" Jr ape 1 B }:=
 ⟨_,fun P w K mg base f Kc A Ko s H E C hr=>
  jf (j8 2 afh.nd jh) (jf (ai9 PassesOwn.never rfl (aeS (ja 1)) (qi 3 afh.nd) (afi.2 P w K mg base f Kc A Ko s H E C hr)) (jf (jy (ja 2)) jn))⟩
def QG:LP->OP:=jA ape 2 apf.1
structure CChkRods (P:Program) (w:World) (K:Fg) (mg:SV) (base:Heap):Prop where
 isWhole:jm P w K mg base "is_whole" ["thing","least","most"] 1 3 jV
 most:GC K mg "MOST_RODS" (.int 4)
theorem acY:FnScope ["rods"] ["rods"] (je Jy):=⟨rfl,rfl,rfl,by decide +kernel,rfl,by decide +kernel,by decide +kernel⟩
def aat:{ B:RO // zk CChkRods "check_rods" Jy ["rods"] 1 B }:=
 ⟨_,fun P w K mg base f Kc A Ko s H E C hr=>
  jf (ql (qd (qg (jl C.isWhole hr (Nat.le_refl _) (jb (ja 0) (jb jh (jb (QD C.most) jd))) (jc (jc (jc jk)))))) zd jn) jn⟩
def Jg:LP->OP:=jA ["rods"] 1 aat.1
structure CChkNum (P:Program) (w:World) (K:Fg) (mg:SV) (base:Heap):Prop where
 isWhole:jm P w K mg base "is_whole" ["thing","least","most"] 1 3 jV
 most:GC K mg "MOST_NUMBER" (.int 99999)
theorem ad9:FnScope ["number"] ["number"] (je zF):=⟨rfl,rfl,rfl,by decide +kernel,rfl,by decide +kernel,by decide +kernel⟩
def abS:{ B:RO // zk CChkNum "check_number" zF ["number"] 1 B }:=
 ⟨_,fun P w K mg base f Kc A Ko s H E C hr=>
  jf (ql (qd (qg (jl C.isWhole hr (Nat.le_refl _) (jb (ja 0) (jb jh (jb (QD C.most) jd))) (jc (jc (jc jk)))))) zd jn) jn⟩
def qT:LP->OP:=jA ["number"] 1 abS.1
structure CAsked (P:Program) (w:World) (K:Fg) (mg:SV) (base:Heap):Prop where
 check:jm P w K mg base "check_manner" ["thing"] 4 1 QY
 rods:jm P w K mg base "check_rods" ["rods"] 2 1 Jg
 num:jm P w K mg base "check_number" ["number"] 2 1 qT
theorem ag3:FnScope ["manner","rods","number"] ["manner","rods","number"] (je Jf):=⟨rfl,rfl,rfl,by decide +kernel,rfl,by decide +kernel,by decide +kernel⟩
def ail:{ B:RO // zk CAsked "check_asked" Jf ["manner","rods","number"] 4 B }:=
 ⟨_,fun P w K mg base f Kc A Ko s H E C hr=>
  jf (j4 (jl C.check hr (Nat.le_refl _) (jb (ja 0) jd) (jc jk)))
  (jf (j4 (jl C.rods hr (by decide) (jb (ja 1) jd) (jc jk)))
  (jf (j4 (jl C.num hr (by decide) (jb (ja 2) jd) (jc jk))) jn))⟩
def ZX:LP->OP:=jA ["manner","rods","number"] 3 ail.1
abbrev afj:Stmt:=top 18
abbrev zP:Stmt:=top 27
abbrev zt:Stmt:=top 28
abbrev aau:Stmt:=top 33
abbrev Zk:Stmt:=top 34
abbrev Zl:Stmt:=top 35
noncomputable abbrev apg:List Str:=["base","rods","number","digits","left"]
noncomputable def akO:Stmt->List Stmt
 | .While _ b _ _=>b
 | _=>[]
theorem afk:FnScope apg ["base","rods","number"] (je Zl):=⟨rfl,rfl,rfl,by decide +kernel,rfl,by decide +kernel,by decide +kernel⟩
def ZY:{ B:RO // amS 3 (fun _ _ _ mg _=>Bare mg) "digits_by_rods" Zl apg 0 (akO (aik (jS Zl) 2)) B }:=
 ⟨_,fun P w K mg base f Kc A Ko s H E C hr=>
  j6 (ae2 (ah1 3 jh (ju JC (ja 4) (ja 0))))
  (j6 (JE 4 afk.nd (ju Ju (ja 4) (ja 0))) Jw)⟩
def aph:{ B:RO // zk (fun _ _ _ mg _=>Bare mg) "digits_by_rods" Zl apg 0 B }:=
 ⟨_,fun P w K mg base f Kc A Ko s H E C hr=>
  acE (acG 3 afk.nd (aa0 jd)
  (j6 (JE 4 afk.nd (ja 2))
  (j6 (akw 10 PassesOwn.never (jT QN (jY qX C.len qS (jb (ja 3) jd)) (ju qL (ja 1) jh)) (ZY.2 P w K mg base f Kc A Ko s H E C hr))
  (j6 (ae0 (ju jF (QI (jb (ja 4) jd)) (ja 3))) Jw))))⟩
def abG:LP->OP:=jA apg 3 aph.1
structure CPlainR (P:Program) (w:World) (K:Fg) (mg:SV) (base:Heap):Prop where
 t:Bare mg
 dig:jm P w K mg base "digits_by_rods" ["base","rods","number"] 1 3 abG
 fewest:jm P w K mg base "fewest_beads" ["manner","worth"] 3 2 JJ
noncomputable abbrev Zm:List Str:=["manner","rods","number","digits"]
theorem Zn:FnScope Zm ["manner","rods","number"] (je Zk):=⟨rfl,rfl,rfl,by decide +kernel,rfl,by decide +kernel,by decide +kernel⟩
theorem ndd:(["digit","manner"]:List Str).Nodup:=by decide +kernel
def Zo:{ B:RO // zk CPlainR "plain_rods" Zk Zm 3 B }:=
 ⟨_,fun P w K mg base f Kc A Ko s H E C hr=>
  jf (j8 3 Zn.nd (jl C.dig hr (by decide) (jb (jQ (ja 0) jh) (jb (ja 1) (jb (ja 2) jd))) (jc (jc (jc jk)))))
  (jf (ql (jT al0 (jQ (ja 3) jh) (jQ (ja 0) jh)) zd jn)
  (jf (jy (adR agG C.t.tuple Qh (jb (Qq ["digit","manner"] [none,some 0] rfl (QK (ja 3)) (JD (je Zk) Zm (by decide +kernel))
   fun cl C' s0 H0 fp pn=>⟨qi 0 ndd,QL,jl C.fewest hr (Nat.le_refl _) (jb (ja 1) (jb (ja 0) jd)) (jc (jc jk))⟩) jd))) jn))⟩
def JK:LP->OP:=jA Zm 3 Zo.1
structure CPlainS (P:Program) (w:World) (K:Fg) (mg:SV) (base:Heap):Prop where
 asked:jm P w K mg base "check_asked" ["manner","rods","number"] 5 3 ZX
 rods:jm P w K mg base "plain_rods" ["manner","rods","number"] 4 3 JK
theorem aea:FnScope ["manner","rods","number"] ["manner","rods","number"] (je aau):=⟨rfl,rfl,rfl,by decide +kernel,rfl,by decide +kernel,by decide +kernel⟩
def afl:{ B:RO // zk CPlainS "plain_setting" aau ["manner","rods","number"] 5 B }:=
 ⟨_,fun P w K mg base f Kc A Ko s H E C hr=>
  jf (j4 (jl C.asked hr (Nat.le_refl _) (jb (ja 0) (jb (ja 1) (jb (ja 2) jd))) (jc (jc (jc jk)))))
  (jf (jy (jl C.rods hr (by decide) (jb (ja 0) (jb (ja 1) (jb (ja 2) jd))) (jc (jc (jc jk))))) jn)⟩
def Zp:LP->OP:=jA ["manner","rods","number"] 3 afl.1
structure CIsRod (P:Program) (w:World) (K:Fg) (mg:SV) (base:Heap):Prop where
 t:Bare mg
 isWhole:jm P w K mg base "is_whole" ["thing","least","most"] 1 3 jV
theorem amT:FnScope ["manner","thing"] ["manner","thing"] (je afj):=⟨rfl,rfl,rfl,by decide +kernel,rfl,by decide +kernel,by decide +kernel⟩
def aba:{ B:RO // zk CIsRod "is_rod" afj ["manner","thing"] 1 B }:=
 ⟨_,fun P w K mg base f Kc A Ko s H E C hr=>
  jf (ql (zZ (ZP (qd (qg (aaY (.inr (.inr rfl)) C.t.isi C.t.tuple Qh (ja 1)))) (Qp (jT (zp hr.units) (jY qX C.t.len qS (jb (ja 1) jd)) jh)))) (jf (jy zr) jn) jn)
  (jf (jy (amj (jl C.isWhole hr (Nat.le_refl _) (jb (jQ (ja 1) jh) (jb jh (jb (jQ (ja 0) jh) jd))) (jc (jc (jc jk)))) (ami (jl C.isWhole hr (Nat.le_refl _) (jb (jQ (ja 1) jh) (jb jh (jb (jQ (ja 0) jh) jd))) (jc (jc (jc jk))))))) jn)⟩
def J1:LP->OP:=jA ["manner","thing"] 2 aba.1
structure CIsSet (P:Program) (w:World) (K:Fg) (mg:SV) (base:Heap):Prop where
 t:Bare mg
 check:jm P w K mg base "check_manner" ["thing"] 4 1 QY
 isRod:jm P w K mg base "is_rod" ["manner","thing"] 2 2 J1
 most:GC K mg "MOST_RODS" (.int 4)
theorem ag4:FnScope ["manner","thing"] ["manner","thing"] (je zP):=⟨rfl,rfl,rfl,by decide +kernel,rfl,by decide +kernel,by decide +kernel⟩
theorem ndp:(["part","manner"]:List Str).Nodup:=by decide +kernel
def abb:{ B:RO // zk CIsSet "is_setting" zP ["manner","thing"] 4 B }:=
 ⟨_,fun P w K mg base f Kc A Ko s H E C hr=>
  jf (j4 (jl C.check hr (Nat.le_refl _) (jb (ja 0) jd) (jc jk)))
  (jf (ql (zZ (ZP (qd (qg (aaY (.inr (.inr rfl)) C.t.isi C.t.tuple Qh (ja 1)))) (Qp (qd (adS aaX aaX jh (jY qX C.t.len qS (jb (ja 1) jd)) (QD C.most)))))) (jf (jy zr) jn) jn)
  (jf (jy (jY (ahQ rfl) C.t.all aif (jb (Qq ["part","manner"] [none,some 0] rfl (aeS (ja 1)) (JD (je zP) ["manner","thing"] (by decide +kernel))
   fun cl C' s0 H0 fp pn=>⟨qi 0 ndp,QL,jl C.isRod hr (by decide) (jb (ja 1) (jb (ja 0) jd)) (jc (jc jk))⟩) jd))) jn))⟩
def acZ:LP->OP:=jA ["manner","thing"] 2 abb.1
structure CChkSet (P:Program) (w:World) (K:Fg) (mg:SV) (base:Heap):Prop where
 isSet:jm P w K mg base "is_setting" ["manner","thing"] 5 2 acZ
theorem aeb:FnScope ["manner","thing"] ["manner","thing"] (je zt):=⟨rfl,rfl,rfl,by decide +kernel,rfl,by decide +kernel,by decide +kernel⟩
def abT:{ B:RO // zk CChkSet "check_setting" zt ["manner","thing"] 5 B }:=
 ⟨_,fun P w K mg base f Kc A Ko s H E C hr=>
  jf (ql (qd (qg (jl C.isSet hr (Nat.le_refl _) (jb (ja 0) (jb (ja 1) jd)) (jc (jc jk))))) zd jn) jn⟩
def qB:LP->OP:=jA ["manner","thing"] 2 abT.1
abbrev ajw:Stmt:=top 57
abbrev afm:Stmt:=top 58
abbrev abU:Stmt:=top 59
theorem api:FnScope ["_law_script","_law_k"] ["_law_script","_law_k"] (je ajw):=⟨rfl,rfl,rfl,by decide +kernel,rfl,by decide +kernel,by decide +kernel⟩
def ajx:{ B:RO // zk (fun _ _ _ mg _=>Bare mg) "_law_cell" ajw ["_law_script","_law_k"] 0 B }:=
 ⟨_,fun P w K mg base f Kc A Ko s H E C hr=>
  jf (ql (jT (ze hr.units) (ja 0) (QI jd)) (jf (jy (ju zC jh (ja 1))) jn) jn)
  (jf (jy (ju jF (jQ (ja 0) (ju JC (ja 1) (jY qX C.len qS (jb (ja 0) jd)))) (ju zC jh (ju Ju (ja 1) (jY qX C.len qS (jb (ja 0) jd)))))) jn)⟩
def ag5:LP->OP:=jA ["_law_script","_law_k"] 2 ajx.1
structure CDrawn (P:Program) (w:World) (K:Fg) (mg:SV) (base:Heap):Prop where
 cell:jm P w K mg base "_law_cell" ["_law_script","_law_k"] 1 2 ag5
theorem ac0:FnScope ["_law_script","_law_k","_law_many","_law_cell_here"] ["_law_script","_law_k","_law_many"] (je afm):=⟨rfl,rfl,rfl,by decide +kernel,rfl,by decide +kernel,by decide +kernel⟩
def aim:{ B:RO // zk CDrawn "_law_drawn" afm ["_law_script","_law_k","_law_many","_law_cell_here"] 1 B }:=
 ⟨_,fun P w K mg base f Kc A Ko s H E C hr=>
  jf (j8 3 ac0.nd (ju JC (ju jF (ju zC (ju JC (jl C.cell hr (Nat.le_refl _) (jb (ja 0) (jb (ja 1) jd)) (jc (jc jk))) jh) jh) (ju zC jh (ju jF (ja 1) jh))) jh))
  (jf (j8 3 ac0.nd (ju JC (ju jF (ju zC (ja 3) (ja 3)) (ju Ju (ja 3) jh)) jh))
  (jf (jy (ju JC (ju Ju (ju JC (ju jF (ju zC (ja 3) (ja 3)) (ju Ju (ja 3) jh)) jh) jh) (ja 2))) jn))⟩
def J8:LP->OP:=jA ["_law_script","_law_k","_law_many","_law_cell_here"] 3 aim.1
noncomputable abbrev afn:List Str:=["_law_script","_law_at","_law_known","_law_way","_law_each","_law_upper","_law_lower"]
structure CManner (P:Program) (w:World) (K:Fg) (mg:SV) (base:Heap):Prop where
 t:Bare mg
 drawn:jm P w K mg base "_law_drawn" ["_law_script","_law_k","_law_many"] 2 3 J8
theorem zQ:FnScope afn ["_law_script","_law_at"] (je abU):=⟨rfl,rfl,rfl,by decide +kernel,rfl,by decide +kernel,by decide +kernel⟩
noncomputable def js (a b c d:Int):PyData:= .tuple [.int a,.int b,.int c,.int d]
def abc:LP:=[js 1 5 4 10,js 2 5 5 10,js 0 1 9 10,js 1 5 5 10,js 0 1 10 10,js 1 2 1 4,js 0 1 1 2]
def abd:LP:=[js 1 4 3 8,js 1 3 2 5,js 3 4 3 16,js 2 3 2 7,js 1 1 1 3]
def abV:{ B:RO // zk CManner "_law_manner" abU afn 2 B }:=
 ⟨_,fun P w K mg base f Kc A Ko s H E C hr=>
  jf (j8 2 zQ.nd (aeZ 3 (.list abc) (by kernel_rfl)))
  (jf (j8 2 zQ.nd (ju jF (ja 2) (aeZ 3 (.list abd) (by kernel_rfl))))
  (jf (j8 3 zQ.nd (jl C.drawn hr (Nat.le_refl _) (jb (ja 0) (jb (ja 1) (jb (ju zC jh (jY qX C.t.len qS (jb (ja 2) jd))) jd))) (jc (jc (jc jk)))))
  (jf (ql (jT QN (ja 3) (jY qX C.t.len qS (jb (ja 2) jd))) (jf (jy (jQ (ja 2) (ja 3))) jn) jn)
  (jf (j8 4 zQ.nd (ju jF jh (jl C.drawn hr (Nat.le_refl _) (jb (ja 0) (jb (ju jF (ja 1) jh) (jb jh jd))) (jc (jc (jc jk))))))
  (jf (j8 5 zQ.nd (jl C.drawn hr (Nat.le_refl _) (jb (ja 0) (jb (ju jF (ja 1) jh) (jb jh jd))) (jc (jc (jc jk)))))
  (jf (j8 6 zQ.nd (ju jF (jY (aow rfl) C.t.max ama (jb (ju qL (ja 4) jh) (jb jh jd))) (jl C.drawn hr (Nat.le_refl _) (jb (ja 0) (jb (ju jF (ja 1) jh) (jb jh jd))) (jc (jc (jc jk))))))
  (jf (jy (zM (jb (ja 5) (jb (ja 4) (jb (ja 6) (jb (ju jF jh (jl C.drawn hr (Nat.le_refl _) (jb (ja 0) (jb (ju jF (ja 1) jh) (jb (jY (ajb rfl) C.t.min aeX (jb jh (jb (ju jF (ju zC (ja 5) (ja 4)) (ja 6)) jd))) jd))) (jc (jc (jc jk))))) jd)))))) jn)))))))⟩
def Zq:LP->OP:=jA afn 2 abV.1
abbrev Jl (C:CC) (qual:Str) (st:Stmt) (N:List Str) (k:Nat) (Fx:Rho->Option Str):Prop:=
 ∀ (P:Program) (w:World) (K:Fg) (mg:SV) (base:Heap) (f:Addr) (Kc:Value) (A:Around) (Ko:List Env) (s:Shared) (H:Hp) (E:XK),C P w K mg base->Room k (A.deeper (envOfC qual (je st) s.heap.objs.size f Kc))->
  abE (zX (CXt P w) P w K mg base N qual (je st) f Kc A Ko s H E) (jS st) Fx
abbrev aav:Stmt:=top 51
abbrev ag6:Stmt:=top 50
abbrev Zr:Stmt:=top 49
abbrev sDA:Stmt:=top 48
abbrev ain:Stmt:=top 47
abbrev amU:Stmt:=top 46
abbrev aaw:Stmt:=top 44
abbrev ac1:Stmt:=top 45
structure CEnough (P:Program) (w:World) (K:Fg) (mg:SV) (base:Heap):Prop where
 num:jm P w K mg base "number_on" ["manner","setting"] 2 2 QG
theorem aec:FnScope ["manner","setting","number"] ["manner","setting","number"] (je aav):=⟨rfl,rfl,rfl,by decide +kernel,rfl,by decide +kernel,by decide +kernel⟩
def abW:{ B:RO // zk CEnough "check_enough" aav ["manner","setting","number"] 2 B }:=
 ⟨_,fun P w K mg base f Kc A Ko s H E C hr=>
  (jf (ql (jT ahP (ja 2) (jl C.num hr (by decide) (jb (ja 0) (jb (ja 1) jd)) (jc (jc jk)))) zd jn)
  jn)⟩
def abX:LP->OP:=jA ["manner","setting","number"] 3 abW.1
structure CLess (P:Program) (w:World) (K:Fg) (mg:SV) (base:Heap):Prop where
 t:Bare mg
 chkSet:jm P w K mg base "check_setting" ["manner","thing"] 6 2 qB
 chkNum:jm P w K mg base "check_number" ["number"] 2 1 qT
 enough:jm P w K mg base "check_enough" ["manner","setting","number"] 3 3 abX
 plainR:jm P w K mg base "plain_rods" ["manner","rods","number"] 4 3 JK
 num:jm P w K mg base "number_on" ["manner","setting"] 2 2 QG
theorem ajy:FnScope ["manner","setting","number"] ["manner","setting","number"] (je ag6):=⟨rfl,rfl,rfl,by decide +kernel,rfl,by decide +kernel,by decide +kernel⟩
def aed:{ B:RO // zk CLess "less" ag6 ["manner","setting","number"] 6 B }:=
 ⟨_,fun P w K mg base f Kc A Ko s H E C hr=>
  (jf (j4 (jl C.chkSet hr (by decide) (jb (ja 0) (jb (ja 1) jd)) (jc (jc jk))))
  (jf (j4 (jl C.chkNum hr (by decide) (jb (ja 2) jd) (jc jk)))
  (jf (j4 (jl C.enough hr (by decide) (jb (ja 0) (jb (ja 1) (jb (ja 2) jd))) (jc (jc (jc jk)))))
  (jf (jy (jl C.plainR hr (by decide) (jb (ja 0) (jb (jY qX C.t.len qS (jb (ja 1) jd)) (jb (ju qL (jl C.num hr (by decide) (jb (ja 0) (jb (ja 1) jd)) (jc (jc jk))) (ja 2)) jd))) (jc (jc (jc jk)))))
  jn))))⟩
def aee:LP->OP:=jA ["manner","setting","number"] 3 aed.1
noncomputable abbrev apj:List Str:=["setting","changes","now","rod","fresh"]
theorem afo:FnScope apj ["setting","changes"] (je Zr):=⟨rfl,rfl,rfl,by decide +kernel,rfl,by decide +kernel,by decide +kernel⟩
def ac2:{ B:RO // amS 2 (fun _ _ _ mg _=>Bare mg) "behind_changes" Zr apj 0 (Zj (aik (jS Zr) 1)) B }:=
 ⟨_,fun P w K mg base f Kc A Ko s H E C hr=>
  (j6 (amp 2 (ja 3) (ja 4)) Jw)⟩
def apk:{ B:RO // zk (fun _ _ _ mg _=>Bare mg) "behind_changes" Zr apj 0 B }:=
 ⟨_,fun P w K mg base f Kc A Ko s H E C hr=>
  acE (acG 2 afo.nd (aky C.list apc (jb (ja 0) jd))
  (j6 (aji PassesOwn.never rfl (QK (ja 1)) (ae1 (n:=2) rfl (Jp 3 afo.nd (Jp 4 afo.nd acF))) (ac2.2 P w K mg base f Kc A Ko s H E C hr))
  (j6 (ae0 (adR agG C.tuple Qh (jb (ja 2) jd))) Jw)))⟩
def aio:LP->OP:=jA apj 2 apk.1
structure CDA (g:LP->OP) (d:Nat) (P:Program) (w:World) (K:Fg) (mg:SV) (base:Heap):Prop where
 rodWorth:jm P w K mg base "rod_worth" ["manner","rod"] 1 2 qD
 fewest:jm P w K mg base "fewest_beads" ["manner","worth"] 3 2 JJ
 self:jm P w K mg base "digit_added" ["manner","setting","rod","digit"] (d+3) 4 g
noncomputable abbrev nDA:List Str:=["manner","setting","rod","digit","whole","ahead"]
theorem ag7:FnScope nDA ["manner","setting","rod","digit"] (je sDA):=⟨rfl,rfl,rfl,by decide +kernel,rfl,by decide +kernel,by decide +kernel⟩
def bDA (g:LP->OP) (d:Nat):{ B:RO // zk (CDA g d) "digit_added" sDA nDA (d+3) B }:=
 ⟨_,fun P w K mg base f Kc A Ko s H E C hr=>
  (jf (ql (jT (ze hr.units) (ja 3) jh) (jf (jy (QI jd)) jn) jn)
  (jf (ql (jT QN (ja 2) jh) zd jn)
  (jf (j8 4 ag7.nd (ju jF (jl C.rodWorth hr (by omega) (jb (ja 0) (jb (jQ (ja 1) (ja 2)) jd)) (jc (jc jk))) (ja 3)))
  (jf (j8 5 ag7.nd (jl C.self hr (by omega) (jb (ja 0) (jb (ja 1) (jb (ju qL (ja 2) jh) (jb (ju Ju (ja 4) (jQ (ja 0) jh)) jd)))) (jc (jc (jc (jc jk))))))
  (jf (jy (ju jF (ja 5) (QI (jb (zM (jb (ja 2) (jb (jl C.fewest hr (by omega) (jb (ja 0) (jb (ju JC (ja 4) (jQ (ja 0) jh)) jd)) (jc (jc jk))) jd))) jd))))
  jn)))))⟩
def gDA:Nat->LP->OP
 | 0=>fun _=>none
 | d+1=>jA nDA 4 (bDA (gDA d) d).1
structure CCbd (x:Str) (g:LP->OP) (P:Program) (w:World) (K:Fg) (mg:SV) (base:Heap):Prop where
 t:Bare mg
 dig:jm P w K mg base "digits_by_rods" ["base","rods","number"] 1 3 abG
 beh:jm P w K mg base "behind_changes" ["setting","changes"] 1 2 aio
 fn:jm P w K mg base x ["manner","setting","rod","digit"] 9 4 g
noncomputable abbrev akP:List Str:=["manner","setting","number","digit_changes","changes","now","rod","digit","several"]
theorem zG:FnScope akP ["manner","setting","number","digit_changes"] (je ain):=⟨rfl,rfl,rfl,by decide +kernel,rfl,by decide +kernel,by decide +kernel⟩
def zl (x:Str) (g:LP->OP):{ B:RO // amS 4 (CCbd x g) "changes_by_digits" ain akP 9 (Zj (aik (jS ain) 2)) B }:=
 ⟨_,fun P w K mg base f Kc A Ko s H E C hr=>
  (j6 (JE 8 zG.nd (agN 3 C.fn hr (by decide) (jb (ja 0) (jb (ja 5) (jb (ja 6) (jb (ja 7) jd)))) (jc (jc (jc (jc jk))))))
  (j6 (JE 5 zG.nd (jl C.beh hr (by decide) (jb (ja 5) (jb (ja 8) jd)) (jc (jc jk))))
  (j6 (ae2 (adV 4 (ja 8)))
  Jw)))⟩
def akQ (x:Str) (g:LP->OP):{ B:RO // zk (CCbd x g) "changes_by_digits" ain akP 9 B }:=
 ⟨_,fun P w K mg base f Kc A Ko s H E C hr=>
  acE (acG 4 zG.nd (aa0 jd)
  (j6 (JE 5 zG.nd (ja 1))
  (j6 (aji PassesOwn.never rfl (agL C.t.enum (jb (jl C.dig hr (by decide) (jb (jQ (ja 0) jh) (jb (jY qX C.t.len qS (jb (ja 1) jd)) (jb (ja 2) jd))) (jc (jc (jc jk)))) jd)) (ae1 (n:=2) rfl (Jp 6 zG.nd (Jp 7 zG.nd acF))) ((zl x g).2 P w K mg base f Kc A Ko s H E C hr))
  (j6 (ae0 (ja 4)) Jw))))⟩
def arq (x:Str) (g:LP->OP):LP->OP:=jA akP 4 (akQ x g).1
abbrev gCA:LP->OP:=arq "digit_added" (gDA 6)
structure CChA (P:Program) (w:World) (K:Fg) (mg:SV) (base:Heap):Prop where
 cbd:jm P w K mg base "changes_by_digits" ["manner","setting","number","digit_changes"] 10 4 gCA
 fn:GC K mg "digit_added" (fnD "digit_added")
theorem amV:FnScope ["manner","setting","number"] ["manner","setting","number"] (je amU):=⟨rfl,rfl,rfl,by decide +kernel,rfl,by decide +kernel,by decide +kernel⟩
def akR:{ B:RO // zk CChA "changes_adding" amU ["manner","setting","number"] 10 B }:=
 ⟨_,fun P w K mg base f Kc A Ko s H E C hr=>
  (jf (jy (jl C.cbd hr (by decide) (jb (ja 0) (jb (ja 1) (jb (ja 2) (jb (QD C.fn) jd)))) (jc (jc (jc (jc jk))))))
  jn)⟩
def ag8:LP->OP:=jA ["manner","setting","number"] 3 akR.1
structure CAdding (P:Program) (w:World) (K:Fg) (mg:SV) (base:Heap):Prop where
 chkSet:jm P w K mg base "check_setting" ["manner","thing"] 6 2 qB
 chkNum:jm P w K mg base "check_number" ["number"] 2 1 qT
 chA:jm P w K mg base "changes_adding" ["manner","setting","number"] 11 3 ag8
theorem aef:FnScope ["manner","setting","number"] ["manner","setting","number"] (je aaw):=⟨rfl,rfl,rfl,by decide +kernel,rfl,by decide +kernel,by decide +kernel⟩
def abY:{ B:RO // zk CAdding "adding" aaw ["manner","setting","number"] 11 B }:=
 ⟨_,fun P w K mg base f Kc A Ko s H E C hr=>
  (jf (j4 (jl C.chkSet hr (by decide) (jb (ja 0) (jb (ja 1) jd)) (jc (jc jk))))
  (jf (j4 (jl C.chkNum hr (by decide) (jb (ja 2) jd) (jc jk)))
  (jf (jy (jl C.chA hr (by decide) (jb (ja 0) (jb (ja 1) (jb (ja 2) jd))) (jc (jc (jc jk)))))
  jn)))⟩
def JL:LP->OP:=jA ["manner","setting","number"] 3 abY.1
structure CAdded (P:Program) (w:World) (K:Fg) (mg:SV) (base:Heap):Prop where
 adding:jm P w K mg base "adding" ["manner","setting","number"] 12 3 JL
 beh:jm P w K mg base "behind_changes" ["setting","changes"] 1 2 aio
theorem ag9:FnScope ["manner","setting","number"] ["manner","setting","number"] (je ac1):=⟨rfl,rfl,rfl,by decide +kernel,rfl,by decide +kernel,by decide +kernel⟩
def afp:{ B:RO // zk CAdded "added" ac1 ["manner","setting","number"] 12 B }:=
 ⟨_,fun P w K mg base f Kc A Ko s H E C hr=>
  (jf (jy (jl C.beh hr (by decide) (jb (ja 1) (jb (jl C.adding hr (by decide) (jb (ja 0) (jb (ja 1) (jb (ja 2) jd))) (jc (jc (jc jk)))) jd)) (jc (jc jk))))
  jn)⟩
def QZ:LP->OP:=jA ["manner","setting","number"] 3 afp.1
structure XDA (g:LP->OP) (t:LP->Option Str) (d:Nat) (P:Program) (w:World) (K:Fg) (mg:SV) (base:Heap):Prop where
 n:CDA g d P w K mg base
 err:ZU K mg "TooGreat"
 self:qJ P w K mg base "digit_added" ["manner","setting","rod","digit"] (d+3) 4 t
def xDA (g:LP->OP) (t:LP->Option Str) (d:Nat):{ F:Rho->Option Str // Jl (XDA g t d) "digit_added" sDA nDA (d+3) F }:=
 ⟨_,fun P w K mg base f Kc A Ko s H E C hr=>
  (zT (qk (ql (jT (ze hr.units) (ja 3) jh) (jf (jy (QI jd)) jn) jn) (jz (QT (jT QN (ja 2) jh) (jz (qN rfl C.err rfl)) zf)))
  (qk (ql (jT (ze hr.units) (ja 3) jh) (jf (jy (QI jd)) jn) jn) (qk (ql (jT QN (ja 2) jh) zd jn) (qk (j8 4 ag7.nd (ju jF (jl C.n.rodWorth hr (by omega) (jb (ja 0) (jb (jQ (ja 1) (ja 2)) jd)) (jc (jc jk))) (ja 3))) (jz (aoJ (qh rfl C.self hr (by omega) (jb (ja 0) (jb (ja 1) (jb (ju qL (ja 2) jh) (jb (ju Ju (ja 4) (jQ (ja 0) jh)) jd)))) (jc (jc (jc (jc jk)))))))))))⟩
def tDA:Nat->LP->Option Str
 | 0=>fun _=>none
 | d+1=>zh nDA 4 (xDA (gDA d) (tDA d) d).1
structure XCbd (x:Str) (g:LP->OP) (t:LP->Option Str) (P:Program) (w:World) (K:Fg) (mg:SV) (base:Heap):Prop where
 n:CCbd x g P w K mg base
 fn:qJ P w K mg base x ["manner","setting","rod","digit"] 9 4 t
def asU (x:Str) (g:LP->OP) (t:LP->Option Str):{ F:Rho->Option Str // Jl (XCbd x g t) "changes_by_digits" ain akP 9 F }:=
 ⟨_,fun P w K mg base f Kc A Ko s H E C hr=>
  (amx (akB 4 zG.nd (aa0 jd)
  (ah7 (JE 5 zG.nd (ja 1))
  (acK (amy acH rfl (fun W=>agL C.n.t.enum (jb (jl C.n.dig hr (by decide) (jb (jQ (ja 0) jh) (jb (jY qX C.n.t.len qS (jb (ja 1) jd)) (jb (ja 2) jd))) (jc (jc (jc jk)))) jd)) (fun W=>ae1 (n:=2) rfl (Jp 6 zG.nd (Jp 7 zG.nd acF)))
   (fun W=>(j6 (JE 8 zG.nd (agN 3 C.n.fn hr (by decide) (jb (ja 0) (jb (ja 5) (jb (ja 6) (jb (ja 7) jd)))) (jc (jc (jc (jc jk))))))
  (j6 (JE 5 zG.nd (jl C.n.beh hr (by decide) (jb (ja 5) (jb (ja 8) jd)) (jc (jc jk))))
  (j6 (ae2 (adV 4 (ja 8)))
  Jw))))
   (fun W=>acK (amw (akC 3 rfl C.fn hr (by decide) (jb (ja 0) (jb (ja 5) (jb (ja 6) (jb (ja 7) jd)))) (jc (jc (jc (jc jk))))))))))))⟩
def tCA:LP->Option Str:=zh akP 4 (asU "digit_added" (gDA 6) (tDA 6)).1
structure XChA (P:Program) (w:World) (K:Fg) (mg:SV) (base:Heap):Prop where
 n:CChA P w K mg base
 thr:qJ P w K mg base "changes_by_digits" ["manner","setting","number","digit_changes"] 10 4 tCA
def apl:{ F:Rho->Option Str // Jl XChA "changes_adding" amU ["manner","setting","number"] 10 F }:=
 ⟨_,fun P w K mg base f Kc A Ko s H E C hr=>
  (jz (aaf (qh rfl C.thr hr (by decide) (jb (ja 0) (jb (ja 1) (jb (ja 2) (jb (QD C.n.fn) jd)))) (jc (jc (jc (jc jk)))))))⟩
def amW:LP->Option Str:=zh ["manner","setting","number"] 3 apl.1
noncomputable def afq (k:Bool):PyData:= .str (if k=true then "lower" else "upper")
def mv (r:Int) (k:Bool) (c:Int):PyData:= .tuple [.int r,afq k,.int c]
section
variable {u e l b:Int}
noncomputable def dig (b:Int) (r:Nat) (n:Int) (i:Nat):Int:=if 0<i then n / b ^ (r - 1 - i) % b else n / b ^ (r - 1 - i)
end
noncomputable abbrev amX:List Str:=["NoManner","NoSetting","NoNumber","NoMove","NoName","TooGreat","Nothing"]
abbrev JM:Stmt:=top 39
structure CNamesBeads (P:Program) (w:World) (K:Fg) (mg:SV) (base:Heap):Prop where
 t:Bare mg
 c_isWhole:jm P w K mg base "is_whole" ["thing","least","most"] 1 3 jV
 k_DECKS:GC K mg "DECKS" (.tuple [.str "upper",.str "lower"])
noncomputable abbrev Q0:List Str:=["setting","thing"]
theorem adA:FnScope Q0 ["setting","thing"] (je JM):=⟨rfl,rfl,rfl,by decide +kernel,rfl,by decide +kernel,by decide +kernel⟩
def zm:{ B:RO // zk CNamesBeads "names_beads" JM Q0 1 B }:=
 ⟨_,fun P w K mg base f Kc A Ko s H E C hr=>
  (jf (ql (zZ (ZP (qd (qg (aaY (.inr (.inr rfl)) C.t.isi C.t.tuple Qh (ja 1)))) (Qp (jT (zp hr.units) (jY qX C.t.len qS (jb (ja 1) jd)) jh)))) (jf (jy zr)
  jn) jn)
  (jf (ql (zZ (ZP (qd (qg (jl C.c_isWhole hr (by decide) (jb (jQ (ja 1) jh) (jb jh (jb (ju qL (jY qX C.t.len qS (jb (ja 0) jd)) jh) jd))) (jc (jc (jc jk)))))) (Qp (jT (aaW hr.units) (jQ (ja 1) jh) (QD C.k_DECKS))))) (jf (jy zr)
  jn) jn)
  (jf (jy (amj (jl C.c_isWhole hr (by decide) (jb (jQ (ja 1) jh) (jb (acD jh) (jb jh jd))) (jc (jc (jc jk)))) (ami (alW (zp hr.units) (jQ (ja 1) jh) jh))))
  jn)))⟩
def JN:LP->OP:=jA Q0 2 zm.1
abbrev abZ:Stmt:=top 40
structure CPushed (P:Program) (w:World) (K:Fg) (mg:SV) (base:Heap):Prop where
 tr:True
noncomputable abbrev afr:List Str:=["rod","deck","by"]
theorem akS:FnScope afr ["rod","deck","by"] (je abZ):=⟨rfl,rfl,rfl,by decide +kernel,rfl,by decide +kernel,by decide +kernel⟩
def aax:{ B:RO // zk CPushed "pushed" abZ afr 0 B }:=
 ⟨_,fun P w K mg base f Kc A Ko s H E C hr=>
  (jf (ql (jT (ze hr.units) (ja 1) zA) (jf (jy (zM (jb (ju jF (jQ (ja 0) jh) (ja 2)) (jb (jQ (ja 0) jh) jd))))
  jn) jn)
  (jf (jy (zM (jb (jQ (ja 0) jh) (jb (ju jF (jQ (ja 0) jh) (ja 2)) jd))))
  jn))⟩
def ab0:LP->OP:=jA afr 3 aax.1
abbrev aay:Stmt:=top 38
structure CCanMove (P:Program) (w:World) (K:Fg) (mg:SV) (base:Heap):Prop where
 c_NamesBeads:jm P w K mg base "names_beads" ["setting","thing"] 2 2 JN
 c_isRod:jm P w K mg base "is_rod" ["manner","thing"] 2 2 J1
 c_Pushed:jm P w K mg base "pushed" ["rod","deck","by"] 1 3 ab0
noncomputable abbrev ac3:List Str:=["manner","setting","thing"]
theorem aip:FnScope ac3 ["manner","setting","thing"] (je aay):=⟨rfl,rfl,rfl,by decide +kernel,rfl,by decide +kernel,by decide +kernel⟩
def aaz:{ B:RO // zk CCanMove "can_move" aay ac3 2 B }:=
 ⟨_,fun P w K mg base f Kc A Ko s H E C hr=>
  (jf (ql (qd (qg (jl C.c_NamesBeads hr (by decide) (jb (ja 1) (jb (ja 2) jd)) (jc (jc jk))))) (jf (jy zr)
  jn) jn)
  (jf (jy (jl C.c_isRod hr (by decide) (jb (ja 0) (jb (jl C.c_Pushed hr (by decide) (jb (jQ (ja 1) (jQ (ja 2) jh)) (jb (jQ (ja 2) jh) (jb (jQ (ja 2) jh) jd))) (jc (jc (jc jk)))) jd)) (jc (jc jk))))
  jn))⟩
def Q1:LP->OP:=jA ac3 3 aaz.1
abbrev JO:Stmt:=top 41
structure CBehindMove (P:Program) (w:World) (K:Fg) (mg:SV) (base:Heap):Prop where
 c_Pushed:jm P w K mg base "pushed" ["rod","deck","by"] 1 3 ab0
noncomputable abbrev Q4:List Str:=["setting","move","at"]
theorem ZK:FnScope Q4 ["setting","move"] (je JO):=⟨rfl,rfl,rfl,by decide +kernel,rfl,by decide +kernel,by decide +kernel⟩
def JP:{ B:RO // zk CBehindMove "behind_move" JO Q4 1 B }:=
 ⟨_,fun P w K mg base f Kc A Ko s H E C hr=>
  (jf (j8 2 ZK.nd (jQ (ja 1) jh))
  (jf (jy (ju jF (ju jF (amr (ja 0) (ja 2)) (zM (jb (jl C.c_Pushed hr (by decide) (jb (jQ (ja 0) (ja 2)) (jb (jQ (ja 1) jh) (jb (jQ (ja 1) jh) jd))) (jc (jc (jc jk)))) jd))) (ah5 (ja 0) (ju jF (ja 2) jh))))
  jn))⟩
def JQ:LP->OP:=jA Q4 2 JP.1
abbrev ac4:Stmt:=top 42
structure CMoved (P:Program) (w:World) (K:Fg) (mg:SV) (base:Heap):Prop where
 c_chkSet:jm P w K mg base "check_setting" ["manner","thing"] 6 2 qB
 c_CanMove:jm P w K mg base "can_move" ["manner","setting","thing"] 3 3 Q1
 c_BehindMove:jm P w K mg base "behind_move" ["setting","move"] 2 2 JQ
noncomputable abbrev ac5:List Str:=["manner","setting","move"]
theorem aha:FnScope ac5 ["manner","setting","move"] (je ac4):=⟨rfl,rfl,rfl,by decide +kernel,rfl,by decide +kernel,by decide +kernel⟩
def afs:{ B:RO // zk CMoved "moved" ac4 ac5 6 B }:=
 ⟨_,fun P w K mg base f Kc A Ko s H E C hr=>
  (jf (j4 (jl C.c_chkSet hr (by decide) (jb (ja 0) (jb (ja 1) jd)) (jc (jc jk))))
  (jf (ql (qd (qg (jl C.c_CanMove hr (by decide) (jb (ja 0) (jb (ja 1) (jb (ja 2) jd))) (jc (jc (jc jk)))))) (jf akk
  jn) jn)
  (jf (jy (jl C.c_BehindMove hr (by decide) (jb (ja 1) (jb (ja 2) jd)) (jc (jc jk))))
  jn)))⟩
def abe:LP->OP:=jA ac5 3 afs.1
structure XCheck (P:Program) (w:World) (K:Fg) (mg:SV) (base:Heap):Prop where
 c_isManner:jm P w K mg base "is_manner" ["thing"] 3 1 qW
 e_NoManner:ZU K mg "NoManner"
def aft:{ F:Rho->Option Str // Jl XCheck "check_manner" acX ["thing"] 3 F }:=
 ⟨_,fun P w K mg base f Kc A Ko s H E C hr=>
  (jz (QT (qd (qg (jl C.c_isManner hr (by decide) (jb (ja 0) jd) (jc jk)))) (jz (qN rfl C.e_NoManner rfl)) zf))⟩
def afu:LP->Option Str:=zh ["thing"] 1 aft.1
structure XIsSet (P:Program) (w:World) (K:Fg) (mg:SV) (base:Heap):Prop where
 x_check:qJ P w K mg base "check_manner" ["thing"] 4 1 afu
def afv:{ F:Rho->Option Str // Jl XIsSet "is_setting" zP ["manner","thing"] 4 F }:=
 ⟨_,fun P w K mg base f Kc A Ko s H E C hr=>
  (jz (zg (qh rfl C.x_check hr (by decide) (jb (ja 0) jd) (jc jk))))⟩
def aiq:LP->Option Str:=zh ["manner","thing"] 2 afv.1
structure XChkSet (P:Program) (w:World) (K:Fg) (mg:SV) (base:Heap):Prop where
 c_isSet:jm P w K mg base "is_setting" ["manner","thing"] 5 2 acZ
 x_isSet:qJ P w K mg base "is_setting" ["manner","thing"] 5 2 aiq
 e_NoSetting:ZU K mg "NoSetting"
def ab1:{ F:Rho->Option Str // Jl XChkSet "check_setting" zt ["manner","thing"] 5 F }:=
 ⟨_,fun P w K mg base f Kc A Ko s H E C hr=>
  (jz (aq7 (aoR (aoQ (aoP (qh rfl C.x_isSet hr (by decide) (jb (ja 0) (jb (ja 1) jd)) (jc (jc jk)))))) (QT (qd (qg (jl C.c_isSet hr (by decide) (jb (ja 0) (jb (ja 1) jd)) (jc (jc jk))))) (jz (qN rfl C.e_NoSetting rfl)) zf)))⟩
def JR:LP->Option Str:=zh ["manner","thing"] 2 ab1.1
structure XChkRods (P:Program) (w:World) (K:Fg) (mg:SV) (base:Heap):Prop where
 c_isWhole:jm P w K mg base "is_whole" ["thing","least","most"] 1 3 jV
 k_MOST_RODS:GC K mg "MOST_RODS" (.int 4)
 e_NoNumber:ZU K mg "NoNumber"
def aaA:{ F:Rho->Option Str // Jl XChkRods "check_rods" Jy ["rods"] 1 F }:=
 ⟨_,fun P w K mg base f Kc A Ko s H E C hr=>
  (jz (QT (qd (qg (jl C.c_isWhole hr (by decide) (jb (ja 0) (jb jh (jb (QD C.k_MOST_RODS) jd))) (jc (jc (jc jk)))))) (jz (qN rfl C.e_NoNumber rfl)) zf))⟩
def ac6:LP->Option Str:=zh ["rods"] 1 aaA.1
structure XChkNum (P:Program) (w:World) (K:Fg) (mg:SV) (base:Heap):Prop where
 c_isWhole:jm P w K mg base "is_whole" ["thing","least","most"] 1 3 jV
 k_MOST_NUMBER:GC K mg "MOST_NUMBER" (.int 99999)
 e_NoNumber:ZU K mg "NoNumber"
def ab2:{ F:Rho->Option Str // Jl XChkNum "check_number" zF ["number"] 1 F }:=
 ⟨_,fun P w K mg base f Kc A Ko s H E C hr=>
  (jz (QT (qd (qg (jl C.c_isWhole hr (by decide) (jb (ja 0) (jb jh (jb (QD C.k_MOST_NUMBER) jd))) (jc (jc (jc jk)))))) (jz (qN rfl C.e_NoNumber rfl)) zf))⟩
def Qy:LP->Option Str:=zh ["number"] 1 ab2.1
structure XAsked (P:Program) (w:World) (K:Fg) (mg:SV) (base:Heap):Prop where
 c_chkRods:jm P w K mg base "check_rods" ["rods"] 2 1 Jg
 c_check:jm P w K mg base "check_manner" ["thing"] 4 1 QY
 x_check:qJ P w K mg base "check_manner" ["thing"] 4 1 afu
 x_chkRods:qJ P w K mg base "check_rods" ["rods"] 2 1 ac6
 x_chkNum:qJ P w K mg base "check_number" ["number"] 2 1 Qy
def afw:{ F:Rho->Option Str // Jl XAsked "check_asked" Jf ["manner","rods","number"] 4 F }:=
 ⟨_,fun P w K mg base f Kc A Ko s H E C hr=>
  (zT (jz (zg (qh rfl C.x_check hr (by decide) (jb (ja 0) jd) (jc jk)))) (qk (j4 (jl C.c_check hr (by decide) (jb (ja 0) jd) (jc jk)))
  (zT (jz (zg (qh rfl C.x_chkRods hr (by decide) (jb (ja 1) jd) (jc jk)))) (qk (j4 (jl C.c_chkRods hr (by decide) (jb (ja 1) jd) (jc jk)))
  (jz (zg (qh rfl C.x_chkNum hr (by decide) (jb (ja 2) jd) (jc jk))))))))⟩
def air:LP->Option Str:=zh ["manner","rods","number"] 3 afw.1
structure XPlainR (P:Program) (w:World) (K:Fg) (mg:SV) (base:Heap):Prop where
 c_digits:jm P w K mg base "digits_by_rods" ["base","rods","number"] 1 3 abG
 e_TooGreat:ZU K mg "TooGreat"
def ab3:{ F:Rho->Option Str // Jl XPlainR "plain_rods" Zk Zm 3 F }:=
 ⟨_,fun P w K mg base f Kc A Ko s H E C hr=>
  (qk (j8 3 Zn.nd (jl C.c_digits hr (by decide) (jb (jQ (ja 0) jh) (jb (ja 1) (jb (ja 2) jd))) (jc (jc (jc jk)))))
  (jz (QT (jT al0 (jQ (ja 3) jh) (jQ (ja 0) jh)) (jz (qN rfl C.e_TooGreat rfl)) zf)))⟩
def aaB:LP->Option Str:=zh Zm 3 ab3.1
structure XPlainS (P:Program) (w:World) (K:Fg) (mg:SV) (base:Heap):Prop where
 c_asked:jm P w K mg base "check_asked" ["manner","rods","number"] 5 3 ZX
 x_asked:qJ P w K mg base "check_asked" ["manner","rods","number"] 5 3 air
 x_plainR:qJ P w K mg base "plain_rods" ["manner","rods","number"] 4 3 aaB
def ajz:{ F:Rho->Option Str // Jl XPlainS "plain_setting" aau ["manner","rods","number"] 5 F }:=
 ⟨_,fun P w K mg base f Kc A Ko s H E C hr=>
  (zT (jz (zg (qh rfl C.x_asked hr (by decide) (jb (ja 0) (jb (ja 1) (jb (ja 2) jd))) (jc (jc (jc jk)))))) (qk (j4 (jl C.c_asked hr (by decide) (jb (ja 0) (jb (ja 1) (jb (ja 2) jd))) (jc (jc (jc jk)))))
  (jz (aaf (qh rfl C.x_plainR hr (by decide) (jb (ja 0) (jb (ja 1) (jb (ja 2) jd))) (jc (jc (jc jk))))))))⟩
def ajA:LP->Option Str:=zh ["manner","rods","number"] 3 ajz.1
structure XEnough (P:Program) (w:World) (K:Fg) (mg:SV) (base:Heap):Prop where
 c_num:jm P w K mg base "number_on" ["manner","setting"] 2 2 QG
 e_TooGreat:ZU K mg "TooGreat"
def ab4:{ F:Rho->Option Str // Jl XEnough "check_enough" aav ["manner","setting","number"] 2 F }:=
 ⟨_,fun P w K mg base f Kc A Ko s H E C hr=>
  (jz (QT (jT ahP (ja 2) (jl C.c_num hr (by decide) (jb (ja 0) (jb (ja 1) jd)) (jc (jc jk)))) (jz (qN rfl C.e_TooGreat rfl)) zf))⟩
def afx:LP->Option Str:=zh ["manner","setting","number"] 3 ab4.1
structure XAdding (P:Program) (w:World) (K:Fg) (mg:SV) (base:Heap):Prop where
 c_chkNum:jm P w K mg base "check_number" ["number"] 2 1 qT
 c_chkSet:jm P w K mg base "check_setting" ["manner","thing"] 6 2 qB
 x_chkSet:qJ P w K mg base "check_setting" ["manner","thing"] 6 2 JR
 x_chkNum:qJ P w K mg base "check_number" ["number"] 2 1 Qy
 x_chA:qJ P w K mg base "changes_adding" ["manner","setting","number"] 11 3 amW
def ab5:{ F:Rho->Option Str // Jl XAdding "adding" aaw ["manner","setting","number"] 11 F }:=
 ⟨_,fun P w K mg base f Kc A Ko s H E C hr=>
  (zT (jz (zg (qh rfl C.x_chkSet hr (by decide) (jb (ja 0) (jb (ja 1) jd)) (jc (jc jk))))) (qk (j4 (jl C.c_chkSet hr (by decide) (jb (ja 0) (jb (ja 1) jd)) (jc (jc jk))))
  (zT (jz (zg (qh rfl C.x_chkNum hr (by decide) (jb (ja 2) jd) (jc jk)))) (qk (j4 (jl C.c_chkNum hr (by decide) (jb (ja 2) jd) (jc jk)))
  (jz (aaf (qh rfl C.x_chA hr (by decide) (jb (ja 0) (jb (ja 1) (jb (ja 2) jd))) (jc (jc (jc jk))))))))))⟩
def ab6:LP->Option Str:=zh ["manner","setting","number"] 3 ab5.1
structure XAdded (P:Program) (w:World) (K:Fg) (mg:SV) (base:Heap):Prop where
 c_beh:jm P w K mg base "behind_changes" ["setting","changes"] 1 2 aio
 x_adding:qJ P w K mg base "adding" ["manner","setting","number"] 12 3 ab6
def afy:{ F:Rho->Option Str // Jl XAdded "added" ac1 ["manner","setting","number"] 12 F }:=
 ⟨_,fun P w K mg base f Kc A Ko s H E C hr=>
  (jz (aaf (amv C.c_beh (amu (ja 1) (amt (qh rfl C.x_adding hr (by decide) (jb (ja 0) (jb (ja 1) (jb (ja 2) jd))) (jc (jc (jc jk)))))))))⟩
def ac7:LP->Option Str:=zh ["manner","setting","number"] 3 afy.1
structure XLess (P:Program) (w:World) (K:Fg) (mg:SV) (base:Heap):Prop where
 t:Bare mg
 c_num:jm P w K mg base "number_on" ["manner","setting"] 2 2 QG
 c_enough:jm P w K mg base "check_enough" ["manner","setting","number"] 3 3 abX
 c_chkNum:jm P w K mg base "check_number" ["number"] 2 1 qT
 c_chkSet:jm P w K mg base "check_setting" ["manner","thing"] 6 2 qB
 x_chkSet:qJ P w K mg base "check_setting" ["manner","thing"] 6 2 JR
 x_chkNum:qJ P w K mg base "check_number" ["number"] 2 1 Qy
 x_enough:qJ P w K mg base "check_enough" ["manner","setting","number"] 3 3 afx
 x_plainR:qJ P w K mg base "plain_rods" ["manner","rods","number"] 4 3 aaB
def ajB:{ F:Rho->Option Str // Jl XLess "less" ag6 ["manner","setting","number"] 6 F }:=
 ⟨_,fun P w K mg base f Kc A Ko s H E C hr=>
  (zT (jz (zg (qh rfl C.x_chkSet hr (by decide) (jb (ja 0) (jb (ja 1) jd)) (jc (jc jk))))) (qk (j4 (jl C.c_chkSet hr (by decide) (jb (ja 0) (jb (ja 1) jd)) (jc (jc jk))))
  (zT (jz (zg (qh rfl C.x_chkNum hr (by decide) (jb (ja 2) jd) (jc jk)))) (qk (j4 (jl C.c_chkNum hr (by decide) (jb (ja 2) jd) (jc jk)))
  (zT (jz (zg (qh rfl C.x_enough hr (by decide) (jb (ja 0) (jb (ja 1) (jb (ja 2) jd))) (jc (jc (jc jk)))))) (qk (j4 (jl C.c_enough hr (by decide) (jb (ja 0) (jb (ja 1) (jb (ja 2) jd))) (jc (jc (jc jk)))))
  (jz (aaf (qh rfl C.x_plainR hr (by decide) (jb (ja 0) (jb (jY qX C.t.len qS (jb (ja 1) jd)) (jb (ju qL (jl C.c_num hr (by decide) (jb (ja 0) (jb (ja 1) jd)) (jc (jc jk))) (ja 2)) jd))) (jc (jc (jc jk))))))))))))⟩
def ahb:LP->Option Str:=zh ["manner","setting","number"] 3 ajB.1
structure XMoved (P:Program) (w:World) (K:Fg) (mg:SV) (base:Heap):Prop where
 c_CanMove:jm P w K mg base "can_move" ["manner","setting","thing"] 3 3 Q1
 c_chkSet:jm P w K mg base "check_setting" ["manner","thing"] 6 2 qB
 x_chkSet:qJ P w K mg base "check_setting" ["manner","thing"] 6 2 JR
 e_NoMove:ZU K mg "NoMove"
def amY:{ F:Rho->Option Str // Jl XMoved "moved" ac4 ac5 6 F }:=
 ⟨_,fun P w K mg base f Kc A Ko s H E C hr=>
  (zT (jz (zg (qh rfl C.x_chkSet hr (by decide) (jb (ja 0) (jb (ja 1) jd)) (jc (jc jk))))) (qk (j4 (jl C.c_chkSet hr (by decide) (jb (ja 0) (jb (ja 1) jd)) (jc (jc jk))))
  (jz (QT (qd (qg (jl C.c_CanMove hr (by decide) (jb (ja 0) (jb (ja 1) (jb (ja 2) jd))) (jc (jc (jc jk)))))) (jz (qN rfl C.e_NoMove rfl)) zf))))⟩
def amZ:LP->Option Str:=zh ac5 3 amY.1
abbrev aaC:Stmt:=top 54
structure CIsName (P:Program) (w:World) (K:Fg) (mg:SV) (base:Heap):Prop where
 t:Bare mg
 k_MOST_LETTERS:GC K mg "MOST_LETTERS" (.int 6)
noncomputable abbrev ab7:List Str:=["thing"]
theorem akT:FnScope ab7 ["thing"] (je aaC):=⟨rfl,rfl,rfl,by decide +kernel,rfl,by decide +kernel,by decide +kernel⟩
theorem am0:(["letter"]:List Str).Nodup:=by decide +kernel
def ajC:{ B:RO // zk CIsName "is_name" aaC ab7 0 B }:=
 ⟨_,fun P w K mg base f Kc A Ko s H E C hr=>
  (jf (ql (zZ (ZP (qd (qg (ao4 rfl C.t.isi C.t.str arp (ja 0)))) (Qp (qd (adS aaX aaX jh (jY ao3 C.t.len qS (jb (ja 0) jd)) (QD C.k_MOST_LETTERS)))))) (jf (jy zr)
  jn) jn)
  (jf (jy (jY (ahQ rfl) C.t.all aif (jb (Qq ["letter"] [none] rfl (amI (ja 0)) (JD (je aaC) ab7 (by decide +kernel))
   fun cl C' s0 H0 fp pn=>⟨(qi 0 am0),QL,(agy ajs ajs zA (ja 0) zA)⟩) jd)))
  jn))⟩
def Zs:LP->OP:=jA ab7 1 ajC.1
abbrev JS (C:CC) (qual:Str) (st:Stmt) (N:List Str) (k:Nat) (T:TRS):Prop:=
 ∀ (P:Program) (w:World) (K:Fg) (mg:SV) (base:Heap) (f:Addr) (Kc:Value) (A:Around) (Ko:List Env) (s:Shared) (H:Hp) (E:XK),C P w K mg base->Room k (A.deeper (envOfC qual (je st) s.heap.objs.size f Kc))->
  aak (zX (CXt P w) P w K mg base N qual (je st) f Kc A Ko s H E) (jS st) T
abbrev ahc (C:CC) (qual:Str) (st:Stmt) (N:List Str) (k:Nat) (sts:List Stmt) (T:TRS):Prop:=
 ∀ (P:Program) (w:World) (K:Fg) (mg:SV) (base:Heap) (f:Addr) (Kc:Value) (A:Around) (Ko:List Env) (s:Shared) (H:Hp) (E:XK),C P w K mg base->Room k (A.deeper (envOfC qual (je st) s.heap.objs.size f Kc))->
  aak (zX CX0 P w K mg base N qual (je st) f Kc A Ko s H E).nox sts T
abbrev asV (C:CC) (qual:Str) (st:Stmt) (N:List Str) (k:Nat) (T:TRS):Prop:=
 ∀ (P:Program) (w:World) (K:Fg) (mg:SV) (base:Heap) (f:Addr) (Kc:Value) (A:Around) (Ko:List Env) (s:Shared) (H:Hp) (E:XK),C P w K mg base->Room k (A.deeper (envOfC qual (je st) s.heap.objs.size f Kc))->
  acT (zX CX0 P w K mg base N qual (je st) f Kc A Ko s H E) (jS st) T
abbrev afz:Stmt:=za (top 55) 0
structure CMInit (P:Program) (w:World) (K:Fg) (mg:SV) (base:Heap):Prop where
 f_now:qH K "Bench" "now"
 f_manner:qH K "Bench" "manner"
 f_kept:qH K "Bench" "kept"
 f_done:qH K "Bench" "done"
 f_undone:qH K "Bench" "undone"
 c_plainS:jm P w K mg base "plain_setting" ["manner","rods","number"] 6 3 Zp
 x_plainS:qJ P w K mg base "plain_setting" ["manner","rods","number"] 6 3 ajA
noncomputable abbrev ais:List Str:=["self","manner","rods"]
theorem am1:FnScope ais ["self","manner","rods"] (je afz):=⟨rfl,rfl,rfl,by decide +kernel,rfl,by decide +kernel,by decide +kernel⟩
def afA:{ B:TRS // JS CMInit "Bench.__init__" afz ais 6 B }:=
 ⟨_,fun P w K mg base f Kc A Ko s H E C hr=>
  (jj (Jn C.f_now (jg (ja 0)) (Ze rfl C.c_plainS C.x_plainS hr (by decide) (by decide) (jq (jg (ja 1)) (jq (jg (ja 2)) (jq (jg jh) jP)))))
  (jj (Jn C.f_manner (jg (ja 0)) (jg (ja 1)))
  (jj (Jn C.f_kept (jg (ja 0)) (jg amM))
  (jj (Jn C.f_done (jg (ja 0)) (ae9 (aa0 jd)))
  (jj (Jn C.f_undone (jg (ja 0)) (ae9 (aa0 jd)))
  jt)))))⟩
def ait:GC3:=qu ais afA.1
abbrev Zt:Stmt:=za (top 55) 1
structure CMSetting (P:Program) (w:World) (K:Fg) (mg:SV) (base:Heap):Prop where
 f_now:qH K "Bench" "now"
noncomputable abbrev abf:List Str:=["self"]
theorem ahd:FnScope abf ["self"] (je Zt):=⟨rfl,rfl,rfl,by decide +kernel,rfl,by decide +kernel,by decide +kernel⟩
def abg:{ B:TRS // JS CMSetting "Bench.setting" Zt abf 0 B }:=
 ⟨_,fun P w K mg base f Kc A Ko s H E C hr=>
  (jj (qq (jU C.f_now (jg (ja 0))))
  jt)⟩
def Qj:GC3:=qu abf abg.1
abbrev ab8:Stmt:=za (top 55) 2
structure CMValue (P:Program) (w:World) (K:Fg) (mg:SV) (base:Heap):Prop where
 f_manner:qH K "Bench" "manner"
 f_now:qH K "Bench" "now"
 c_num:jm P w K mg base "number_on" ["manner","setting"] 2 2 QG
noncomputable abbrev afB:List Str:=["self"]
theorem akU:FnScope afB ["self"] (je ab8):=⟨rfl,rfl,rfl,by decide +kernel,rfl,by decide +kernel,by decide +kernel⟩
def afC:{ B:TRS // JS CMValue "Bench.value" ab8 afB 2 B }:=
 ⟨_,fun P w K mg base f Kc A Ko s H E C hr=>
  (jj (qq (agR C.c_num hr (by decide) (jq (jU C.f_manner (jg (ja 0))) (jq (jU C.f_now (jg (ja 0))) jP))))
  jt)⟩
def Jo:GC3:=qu afB afC.1
abbrev afD:Stmt:=za (top 55) 9
structure CMGoOn (P:Program) (w:World) (K:Fg) (mg:SV) (base:Heap):Prop where
 f_done:qH K "Bench" "done"
 f_now:qH K "Bench" "now"
 f_kept:qH K "Bench" "kept"
 f_undone:qH K "Bench" "undone"
 m_value:qO P w K mg base "Bench" "value" ["self"] 3 1 Jo
noncomputable abbrev aiu:List Str:=["self","word","fresh","kept"]
theorem am2:FnScope aiu ["self","word","fresh","kept"] (je afD):=⟨rfl,rfl,rfl,by decide +kernel,rfl,by decide +kernel,by decide +kernel⟩
def aiv:{ B:TRS // JS CMGoOn "Bench.go_on" afD aiu 3 B }:=
 ⟨_,fun P w K mg base f Kc A Ko s H E C hr=>
  (jj (QW (Qv (jU C.f_done (jg (ja 0))) (abP (jq (jg (ja 1)) (jq (jU C.f_now (jg (ja 0))) (jq (jU C.f_kept (jg (ja 0))) jP))))))
  (jj (QW (akE (jU C.f_undone (jg (ja 0)))))
  (jj (Jn C.f_now (jg (ja 0)) (jg (ja 2)))
  (jj (Jn C.f_kept (jg (ja 0)) (jg (ja 3)))
  (jj (qq (jO rfl C.m_value hr (by decide) (jg (ja 0))))
  jt)))))⟩
def Q5:GC3:=qu aiu aiv.1
abbrev ajD:Stmt:=za (top 55) 3
structure CMAdd (P:Program) (w:World) (K:Fg) (mg:SV) (base:Heap):Prop where
 f_manner:qH K "Bench" "manner"
 f_now:qH K "Bench" "now"
 f_kept:qH K "Bench" "kept"
 m_go_on:qO P w K mg base "Bench" "go_on" ["self","word","fresh","kept"] 4 4 Q5
 c_added:jm P w K mg base "added" ["manner","setting","number"] 13 3 QZ
 x_added:qJ P w K mg base "added" ["manner","setting","number"] 13 3 ac7
noncomputable abbrev am3:List Str:=["self","number"]
theorem apm:FnScope am3 ["self","number"] (je ajD):=⟨rfl,rfl,rfl,by decide +kernel,rfl,by decide +kernel,by decide +kernel⟩
def ajE:{ B:TRS // JS CMAdd "Bench.add" ajD am3 13 B }:=
 ⟨_,fun P w K mg base f Kc A Ko s H E C hr=>
  (jj (qq (qP rfl C.m_go_on hr (by decide) (jg (ja 0)) (jq (jg zA) (jq (Ze rfl C.c_added C.x_added hr (by decide) (by decide) (jq (jU C.f_manner (jg (ja 0))) (jq (jU C.f_now (jg (ja 0))) (jq (jg (ja 1)) jP)))) (jq (jU C.f_kept (jg (ja 0))) jP)))))
  jt)⟩
def aeg:GC3:=qu am3 ajE.1
abbrev afE:Stmt:=za (top 55) 4
structure CMTake (P:Program) (w:World) (K:Fg) (mg:SV) (base:Heap):Prop where
 f_manner:qH K "Bench" "manner"
 f_now:qH K "Bench" "now"
 f_kept:qH K "Bench" "kept"
 m_go_on:qO P w K mg base "Bench" "go_on" ["self","word","fresh","kept"] 4 4 Q5
 c_less:jm P w K mg base "less" ["manner","setting","number"] 7 3 aee
 x_less:qJ P w K mg base "less" ["manner","setting","number"] 7 3 ahb
noncomputable abbrev aiw:List Str:=["self","number"]
theorem am4:FnScope aiw ["self","number"] (je afE):=⟨rfl,rfl,rfl,by decide +kernel,rfl,by decide +kernel,by decide +kernel⟩
def afF:{ B:TRS // JS CMTake "Bench.take" afE aiw 7 B }:=
 ⟨_,fun P w K mg base f Kc A Ko s H E C hr=>
  (jj (qq (qP rfl C.m_go_on hr (by decide) (jg (ja 0)) (jq (jg zA) (jq (Ze rfl C.c_less C.x_less hr (by decide) (by decide) (jq (jU C.f_manner (jg (ja 0))) (jq (jU C.f_now (jg (ja 0))) (jq (jg (ja 1)) jP)))) (jq (jU C.f_kept (jg (ja 0))) jP)))))
  jt)⟩
def abh:GC3:=qu aiw afF.1
abbrev afG:Stmt:=za (top 55) 5
structure CMPush (P:Program) (w:World) (K:Fg) (mg:SV) (base:Heap):Prop where
 f_manner:qH K "Bench" "manner"
 f_now:qH K "Bench" "now"
 f_kept:qH K "Bench" "kept"
 m_go_on:qO P w K mg base "Bench" "go_on" ["self","word","fresh","kept"] 4 4 Q5
 c_Moved:jm P w K mg base "moved" ["manner","setting","move"] 7 3 abe
 x_Moved:qJ P w K mg base "moved" ["manner","setting","move"] 7 3 amZ
noncomputable abbrev aix:List Str:=["self","move"]
theorem am5:FnScope aix ["self","move"] (je afG):=⟨rfl,rfl,rfl,by decide +kernel,rfl,by decide +kernel,by decide +kernel⟩
def aiy:{ B:TRS // JS CMPush "Bench.push" afG aix 7 B }:=
 ⟨_,fun P w K mg base f Kc A Ko s H E C hr=>
  (jj (qq (qP rfl C.m_go_on hr (by decide) (jg (ja 0)) (jq (jg zA) (jq (Ze rfl C.c_Moved C.x_Moved hr (by decide) (by decide) (jq (jU C.f_manner (jg (ja 0))) (jq (jU C.f_now (jg (ja 0))) (jq (jg (ja 1)) jP)))) (jq (jU C.f_kept (jg (ja 0))) jP)))))
  jt)⟩
def afH:GC3:=qu aix aiy.1
abbrev afI:Stmt:=za (top 55) 6
structure CMKeep (P:Program) (w:World) (K:Fg) (mg:SV) (base:Heap):Prop where
 f_kept:qH K "Bench" "kept"
 f_now:qH K "Bench" "now"
 m_go_on:qO P w K mg base "Bench" "go_on" ["self","word","fresh","kept"] 4 4 Q5
 t:Bare mg
 c_IsName:jm P w K mg base "is_name" ["thing"] 1 1 Zs
 e_NoName:ZU K mg "NoName"
noncomputable abbrev aiz:List Str:=["self","name","kept"]
theorem ahe:FnScope aiz ["self","name"] (je afI):=⟨rfl,rfl,rfl,by decide +kernel,rfl,by decide +kernel,by decide +kernel⟩
def afJ:{ B:TRS // JS CMKeep "Bench.keep" afI aiz 4 B }:=
 ⟨_,fun P w K mg base f Kc A Ko s H E C hr=>
  (jj (zx (aa4 (qd (qg (jl C.c_IsName hr (by decide) (jb (ja 1) jd) (jc jk))))) (jj (aa5 (qN rfl C.e_NoName rfl))
  jt) jt)
  (akI 2 0 1 hr.units1 ahe.nd C.t.dict apd C.f_kept C.f_now
  (jj (qq (qP rfl C.m_go_on hr (by decide) (jg (ja 0)) (jq (jg zA) (jq (jU C.f_now (jg (ja 0))) (jq (jg (ja 2)) jP)))))
  jt)))⟩
def abi:GC3:=qu aiz afJ.1
abbrev aaD:Stmt:=za (top 55) 7
structure CMRecall (P:Program) (w:World) (K:Fg) (mg:SV) (base:Heap):Prop where
 f_kept:qH K "Bench" "kept"
 m_go_on:qO P w K mg base "Bench" "go_on" ["self","word","fresh","kept"] 4 4 Q5
 c_IsName:jm P w K mg base "is_name" ["thing"] 1 1 Zs
 e_NoName:ZU K mg "NoName"
noncomputable abbrev ac8:List Str:=["self","name"]
theorem aiA:FnScope ac8 ["self","name"] (je aaD):=⟨rfl,rfl,rfl,by decide +kernel,rfl,by decide +kernel,by decide +kernel⟩
def aaE:{ B:TRS // JS CMRecall "Bench.recall" aaD ac8 4 B }:=
 ⟨_,fun P w K mg base f Kc A Ko s H E C hr=>
  (jj (zx (QV (acO (aa4 (qd (qg (jl C.c_IsName hr (by decide) (jb (ja 1) jd) (jc jk))))) (aal (aid hr.units1 (jg (ja 1)) (jU C.f_kept (jg (ja 0))))))) (jj (aa5 (qN rfl C.e_NoName rfl))
  jt) jt)
  (jj (qq (qP rfl C.m_go_on hr (by decide) (jg (ja 0)) (jq (jg zA) (jq (amN hr.units1 (jU C.f_kept (jg (ja 0))) (jg (ja 1))) (jq (jU C.f_kept (jg (ja 0))) jP)))))
  jt))⟩
def ac9:GC3:=qu ac8 aaE.1
abbrev ab9:Stmt:=za (top 55) 8
structure CMNames (P:Program) (w:World) (K:Fg) (mg:SV) (base:Heap):Prop where
 f_kept:qH K "Bench" "kept"
 t:Bare mg
noncomputable abbrev afK:List Str:=["self"]
theorem akV:FnScope afK ["self"] (je ab9):=⟨rfl,rfl,rfl,by decide +kernel,rfl,by decide +kernel,by decide +kernel⟩
def afL:{ B:TRS // JS CMNames "Bench.names" ab9 afK 0 B }:=
 ⟨_,fun P w K mg base f Kc A Ko s H E C hr=>
  (jj (qq (ad1 (amL rfl) C.t.sorted akL (jq (jU C.f_kept (jg (ja 0))) jP)))
  jt)⟩
def Zu:GC3:=qu afK afL.1
abbrev aca:Stmt:=za (top 55) 12
structure CMCross (P:Program) (w:World) (K:Fg) (mg:SV) (base:Heap):Prop where
 f_now:qH K "Bench" "now"
 f_kept:qH K "Bench" "kept"
 e_Nothing:ZU K mg "Nothing"
noncomputable abbrev afM:List Str:=["self","source","goal","step"]
theorem aeh:FnScope afM ["self","source","goal"] (je aca):=⟨rfl,rfl,rfl,by decide +kernel,rfl,by decide +kernel,by decide +kernel⟩
def acb:{ B:TRS // JS CMCross "Bench.cross" aca afM 0 B }:=
 ⟨_,fun P w K mg base f Kc A Ko s H E C hr=>
  (jj (zx (ajl (aoZ (jg (ja 1)))) (jj (aa5 (qN rfl C.e_Nothing rfl))
  jt) jt)
  (jj (Zd 3 aeh.nd (aoW (jg (ja 1))))
  (jj (QW (Qv (jg (ja 2)) (abP (jq (jg (jQ (ja 3) jh)) (jq (jU C.f_now (jg (ja 0))) (jq (jU C.f_kept (jg (ja 0))) jP))))))
  (jj (Jn C.f_now (jg (ja 0)) (jg (jQ (ja 3) jh)))
  (jj (Jn C.f_kept (jg (ja 0)) (jg (jQ (ja 3) jh)))
  (jj (zj (jy (jQ (ja 3) jh)))
  jt))))))⟩
def acd:GC3:=qu afM acb.1
abbrev afN:Stmt:=za (top 55) 10
structure CMBack (P:Program) (w:World) (K:Fg) (mg:SV) (base:Heap):Prop where
 f_done:qH K "Bench" "done"
 f_undone:qH K "Bench" "undone"
 m_cross:qO P w K mg base "Bench" "cross" ["self","source","goal"] 1 3 acd
noncomputable abbrev aiB:List Str:=["self"]
theorem am6:FnScope aiB ["self"] (je afN):=⟨rfl,rfl,rfl,by decide +kernel,rfl,by decide +kernel,by decide +kernel⟩
def aiC:{ B:TRS // JS CMBack "Bench.back" afN aiB 1 B }:=
 ⟨_,fun P w K mg base f Kc A Ko s H E C hr=>
  (jj (qq (qP rfl C.m_cross hr (by decide) (jg (ja 0)) (jq (jU C.f_done (jg (ja 0))) (jq (jU C.f_undone (jg (ja 0))) jP))))
  jt)⟩
def Q6:GC3:=qu aiB aiC.1
abbrev ace:Stmt:=za (top 55) 11
structure CMForth (P:Program) (w:World) (K:Fg) (mg:SV) (base:Heap):Prop where
 f_undone:qH K "Bench" "undone"
 f_done:qH K "Bench" "done"
 m_cross:qO P w K mg base "Bench" "cross" ["self","source","goal"] 1 3 acd
noncomputable abbrev afO:List Str:=["self"]
theorem akW:FnScope afO ["self"] (je ace):=⟨rfl,rfl,rfl,by decide +kernel,rfl,by decide +kernel,by decide +kernel⟩
def afP:{ B:TRS // JS CMForth "Bench.forth" ace afO 1 B }:=
 ⟨_,fun P w K mg base f Kc A Ko s H E C hr=>
  (jj (qq (qP rfl C.m_cross hr (by decide) (jg (ja 0)) (jq (jU C.f_undone (jg (ja 0))) (jq (jU C.f_done (jg (ja 0))) jP))))
  jt)⟩
def aaF:GC3:=qu afO afP.1
abbrev acf:Stmt:=za (top 55) 13
structure CMSteps (P:Program) (w:World) (K:Fg) (mg:SV) (base:Heap):Prop where
 f_done:qH K "Bench" "done"
 f_undone:qH K "Bench" "undone"
 t:Bare mg
noncomputable abbrev afQ:List Str:=["self"]
theorem akX:FnScope afQ ["self"] (je acf):=⟨rfl,rfl,rfl,by decide +kernel,rfl,by decide +kernel,by decide +kernel⟩
def afR:{ B:TRS // JS CMSteps "Bench.steps" acf afQ 0 B }:=
 ⟨_,fun P w K mg base f Kc A Ko s H E C hr=>
  (jj (qq (abP (jq (ajo qX C.t.len qS (jU C.f_done (jg (ja 0)))) (jq (ajo qX C.t.len qS (jU C.f_undone (jg (ja 0)))) jP))))
  jt)⟩
def JT:GC3:=qu afQ afR.1
abbrev afS:Stmt:=top 60
structure CLStep (P:Program) (w:World) (K:Fg) (mg:SV) (base:Heap):Prop where
 m_add:qO P w K mg base "Bench" "add" ["self","number"] 14 2 aeg
 m_value:qO P w K mg base "Bench" "value" ["self"] 3 1 Jo
 m_take:qO P w K mg base "Bench" "take" ["self","number"] 8 2 abh
 m_setting:qO P w K mg base "Bench" "setting" ["self"] 1 1 Qj
 m_push:qO P w K mg base "Bench" "push" ["self","move"] 8 2 afH
 m_names:qO P w K mg base "Bench" "names" ["self"] 1 1 Zu
 m_keep:qO P w K mg base "Bench" "keep" ["self","name"] 5 2 abi
 m_recall:qO P w K mg base "Bench" "recall" ["self","name"] 5 2 ac9
 t:Bare mg
 c_drawn:jm P w K mg base "_law_drawn" ["_law_script","_law_k","_law_many"] 2 3 J8
 e_TooGreat:ZU K mg "TooGreat"
noncomputable abbrev aiD:List Str:=["_law_script","_law_at","_law_bench","_law_manner_here","_law_way","_law_number","_law_upper","_law_lower","_law_move","_law_name"]
theorem Jh:FnScope aiD ["_law_script","_law_at","_law_bench","_law_manner_here"] (je afS):=⟨rfl,rfl,rfl,by decide +kernel,rfl,by decide +kernel,by decide +kernel⟩
def afT:{ B:TRS // asV CLStep "_law_step" afS aiD 14 B }:=
 ⟨_,fun P w K mg base f Kc A Ko s H E C hr=>
  (zO (ajp (zj (j8 4 Jh.nd (jl C.c_drawn hr (by decide) (jb (ja 0) (jb (ja 1) (jb jh jd))) (jc (jc (jc jk)))))))
  (zO (ajt (aa4 (jT QN (ja 4) jh)) (zO (ajp (zj (j8 5 Jh.nd (jl C.c_drawn hr (by decide) (jb (ja 0) (jb (ju jF (ja 1) jh) (jb (ju jF jh (jQ (ja 3) jh)) jd))) (jc (jc (jc jk)))))))
  (zO (ad7 (n:=10) acH rfl C.e_TooGreat
   (fun E'=>(jj (qq (JH (ze hr.units) (qP rfl C.m_add hr (by decide) (jg (ja 2)) (jq (jg (ja 5)) jP)) (jO rfl C.m_value hr (by decide) (jg (ja 2)))))
  jt))
   (fun e=>(jf (jy zr)
  jn)))
  (QX jt))) (QX jt))
  (zO (ajt (aa4 (jT (ze hr.units) (ja 4) jh)) (zO (ad7 (n:=10) acH rfl C.e_TooGreat
   (fun E'=>(jj (qq (JH (ze hr.units) (qP rfl C.m_take hr (by decide) (jg (ja 2)) (jq (agR C.c_drawn hr (by decide) (jq (jg (ja 0)) (jq (jg (ju jF (ja 1) jh)) (jq (aoT jF (jg jh) (ad1 (ajb rfl) C.t.min aeX (jq (jg jh) (jq (jO rfl C.m_value hr (by decide) (jg (ja 2))) jP)))) jP)))) jP)) (jO rfl C.m_value hr (by decide) (jg (ja 2)))))
  jt))
   (fun e=>(jf (jy zr)
  jn)))
  (QX jt)) (QX jt))
  (QX (jj (zx (aa4 (jT (ze hr.units) (ja 4) jh)) (jj (ao9 (ark (jO rfl C.m_setting hr (by decide) (jg (ja 2))) (jg jh)) (ai8 (n:=2) rfl (Qb (qi 6 Jh.nd) (Qb (qi 7 Jh.nd) agu))))
  (jj (zj (j8 8 Jh.nd (ap0 (jT ahP (ja 7) jh) (zM (jb jh (jb zA (jb (acD jh) jd)))) (zM (jb jh (jb zA (jb (ap0 (jT QN (ja 6) (jQ (ja 3) jh)) jh (acD jh)) jd)))))))
  (jj (zj (ql (zZ (aoq (jT (ze hr.units) (ja 7) jh) (alX (jT (ze hr.units) (jQ (ja 3) jh) jh)))) (jf (j8 8 Jh.nd (aeZ 2 (.tuple [.int 0,.str "lower",.int 1]) (by kernel_rfl)))
  jn) jn))
  (jj (qq (JH (ze hr.units) (qP rfl C.m_push hr (by decide) (jg (ja 2)) (jq (jg (ja 8)) jP)) (jO rfl C.m_value hr (by decide) (jg (ja 2)))))
  jt)))) jt)
  (jj (zj (j8 9 Jh.nd (are zA (jl C.c_drawn hr (by decide) (jb (ja 0) (jb (ju jF (ja 1) jh) (jb jh jd))) (jc (jc (jc jk)))) (by intro _ _; rfl))))
  (jj (zx (QV (acO (aa4 (jT QN (ja 4) jh)) (aal (zw (aaW hr.units) (jg (ja 9)) (jO rfl C.m_names hr (by decide) (jg (ja 2))))))) (jj (qq (ajn (JH (ze hr.units) (qP rfl C.m_keep hr (by decide) (jg (ja 2)) (jq (jg (ja 9)) jP)) (jO rfl C.m_value hr (by decide) (jg (ja 2)))) (ajm (JH (alZ hr.units) (jg (ja 9)) (jO rfl C.m_names hr (by decide) (jg (ja 2)))))))
  jt) jt)
  (jj (qq (JH (ze hr.units) (qP rfl C.m_recall hr (by decide) (jg (ja 2)) (jq (jg (ja 9)) jP)) (jO rfl C.m_value hr (by decide) (jg (ja 2)))))
  jt))))))))⟩
def aiE:GC3:=qu aiD afT.1
abbrev ahf:Stmt:=top 61
structure CLNow (P:Program) (w:World) (K:Fg) (mg:SV) (base:Heap):Prop where
 m_setting:qO P w K mg base "Bench" "setting" ["self"] 1 1 Qj
 m_value:qO P w K mg base "Bench" "value" ["self"] 3 1 Jo
 m_names:qO P w K mg base "Bench" "names" ["self"] 1 1 Zu
noncomputable abbrev am7:List Str:=["_law_bench"]
theorem apn:FnScope am7 ["_law_bench"] (je ahf):=⟨rfl,rfl,rfl,by decide +kernel,rfl,by decide +kernel,by decide +kernel⟩
def ajF:{ B:TRS // ahc CLNow "_law_now" ahf am7 3 (jS ahf) B }:=
 ⟨_,fun P w K mg base f Kc A Ko s H E C hr=>
  (jj (qq (abP (jq (jO rfl C.m_setting hr (by decide) (jg (ja 0))) (jq (jO rfl C.m_value hr (by decide) (jg (ja 0))) (jq (jO rfl C.m_names hr (by decide) (jg (ja 0))) jP)))))
  jt)⟩
def ajG:GC3:=qu am7 ajF.1
abbrev abj:Stmt:=top 62
structure CLaw (P:Program) (w:World) (K:Fg) (mg:SV) (base:Heap):Prop where
 m_steps:qO P w K mg base "Bench" "steps" ["self"] 1 1 JT
 m_back:qO P w K mg base "Bench" "back" ["self"] 2 1 Q6
 m_forth:qO P w K mg base "Bench" "forth" ["self"] 2 1 aaF
 m_keep:qO P w K mg base "Bench" "keep" ["self","name"] 5 2 abi
 m_value:qO P w K mg base "Bench" "value" ["self"] 3 1 Jo
 mk_Bench:aoV P w K mg base "Bench" ["self","manner","rods"] 7 3 ait
 k_LNow:ad3 P w K mg base "_law_now" ["_law_bench"] 4 1 ajG
 k_LStep:ad3 P w K mg base "_law_step" ["_law_script","_law_at","_law_bench","_law_manner_here"] 15 4 aiE
 t:Bare mg
 c_manner:jm P w K mg base "_law_manner" ["_law_script","_law_at"] 3 2 Zq
 c_drawn:jm P w K mg base "_law_drawn" ["_law_script","_law_k","_law_many"] 2 3 J8
noncomputable abbrev ahg:List Str:=["_law_script","_law_manner_here","_law_bench","_law_rows","_law_k","_law_before","_law_many","_law_words","_law_back"]
theorem Jz:FnScope ahg ["_law_script"] (je abj):=⟨rfl,rfl,rfl,by decide +kernel,rfl,by decide +kernel,by decide +kernel⟩
theorem am8:(["_law_word"]:List Str).Nodup:=by decide +kernel
theorem am9:(["_law_turn","_law_bench"]:List Str).Nodup:=by decide +kernel
def ana:{ B:TRS // ahc CLaw "law" abj ahg 15 (Zj (aik (jS abj) 3)) B }:=
 ⟨_,fun P w K mg base f Kc A Ko s H E C hr=>
  (jj (Zd 5 Jz.nd (jO rfl C.m_steps hr (by decide) (jg (ja 2))))
  (jj (zx (ajl (aoU (zN C.k_LStep hr (by decide) (jq (jg (ja 0)) (jq (jg (ju jF jh (ju zC jh (ja 4)))) (jq (jg (ja 2)) (jq (jg (ja 1)) jP))))))) (jj (zj (jy zr))
  jt) jt)
  (jj (zx (zw (zp hr.units) (jO rfl C.m_steps hr (by decide) (jg (ja 2))) (jg (ja 5))) (jj (QW (Qv (jg (ja 3)) (zN C.k_LNow hr (by decide) (jq (jg (ja 2)) jP))))
  jt) jt)
  jt)))⟩
def anb:{ B:TRS // ahc CLaw "law" abj ahg 15 (Zj (aik (jS abj) 6)) B }:=
 ⟨_,fun P w K mg base f Kc A Ko s H E C hr=>
  (jj (QW (Qv (jg (ja 7)) (jO rfl C.m_back hr (by decide) (jg (ja 2)))))
  (jj (zx (QV (acO (zw (zp hr.units) (zN C.k_LNow hr (by decide) (jq (jg (ja 2)) jP)) (abQ (jg (ja 3)) (jg (ja 4)))) (aal (zw (zp hr.units) (jO rfl C.m_steps hr (by decide) (jg (ja 2))) (jg (zM (jb (ja 4) (jb (ju qL (ja 6) (ja 4)) jd)))))))) (jj (zj (jy zr))
  jt) jt)
  jt))⟩
def anc:{ B:TRS // ahc CLaw "law" abj ahg 15 (Zj (aik (jS abj) 8)) B }:=
 ⟨_,fun P w K mg base f Kc A Ko s H E C hr=>
  (jj (zx (QV (acO (zw (zp hr.units) (jO rfl C.m_forth hr (by decide) (jg (ja 2))) (abQ (jg (ja 7)) (jg (ju qL (ja 6) (ja 4))))) (aal (zw (zp hr.units) (zN C.k_LNow hr (by decide) (jq (jg (ja 2)) jP)) (abQ (jg (ja 3)) (jg (ja 4))))))) (jj (zj (jy zr))
  jt) jt)
  (jj (zx (zw (zp hr.units) (jO rfl C.m_steps hr (by decide) (jg (ja 2))) (jg (zM (jb (ja 4) (jb (ju qL (ja 6) (ja 4)) jd))))) (jj (zj (jy zr))
  jt) jt)
  jt))⟩
def apo:{ B:TRS // ahc CLaw "law" abj ahg 15 (jS abj) B }:=
 ⟨_,fun P w K mg base f Kc A Ko s H E C hr=>
  (jj (zj (j8 1 Jz.nd (jl C.c_manner hr (by decide) (jb (ja 0) (jb jh jd)) (jc (jc jk)))))
  (jj (Zd 2 Jz.nd (amE rfl C.mk_Bench hr (by decide) (jq (jg (ja 1)) (jq (jg (ju jF jh (jl C.c_drawn hr (by decide) (jb (ja 0) (jb jh (jb jh jd))) (jc (jc (jc jk)))))) jP))))
  (jj (Zd 3 Jz.nd (amQ (jq (zN C.k_LNow hr (by decide) (jq (jg (ja 2)) jP)) jP)))
  (jj (afa PassesOwn.never rfl (ZR rfl C.t.range (jb (ju jF jh (jl C.c_drawn hr (by decide) (jb (ja 0) (jb jh (jb jh jd))) (jc (jc (jc jk))))) jd)) (qi 4 Jz.nd) (ana.2 P w K mg base f Kc A Ko s H E C hr))
  (jj (Zd 6 Jz.nd (aoX 3 (ju qL (jY qX C.t.len qS (jb (ja 3) jd)) jh)))
  (jj (Zd 7 Jz.nd (ae9 (aa0 jd)))
  (jj (afa PassesOwn.never rfl (ahZ rfl C.t.range (jb (ju qL (ja 6) jh) (jb (acD jh) (jb (acD jh) jd)))) (qi 4 Jz.nd) (anb.2 P w K mg base f Kc A Ko s H E C hr))
  (jj (zx (aoY 7 (jT (zp hr.units) (Qq ["_law_word"] [none] rfl (aoO (ja 7)) (JD (je abj) ahg (by decide +kernel))
   fun cl C' s0 H0 fp pn=>⟨(qi 0 am8),(agw (jT (aaW hr.units) (ja 0) (aeZ 2 (.tuple [.str "add",.str "take",.str "push",.str "keep",.str "recall"]) (by kernel_rfl)))),(ja 0)⟩) (QI jd))) (jj (zj (jy zr))
  jt) jt)
  (jj (afa PassesOwn.never rfl (ahO rfl C.t.range (jb jh (jb (ju jF (ja 6) jh) jd))) (qi 4 Jz.nd) (anc.2 P w K mg base f Kc A Ko s H E C hr))
  (jj (zj (j8 8 Jz.nd (jl C.c_drawn hr (by decide) (jb (ja 0) (jb jh (jb (ju jF (ja 6) jh) jd))) (jc (jc (jc jk))))))
  (jj (zx (zw (zp hr.units) (amP ["_law_turn","_law_bench"] [none,some 2] rfl (ZR rfl C.t.range (jb (ja 8) jd)) (JD (je abj) ahg (by decide +kernel))
   fun cl C' s0 H0 fp pn=>⟨(qi 0 am9),(aie C.m_back hr (by decide) (jg (ja 1)))⟩) (apa (jg (ja 7)) (jg (ja 8)))) (jj (zj (jy zr))
  jt) jt)
  (jj (zx (zw (zp hr.units) (jO rfl C.m_steps hr (by decide) (jg (ja 2))) (jg (zM (jb (ju qL (ja 6) (ja 8)) (jb (ja 8) jd))))) (jj (zj (jy zr))
  jt) jt)
  (jj (zx (QV (acO (zw (zp hr.units) (qP rfl C.m_keep hr (by decide) (jg (ja 2)) (jq (jg zA) jP)) (jO rfl C.m_value hr (by decide) (jg (ja 2)))) (aal (zw (zp hr.units) (jO rfl C.m_steps hr (by decide) (jg (ja 2))) (jg (zM (jb (ju jF (ju qL (ja 6) (ja 8)) jh) (jb jh jd)))))))) (jj (zj (jy zr))
  jt) jt)
  (jj (zx (zw (zp hr.units) (jO rfl C.m_back hr (by decide) (jg (ja 2))) (jg zA)) (jj (zj (jy zr))
  jt) jt)
  (jj (qq (ajn (JH (ze hr.units) (zN C.k_LNow hr (by decide) (jq (jg (ja 2)) jP)) (abQ (jg (ja 3)) (jg (ju qL (ja 6) (ja 8))))) (ajm (JH (ze hr.units) (jO rfl C.m_steps hr (by decide) (jg (ja 2))) (jg (zM (jb (ju qL (ja 6) (ja 8)) (jb jh jd))))))))
  jt)))))))))))))))⟩
def ane:GC3:=qu ahg apo.1
theorem j2 (i a b:Int):jV [.int i,.int a,.int b]=some (.bool (decide (a<=i) && decide (i<=b))):=by
 by_cases h:a<=i <;> simp [jV,jA,aar,jJ,jR,ifS,orB,tst,lkp,Jv,tyn,asB,zB,chn,zn,qo,qx,h]
theorem Qz (u e l b x y:Int) (h:-18446744073709551616<x/\x<18446744073709551616):qD [.tuple [.int u,.int e,.int l,.int b],.tuple [.int x,.int y]]=some (.int (x*e+y)):=by
 simp [qD,jA,aa7,jJ,jR,op2,lkp,dIx,atI,ixN,qo,qx,cst,aaV,Jd,h]
theorem akY (x y:Int):Ji [.tuple [.int x,.int y]]=some (.int (x+y)):=by
 simp [Ji,jA,aih,jJ,jR,op2,lkp,dIx,atI,ixN,qo,qx,cst,Jd]
theorem afU {n:Nat}{i:Int} (h0:0<=i) (h:i.toNat<n):ixN n i=some i.toNat:=by
 unfold ixN
 rw [if_pos h0,if_pos (by omega)]
noncomputable def okN (u e l b:Int):Bool:=decide (0<=u) && decide (u<=3) && decide (1<=e) && decide (e<=5) && decide (e - 1<=l) && decide (1<=l) && decide (l<=11) && decide (2<=b) && decide (b<=16) && decide (b<=u*e+l+1)
def zb (u l:Int):LP:=QC (u+1).toNat (l+1).toNat
noncomputable def j0 (e:Int):PyData->Int
 | .tuple [.int x,.int y]=>x*e+y
 | _=>-1
def fpr (m:PyData) (d:Int):Int × Int:=match JJ [m,.int d] with
 | some (.tuple [.int x,.int y])=>(x,y)
 | _=>(0,0)
noncomputable def pr (p:Int × Int):PyData:= .tuple [.int p.1,.int p.2]
def jN (ps:List (Int × Int)):PyData:= .tuple (ps.map pr)
noncomputable def okP (u l:Int) (p:Int × Int):Bool:=decide (0<=p.1) && decide (p.1<=u) && decide (0<=p.2) && decide (p.2<=l)
def okS (u l:Int) (ps:List (Int × Int)):Bool:=decide (1<=ps.length) && decide (ps.length<=4) && ps.all (okP u l)
noncomputable def wt (e:Int) (p:Int × Int):Int:=p.1*e+p.2
def val (b e:Int) (ps:List (Int × Int)):Int:=ps.foldl (fun n p=>n*b+wt e p) 0
def small (b e:Int) (ps:List (Int × Int)):Bool:=ps.all fun p=>decide (wt e p<b)
noncomputable def dgl (b:Int):Nat->Int->List Int
 | 0,_=>[]
 | 1,n=>[n]
 | k+2,n=>dgl b (k+1) (n / b)++[n % b]
def pln (m:PyData) (b:Int) (r:Nat) (n:Int):List (Int × Int):=(dgl b r n).map (fpr m)
noncomputable def f00:Int × Int:=(0,0)
def asW (e:Int):List Int->LP->List Int
 | c,[]=>c
 | c,r::rs=>asW e (c.set (j0 e r).toNat (c.getD (j0 e r).toNat 0+1)) rs
def asX (u e l:Int):List Int:=asW e (List.replicate (u*e+l+1).toNat 0) (zb u l)
def cnt (u e l n:Int):Int:=((zb u l).filter fun r=>j0 e r == n).length
noncomputable def okM (u e l b:Int):Bool:=decide (0<=u) && decide (u<=3) && decide (1<=e) && decide (e<=5) && decide (e - 1<=l) && decide (1<=l) && decide (l<=10) && decide (2<=b) && decide (b<=16) && decide (b<=u*e+l+1)
theorem aei {n m:Nat}{d:PyData} (h:d ∈ QC n m):∃ i j:Nat,i<n/\j<m/\d= .tuple [.int i,.int j]:=by
 obtain ⟨i,hi,hd⟩:=List.mem_flatMap.mp h
 obtain ⟨j,hj,rfl⟩:=List.mem_map.mp hd
 exact ⟨i,j,List.mem_range.mp hi,List.mem_range.mp hj,rfl⟩
theorem JU (i:Int):okD (.int i)=true:=by simp [okD,PyData.canLay0,PyData.depth]
theorem abz {u e l b:Int} (hu:0<=u) (hu':u<100) (hl:0<=l) (hl':l<100):Jx [js u e l b]=some (.list (zb u l)):=by
 simp [Jx,js,zb,hu,hl,show u<1000 by omega,show l<1000 by omega]
theorem ahh {u l:Int} (hu':u<100) (hl':l<100):few (zb u l)=true:=by
 simp only [few,zb,ag0,decide_eq_true_eq]
 have:(u+1).toNat*(l+1).toNat<=100*100:=Nat.mul_le_mul (by omega) (by omega)
 omega
theorem aej {u e l b:Int} (hu':u<100) {d:PyData} (h:d ∈ zb u l):qD [js u e l b,d]=some (.int (j0 e d)):=by
 obtain ⟨i,j,hi,hj,rfl⟩:=aei h
 exact Qz u e l b i j (by omega)
theorem anf (ns:List Int):okD (.list (ns.map PyData.int))=true:=by
 have h1:∀ ns:List Int,PyData.canLayAll0 (ns.map PyData.int)=true:=fun ns=>by
  induction ns with
  | nil=>rfl
  | cons n ns ih=>simp [PyData.canLayAll0,PyData.canLay0,ih]
 have h2:∀ ns:List Int,PyData.depthAll (ns.map PyData.int)=0:=fun ns=>by
  induction ns with
  | nil=>rfl
  | cons n ns ih=>simp [PyData.depthAll,PyData.depth,ih]
 simp [okD,PyData.canLay0,h1,PyData.depth,h2]
theorem ang (ns:List Int) (d:Int):(ns.map PyData.int).any (fun z=>PyData.eqv z (.int d))=ns.any (fun z=>z == d):=by
 induction ns with
 | nil=>rfl
 | cons n ns ih=>simp only [List.map_cons,List.any_cons,ih]; rfl
theorem acg {α:Type} (f:α->Bool):∀ xs:List α,bls (xs.map fun d=>PyData.bool (f d))=some (xs.map f)
 | []=>rfl
 | x::xs=>by simp [bls,asB,acg f xs]
theorem ix3 (u e l b:Int):dIx (js u e l b) (.int 3)=some (.int b):=rfl
theorem afV {j:Int} (h:0<=j) (h':j<1000000):agv [.int j]=some (Jb 0 j.toNat):=by
 unfold agv
 exact if_pos (by omega)
theorem Zv (a b:Int):PyData.eqv (.int a) (.int b)=(a == b):=by unfold PyData.eqv; rfl
theorem ada {u e l b:Int} (hu:0<=u) (hu':u<100) (hl:0<=l) (hl':l<100) (hb:0<=b) (hb':b<100):aas [js u e l b]=some (.bool ((List.range b.toNat).all fun d=>((zb u l).map (j0 e)).any fun z=>z == (d:Int))):=by
 have h1:=abz (e:=e) (b:=b) hu hu' hl hl'
 have h2:=ahh hu' hl'
 have h4:few (Jb 0 b.toNat)=true:=by simp [few,Jb]; omega
 simp only [aas,jA,aff,jJ,jR,qo,Qc,itL,jL,jr,jB,lkp,QJ,List.length_cons,List.length_nil,zzM,List.map_cons,List.map_nil,List.cons_append,List.nil_append,zzA,zzC,zzD,zzE,h1,h2,aaU,qQ]
 rw [Qe (fun d=> .int (j0 e d))]
 ·simp only [jK,qx,op2,cst,lkp,zzD,zzE,zzF,zzG,List.replicate,List.length_cons,List.length_nil,zzA,zzB,zzC,ix3,afV hb (show b<1000000 by omega),h4,zzM]
  rw [Qe (fun d=> .bool (((zb u l).map (j0 e)).any fun z=>z == (Z4 d).getD 0))]
  ·have:(Jb 0 b.toNat).map (fun d=>PyData.bool (((zb u l).map (j0 e)).any fun z=>z == (Z4 d).getD 0))=(List.range b.toNat).map fun (d:Nat)=>PyData.bool (((zb u l).map (j0 e)).any fun z=>z == (d:Int)):=by
    simp [Jb,Z4,Function.comp_def]
   simp only [zzE,zzD,this,al2,acg (fun (d:Nat)=>((zb u l).map (j0 e)).any fun z=>z == (d:Int)),List.all_map,Function.comp_def,id]
  ·intro d hd
   obtain ⟨k,_,rfl⟩:=List.mem_map.mp hd
   have h5:(zb u l).map (fun d=>PyData.int (j0 e d))=((zb u l).map (j0 e)).map PyData.int:=by simp
   have h6:=anf ((zb u l).map (j0 e))
   simp only [op2,lkp,zzG,zzA,zzB,zzC,zzD,dIn,JU,h5,h6,ang]
   simp [Z4]
 ·intro d hd
  simp [jL,jr,jB,lkp,aej (b:=b) (e:=e) hu' hd]
theorem afW {u e l b:Int} (hu:0<=u) (hu':u<=3) (he:1<=e) (he':e<=16) (hl:0<=l) (hl':l<=12) (hb:2<=b) (hb':b<=16):qW [js u e l b]=aas [js u e l b]:=by
 have g:=ada (e:=e) hu (by omega) hl (by omega) (show 0<=b by omega) (by omega)
 have w1:jV [.int u,.int 0,.int 3]=some (.bool true):=by rw [j2]; simp [hu,hu']
 have w2:jV [.int e,.int 1,.int 16]=some (.bool true):=by rw [j2]; simp [he,he']
 have w3:jV [.int l,.int 0,.int 12]=some (.bool true):=by rw [j2]; simp [hl,hl']
 have w4:jV [.int b,.int 2,.int 16]=some (.bool true):=by rw [j2]; simp [hb,hb']
 have z:ajd [js u e l b,.tuple [.int 0,.int 1,.int 0,.int 2],.tuple [.int 3,.int 16,.int 12,.int 16]]=some [.tuple [.int u,.int 0,.int 3],.tuple [.int e,.int 1,.int 16],.tuple [.int l,.int 0,.int 12],.tuple [.int b,.int 2,.int 16]]:=rfl
 rw [g]
 rw [show js u e l b= .tuple [.int u,.int e,.int l,.int b] from rfl] at g z ⊢
 simp [qW,jA,aa8,jJ,jR,ifS,orB,zB,tst,Jv,tyn,asB,lkp,op2,jL,jr,jB,zI,cst,dNe,JU,Zv,qx,aaT,z,qj,zy,jE,qp,jK,w1,w2,w3,w4,qo,g]
theorem Qk {m:PyData} (h:qW [m]=some (.bool true)):QY [m]=some .none:=by
 simp [QY,jA,aij,jJ,jR,ifS,zB,tst,asB,jL,jr,jB,lkp,h,qx]
theorem aaG:few []=true:=by simp [few]
theorem add_int (i j:Int):Jd (.int i) (.int j)=some (.int (i+j)):=rfl
theorem zo {i j:Int} (h:-1000000000000<i/\i<1000000000000):aaV (.int i) (.int j)=some (.int (i*j)):=by
 unfold aaV; exact if_pos (.inl ⟨by omega,by omega⟩)
theorem ach {i j:Int} (h:0<j):akm (.int i) (.int j)=some (.int (i % j)):=by unfold akm; exact if_pos h
theorem Q7 {i j:Int} (h:0<j) (h':j<1000000000):acw (.int i) (.int j)=some (.int (i / j)):=by unfold acw; exact if_pos ⟨h,by omega⟩
theorem anh (ns:List Int) (hn:ns.length<1000000) (k:Int) (hk:0<=k):∃ c,ag5 [scr ns,.int k]=some (.int c):=by
 cases ns with
 | nil=>
  refine ⟨7*k,?_⟩
  simp [ag5,jA,ajx,jJ,jR,ifS,tst,op2,lkp,Ja,jB,few,dEq,scr,zJ,asB,qo,cst,zo,qx]
 | cons n ns=>
  have hl:0<(((n::ns).map fun n=>(PyData.int n,PyData.none)).length:Int):=by simp
  have hl':(((n::ns).map fun n=>(PyData.int n,PyData.none)).length:Int)<1000000:=by simp at hn ⊢; omega
  have hsc:=adQ (n::ns)
  have e1:dEq (scr (n::ns)) (.list [])=some (.bool false):=by
   show (if zJ ((n::ns).map fun n=>(PyData.int n,PyData.none))=true then some (PyData.bool ((n::ns).map fun n=>(PyData.int n,PyData.none)).isEmpty) else none)=_
   rw [if_pos hsc]; rfl
  have e2:zI [scr (n::ns)]=some (.int (((n::ns).map fun n=>(PyData.int n,PyData.none)).length)):=by
   show (if zJ ((n::ns).map fun n=>(PyData.int n,PyData.none))=true then some (PyData.int ((n::ns).map fun n=>(PyData.int n,PyData.none)).length) else none)=_
   rw [if_pos hsc]
  generalize hL:(((n::ns).map fun n=>(PyData.int n,PyData.none)).length:Int)=L at*
  have h0:0<=k % L:=Int.emod_nonneg _ (by omega)
  have h1:k % L<L:=Int.emod_lt_of_pos _ hl
  have e3:∃ c,dIx (scr (n::ns)) (.int (k % L))=some (.int c):=by
   have hlen:((n::ns).map fun n=>(PyData.int n,PyData.none)).length<1000000:=by omega
   have hlt:(k % L).toNat<((n::ns).map fun n=>(PyData.int n,PyData.none)).length:=by omega
   have hx:ixN ((n::ns).map fun n=>(PyData.int n,PyData.none)).length (k % L)=some (k % L).toNat:=afU h0 hlt
   refine ⟨((n::ns)[(k % L).toNat]'(by simpa using hlt)),?_⟩
   show (if ((n::ns).map fun n=>(PyData.int n,PyData.none)).length<1000000/\zJ ((n::ns).map fun n=>(PyData.int n,PyData.none))=true then (atI ((n::ns).map fun n=>(PyData.int n,PyData.none)) (k % L)).map (·.1) else none)=_
   rw [if_pos ⟨hlen,hsc⟩]
   unfold atI
   rw [hx,zzD,List.getElem?_eq_getElem hlt,zzE,List.getElem_map]
  obtain ⟨c,e3⟩:=e3
  refine ⟨c+6553*(k / L),?_⟩
  simp [ag5,jA,ajx,jJ,jR,ifS,tst,op2,lkp,Ja,jB,few,asB,qo,cst,qx,jL,jr,e1,e2,e3,ach hl,Q7 hl (show L<1000000000 by omega),zo,add_int]
theorem qE (ns:List Int) (hn:ns.length<1000000) (k m:Int) (hk:0<=k) (hm:0<m):∃ r,J8 [scr ns,.int k,.int m]=some (.int r)/\0<=r/\r<m:=by
 obtain ⟨c,hc⟩:=anh ns hn k hk
 generalize h1:(c % 2147483563*69069+104723*(k+1)) % 2147483563=a
 generalize h2:(a*a+a / 3) % 2147483399=d
 have ha:0<=a/\a<2147483563:=by rw [←h1]; exact ⟨Int.emod_nonneg _ (by omega),Int.emod_lt_of_pos _ (by omega)⟩
 have hd:0<=d/\d<2147483399:=by rw [←h2]; exact ⟨Int.emod_nonneg _ (by omega),Int.emod_lt_of_pos _ (by omega)⟩
 have hc':0<=c % 2147483563/\c % 2147483563<2147483563:=⟨Int.emod_nonneg _ (by omega),Int.emod_lt_of_pos _ (by omega)⟩
 refine ⟨(d*d+d / 7) % 2147483647 / 11 % m,?_,Int.emod_nonneg _ (by omega),Int.emod_lt_of_pos _ hm⟩
 have m1:aaV (.int (c % 2147483563)) (.int 69069)=some (.int (c % 2147483563*69069)):=zo (by omega)
 have m2:aaV (.int 104723) (.int (k+1))=some (.int (104723*(k+1))):=zo (by omega)
 have m3:aaV (.int a) (.int a)=some (.int (a*a)):=zo (by omega)
 have m4:aaV (.int d) (.int d)=some (.int (d*d)):=zo (by omega)
 simp [J8,jA,aim,jJ,jR,qQ,jK,op2,lkp,jB,qo,cst,qx,jL,jr,hc,m1,m2,m3,m4,ach,Q7,add_int,h1,h2,hm]
theorem ani (w:Int) (h0:0<=w) (h:w<12):∃ u e l b,dIx (.list (abc++abd)) (.int w)=some (js u e l b)/\okM u e l b=true:=by
 obtain ⟨n,rfl⟩:=Int.eq_ofNat_of_zero_le h0
 have hn:n<12:=by omega
 have:∀ n<12,∃ u e l b,dIx (.list (abc++abd)) (.int (n:Nat))=some (js u e l b)/\okM u e l b=true:=by
  intro n hn
  match n,hn with
  | 0,_=>exact ⟨_,_,_,_,rfl,by decide⟩
  | 1,_=>exact ⟨_,_,_,_,rfl,by decide⟩
  | 2,_=>exact ⟨_,_,_,_,rfl,by decide⟩
  | 3,_=>exact ⟨_,_,_,_,rfl,by decide⟩
  | 4,_=>exact ⟨_,_,_,_,rfl,by decide⟩
  | 5,_=>exact ⟨_,_,_,_,rfl,by decide⟩
  | 6,_=>exact ⟨_,_,_,_,rfl,by decide⟩
  | 7,_=>exact ⟨_,_,_,_,rfl,by decide⟩
  | 8,_=>exact ⟨_,_,_,_,rfl,by decide⟩
  | 9,_=>exact ⟨_,_,_,_,rfl,by decide⟩
  | 10,_=>exact ⟨_,_,_,_,rfl,by decide⟩
  | 11,_=>exact ⟨_,_,_,_,rfl,by decide⟩
  | k+12,h=>omega
 exact this n hn
theorem aiF (ns:List Int) (hn:ns.length<1000000) (k:Int) (hk:0<=k):∃ u e l b,Zq [scr ns,.int k]=some (js u e l b)/\okM u e l b=true:=by
 obtain ⟨w,hw,hw0,hw1⟩:=qE ns hn k 24 hk (by omega)
 have a1:Jd (.list abc) (.list abd)=some (.list (abc++abd)):=rfl
 have a2:zI [.list (abc++abd)]=some (.int 12):=rfl
 have a3:aaV (.int 2) (.int 12)=some (.int 24):=rfl
 by_cases hlt:w<12
 ·obtain ⟨u,e,l,b,h1,h2⟩:=ani w hw0 hlt
  refine ⟨u,e,l,b,?_,h2⟩
  simp [Zq,jA,abV,jJ,jR,qQ,jK,op2,lkp,jB,qo,cst,qx,jL,jr,ifS,tst,asB,a1,a2,a3,hw,zn,hlt,h1]
 ·obtain ⟨r1,e1,p1,q1⟩:=qE ns hn (k+1) 5 (by omega) (by omega)
  obtain ⟨r2,e2,p2,q2⟩:=qE ns hn (k+2) 4 (by omega) (by omega)
  obtain ⟨r3,e3,p3,q3⟩:=qE ns hn (k+3) 4 (by omega) (by omega)
  generalize hlo:(if (1:Int) > 1+r1 - 1 then 1 else 1+r1 - 1)+r3=lo
  have hlo1:1<=lo/\r1<=lo/\lo<=10:=by
   rw [←hlo]; split <;> omega
  have hue:0<=r2*(1+r1)/\r2*(1+r1)<=3*5:=⟨Int.mul_nonneg p2 (by omega),Int.mul_le_mul (by omega) (by omega) (by omega) (by omega)⟩
  generalize hmn:(if r2*(1+r1)+lo<15 then r2*(1+r1)+lo else 15)=mn
  have hmn1:0<mn/\mn<=15/\mn<=r2*(1+r1)+lo:=by
   rw [←hmn]; split <;> omega
  obtain ⟨r4,e4,p4,q4⟩:=qE ns hn (k+4) mn (by omega) (by omega)
  refine ⟨r2,1+r1,lo,2+r4,?_,?_⟩
  ·have m1:aaV (.int r2) (.int (1+r1))=some (.int (r2*(1+r1))):=zo (by omega)
   have x1:al1 [.int (1+r1 - 1),.int 1]=some (.int (if (1:Int) > 1+r1 - 1 then 1 else 1+r1 - 1)):=rfl
   have x2:aja [.int 15,.int (r2*(1+r1)+lo)]=some (.int (if r2*(1+r1)+lo<15 then r2*(1+r1)+lo else 15)):=rfl
   have x3:Z3 (.int (1+r1)) (.int 1)=some (.int (1+r1 - 1)):=rfl
   simp only [Zq,jA,abV,jJ,jR,qQ,jK,op2,lkp,jB,qo,cst,qx,jL,jr,ifS,tst,asB,a1,a2,a3,hw,zn,hlt,zzD,zzE,zzF,zzG,List.replicate,List.length_cons,List.length_nil,zzM,List.map_cons,List.map_nil,List.cons_append,List.nil_append,zzA,zzB,zzC,add_int,e1,e2,e3,m1,x1,x2,x3,decide_false,hlo,hmn,e4]
   simp [e1,e2,e3,m1,x1,x2,x3,hlo,hmn,e4,add_int,lkp,QF,jr,jB,few,js]
   simp only [QF,jr,jB,lkp,op2,jL,cst,zzD,zzE,zzA,zzB,zzC,add_int,m1,x2,hmn,e4]
   simp
  ·have:=hue.1
   simp [okM]
   omega
noncomputable def isInt (t:Int):PyData->Bool
 | .int x=>x == t
 | _=>false
def arr (u e l:Int):Bool:=
 isInt (u*e+l) (aqX none ((zb u l).map (j0 e))) &&
 ((List.range (u*e+l+1).toNat).all fun n=>(zb u l).any fun r=>j0 e r == (n:Int)) &&
 ((zb u l).all fun r=>decide (0<=j0 e r) && decide (j0 e r<=u*e+l)) &&
 decide (asX u e l=(List.range (u*e+l+1).toNat).map fun (n:Nat)=>cnt u e l n)
def zu:Bool:=(List.range 4).all fun (i:Nat)=>(List.range 5).all fun (j:Nat)=>(List.range 11).all fun (k:Nat)=>decide (k+1<j) || arr i (j+1) (k+1)
structure Chk (u e l:Int):Prop where
 most:aqX none ((zb u l).map (j0 e))= .int (u*e+l)
 dig:∀ n:Nat,n<(u*e+l+1).toNat->((zb u l).any fun r=>j0 e r == (n:Int))=true
 rng:∀ r ∈ zb u l,0<=j0 e r/\j0 e r<=u*e+l
 lst:asX u e l=(List.range (u*e+l+1).toNat).map fun (n:Nat)=>cnt u e l n
theorem ars {u e l:Int} (h:arr u e l=true):Chk u e l:=by
 simp only [arr,Bool.and_eq_true,List.all_eq_true,decide_eq_true_eq] at h
 obtain ⟨⟨⟨h1,h2⟩,h3⟩,h4⟩:=h
 refine ⟨?_,fun n hn=>h2 n (List.mem_range.mpr hn),fun r hr=>h3 r hr,h4⟩
 generalize aqX none ((zb u l).map (j0 e))=x at h1
 cases x <;> simp [isInt] at h1
 rw [h1]
theorem qC {u e l b:Int} (h:okN u e l b=true):0<=u/\u<=3/\1<=e/\e<=5/\e - 1<=l/\1<=l/\l<=11/\2<=b/\b<=16/\b<=u*e+l+1:=by
 simp only [okN,Bool.and_eq_true,decide_eq_true_eq] at h
 omega
theorem art {u e l b:Int} (H:zu=true) (h:okN u e l b=true):Chk u e l:=by
 obtain ⟨a1,a2,a3,a4,a5,a6,a7,_⟩:=qC h
 simp only [zu,List.all_eq_true,Bool.or_eq_true,decide_eq_true_eq] at H
 have:=H u.toNat (List.mem_range.mpr (by omega)) (e - 1).toNat (List.mem_range.mpr (by omega)) (l - 1).toNat (List.mem_range.mpr (by omega))
 rcases this with z | z
 ·exfalso; omega
 ·rw [show ((u.toNat:Nat):Int)=u by omega,show (((e - 1).toNat:Nat):Int)+1=e by omega,show (((l - 1).toNat:Nat):Int)+1=l by omega] at z
  exact ars z
theorem apq {u e l b:Int} (h:okM u e l b=true):okN u e l b=true:=by
 simp only [okM,okN,Bool.and_eq_true,decide_eq_true_eq] at h ⊢
 omega
theorem anj {u e l b:Int} (H:zu=true) (h:okN u e l b=true) {n:Int} (h0:0<=n) (hn:n<b):((zb u l).any fun r=>j0 e r == n)=true:=by
 obtain ⟨a1,a2,a3,a4,a5,a6,a7,a8,a9,a10⟩:=qC h
 have:=(art H h).dig n.toNat (by omega)
 rw [show ((n.toNat:Nat):Int)=n by omega] at this
 exact this
def Q8 (u e l w:Int):LP:=(zb u l).filter fun r=>j0 e r == w
theorem afX {u e l b w:Int} (hu:0<=u) (hu':u<100) (hl:0<=l) (hl':l<100):Zi [js u e l b,.int w]=some (.list (Q8 u e l w)):=by
 have h1:=abz (e:=e) (b:=b) hu hu' hl hl'
 have h2:=ahh hu' hl'
 simp only [Zi,jA,aa9,jJ,jR,qo,Qc,itL,jL,jr,jB,lkp,QJ,List.length_cons,List.length_nil,zzM,List.map_cons,List.map_nil,List.cons_append,List.nil_append,zzA,zzC,zzD,zzE,h1,h2,aaU]
 rw [Z7 (fun d=>j0 e d == w) id]
 ·simp [Q8]
 ·intro d hd
  simp [tst,op2,jL,jr,jB,lkp,aej (b:=b) (e:=e) hu' hd,dEq,JU,PyData.eqv,asB]
 ·intro d hd _
  simp [lkp]
theorem abk (kf:PyData->Int):∀ (r:LP) (d:PyData),ZI kf d r=d ∨ ZI kf d r ∈ r
 | [],d=> .inl rfl
 | x::r,d=>by
  unfold ZI
  split
  ·rcases abk kf r x with z | z
   ·exact .inr (by rw [z]; exact List.mem_cons_self)
   ·exact .inr (List.mem_cons_of_mem _ z)
  ·rcases abk kf r d with z | z
   ·exact .inl z
   ·exact .inr (List.mem_cons_of_mem _ z)
def Q9 (m:PyData) (d:Int):PyData:=pr (fpr m d)
theorem Zw {u e l b:Int} (H:zu=true) (h:okN u e l b=true) {d:Int} (h0:0<=d) (hd:d<b):
  JJ [js u e l b,.int d]=some (Q9 (js u e l b) d)/\wt e (fpr (js u e l b) d)=d/\okP u l (fpr (js u e l b) d)=true:=by
 obtain ⟨a1,a2,a3,a4,a5,a6,a7,a8,a9,a10⟩:=qC h
 have hw:=afX (e:=e) (b:=b) (w:=d) a1 (show u<100 by omega) (show 0<=l by omega) (show l<100 by omega)
 have any:=anj H h h0 hd
 have rods:∀ r ∈ Q8 u e l d,∃ i j:Nat,r= .tuple [.int i,.int j]/\(i:Int)*e+j=d/\(i:Int)<=u/\(j:Int)<=l:=fun r hr=>by
  obtain ⟨h1,h2⟩:=List.mem_filter.mp hr
  obtain ⟨i,j,q1,q2,rfl⟩:=aei h1
  exact ⟨i,j,rfl,by simpa [j0] using h2,by omega,by omega⟩
 have kb:∀ i j:Nat,Ji [.tuple [.int i,.int j]]=some (.int (i+j)):=fun i j=>akY i j
 have hk:acz Ji (Q8 u e l d)=true:=List.all_eq_true.mpr fun r hr=>by
  obtain ⟨i,j,rfl,_,_⟩:=rods r hr
  rw [kb]; rfl
 have mem:adv (Z9 Ji) none (Q8 u e l d) ∈ Q8 u e l d:=by
  cases hr:Q8 u e l d with
  | nil=>
   exfalso
   obtain ⟨r,h1,h2⟩:=List.any_eq_true.mp any
   have:r ∈ Q8 u e l d:=List.mem_filter.mpr ⟨h1,h2⟩
   rw [hr] at this; cases this
  | cons r rs=>
   show ZI (Z9 Ji) r rs ∈ r::rs
   rcases abk (Z9 Ji) rs r with z | z
   ·rw [z]; exact List.mem_cons_self
   ·exact List.mem_cons_of_mem _ z
 obtain ⟨i,j,e1,e2,e3,e4⟩:=rods _ mem
 have g:JJ [js u e l b,.int d]=some (.tuple [.int i,.int j]):=by
  have hm:aaZ Ji (.list (Q8 u e l d))=some (.tuple [.int i,.int j]):=by
   show (if acz Ji (Q8 u e l d)=true then some (adv (Z9 Ji) none (Q8 u e l d)) else none)=_
   rw [if_pos hk,e1]
  simp [JJ,jA,afg,jJ,jR,jL,jr,jB,lkp,qo,hw,hm]
 have f:fpr (js u e l b) d=((i:Int),(j:Int)):=by unfold fpr; rw [g]
 unfold Q9
 rw [f]
 refine ⟨g,e2,?_⟩
 simp only [okP,Bool.and_eq_true,decide_eq_true_eq]
 exact ⟨⟨⟨by omega,e3⟩,by omega⟩,e4⟩
end Rods
theorem Rods.allN_true:Rods.zu=true:=by decide +kernel
namespace Rods
open PySem L2 BX
open PyProof.Rows hiding St
theorem Zx {tc:Rho->Option Bool}{F:RO}{n:Nat}{ρ ρ':Rho} (h:tc ρ=some true) (h':F ρ=some (.nx ρ')):zD tc F (n+1) ρ=zD tc F n ρ':=by
 show (tc ρ).bind _=_
 rw [h,h']
 rfl
theorem aci {tc:Rho->Option Bool}{F:RO}{n:Nat}{ρ:Rho} (h:tc ρ=some false):zD tc F (n+1) ρ=some (.nx ρ):=by
 show (tc ρ).bind _=_
 rw [h]
 rfl
theorem qy {F G:RO}{ρ ρ1:Rho} (h:F ρ=some (.nx ρ1)):jR F G ρ=G ρ1:=by
 unfold jR
 rw [h]
 rfl
theorem qM {N:List Str}{n:Nat}{B:RO}{ds:LP}{d:PyData} (hl:ds.length=n) (h:B (jJ N ds)=some (.rt d)):jA N n B ds=some d:=by
 unfold jA
 rw [if_pos hl,h]
def tcD:Rho->Option Bool:=tst (op2 (zn fun i j=>decide (i<j)) (jL zI (jr (lkp 3) jB)) (op2 Z3 (lkp 1) (cst (.int 1))))
theorem aek {b k:Int}{r n:OP}{ds:LP} (hb:0<b) (hb':b<=16) (hl:ds.length<1000):
  ZY.1 [some (.int b),r,n,some (.list ds),some (.int k)]=some (.nx [some (.int b),r,n,some (.list (.int (k % b)::ds)),some (.int (k / b))]):=by
 have m1:∀ i:Int,akm (.int i) (.int b)=some (.int (i % b)):=fun i=>ach hb
 have m2:∀ i:Int,acw (.int i) (.int b)=some (.int (i / b)):=fun i=>Q7 hb (by omega)
 have hl':ds.length<1000000:=by omega
 simp [ZY,jR,amh,asy,aoG,op2,lkp,cst,m1,m2,noL,hl',qQ,jK,brw,hid,qx]
theorem J9 {b:OP}{r:Int}{n k:OP}{ds:LP}:tcD [b,some (.int r),n,some (.list ds),k]=some (decide ((ds.length:Int)<r - 1)):=by
 simp [tcD,tst,op2,jL,jr,jB,lkp,cst,zI,Z3,zn,asB]
theorem afY {b r n:Int}{ds:LP}{k:Int} (hl:zD tcD ZY.1 10 [some (.int b),some (.int r),some (.int n),some (.list []),some (.int n)]=some (.nx [some (.int b),some (.int r),some (.int n),some (.list ds),some (.int k)]))
  (hd:ds.length<100) (hn:noLs ds=true):abG [.int b,.int r,.int n]=some (.list (.int k::ds)):=by
 have f0:few []=true:=aaG
 have f1:few [PyData.int k]=true:=by rw [few]; exact decide_eq_true (by show 1<1000000; decide)
 have f2:few ([PyData.int k]++ds)=true:=by
  rw [few]
  refine decide_eq_true ?_
  rw [List.length_append,List.length_singleton]
  omega
 have e:aph.1 [some (.int b),some (.int r),some (.int n),none,none]=some (.rt (.list (.int k::ds))):=by
  simp only [aph]
  show aa1 3 (Ja jB) (jR (qQ (brw (some 3) (lkp 2)) (jK 4)) (jR (zD tcD ZY.1 10) (jR (qo (op2 Jd (Ja (jr (lkp 4) jB)) (lkp 3))) qx))) _=_
  have h2:jR (zD tcD ZY.1 10) (jR (qo (op2 Jd (Ja (jr (lkp 4) jB)) (lkp 3))) qx) [some (.int b),some (.int r),some (.int n),some (.list []),some (.int n)]=some (.rt (.list (.int k::ds))):=by
   unfold jR
   rw [hl]
   simp only [zzD,qo,op2,Ja,jr,jB,lkp,zzA,zzB,zzC,zzE,f1,zzM,Jd,f2]
   rfl
  have h1:qQ (brw (some 3) (lkp 2)) (jK 4) [some (.int b),some (.int r),some (.int n),some (.list []),none]=some (.nx [some (.int b),some (.int r),some (.int n),some (.list []),some (.int n)]):=rfl
  have h3:jR (qQ (brw (some 3) (lkp 2)) (jK 4)) (jR (zD tcD ZY.1 10) (jR (qo (op2 Jd (Ja (jr (lkp 4) jB)) (lkp 3))) qx)) [some (.int b),some (.int r),some (.int n),some (.list []),none]=some (.rt (.list (.int k::ds))):=by
   rw [←h2]
   conv=>lhs; unfold jR
   rw [h1]
   rfl
  unfold aa1
  simp only [Ja,jB,zzD,f0,zzM,List.length_cons,List.length_nil]
  rw [if_pos (by decide)]
  simp only [zzF,zzG,h3,zzD]
 exact qM rfl e
theorem acj {b n:Int} (hb:0<b) (hb':b<=16) {r:Nat} (h1:1<=r) (h4:r<=4):abG [.int b,.int (r:Int),.int n]=some (.list ((dgl b r n).map .int)):=by
 have:r=1 ∨ r=2 ∨ r=3 ∨ r=4:=by omega
 rcases this with e | e | e | e <;> subst e
 ·refine afY (ds:=[]) (k:=n) ?_ (by simp) (by simp [noLs,noL])
  rw [aci (J9.trans (by rfl))]
 ·refine afY (ds:=[.int (n % b)]) (k:=n / b) ?_ (by simp) (by simp [noLs,noL])
  rw [Zx (J9.trans (by rfl)) (aek hb hb' (by simp)),aci (J9.trans (by rfl))]
 ·refine afY (ds:=[.int (n / b % b),.int (n % b)]) (k:=n / b / b) ?_ (by simp) (by simp [noLs,noL])
  rw [Zx (J9.trans (by rfl)) (aek hb hb' (by simp)),Zx (J9.trans (by rfl)) (aek hb hb' (by simp)),aci (J9.trans (by rfl))]
 ·refine afY (ds:=[.int (n / b / b % b),.int (n / b % b),.int (n % b)]) (k:=n / b / b / b) ?_ (by simp) (by simp [noLs,noL])
  rw [Zx (J9.trans (by rfl)) (aek hb hb' (by simp)),Zx (J9.trans (by rfl)) (aek hb hb' (by simp)),Zx (J9.trans (by rfl)) (aek hb hb' (by simp)),aci (J9.trans (by rfl))]
theorem pw1 (b:Int):b ^ 1=b:=by rw [Int.pow_succ,Int.pow_zero,Int.one_mul]
theorem adb {b:Int} (hb:0<b):∀ r:Nat,0<b ^ r
 | 0=>by simp
 | r+1=>by rw [Int.pow_succ]; exact Int.mul_pos (adb hb r) hb
theorem aqa {b:Int} (h0:0<b) (h:b<=16):∀ r:Nat,b ^ r<=16 ^ r
 | 0=>by simp
 | r+1=>by
  rw [Int.pow_succ,Int.pow_succ]
  exact Int.mul_le_mul (aqa h0 h r) h (by omega) (Int.le_of_lt (adb (by decide) r))
theorem aru {b:Int} (h0:0<b) (h:b<=16) {r:Nat} (hr:r<=4):b ^ r<=65536:=by
 have:r=0 ∨ r=1 ∨ r=2 ∨ r=3 ∨ r=4:=by omega
 have:=aqa h0 h r
 rcases ‹r=0 ∨ _› with e | e | e | e | e <;> subst e <;> first | (exact Int.le_trans this (by decide))
theorem adc (b:Int) (k:Nat) (n:Int):dgl b (k+2) n=dgl b (k+1) (n / b)++[n % b]:=rfl
theorem Zy (b:Int):∀ (r:Nat) (n:Int),(dgl b r n).length=r
 | 0,_=>rfl
 | 1,_=>rfl
 | k+2,n=>by rw [adc,List.length_append,Zy b (k+1)]; rfl
theorem ael {b n:Int} (hb:0<b) {k:Nat} (h:n<b ^ (k+1)):n / b<b ^ k:=
 Int.ediv_lt_of_lt_mul hb (by rw [←Int.pow_succ]; exact h)
theorem afZ {b:Int} (hb:0<b):∀ (r:Nat) (n:Int),0<=n->n<b ^ r->∀ d ∈ dgl b r n,0<=d/\d<b
 | 0,n,_,_,d,hd=>by cases hd
 | 1,n,h0,h1,d,hd=>by
  rw [show dgl b 1 n=[n] from rfl,List.mem_singleton] at hd
  subst hd
  exact ⟨h0,by rw [pw1] at h1; exact h1⟩
 | k+2,n,h0,h1,d,hd=>by
  rw [adc] at hd
  rcases List.mem_append.mp hd with q | q
  ·exact afZ hb (k+1) (n / b) (Int.ediv_nonneg h0 (by omega)) (ael hb h1) d q
  ·rw [List.mem_singleton] at q
   subst q
   exact ⟨Int.emod_nonneg _ (by omega),Int.emod_lt_of_pos _ hb⟩
theorem aaH {b:Int} (hb:0<b):∀ (k:Nat) (n:Int),0<=n->∃ x r,dgl b (k+1) n=x::r/\(n<b ^ (k+1)->x<b)/\(b ^ (k+1)<=n->b<=x)
 | 0,n,h0=>⟨n,[],rfl,fun h=>by rw [Nat.zero_add,pw1] at h; exact h,fun h=>by rw [Nat.zero_add,pw1] at h; exact h⟩
 | k+1,n,h0=>by
  obtain ⟨x,r,e,h1,h2⟩:=aaH hb k (n / b) (Int.ediv_nonneg h0 (by omega))
  refine ⟨x,r++[n % b],?_,fun h=>h1 (ael hb h),fun h=>h2 ?_⟩
  ·rw [adc,e]; rfl
  ·refine Int.le_ediv_of_mul_le hb ?_
   rw [←Int.pow_succ]; exact h
section
variable {u e l b:Int}
theorem af0 (m:PyData) (b:Int) (r:Nat) (n:Int):(pln m b r n).length=r:=by rw [pln,List.length_map,Zy]
theorem ank (H:zu=true) (h:okN u e l b=true) {r:Nat}{n:Int} (h1:1<=r) (h4:r<=4) (h0:0<=n) (hn:n<b ^ r):okS u l (pln (js u e l b) b r n)=true:=by
 obtain ⟨a1,a2,a3,a4,a5,a6,a7,a8,a9,a10⟩:=qC h
 simp only [okS,Bool.and_eq_true,decide_eq_true_eq,af0]
 refine ⟨⟨h1,h4⟩,List.all_eq_true.mpr fun p hp=>?_⟩
 obtain ⟨d,hd,rfl⟩:=List.mem_map.mp hp
 obtain ⟨d0,d1⟩:=afZ (show 0<b by omega) r n h0 hn d hd
 exact (Zw H h d0 d1).2.2
theorem Js {u l:Int}{p:Int × Int} (h:okP u l p=true):0<=p.1/\p.1<=u/\0<=p.2/\p.2<=l:=by
 simp only [okP,Bool.and_eq_true,decide_eq_true_eq] at h
 exact ⟨h.1.1.1,h.1.1.2,h.1.2,h.2⟩
theorem anl {e u l:Int} (he:1<=e) {p:Int × Int} (h:okP u l p=true):0<=wt e p:=by
 obtain ⟨h1,h2,h3,h4⟩:=Js h
 have:=Int.mul_nonneg h1 (show 0<=e by omega)
 unfold wt; omega
theorem aqb {e u l:Int} (he:1<=e) (he5:e<=5) (hu:u<=3) (hl:l<=11) {p:Int × Int} (h:okP u l p=true):wt e p<=26:=by
 obtain ⟨h1,h2,h3,h4⟩:=Js h
 have:p.1*e<=3*5:=Int.mul_le_mul (by omega) he5 (by omega) (by omega)
 unfold wt; omega
theorem ajH {b e u l:Int} (h2:2<=b) (hb:b<=16) (he:1<=e) (he5:e<=5) (hu:u<=3) (hl:l<=11):∀ (ps:List (Int × Int)) (acc:Int),ps.all (okP u l)=true->0<=acc->0<=ps.foldl (fun n p=>n*b+wt e p) acc/\ps.foldl (fun n p=>n*b+wt e p) acc+30<=(acc+30)*16 ^ ps.length
 | [],acc,_,h=>⟨h,by simp⟩
 | p::ps,acc,hp,h=>by
  rw [List.all_cons,Bool.and_eq_true] at hp
  have w0:=anl he hp.1
  have w1:=aqb he he5 hu hl hp.1
  have ha:0<=acc*b:=Int.mul_nonneg h (by omega)
  have hb2:acc*b<=acc*16:=Int.mul_le_mul_of_nonneg_left hb h
  obtain ⟨h1,h3⟩:=ajH h2 hb he he5 hu hl ps (acc*b+wt e p) hp.2 (by omega)
  refine ⟨h1,Int.le_trans h3 ?_⟩
  rw [List.length_cons,Int.pow_succ,Int.mul_comm (16 ^ ps.length) 16,←Int.mul_assoc]
  refine Int.mul_le_mul_of_nonneg_right ?_ (Int.le_of_lt (adb (by decide) _))
  omega
theorem arv (h:okN u e l b=true) {ps:List (Int × Int)} (hp:ps.all (okP u l)=true):0<=val b e ps:=by
 obtain ⟨a1,a2,a3,a4,a5,a6,a7,a8,a9,a10⟩:=qC h
 exact (ajH a8 a9 a3 a4 a2 a7 ps 0 hp (by omega)).1
end
theorem JV {ds:LP} (h:ds.length<10000):few ds=true:=by
 rw [few]
 refine decide_eq_true ?_
 omega
theorem akZ {u e l b:Int} (H:zu=true) (h:okN u e l b=true):qW [js u e l b]=some (.bool true):=by
 obtain ⟨a1,a2,a3,a4,a5,a6,a7,a8,a9,a10⟩:=qC h
 rw [afW a1 a2 a3 (by omega) (by omega) (by omega) a8 a9,ada a1 (by omega) (by omega) (by omega) (by omega) (by omega)]
 congr 2
 refine List.all_eq_true.mpr fun d hd=>?_
 have:=anj H h (n:=(d:Int)) (by omega) (by have:=List.mem_range.mp hd; omega)
 simpa [List.any_map,Function.comp_def] using this
theorem abl {u l:Int}{ps:List (Int × Int)} (h:okS u l ps=true):1<=ps.length/\ps.length<=4/\ps.all (okP u l)=true:=by
 simp only [okS,Bool.and_eq_true,decide_eq_true_eq] at h
 exact ⟨h.1.1,h.1.2,h.2⟩
theorem arw {u l:Int}{ps:List (Int × Int)} (h1:1<=ps.length) (h2:ps.length<=4) (h3:ps.all (okP u l)=true):okS u l ps=true:=by
 simp only [okS,Bool.and_eq_true,decide_eq_true_eq]
 exact ⟨⟨h1,h2⟩,h3⟩
section
variable {u e l b:Int}{ps qs:List (Int × Int)}
theorem ahi (h:okN u e l b=true) {S:PyData}:∀ (qs:List (Int × Int)) (acc:Int) (x:OP),qs.all (okP u l)=true->0<=acc->(acc+30)*16 ^ qs.length<=1000000000->
  ∃ y,qj (jK 3) afi.1 (qs.map pr) [some (js u e l b),some S,some (.int acc),x]=some (.nx [some (js u e l b),some S,some (.int (qs.foldl (fun n p=>n*b+wt e p) acc)),y])
 | [],acc,x,_,_,_=>⟨x,rfl⟩
 | q::qs,acc,x,hq,h0,hB=>by
  obtain ⟨a1,a2,a3,a4,a5,a6,a7,a8,a9,a10⟩:=qC h
  rw [List.all_cons,Bool.and_eq_true] at hq
  obtain ⟨q1,q2,q3,q4⟩:=Js hq.1
  have w0:=anl a3 hq.1
  have w1:=aqb a3 a4 a2 a7 hq.1
  have hp:=adb (b:=16) (by decide) qs.length
  rw [List.length_cons,Int.pow_succ,Int.mul_comm (16 ^ qs.length) 16,←Int.mul_assoc] at hB
  have ha:0<=acc*b:=Int.mul_nonneg h0 (by omega)
  have hb2:acc*b<=acc*16:=Int.mul_le_mul_of_nonneg_left a9 h0
  have hB':(acc*b+wt e q+30)*16 ^ qs.length<=1000000000:=Int.le_trans (Int.mul_le_mul_of_nonneg_right (by omega) (Int.le_of_lt hp)) hB
  have hacc:acc<=1000000000:=by
   have h1:(acc+30)*16*1<=(acc+30)*16*16 ^ qs.length:=Int.mul_le_mul_of_nonneg_left (by omega) (by omega)
   omega
  have m1:aaV (.int acc) (.int b)=some (.int (acc*b)):=zo ⟨by omega,by omega⟩
  have w':qD [js u e l b,pr q]=some (.int (wt e q)):=Qz u e l b q.1 q.2 (by omega)
  have step:afi.1 [some (js u e l b),some S,some (.int acc),some (pr q)]=some (.nx [some (js u e l b),some S,some (.int (acc*b+wt e q)),some (pr q)]):=by
   simp only [afi,jR,qQ,op2,jL,jr,jB,lkp,cst,jK,zzA,zzB,zzC,zzD,zzE,ix3,m1,w',add_int,zzF,zzG,qx]
  obtain ⟨y,hy⟩:=ahi h (S:=S) qs (acc*b+wt e q) (some (pr q)) hq.2 (by omega) hB'
  refine ⟨y,?_⟩
  rw [List.map_cons]
  simp only [qj,jK,zzD,zzF,zzG,step]
  exact hy
theorem ajI (h:okN u e l b=true) (h4:ps.length<=4) (hp:ps.all (okP u l)=true):QG [js u e l b,jN ps]=some (.int (val b e ps)):=by
 have hB:(0+30:Int)*16 ^ ps.length<=1000000000:=by
  have:=aru (b:=16) (by decide) (by decide) h4
  omega
 obtain ⟨y,hy⟩:=ahi h (S:=jN ps) ps 0 none hp (by omega) hB
 refine qM rfl ?_
 show apf.1 [some (js u e l b),some (jN ps),none,none]=_
 simp only [apf]
 refine (qy (ρ1:=[some (js u e l b),some (jN ps),some (.int 0),none]) ?_).trans ?_
 ·simp only [qQ,cst,jK,zzD,zzE,zzF,zzG]
 refine (qy (ρ1:=[some (js u e l b),some (jN ps),some (.int (val b e ps)),y]) ?_).trans ?_
 ·show (itT (lkp 1) _).bind _=_
  rw [show itT (lkp 1) [some (js u e l b),some (jN ps),some (.int 0),none]=some (ps.map pr) from rfl]
  exact hy
 rfl
theorem ak0 {p:Int × Int} (hp:okP u l p=true):J1 [js u e l b,pr p]=some (.bool true):=by
 obtain ⟨q1,q2,q3,q4⟩:=Js hp
 have w1:jV [.int p.1,.int 0,.int u]=some (.bool true):=by rw [j2]; simp [q1,q2]
 have w2:jV [.int p.2,.int 0,.int l]=some (.bool true):=by rw [j2]; simp [q3,q4]
 simp [J1,jA,aba,jJ,jR,ifS,orB,zB,tst,Jv,tyn,asB,lkp,op2,jL,jr,jB,zI,cst,dNe,JU,Zv,qx,qo,ae3,pr,js,dIx,atI,ixN,w1,w2]
theorem ak1 (H:zu=true) (h:okN u e l b=true) (hs:okS u l ps=true):acZ [js u e l b,jN ps]=some (.bool true):=by
 obtain ⟨h1,h4,hp⟩:=abl hs
 have g0:=Qk (akZ H h)
 have hf:few (ps.map pr)=true:=JV (by rw [List.length_map]; omega)
 have c1:zn (fun i j=>decide (i<=j)) (.int 1) (.int ((ps.map pr).length:Int))=some (.bool true):=by
  show some (PyData.bool (decide ((1:Int)<=((ps.map pr).length:Int))))=_
  rw [decide_eq_true (by rw [List.length_map]; omega)]
 have c2:zn (fun i j=>decide (i<=j)) (.int ((ps.map pr).length:Int)) (.int 4)=some (.bool true):=by
  show some (PyData.bool (decide (((ps.map pr).length:Int)<=4)))=_
  rw [decide_eq_true (by rw [List.length_map]; omega)]
 refine qM rfl ?_
 show abb.1 [some (js u e l b),some (jN ps)]=_
 simp only [abb]
 refine (qy (ρ1:=[some (js u e l b),some (jN ps)]) ?_).trans ?_
 ·simp only [abD,jL,jr,jB,lkp,zzA,zzB,zzC,zzD,zzE,g0]
 refine (qy (ρ1:=[some (js u e l b),some (jN ps)]) ?_).trans ?_
 ·simp [ifS,orB,zB,tst,Jv,tyn,asB,lkp,jN,chn,jL,jr,jB,zI,cst,qx]
  simp [List.length_map] at c1 c2
  simp [c1,c2]
  rfl
 simp only [jR,qo,jL,jr,jB,Qc,itT,lkp,jN,aaS,zzA,zzB,zzC,zzD,zzE,hf,zzM,aaU,List.map_cons,List.map_nil,zzH]
 rw [Qe (fun _=> .bool true)]
 ·have:bls ((ps.map pr).map fun _=>PyData.bool true)=some ((ps.map pr).map fun _=>true):=acg (fun _=>true) _
  simp only [zzE,zzD,al2,this]
  simp
 ·intro d hd
  obtain ⟨p,hp',rfl⟩:=List.mem_map.mp hd
  simp [jL,jr,jB,lkp,ak0 (e:=e) (b:=b) (List.all_eq_true.mp hp p hp')]
theorem anm (H:zu=true) (h:okN u e l b=true) (hs:okS u l ps=true):qB [js u e l b,jN ps]=some .none:=by
 have g:=ak1 H h hs
 simp [qB,jA,abT,jJ,jR,ifS,zB,tst,asB,jL,jr,jB,lkp,g,qx]
end
theorem ann {n:Int} (h0:0<=n) (h1:n<=99999):qT [.int n]=some .none:=by
 have w:jV [.int n,.int 0,.int 99999]=some (.bool true):=by rw [j2]; simp [h0,h1]
 simp [qT,jA,abS,jJ,jR,ifS,zB,tst,asB,jL,jr,jB,lkp,cst,w,qx]
theorem ano {n:Int} (h0:1<=n) (h1:n<=4):Jg [.int n]=some .none:=by
 have w:jV [.int n,.int 1,.int 4]=some (.bool true):=by rw [j2]; simp [h0,h1]
 simp [Jg,jA,aat,jJ,jR,ifS,zB,tst,asB,jL,jr,jB,lkp,cst,w,qx]
section
variable {u e l b:Int}{ps qs:List (Int × Int)}
theorem Zz (i j:Int):dEq (.int i) (.int j)=some (.bool (decide (i=j))):=by
 have:(i == j)=decide (i=j):=rfl
 simp only [dEq,JU,Zv,and_self,zzM,this]
theorem anp {b:Int}{r:Nat}{n x:Int}{xs:List Int} (h4:r<=4) (hx:dgl b r n=x::xs):dIx (.list ((dgl b r n).map .int)) (.int 0)=some (.int x):=by
 have hl:=Zy b r n
 have hlt:((dgl b r n).map PyData.int).length<1000000:=by rw [List.length_map,hl]; omega
 show (if ((dgl b r n).map PyData.int).length<1000000 then atI ((dgl b r n).map PyData.int) 0 else none)=_
 rw [if_pos hlt,hx]
 simp [atI,ixN]
theorem add (H:zu=true) (h:okN u e l b=true) {r:Nat}{n:Int} (h1:1<=r) (h4:r<=4) (h0:0<=n) (hn:n<b ^ r):JK [js u e l b,.int (r:Int),.int n]=some (jN (pln (js u e l b) b r n)):=by
 obtain ⟨a1,a2,a3,a4,a5,a6,a7,a8,a9,a10⟩:=qC h
 have hb:0<b:=by omega
 have hd:=acj (n:=n) hb a9 h1 h4
 have hg:=afZ hb r n h0 hn
 have hl:=Zy b r n
 obtain ⟨k,rfl⟩:∃ k,r=k+1:=⟨r - 1,by omega⟩
 obtain ⟨x,xs,hx,hx1,_⟩:=aaH hb k n h0
 have hi:=anp h4 hx
 have hc:zn (fun i j=>decide (j<=i)) (.int x) (.int b)=some (.bool false):=by
  show some (PyData.bool (decide (b<=x)))=_
  rw [decide_eq_false (by have:=hx1 hn; omega)]
 have hf:few ((dgl b (k+1) n).map .int)=true:=JV (by rw [List.length_map,hl]; omega)
 generalize hr:((k+1:Nat):Int)=rr at hd ⊢
 refine qM rfl ?_
 show Zo.1 [some (js u e l b),some (.int rr),some (.int n),none]=_
 simp only [Zo]
 refine (qy (ρ1:=[some (js u e l b),some (.int rr),some (.int n),some (.list ((dgl b (k+1) n).map .int))]) ?_).trans ?_
 ·simp only [qQ,jL,jr,jB,op2,lkp,cst,jK,zzA,zzB,zzC,zzD,zzE,ix3,hd,zzF,zzG]
 refine (qy (ρ1:=[some (js u e l b),some (.int rr),some (.int n),some (.list ((dgl b (k+1) n).map .int))]) ?_).trans ?_
 ·simp only [ifS,tst,op2,lkp,cst,zzA,zzB,zzC,zzD,hi,ix3,hc,asB,zzL,zzN,qx]
 simp only [jR,qo,jL,jr,jB,Qc,itL,lkp,QJ,zzA,zzB,zzC,zzD,zzE,hf,zzM,aaU,List.map_cons,List.map_nil,zzH]
 rw [Qe (fun d=>Q9 (js u e l b) ((Z4 d).getD 0))]
 ·simp [ae4,jN,pln,Q9,Z4,Function.comp_def]
 ·intro d hd
  obtain ⟨i,hi,rfl⟩:=List.mem_map.mp hd
  simp [jL,jr,jB,lkp,Z4,(Zw H h (hg i hi).1 (hg i hi).2).1]
theorem ade (ps:List (Int × Int)):zI [jN ps]=some (.int (ps.length:Int)):=by
 show some (PyData.int ((ps.map pr).length:Int))=_
 rw [List.length_map]
end
end Rods
namespace BX
open PySem PySem.Spec L2
open PyProof.Rows hiding St
theorem anq {n j:Nat}{d:PyData} (h:(Jb 0 n)[j]?=some d):j<n/\d= .int j:=by
 simp only [Jb,List.getElem?_map] at h
 cases hj:(List.range n)[j]? with
 | none=>rw [hj] at h; cases h
 | some k=>
  rw [hj] at h
  obtain ⟨h1,h2⟩:=List.getElem?_eq_some_iff.mp hj
  simp at h1 h2
  subst h2
  simp at h
  exact ⟨h1,h.symm⟩
theorem adf (n:Nat):(Jb 0 n).length=n:=by simp [Jb]
end BX
namespace Rods
open PySem L2 BX
open PyProof.Rows hiding St
section
variable {u e l b:Int}
theorem ak2 (H:zu=true) (h:okN u e l b=true) {r n:Int} (h1:1<=r) (h4:r<=4) (h0:0<=n) (hn:n<=99999):ZX [js u e l b,.int r,.int n]=some .none:=by
 have g1:=Qk (akZ H h)
 have g2:Jg [.int r]=some .none:=ano h1 h4
 have g3:qT [.int n]=some .none:=ann h0 hn
 simp [ZX,jA,ail,jJ,jR,abD,jL,jr,jB,lkp,g1,g2,g3,qx]
end
section
variable {u e l b:Int}{ps qs:List (Int × Int)}
theorem ajJ {xs ys:LP} (hx:xs ≠ [] ∨ True) (hl:xs.length+ys.length<10000):Jd (.tuple xs) (.tuple ys)=some (.tuple (xs++ys)):=by
 cases xs with
 | nil=>rfl
 | cons x xs=>
  have hf:few ((x::xs)++ys)=true:=JV (by rw [List.length_append]; exact hl)
  show (if few ((x::xs)++ys)=true then some (PyData.tuple ((x::xs)++ys)) else none)=_
  rw [if_pos hf]
theorem zH {N:List Str}{n:Nat}{F:Rho->Option Str}{ds:LP} (hl:ds.length=n):zh N n F ds=F (jJ N ds):=by
 unfold zh
 rw [if_pos hl]
end
section
variable {u e l b:Int}
def QH (m:PyData) (c:Nat × Int):PyData:= .tuple [.int (c.1:Int),Q9 m c.2]
theorem ajK {g:LP->OP}{k:Nat}{m S:PyData}{r:Int}:(jA nDA 4 (bDA g k).1) [m,S,.int r,.int 0]=some (.list []):=by
 have e0:=Zz 0 0
 rw [decide_eq_true rfl] at e0
 refine qM rfl ?_
 show (bDA g k).1 [some m,some S,some (.int r),some (.int 0),none,none]=_
 simp only [bDA,jR,ifS,tst,op2,qo,Ja,jB,lkp,cst,zzA,zzB,zzC,zzD,zzE,e0,asB,zzM,aaG]
theorem asY {g:LP->OP}{k:Nat}{m S R F:PyData}{A:LP}{r w dg b:Int} (hd:dg ≠ 0) (hr:0<=r) (hx:dIx S (.int r)=some R) (hw:qD [m,R]=some (.int w)) (hs:g [m,S,.int (r - 1),.int ((w+dg) / b)]=some (.list A)) (hb:dIx m (.int 3)=some (.int b)) (b0:0<b) (b1:b<=16)
  (hf:JJ [m,.int ((w+dg) % b)]=some F) (hA:A.length<1000):(jA nDA 4 (bDA g k).1) [m,S,.int r,.int dg]=some (.list (A++[.tuple [.int r,F]])):=by
 have e0:=Zz dg 0
 rw [decide_eq_false hd] at e0
 have s1:Z3 (.int r) (.int 1)=some (.int (r - 1)):=rfl
 have a0:Jd (.int w) (.int dg)=some (.int (w+dg)):=rfl
 have q1:acw (.int (w+dg)) (.int b)=some (.int ((w+dg) / b)):=Q7 b0 (by omega)
 have q2:akm (.int (w+dg)) (.int b)=some (.int ((w+dg) % b)):=ach b0
 have c0:zn (fun i j=>decide (i<j)) (.int r) (.int 0)=some (.bool false):=by
  show some (PyData.bool (decide (r<0)))=_
  rw [decide_eq_false (by omega)]
 have f1:few [PyData.int r,F]=true:=JV (by simp)
 have f2:few [PyData.tuple [PyData.int r,F]]=true:=JV (by simp)
 have a1:Jd (.list A) (.list [.tuple [.int r,F]])=some (.list (A++[.tuple [.int r,F]])):=by
  show (if few (A++[.tuple [.int r,F]])=true then some (PyData.list (A++[.tuple [.int r,F]])) else none)=_
  rw [if_pos (JV (by rw [List.length_append,List.length_singleton]; omega))]
 refine qM rfl ?_
 show (bDA g k).1 [some m,some S,some (.int r),some (.int dg),none,none]=_
 simp only [bDA]
 refine (qy (ρ1:=[some m,some S,some (.int r),some (.int dg),none,none]) ?_).trans ?_
 ·simp only [ifS,tst,op2,lkp,cst,zzA,zzB,zzC,zzD,zzE,e0,asB,zzL,zzN,qx]
 refine (qy (ρ1:=[some m,some S,some (.int r),some (.int dg),none,none]) ?_).trans ?_
 ·simp only [ifS,tst,op2,lkp,cst,zzA,zzB,zzC,zzD,zzE,c0,asB,zzL,zzN,qx]
 refine (qy (ρ1:=[some m,some S,some (.int r),some (.int dg),some (.int (w+dg)),none]) ?_).trans ?_
 ·simp only [qQ,op2,jL,jr,jB,lkp,jK,zzA,zzB,zzC,zzD,zzE,hx,hw,a0,zzF,zzG]
 refine (qy (ρ1:=[some m,some S,some (.int r),some (.int dg),some (.int (w+dg)),some (.list A)]) ?_).trans ?_
 ·simp only [qQ,op2,jL,jr,jB,lkp,cst,jK,zzA,zzB,zzC,zzD,zzE,s1,hb,q1,hs,zzF,zzG]
 simp only [jR,qo,op2,Ja,QF,jL,jr,jB,lkp,cst,zzA,zzB,zzC,zzD,zzE,hb,q2,hf,f1,f2,zzM,a1]
end
theorem apr (m:PyData) (c:Nat × Int):noL (QH m c)=true:=by simp [QH,Q9,pr,noL,noLs]
theorem anr (m:PyData) (cs:List (Nat × Int)):noLs (cs.map (QH m))=true:=acy fun d hd=>by
 obtain ⟨c,_,rfl⟩:=List.mem_map.mp hd
 exact apr m c
section
variable {u e l b:Int}
theorem arx {x:Str}{g:LP->OP}{m S N now now':PyData}{ch es:LP}{i dg:Int}{x8:OP} (hg:g [m,now,.int i,.int dg]=some (.list es)) (hb:aio [now,.list es]=some now') (hn:noLs es=true) (hl:ch.length+es.length<1000000):
  (zl x g).1 [some m,some S,some N,some (fnD x),some (.list ch),some now,some (.int i),some (.int dg),x8]=some (.nx [some m,some S,some N,some (fnD x),some (.list (ch++es)),some now',some (.int i),some (.int dg),some (.list es)]):=by
 have hF:=acI x
 have hx:aoF (some (.list ch)) (some (.list es))=some (.list (ch++es)):=by
  show (if noLs es=true/\ch.length+es.length<1000000 then some (PyData.list (ch++es)) else none)=_
  rw [if_pos ⟨hn,hl⟩]
 simp only [zl]
 refine (qy (ρ1:=[some m,some S,some N,some (fnD x),some (.list ch),some now,some (.int i),some (.int dg),some (.list es)]) ?_).trans ?_
 ·simp only [qQ,brw,hid,ah6,jr,jB,lkp,jK,zzA,zzB,zzC,zzD,zzE,hF,zzM,hg,zzF,zzG]
 refine (qy (ρ1:=[some m,some S,some N,some (fnD x),some (.list ch),some now',some (.int i),some (.int dg),some (.list es)]) ?_).trans ?_
 ·simp only [qQ,brw,hid,jL,jr,jB,lkp,jK,zzA,zzB,zzC,zzD,zzE,hb,zzF,zzG]
 refine (qy (ρ1:=[some m,some S,some N,some (fnD x),some (.list (ch++es)),some now',some (.int i),some (.int dg),some (.list es)]) ?_).trans rfl
 simp only [amh,asw,lkp,zzA,zzB,zzC,zzD,zzE,hx,zzF,zzG]
theorem ZA {N:List Str}{n:Nat}{B:RO}{ds:LP} (h:B (jJ N ds)=none):jA N n B ds=none:=by
 unfold jA
 split
 ·rw [h]
 ·rfl
theorem ans {m S C:PyData}{n:Int} (ct:gCA [m,S,.int n,fnD "digit_added"]=some C):ag8 [m,S,.int n]=some C:=by
 refine qM rfl ?_
 show akR.1 [some m,some S,some (.int n)]=_
 simp only [akR,jR,qo,jL,jr,jB,lkp,cst,zzA,zzB,zzC,zzD,zzE,ct]
end
theorem ary {g:LP->OP}{t:LP->Option Str}{k:Nat}{m S:PyData}{r dg:Int} (hd:dg ≠ 0) (hr:r<0):(jA nDA 4 (bDA g k).1) [m,S,.int r,.int dg]=none/\(zh nDA 4 (xDA g t k).1) [m,S,.int r,.int dg]=some ("TooGreat":Str):=by
 have e0:=Zz dg 0
 rw [decide_eq_false hd] at e0
 have c0:zn (fun i j=>decide (i<j)) (.int r) (.int 0)=some (.bool true):=by
  show some (PyData.bool (decide (r<0)))=_
  rw [decide_eq_true hr]
 constructor
 ·refine ZA ?_
  show (bDA g k).1 [some m,some S,some (.int r),some (.int dg),none,none]=_
  simp only [bDA]
  refine (qy (ρ1:=[some m,some S,some (.int r),some (.int dg),none,none]) ?_).trans ?_
  ·simp only [ifS,tst,op2,lkp,cst,zzA,zzB,zzC,zzD,zzE,e0,asB,zzL,zzN,qx]
  simp only [jR,ifS,tst,op2,lkp,cst,zzA,zzB,zzC,zzD,zzE,c0,asB,zzM,aor,zzH]
 ·refine (zH rfl).trans ?_
  show (xDA g t k).1 [some m,some S,some (.int r),some (.int dg),none,none]=_
  simp only [xDA,orX,nxX,ifX,ifS,tst,op2,lkp,cst,zzA,zzB,zzC,zzD,zzE,e0,asB,zzL,zzN,qx,c0,zzM]
theorem arz {g:LP->OP}{t:LP->Option Str}{k:Nat}{m S R:PyData}{r w dg b:Int}{c:Str} (hd:dg ≠ 0) (hr:0<=r) (hx:dIx S (.int r)=some R) (hw:qD [m,R]=some (.int w)) (hb:dIx m (.int 3)=some (.int b)) (b0:0<b) (b1:b<=16)
  (hs:g [m,S,.int (r - 1),.int ((w+dg) / b)]=none) (ht:t [m,S,.int (r - 1),.int ((w+dg) / b)]=some c):(jA nDA 4 (bDA g k).1) [m,S,.int r,.int dg]=none/\(zh nDA 4 (xDA g t k).1) [m,S,.int r,.int dg]=some c:=by
 have e0:=Zz dg 0
 rw [decide_eq_false hd] at e0
 have s1:Z3 (.int r) (.int 1)=some (.int (r - 1)):=rfl
 have a0:Jd (.int w) (.int dg)=some (.int (w+dg)):=rfl
 have q1:acw (.int (w+dg)) (.int b)=some (.int ((w+dg) / b)):=Q7 b0 (by omega)
 have c0:zn (fun i j=>decide (i<j)) (.int r) (.int 0)=some (.bool false):=by
  show some (PyData.bool (decide (r<0)))=_
  rw [decide_eq_false (by omega)]
 constructor
 ·refine ZA ?_
  show (bDA g k).1 [some m,some S,some (.int r),some (.int dg),none,none]=_
  simp only [bDA]
  refine (qy (ρ1:=[some m,some S,some (.int r),some (.int dg),none,none]) ?_).trans ?_
  ·simp only [ifS,tst,op2,lkp,cst,zzA,zzB,zzC,zzD,zzE,e0,asB,zzL,zzN,qx]
  refine (qy (ρ1:=[some m,some S,some (.int r),some (.int dg),none,none]) ?_).trans ?_
  ·simp only [ifS,tst,op2,lkp,cst,zzA,zzB,zzC,zzD,zzE,c0,asB,zzL,zzN,qx]
  refine (qy (ρ1:=[some m,some S,some (.int r),some (.int dg),some (.int (w+dg)),none]) ?_).trans ?_
  ·simp only [qQ,op2,jL,jr,jB,lkp,jK,zzA,zzB,zzC,zzD,zzE,hx,hw,a0,zzF,zzG]
  simp only [jR,qQ,op2,jL,jr,jB,lkp,cst,jK,zzA,zzB,zzC,zzD,zzE,s1,hb,q1,hs,zzH]
 ·refine (zH rfl).trans ?_
  show (xDA g t k).1 [some m,some S,some (.int r),some (.int dg),none,none]=_
  simp only [xDA,orX,nxX,ifX,ah2,ifS,tst,op2,lkp,cst,zzA,zzB,zzC,zzD,zzE,e0,asB,zzL,zzN,qx,c0,qQ,jL,jr,jB,jK,hx,hw,a0,zzF,zzG,s1,hb,q1,ht]
section
variable {u e l b:Int}
abbrev fxC (x:Str) (t:LP->Option Str):Rho->Option Str:=aq4 (some 4) (acL 3 x t (jr (lkp 0) (jr (lkp 5) (jr (lkp 6) (jr (lkp 7) jB)))))
theorem aps {x:Str}{g:LP->OP}{t:LP->Option Str}{m S N now:PyData}{ch:LP}{i dg:Int}{x8:OP}{c:Str} (hg:g [m,now,.int i,.int dg]=none) (ht:t [m,now,.int i,.int dg]=some c):
  (zl x g).1 [some m,some S,some N,some (fnD x),some (.list ch),some now,some (.int i),some (.int dg),x8]=none/\fxC x t [some m,some S,some N,some (fnD x),some (.list ch),some now,some (.int i),some (.int dg),x8]=some c:=by
 have hF:=acI x
 constructor
 ·simp only [zl,jR,qQ,brw,hid,ah6,jr,jB,lkp,zzA,zzB,zzC,zzD,zzE,hF,zzM,hg,zzF,zzG,zzH]
 ·simp only [fxC,aq4,hid,acL,jr,jB,lkp,zzA,zzB,zzC,zzD,zzE,hF,zzM,ht,zzF,zzG]
theorem arA {m S:PyData}{n:Int}{c:Str} (n1:gCA [m,S,.int n,fnD "digit_added"]=none) (n2:tCA [m,S,.int n,fnD "digit_added"]=some c):ag8 [m,S,.int n]=none/\amW [m,S,.int n]=some c:=by
 constructor
 ·refine ZA ?_
  show akR.1 [some m,some S,some (.int n)]=_
  simp only [akR,jR,qo,jL,jr,jB,lkp,cst,zzA,zzB,zzC,zzD,zzE,n1,zzI,zzH]
 ·refine (zH rfl).trans ?_
  show apl.1 [some m,some S,some (.int n)]=_
  simp only [apl,jr,jB,lkp,cst,zzA,zzB,zzC,zzD,zzE,n2]
end
section
variable {u e l b:Int}{ps qs:List (Int × Int)}
theorem aiG (h:okN u e l b=true) {r:Nat}{n:Int} (h1:1<=r) (h4:r<=4) (h0:0<=n) (hn:b ^ r<=n):aaB [js u e l b,.int (r:Int),.int n]=some ("TooGreat":Str):=by
 obtain ⟨a1,a2,a3,a4,a5,a6,a7,a8,a9,a10⟩:=qC h
 have hb:0<b:=by omega
 have hd:=acj (n:=n) hb a9 h1 h4
 obtain ⟨k,rfl⟩:∃ k,r=k+1:=⟨r - 1,by omega⟩
 obtain ⟨x,xs,hx,_,hx2⟩:=aaH hb k n h0
 have hi:=anp h4 hx
 have hc:zn (fun i j=>decide (j<=i)) (.int x) (.int b)=some (.bool true):=by
  show some (PyData.bool (decide (b<=x)))=_
  rw [decide_eq_true (hx2 hn)]
 generalize hr:((k+1:Nat):Int)=rr at hd ⊢
 refine (zH rfl).trans ?_
 show ab3.1 [some (js u e l b),some (.int rr),some (.int n),none]=_
 simp only [ab3,nxX,qQ,jL,jr,jB,op2,lkp,cst,jK,zzA,zzB,zzC,zzD,zzE,ix3,hd,zzF,zzG,ifX,tst,hi,hc,asB,zzM]
end
theorem asZ (ds:LP) (k:Nat):aad ds none (some (k:Int))=ds.take k:=by
 unfold aad
 rw [HT.sIx_none,HT.sIx_nat,List.drop_zero,Nat.sub_zero]
 by_cases h:k<=ds.length
 ·rw [Nat.min_eq_left h]
 ·rw [Nat.min_eq_right (by omega),List.take_of_length_le (by omega),List.take_of_length_le (by omega)]
theorem apt (ds:LP) (k:Nat):aad ds (some (k:Int)) none=ds.drop k:=by
 unfold aad
 rw [HT.sIx_none,HT.sIx_nat]
 by_cases h:k<=ds.length
 ·rw [Nat.min_eq_left h,List.take_of_length_le (by rw [List.length_drop]; omega)]
 ·rw [Nat.min_eq_right (by omega),List.drop_of_length_le (by omega),List.drop_of_length_le (by omega),List.take_nil]
noncomputable def whB (a b:Int):PyData->Bool
 | .int i=>decide (a<=i) && decide (i<=b)
 | _=>false
theorem abA (d:PyData) (hd:noD d=true) (a b:Int):jV [d,.int a,.int b]=some (.bool (whB a b d)):=by
 cases d with
 | int i=>exact j2 i a b
 | dict k=>simp [noD] at hd
 | _=>simp [jV,jA,aar,jJ,jR,ifS,orB,tst,lkp,Jv,tyn,asB,zB,chn,zn,qo,qx,whB,cst]
def adB (u l:Int):PyData->Bool
 | .tuple [x,y]=>whB 0 u x && whB 0 l y
 | _=>false
theorem ant {ds:LP} (h:noDs ds=true):∀ d ∈ ds,noD d=true:=by
 induction ds with
 | nil=>intro d hd; cases hd
 | cons x xs ih=>
  have h':noD x=true/\noDs xs=true:=by simpa [noDs] using h
  intro d hd
  rcases List.mem_cons.mp hd with rfl | q
  ·exact h'.1
  ·exact ih h'.2 d q
section
variable {u e l b:Int}
theorem ak3 (d:PyData) (hd:noD d=true) (h:∀ x y,d ≠ .tuple [x,y]):J1 [js u e l b,d]=some (.bool false):=by
 cases d with
 | dict k=>simp [noD] at hd
 | tuple ds=>
  have hl:¬ (ds.length:Int)=2:=fun z=>by
   have z':ds.length=2:=by omega
   match ds,z' with
   | [x,y],_=>exact h x y rfl
  simp [J1,jA,aba,jJ,jR,ifS,orB,zB,tst,Jv,tyn,asB,lkp,op2,jL,jr,jB,zI,cst,dNe,JU,Zv,qx,qo,hl]
 | _=>simp [J1,jA,aba,jJ,jR,ifS,orB,zB,tst,Jv,tyn,asB,lkp,op2,jL,jr,jB,zI,cst,dNe,JU,Zv,qx,qo]
theorem aem (d:PyData) (hd:noD d=true):J1 [js u e l b,d]=some (.bool (adB u l d)):=by
 by_cases h:∃ x y,d= .tuple [x,y]
 ·obtain ⟨x,y,rfl⟩:=h
  have hx:noD x=true/\noD y=true:=by simpa [noD,noDs] using hd
  have w1:=abA x hx.1 0 u
  have w2:=abA y hx.2 0 l
  cases c1:whB 0 u x <;> rw [c1] at w1 <;> simp [J1,jA,aba,jJ,jR,ifS,orB,zB,tst,Jv,tyn,asB,lkp,op2,jL,jr,jB,zI,cst,dNe,JU,Zv,qx,qo,ae3,js,dIx,atI,ixN,w1,w2,adB,c1]
 ·rw [ak3 d hd fun x y z=>h ⟨x,y,z⟩]
  congr 2
  unfold adB
  split
  ·exact absurd ⟨_,_,rfl⟩ h
  ·rfl
def adC (u l:Int):PyData->Bool
 | .tuple ds=>decide (1<=ds.length) && decide (ds.length<=4) && ds.all (adB u l)
 | _=>false
theorem aen (hm:QY [js u e l b]=some .none) (d:PyData) (hd:noD d=true):acZ [js u e l b,d]=some (.bool (adC u l d)):=by
 refine qM rfl ?_
 show abb.1 [some (js u e l b),some d]=_
 simp only [abb]
 refine (qy (ρ1:=[some (js u e l b),some d]) ?_).trans ?_
 ·simp only [abD,jL,jr,jB,lkp,zzA,zzB,zzC,zzD,zzE,hm]
 cases d with
 | dict k=>simp [noD] at hd
 | tuple ds=>
  by_cases h1:1<=ds.length
  ·by_cases h4:ds.length<=4
   ·have hf:few ds=true:=JV (by omega)
    have c1:zn (fun i j=>decide (i<=j)) (.int 1) (.int (ds.length:Int))=some (.bool true):=by
     show some (PyData.bool (decide ((1:Int)<=(ds.length:Int))))=_
     rw [decide_eq_true (by omega)]
    have c2:zn (fun i j=>decide (i<=j)) (.int (ds.length:Int)) (.int 4)=some (.bool true):=by
     show some (PyData.bool (decide ((ds.length:Int)<=4)))=_
     rw [decide_eq_true (by omega)]
    refine (qy (ρ1:=[some (js u e l b),some (.tuple ds)]) ?_).trans ?_
    ·simp [ifS,orB,zB,tst,Jv,tyn,asB,lkp,chn,jL,jr,jB,zI,cst,qx,c1,c2]
    simp only [jR,qo,jL,jr,jB,Qc,itT,lkp,aaS,zzA,zzB,zzC,zzD,zzE,hf,zzM,aaU,List.map_cons,List.map_nil,zzH]
    rw [Qe (fun d=> .bool (adB u l d))]
    ·have:bls (ds.map fun d=>PyData.bool (adB u l d))=some (ds.map (adB u l)):=acg (adB u l) _
     simp only [zzE,zzD,al2,this,adC,decide_eq_true h1,decide_eq_true h4,Bool.true_and,List.all_map,Function.comp_def,id]
    ·intro d hd'
     simp [jL,jr,jB,lkp,aem (e:=e) (b:=b) d (ant (by simpa [noD] using hd) d hd')]
   ·have c1:zn (fun i j=>decide (i<=j)) (.int 1) (.int (ds.length:Int))=some (.bool true):=by
     show some (PyData.bool (decide ((1:Int)<=(ds.length:Int))))=_
     rw [decide_eq_true (by omega)]
    have c2:zn (fun i j=>decide (i<=j)) (.int (ds.length:Int)) (.int 4)=some (.bool false):=by
     show some (PyData.bool (decide ((ds.length:Int)<=4)))=_
     rw [decide_eq_false (by omega)]
    simp [jR,ifS,orB,zB,tst,Jv,tyn,asB,lkp,chn,jL,jr,jB,zI,cst,qx,c1,c2,qo,adC,h4]
  ·have c1:zn (fun i j=>decide (i<=j)) (.int 1) (.int (ds.length:Int))=some (.bool false):=by
    show some (PyData.bool (decide ((1:Int)<=(ds.length:Int))))=_
    rw [decide_eq_false (by omega)]
   simp [jR,ifS,orB,zB,tst,Jv,tyn,asB,lkp,chn,jL,jr,jB,zI,cst,qx,c1,qo,adC,h1]
 | _=>simp [jR,ifS,orB,zB,tst,Jv,tyn,asB,lkp,chn,jL,jr,jB,cst,qx,qo,adC]
theorem aiH (hm:QY [js u e l b]=some .none) (d:PyData) (hd:noD d=true) (hs:adC u l d=true):qB [js u e l b,d]=some .none:=by
 have g:=aen (e:=e) hm d hd
 rw [hs] at g
 simp [qB,jA,abT,jJ,jR,ifS,zB,tst,asB,jL,jr,jB,lkp,g,qx]
end
theorem aeo {d:PyData} (h:qW [d]=some (.bool true)):afu [d]=none:=by
 refine (zH rfl).trans ?_
 show aft.1 [some d]=_
 simp [aft,ifX,zB,tst,asB,jL,jr,jB,lkp,h,ah2]
theorem ak4 {m d:PyData} (h:qW [m]=some (.bool true)):aiq [m,d]=none:=by
 have g:=aeo h
 refine (zH rfl).trans ?_
 show afv.1 [some m,some d]=_
 simp [afv,jL,jr,jB,lkp,g]
theorem aiI {u e l b:Int} (hM:qW [js u e l b]=some (.bool true)) {d:PyData} (hd:noD d=true) (hs:adC u l d=true):JR [js u e l b,d]=none:=by
 have g:=aen (e:=e) (Qk hM) d hd
 rw [hs] at g
 have g2:=ak4 (d:=d) hM
 refine (zH rfl).trans ?_
 show ab1.1 [some (js u e l b),some d]=_
 simp [ab1,orX,ifX,zB,tst,asB,jL,jr,jB,lkp,g,g2,ah2]
theorem ajL {u l:Int} (p:Int × Int):adB u l (pr p)=okP u l p:=by
 simp [adB,pr,whB,okP,Bool.and_assoc]
theorem aep {u l:Int} (ps:List (Int × Int)):adC u l (jN ps)=okS u l ps:=by
 simp only [adC,jN,okS,List.length_map,List.all_map]
 congr 2
 funext p
 exact ajL p
theorem ajM:∀ ps:List (Int × Int),noDs (ps.map pr)=true
 | []=>rfl
 | p::ps=>by simp [noDs,noD,pr,ajM ps]
theorem adg (ps:List (Int × Int)):noD (jN ps)=true:=by
 simp [noD,jN,ajM]
noncomputable abbrev rfd (i:Int):PyData:= .tuple [.str "refused",.int i]
theorem zR {N:List Str}{n:Nat}{F:Rho->Option Str}{ds:LP}{c:Option Str} (hl:ds.length=n) (h:F (jJ N ds)=c):zh N n F ds=c:=(zH hl).trans h
section
variable {u e l b:Int}{ps qs:List (Int × Int)}
theorem aiJ (h:okN u e l b=true) {r:Nat}{n:Int} (h1:1<=r) (h4:r<=4) (h0:0<=n) (hn:b ^ r<=n):JK [js u e l b,.int (r:Int),.int n]=none:=by
 obtain ⟨a1,a2,a3,a4,a5,a6,a7,a8,a9,a10⟩:=qC h
 have hb:0<b:=by omega
 have hd:=acj (n:=n) hb a9 h1 h4
 obtain ⟨k,rfl⟩:∃ k,r=k+1:=⟨r - 1,by omega⟩
 obtain ⟨x,xs,hx,_,hx2⟩:=aaH hb k n h0
 have hi:=anp h4 hx
 have hc:zn (fun i j=>decide (j<=i)) (.int x) (.int b)=some (.bool true):=by
  show some (PyData.bool (decide (b<=x)))=_
  rw [decide_eq_true (hx2 hn)]
 generalize hr:((k+1:Nat):Int)=rr at hd ⊢
 refine ZA ?_
 show Zo.1 [some (js u e l b),some (.int rr),some (.int n),none]=none
 dsimp? [Zo,ix3,hd,hi,hc]
end
noncomputable def dg (b:Int):Nat->Int->List Int
 | 0,_=>[]
 | k+1,n=>if 0<n then dg b k (n / b)++[n % b] else []
theorem aiK {i:Int} (h:0<=i/\i<=99999):qT [.int i]=some .none/\Qy [.int i]=none:=by
 have gw:=j2 i 0 99999
 rw [decide_eq_true h.1,decide_eq_true h.2] at gw
 constructor
 ·simp [qT,jA,abS,jJ,jR,ifS,zB,tst,asB,cst,jL,jr,jB,lkp,gw,qx]
 ·refine zR rfl ?_
  show ab2.1 [some (.int i)]=_
  simp [ab2,orX,ifX,zB,tst,asB,cst,jL,jr,jB,lkp,gw,ah2]
theorem apu {i:Int} (h:1<=i/\i<=4):Jg [.int i]=some .none/\ac6 [.int i]=none:=by
 have gw:=j2 i 1 4
 rw [decide_eq_true h.1,decide_eq_true h.2] at gw
 constructor
 ·simp [Jg,jA,aat,jJ,jR,ifS,zB,tst,asB,cst,jL,jr,jB,lkp,gw,qx]
 ·refine zR rfl ?_
  show aaA.1 [some (.int i)]=_
  simp [aaA,orX,ifX,zB,tst,asB,cst,jL,jr,jB,lkp,gw,ah2]
theorem arB {ds:LP} (h:ds.length<50):few ds=true:=JV (by omega)
theorem fw1 {a:PyData}:few [a]=true:=arB (by simp)
theorem fw2 {a b:PyData}:few [a,b]=true:=arB (by simp)
theorem fw3 {a b c:PyData}:few [a,b,c]=true:=arB (by simp)
theorem n2:dNe (rfd 2) (rfd 2)=some (.bool false):=by kernel_rfl
theorem ng1:ahV (.int 1)=some (.int (-1)):=rfl
def shl (n:Nat) (d:PyData):Prop:=d.canLay0=true/\d.depth<=n
theorem ack {ds:LP}:PyData.canLayAll0 ds=true ↔ ∀ d ∈ ds,d.canLay0=true:=by
 induction ds with
 | nil=>simp [PyData.canLayAll0]
 | cons x xs ih=>simp [PyData.canLayAll0,ih]
theorem acl {ds:LP}{n:Nat}:PyData.depthAll ds<=n ↔ ∀ d ∈ ds,d.depth<=n:=by
 induction ds with
 | nil=>simp [PyData.depthAll]
 | cons x xs ih=>simp only [PyData.depthAll,List.mem_cons,forall_eq_or_imp,←ih]; omega
theorem af1 {n:Nat}{ds:LP}:shl (n+1) (.tuple ds) ↔ ∀ d ∈ ds,shl n d:=by
 constructor
 ·rintro ⟨h1,h2⟩ d hd
  refine ⟨ack.mp (by simpa [PyData.canLay0] using h1) d hd,acl.mp ?_ d hd⟩
  simp only [PyData.depth] at h2; omega
 ·intro h
  refine ⟨by simp only [PyData.canLay0]; exact ack.mpr fun d hd=>(h d hd).1,?_⟩
  have:=acl.mpr fun d hd=>(h d hd).2
  simp only [PyData.depth]; omega
theorem apv {n:Nat}{ds:LP}:shl (n+1) (.list ds) ↔ ∀ d ∈ ds,shl n d:=by
 constructor
 ·rintro ⟨h1,h2⟩ d hd
  refine ⟨ack.mp (by simpa [PyData.canLay0] using h1) d hd,acl.mp ?_ d hd⟩
  simp only [PyData.depth] at h2; omega
 ·intro h
  refine ⟨by simp only [PyData.canLay0]; exact ack.mpr fun d hd=>(h d hd).1,?_⟩
  have:=acl.mpr fun d hd=>(h d hd).2
  simp only [PyData.depth]; omega
theorem af2 {n:Nat}{d:PyData} (h:shl n d) (hn:n<30):okD d=true:=by
 unfold okD
 rw [h.1,decide_eq_true (show d.depth<30 by have:=h.2; omega)]; rfl
theorem ajN (i:Int):shl 1 (.int i):=⟨rfl,by simp [PyData.depth]⟩
theorem arC (p:Int × Int):shl 2 (pr p):=af1.mpr fun d hd=>by
 simp only [List.mem_cons,List.not_mem_nil,or_false] at hd
 rcases hd with rfl | rfl <;> exact ajN _
theorem apw (ps:List (Int × Int)):shl 3 (jN ps):=af1.mpr fun d hd=>by
 obtain ⟨p,_,rfl⟩:=List.mem_map.mp hd
 exact arC p
theorem af3 {ps:List (Int × Int)}{i:Nat}{p:Int × Int} (h4:ps.length<=4) (hd:ps[i]?=some p):dIx (jN ps) (.int (i:Int))=some (pr p):=by
 have hi:i<ps.length:=(List.getElem?_eq_some_iff.mp hd).1
 show (if (ps.map pr).length<1000000 then atI (ps.map pr) (i:Int) else none)=_
 rw [if_pos (by rw [List.length_map]; omega)]
 unfold atI
 rw [afU (by omega) (by rw [List.length_map]; simpa using hi),zzD,List.getElem?_map]
 rw [show ((i:Int)).toNat=i by simp,hd]; rfl
section
variable {m s t:PyData}{c:Str}
theorem anu {d:PyData} (g:qB [m,s]=some .none) (k:Q1 [m,s,t]=some (.bool true)) (bm:JQ [s,t]=some d):abe [m,s,t]=some d:=by
 refine qM rfl ?_
 show afs.1 [some m,some s,some t]=_
 dsimp? [afs,g,k,bm]
end
noncomputable def shP (p:Int × Int) (k:Bool) (c:Int):Int × Int:=if k=true then (p.1,p.2+c) else (p.1+c,p.2)
theorem atV {x y z:PyData}:dIx (.tuple [x,y,z]) (.int 0)=some x:=rfl
theorem atW {x y z:PyData}:dIx (.tuple [x,y,z]) (.int 1)=some y:=rfl
theorem atX {x y z:PyData}:dIx (.tuple [x,y,z]) (.int 2)=some z:=rfl
theorem lnt {x y z:PyData}:zI [.tuple [x,y,z]]=some (.int 3):=rfl
theorem itt {xs:LP}:Z6 "tuple" (.tuple xs)=some (.bool true):=rfl
theorem apx:dNe (.int 3) (.int 3)=some (.bool false):=by kernel_rfl
theorem as0 (k:Bool):dIn true (afq k) (.tuple [.str "upper",.str "lower"])=some (.bool false):=by cases k <;> kernel_rfl
theorem apy {c:Int} (hc:c=1 ∨ c=-1):jV [.int c,.int (-1),.int 1]=some (.bool true)/\dNe (.int c) (.int 0)=some (.bool true)/\dIn true (.int c) (.tuple [.int 1,.int (-1)])=some (.bool false)/\Z6 "bool" (.int c)=some (.bool false):=by
 rcases hc with rfl | rfl <;> exact ⟨by kernel_rfl,by kernel_rfl,by kernel_rfl,rfl⟩
section
variable {u e l b:Int}{ps:List (Int × Int)}
theorem anv (x y z:PyData) {X Y Z N:Bool} (ln:zI [jN ps]=some (.int (ps.length:Int))) (wx:jV [x,.int 0,.int ((ps.length:Int) - 1)]=some (.bool X)) (iy:X=true->dIn true y (.tuple [.str "upper",.str "lower"])=some (.bool !Y)) (wz:X=true->Y=true->jV [z,.int (-1),.int 1]=some (.bool Z)) (nz:X=true->Y=true->Z=true->dNe z (.int 0)=some (.bool N)):JN [jN ps,.tuple [x,y,z]]=some (.bool (X && Y && Z && N)):=by
 have sb:Z3 (.int (ps.length:Int)) (.int 1)=some (.int ((ps.length:Int) - 1)):=rfl
 have e0:=atV (x:=x) (y:=y) (z:=z)
 have e1:=atW (x:=x) (y:=y) (z:=z)
 have e2:=atX (x:=x) (y:=y) (z:=z)
 have e3:=lnt (x:=x) (y:=y) (z:=z)
 have e4:=itt (xs:=[x,y,z])
 generalize PyData.tuple [x,y,z]=D at*
 generalize (ps.length:Int)=n at*
 refine qM rfl ?_
 show zm.1 [some (jN ps),some D]=_
 cases X with
 | false=>dsimp? [zm,e0,e3,e4,apx,ln,sb,wx,Bool.false_and]
 | true=>
  have iy:=iy rfl
  cases Y with
  | false=>dsimp? [zm,e0,e1,e3,e4,apx,ln,sb,wx,iy,Bool.false_and,Bool.true_and]
  | true=>
   have wz:=wz rfl rfl
   cases Z with
   | false=>dsimp? [zm,ae3,e0,e1,e2,e3,e4,apx,ln,sb,wx,iy,wz,ng1,Bool.false_and,Bool.true_and]
   | true=>
    have nz:=nz rfl rfl rfl
    dsimp? [zm,ae3,e0,e1,e2,e3,e4,apx,ln,sb,wx,iy,wz,nz,ng1,Bool.false_and,Bool.true_and]
theorem atY {r:Nat} (hr:r<ps.length):jV [.int (r:Int),.int 0,.int ((ps.length:Int) - 1)]=some (.bool true):=by
 rw [j2,decide_eq_true (by omega),decide_eq_true (by omega)]; rfl
end
theorem aeq (p:Int × Int) (k:Bool) (c:Int):ab0 [pr p,afq k,.int c]=some (pr (shP p k c)):=by
 have i0:dIx (pr p) (.int 0)=some (.int p.1):=rfl
 have i1:dIx (pr p) (.int 1)=some (.int p.2):=rfl
 have a1:Jd (.int p.1) (.int c)=some (.int (p.1+c)):=rfl
 have a2:Jd (.int p.2) (.int c)=some (.int (p.2+c)):=rfl
 refine qM rfl ?_
 show aax.1 [some (pr p),some (afq k),some (.int c)]=_
 cases k with
 | false=>
  have q:dEq (afq false) (.str "upper")=some (.bool true):=by kernel_rfl
  dsimp? [aax,q,i0,i1,a1,fw2]
  rfl
 | true=>
  have q:dEq (afq true) (.str "upper")=some (.bool false):=by kernel_rfl
  dsimp? [aax,q,i0,i1,a2,fw2]
  rfl
theorem aer {α:Type}:∀ (ps:List α) (r:Nat) (q:α),r<ps.length->ps.set r q=ps.take r++[q]++ps.drop (r+1)
 | [],r,q,h=>by simp at h
 | p::ps,0,q,h=>rfl
 | p::ps,r+1,q,h=>by
  simp only [zzF,List.take_succ_cons,List.drop_succ_cons,List.cons_append]
  rw [aer ps r q (by simpa using h)]
section
variable {u e l b:Int}{ps:List (Int × Int)}
theorem atZ {r:Nat} (hr:r<ps.length) (h4:ps.length<=4) (q:Int × Int):∃ A1 A2 A3,agK (jN ps) none (some (r:Int))=some A1/\Jd A1 (.tuple [pr q])=some A2/\agK (jN ps) (some ((r:Int)+1)) none=some A3/\Jd A2 A3=some (jN (ps.set r q)):=by
 refine ⟨.tuple ((ps.map pr).take r),.tuple ((ps.map pr).take r++[pr q]),.tuple ((ps.map pr).drop (r+1)),?_,?_,?_,?_⟩
 ·show some (PyData.tuple (aad _ none (some (r:Int))))=_
  rw [asZ]
 ·exact ajJ (.inr trivial) (by rw [List.length_take,List.length_map]; simp; omega)
 ·show some (PyData.tuple (aad _ (some ((r:Int)+1)) none))=_
  rw [show (r:Int)+1=((r+1:Nat):Int) by omega,apt]
 ·rw [ajJ (.inr trivial) (by rw [List.length_append,List.length_take,List.length_drop,List.length_map]; simp only [List.length_cons,List.length_nil]; omega),aer ps r q hr]
  show some (PyData.tuple _)=some (PyData.tuple (List.map pr _))
  rw [List.map_append,List.map_append,List.map_take,List.map_drop]; rfl
theorem ajO (hs:okS u l ps=true) (r:Nat) {q:Int × Int} (hq:okP u l q=true):okS u l (ps.set r q)=true:=by
 obtain ⟨h1,h4,hp⟩:=abl hs
 refine arw (by rw [List.length_set]; exact h1) (by rw [List.length_set]; exact h4) (List.all_eq_true.mpr fun x hx=>?_)
 rcases List.mem_or_eq_of_mem_set hx with z | rfl
 ·exact List.all_eq_true.mp hp x z
 ·exact hq
end
structure Th (u e l b:Int) (ps:List (Int × Int)) (d:PyData) (o:Option (List (Int × Int))):Prop where
 cm:Q1 [js u e l b,jN ps,d]=some (.bool o.isSome)
 bm:∀ qs,o=some qs->JQ [jN ps,d]=some (jN qs)/\okS u l qs=true
section
variable {u e l b:Int}{ps:List (Int × Int)}
theorem as1 (hs:okS u l ps=true) {r:Nat}{p:Int × Int} (hp:ps[r]?=some p) (k:Bool) {c:Int} (hc:c=1 ∨ c=-1):Th u e l b ps (mv (r:Int) k c) (if okP u l (shP p k c)=true then some (ps.set r (shP p k c)) else none):=by
 obtain ⟨h1,h4,hall⟩:=abl hs
 obtain ⟨hr,hpe⟩:=List.getElem?_eq_some_iff.mp hp
 have hpo:okP u l p=true:=List.all_eq_true.mp hall p (by rw [←hpe]; exact List.getElem_mem _)
 have hpo':0<=p.1/\p.1<=u/\0<=p.2/\p.2<=l:=by simp only [okP,Bool.and_eq_true,decide_eq_true_eq] at hpo; omega
 obtain ⟨f1,f2,f3,f4⟩:=apy hc
 have ixT:=af3 h4 hp
 have k1:=anv (X:=true) (Y:=true) (Z:=true) (N:=true) (.int (r:Int)) (afq k) (.int c) (ade ps) (atY hr) (fun _=>as0 k) (fun _ _=>f1) (fun _ _ _=>f2)
 obtain ⟨A1,A2,A3,s1,s2,s3,s4⟩:=atZ hr h4 (shP p k c)
 have gr:=aem (u:=u) (e:=e) (l:=l) (b:=b) (pr (shP p k c)) rfl
 rw [ajL] at gr
 refine ⟨?_,fun qs z=>?_⟩
 ·have e0:dIx (mv (r:Int) k c) (.int 0)=some (.int (r:Int)):=rfl
  have e1:dIx (mv (r:Int) k c) (.int 1)=some (afq k):=rfl
  have e2:dIx (mv (r:Int) k c) (.int 2)=some (.int c):=rfl
  have pu:=aeq p k c
  have k1':JN [jN ps,mv (r:Int) k c]=some (.bool true):=k1
  have io:(if okP u l (shP p k c)=true then some (ps.set r (shP p k c)) else none).isSome=okP u l (shP p k c):=by split <;> simp_all
  rw [io]
  generalize mv (r:Int) k c=D at*
  generalize okP u l (shP p k c)=OK at*
  generalize pr (shP p k c)=Q at*
  refine qM rfl ?_
  show aaz.1 [some (js u e l b),some (jN ps),some D]=_
  dsimp? [aaz,k1',e0,e1,e2,ixT,pu,gr]
 ·by_cases ho:okP u l (shP p k c)=true
  ·rw [if_pos ho] at z
   cases z
   refine ⟨?_,ajO hs r ho⟩
   have e0:dIx (mv (r:Int) k c) (.int 0)=some (.int (r:Int)):=rfl
   have e1:dIx (mv (r:Int) k c) (.int 1)=some (afq k):=rfl
   have e2:dIx (mv (r:Int) k c) (.int 2)=some (.int c):=rfl
   have a1:Jd (.int (r:Int)) (.int 1)=some (.int ((r:Int)+1)):=rfl
   have pu:=aeq p k c
   generalize mv (r:Int) k c=D at*
   generalize pr (shP p k c)=Q at*
   generalize jN (ps.set r (shP p k c))=R at*
   refine qM rfl ?_
   show JP.1 [some (jN ps),some D,none]=_
   dsimp? [JP,adX,Zc,inI,e0,e1,e2,a1,ixT,pu,s1,fw1,s2,s3,s4]
  ·rw [if_neg ho] at z; cases z
theorem as2 (H:zu=true) (h:okN u e l b=true) (hs:okS u l ps=true):qB [js u e l b,jN ps]=some .none/\True:=by
 have hM:=akZ H h
 have hb:adC u l (jN ps)=true:=by rw [aep]; exact hs
 exact ⟨aiH (Qk hM) _ (adg ps) hb,trivial⟩
theorem anw (H:zu=true) (h:okN u e l b=true) {ps qs:List (Int × Int)}{d:PyData} (hs:okS u l ps=true) (t:Th u e l b ps d (some qs)):abe [js u e l b,jN ps,d]=some (jN qs):=
 anu (as2 H h hs).1 t.cm (t.bm _ rfl).1
end
theorem at0 {tt:Rho->Option Bool}{A B:RO}{ρ:Rho} (h:tt ρ=some true):ifS tt A B ρ=A ρ:=by
 show (tt ρ).bind _=_
 rw [h]; rfl
theorem arD {tt:Rho->Option Bool}{A:RO}{ρ:Rho} (h:tt ρ=some false):ifS tt A (fun ρ=>some (.nx ρ)) ρ=some (.nx ρ):=by
 show (tt ρ).bind _=_
 rw [h]; rfl
theorem JY {i:Nat}{f:RP}{ρ:Rho}{d:PyData} (h:f ρ=some d):qQ f (jK i) ρ=some (.nx (ρ.set i (some d))):=by
 show (f ρ).bind _=_
 rw [h]; rfl
theorem qz {g:PyData->PyData->OP}{f1 f2:RP}{ρ:Rho}{x y z:PyData} (h1:f1 ρ=some x) (h2:f2 ρ=some y) (h3:g x y=some z):op2 g f1 f2 ρ=some z:=by
 show (f1 ρ).bind _=_
 rw [h1,zzD,h2,zzD,h3]
theorem Qa {g:LP->OP}{fs:Rho->Option (LP)}{ρ:Rho}{ds:LP}{d:PyData} (h1:fs ρ=some ds) (h2:g ds=some d):jL g fs ρ=some d:=by
 show (fs ρ).bind _=_
 rw [h1,zzD,h2]
theorem qf {f:RP}{fs:Rho->Option (LP)}{ρ:Rho}{d:PyData}{ds:LP} (h1:f ρ=some d) (h2:fs ρ=some ds):jr f fs ρ=some (d::ds):=by
 unfold jr
 rw [h1,zzD,h2]; rfl
theorem JA {f:RP}{ρ:Rho}{c:Bool} (h:f ρ=some (.bool c)):tst f ρ=some c:=by
 show (f ρ).bind _=_
 rw [h]; rfl
section
variable {u e l b:Int}
theorem ahj (h:okN u e l b=true) {p:Int × Int} (hp:okP u l p=true):qD [js u e l b,pr p]=some (.int (wt e p)):=by
 obtain ⟨a1,a2,a3,a4,a5,a6,a7,a8,a9,a10⟩:=qC h
 obtain ⟨q1,q2,q3,q4⟩:=Js hp
 exact Qz u e l b p.1 p.2 ⟨by omega,by omega⟩
end
noncomputable abbrev PL:=List (Int × Int)
noncomputable abbrev z00:Int × Int:=(0,0)
def chg (b e:Int) (ps:PL):Nat->Int->Option (List (Nat × Int))
 | 0,dg=>if dg=0 then some [] else none
 | i+1,dg=>if dg=0 then some [] else (chg b e ps i ((wt e (ps.getD i z00)+dg) / b)).map fun cs=>cs++[(i,(wt e (ps.getD i z00)+dg) % b)]
theorem af4 {b e:Int}{ps:PL}:∀ (i:Nat) (dg:Int) (cs:List (Nat × Int)),chg b e ps i dg=some cs->cs.length<=i
 | 0,dg,cs,h=>by
  unfold chg at h
  split at h
  ·cases h; exact Nat.le_refl _
  ·cases h
 | i+1,dg,cs,h=>by
  unfold chg at h
  split at h
  ·cases h; exact Nat.zero_le _
  ·cases hc:chg b e ps i ((wt e (ps.getD i z00)+dg) / b) with
   | none=>rw [hc] at h; cases h
   | some c1=>
    rw [hc] at h
    cases h
    have:=af4 i _ c1 hc
    simp only [List.length_append,List.length_cons,List.length_nil]; omega
section
variable {u e l b:Int}
theorem as3 (H:zu=true) (h:okN u e l b=true) {ps:PL} (hk:ps.all (okP u l)=true) (h4:ps.length<=4):∀ (i k:Nat) (dg:Int),i<=ps.length->0<=dg->
  (∀ cs,chg b e ps i dg=some cs->gDA (i+1+k) [js u e l b,jN ps,.int ((i:Int) - 1),.int dg]=some (.list (cs.map (QH (js u e l b)))))/\
  (chg b e ps i dg=none->gDA (i+1+k) [js u e l b,jN ps,.int ((i:Int) - 1),.int dg]=none/\tDA (i+1+k) [js u e l b,jN ps,.int ((i:Int) - 1),.int dg]=some ("TooGreat":Str)):=by
 obtain ⟨a1,a2,a3,a4,a5,a6,a7,a8,a9,a10⟩:=qC h
 have hb:0<b:=by omega
 intro i
 induction i with
 | zero=>
  intro k dg hi d0
  rw [show 0+1+k=k+1 by omega]
  by_cases hz:dg=0
  ·subst hz
   refine ⟨fun cs hc=>?_,fun hc=>?_⟩
   ·have:cs=[]:=by rw [chg,if_pos rfl] at hc; exact (Option.some.inj hc).symm
    subst this
    exact ajK
   ·rw [chg,if_pos rfl] at hc; cases hc
  ·refine ⟨fun cs hc=>?_,fun _=>ary hz (by omega)⟩
   rw [chg,if_neg hz] at hc; cases hc
 | succ i ih=>
  intro k dg hi d0
  rw [show i+1+1+k=(i+1+k)+1 by omega,show (((i+1:Nat):Int) - 1)=(i:Int) by omega]
  by_cases hz:dg=0
  ·subst hz
   refine ⟨fun cs hc=>?_,fun hc=>?_⟩
   ·have:cs=[]:=by rw [chg,if_pos rfl] at hc; exact (Option.some.inj hc).symm
    subst this
    exact ajK
   ·rw [chg,if_pos rfl] at hc; cases hc
  have hd:ps[i]?=some (ps.getD i z00):=by
   rw [List.getD_eq_getElem?_getD,List.getElem?_eq_getElem (by omega)]; rfl
  have hpk:okP u l (ps.getD i z00)=true:=List.all_eq_true.mp hk _ (List.mem_of_getElem? hd)
  generalize hp:ps.getD i z00=p at hd hpk
  have w0:=anl a3 hpk
  have c0:0<=(wt e p+dg) / b:=Int.ediv_nonneg (by omega) (by omega)
  have m0:0<=(wt e p+dg) % b:=Int.emod_nonneg _ (by omega)
  have m1:(wt e p+dg) % b<b:=Int.emod_lt_of_pos _ hb
  have fw:=Zw H h m0 m1
  obtain ⟨ih1,ih2⟩:=ih k ((wt e p+dg) / b) (by omega) c0
  refine ⟨fun cs hc=>?_,fun hc=>?_⟩
  ·rw [chg,if_neg hz,hp] at hc
   cases hq:chg b e ps i ((wt e p+dg) / b) with
   | none=>rw [hq] at hc; cases hc
   | some c1=>
    rw [hq] at hc
    cases hc
    have hl:=af4 i _ c1 hq
    rw [List.map_append]
    exact asY (g:=gDA (i+1+k)) hz (by omega) (af3 h4 hd) (ahj h hpk) (ih1 c1 hq) rfl hb a9 fw.1 (by rw [List.length_map]; omega)
  ·rw [chg,if_neg hz,hp] at hc
   cases hq:chg b e ps i ((wt e p+dg) / b) with
   | some c1=>rw [hq] at hc; cases hc
   | none=>
    obtain ⟨n1,n2⟩:=ih2 hq
    exact arz (g:=gDA (i+1+k)) (t:=tDA (i+1+k)) hz (by omega) (af3 h4 hd) (ahj h hpk) rfl hb a9 n1 n2
def zv (m:PyData) (cs:List (Nat × Int)) (ps:List (Int × Int)):List (Int × Int):=cs.foldl (fun ps c=>ps.set c.1 (fpr m c.2)) ps
theorem ak5 (m:PyData) (a c:List (Nat × Int)) (ps:List (Int × Int)):zv m (a++c) ps=zv m c (zv m a ps):=by unfold zv; rw [List.foldl_append]
theorem ZB (m:PyData):∀ (cs:List (Nat × Int)) (ps:List (Int × Int)),(zv m cs ps).length=ps.length
 | [],_=>rfl
 | c::cs,ps=>by
  show (zv m cs (ps.set c.1 (fpr m c.2))).length=_
  rw [ZB m cs,List.length_set]
theorem ak6 {m:PyData}{S C:OP}{ps:List (Int × Int)}{i:Nat}{d:Int} (hi:i<ps.length):
  ac2.1 [S,C,some (.list (ps.map pr)),some (.int (i:Int)),some (Q9 m d)]=some (.nx [S,C,some (.list ((ps.set i (fpr m d)).map pr)),some (.int (i:Int)),some (Q9 m d)]):=by
 have hx:ixN (ps.map pr).length (i:Int)=some i:=by
  rw [afU (by omega) (by rw [List.length_map]; simpa using hi)]; simp
 have e1:(ps.map pr).set i (Q9 m d)=(ps.set i (fpr m d)).map pr:=by rw [List.map_set]; rfl
 simp only [ac2,jR,aoH,amn,brw,hid,lkp,zzF,zzG,zzA,zzB,zzC,hx,zzE,zzD,qx,e1]
theorem aes {m:PyData}{S C:OP}:∀ (cs:List (Nat × Int)) (ps:List (Int × Int)) (x3 x4:OP),(∀ c ∈ cs,c.1<ps.length)->
  ∃ y3 y4,qj (zy 2 (jE (jK 3) (jE (jK 4) qp))) ac2.1 (cs.map (QH m)) [S,C,some (.list (ps.map pr)),x3,x4]=some (.nx [S,C,some (.list ((zv m cs ps).map pr)),y3,y4])
 | [],ps,x3,x4,_=>⟨x3,x4,rfl⟩
 | c::cs,ps,x3,x4,h=>by
  obtain ⟨y3,y4,ih⟩:=aes (m:=m) (S:=S) (C:=C) cs (ps.set c.1 (fpr m c.2)) (some (.int (c.1:Int))) (some (Q9 m c.2)) fun q hq=>by rw [List.length_set]; exact h q (List.mem_cons_of_mem _ hq)
  refine ⟨y3,y4,?_⟩
  have st:=ak6 (m:=m) (S:=S) (C:=C) (ps:=ps) (i:=c.1) (d:=c.2) (h c List.mem_cons_self)
  rw [List.map_cons,qj]
  show ((zy 2 (jE (jK 3) (jE (jK 4) qp))) (.tuple [.int (c.1:Int),Q9 m c.2]) _).bind _=_
  simp only [zy,jE,qp,jK,List.length_cons,List.length_nil,zzM,zzD,zzF,zzG,st]
  exact ih
theorem ahk {m:PyData}{cs:List (Nat × Int)}{ps:List (Int × Int)} (h:∀ c ∈ cs,c.1<ps.length):aio [jN ps,.list (cs.map (QH m))]=some (jN (zv m cs ps)):=by
 obtain ⟨y3,y4,lp⟩:=aes (m:=m) (S:=some (jN ps)) (C:=some (.list (cs.map (QH m)))) cs ps none none h
 refine qM rfl ?_
 show apk.1 [some (jN ps),some (.list (cs.map (QH m))),none,none,none]=_
 have dl:abN [jN ps]=some (.list (ps.map pr)):=rfl
 have dt:ae4 [.list ((zv m cs ps).map pr)]=some (jN (zv m cs ps)):=rfl
 simp only [apk,aa1,jL,jr,jB,lkp,zzA,zzC,zzD,zzE,dl,List.length_cons,List.length_nil,zzF,zzG]
 rw [if_pos (by omega)]
 have fr:aaT (fun ρ=>itL (lkp 1) (hid (some 2) ρ)) (zy 2 (jE (jK 3) (jE (jK 4) qp))) ac2.1 [some (jN ps),some (.list (cs.map (QH m))),some (.list (ps.map pr)),none,none]=some (.nx [some (jN ps),some (.list (cs.map (QH m))),some (.list ((zv m cs ps).map pr)),y3,y4]):=by
  simp only [aaT,itL,hid,lkp,zzF,zzG,zzA,zzB,zzC,zzD,QJ]
  exact lp
 rw [qy fr]
 simp only [jR,qo,jL,jr,jB,lkp,zzA,zzB,zzC,zzD,zzE,dt]
end
theorem ak7 {x:Str}{g:LP->OP}{m S N:PyData}{b:Int}{r:Int}{dl ch:LP}{y5 y6 y7 y8:OP} (i3:dIx m (.int 3)=some (.int b)) (hl:zI [S]=some (.int r)) (hd:abG [.int b,.int r,N]=some (.list dl))
  (lp:qj (zy 2 (jE (jK 6) (jE (jK 7) qp))) (zl x g).1 (Jk 0 dl) [some m,some S,some N,some (fnD x),some (.list []),some S,none,none,none]=some (.nx [some m,some S,some N,some (fnD x),some (.list ch),y5,y6,y7,y8])):
  arq x g [m,S,N,fnD x]=some (.list ch):=by
 refine qM rfl ?_
 show (akQ x g).1 [some m,some S,some N,some (fnD x),none,none,none,none,none]=_
 have st1:qQ (brw (some 4) (lkp 1)) (jK 5) [some m,some S,some N,some (fnD x),some (.list []),none,none,none,none]=some (.nx [some m,some S,some N,some (fnD x),some (.list []),some S,none,none,none]):=by
  simp only [qQ,brw,hid,lkp,jK,zzA,zzB,zzC,zzD,zzE,zzF,zzG]
 have st2:aaT (fun ρ=>(jr (jL abG (jr (op2 dIx (lkp 0) (cst (PyData.int 3))) (jr (jL zI (jr (lkp 1) jB)) (jr (lkp 2) jB)))) jB (hid (some 4) ρ)).bind aah) (zy 2 (jE (jK 6) (jE (jK 7) qp))) (zl x g).1 [some m,some S,some N,some (fnD x),some (.list []),some S,none,none,none]=some (.nx [some m,some S,some N,some (fnD x),some (.list ch),y5,y6,y7,y8]):=by
  simp only [aaT,jL,op2,jr,jB,hid,lkp,cst,zzA,zzB,zzC,zzD,zzE,zzF,zzG,i3,hl,hd,aah]
  exact lp
 simp only [akQ,aa1,Ja,jB,zzD,aaG,zzM,List.length_cons,List.length_nil,zzF,zzG]
 rw [if_pos (by omega),qy st1,qy st2]
 simp only [jR,qo,lkp,zzA,zzB,zzC,zzD,zzE]
theorem ak8 {x:Str}{g:LP->OP}{m S N:PyData}{b:Int}{r:Int}{dl:LP} (i3:dIx m (.int 3)=some (.int b)) (hl:zI [S]=some (.int r)) (hd:abG [.int b,.int r,N]=some (.list dl))
  (lp:qj (zy 2 (jE (jK 6) (jE (jK 7) qp))) (zl x g).1 (Jk 0 dl) [some m,some S,some N,some (fnD x),some (.list []),some S,none,none,none]=none):arq x g [m,S,N,fnD x]=none:=by
 refine ZA ?_
 show (akQ x g).1 [some m,some S,some N,some (fnD x),none,none,none,none,none]=_
 have st1:qQ (brw (some 4) (lkp 1)) (jK 5) [some m,some S,some N,some (fnD x),some (.list []),none,none,none,none]=some (.nx [some m,some S,some N,some (fnD x),some (.list []),some S,none,none,none]):=by
  simp only [qQ,brw,hid,lkp,jK,zzA,zzB,zzC,zzD,zzE,zzF,zzG]
 have st2:aaT (fun ρ=>(jr (jL abG (jr (op2 dIx (lkp 0) (cst (PyData.int 3))) (jr (jL zI (jr (lkp 1) jB)) (jr (lkp 2) jB)))) jB (hid (some 4) ρ)).bind aah) (zy 2 (jE (jK 6) (jE (jK 7) qp))) (zl x g).1 [some m,some S,some N,some (fnD x),some (.list []),some S,none,none,none]=none:=by
  simp only [aaT,jL,op2,jr,jB,hid,lkp,cst,zzA,zzB,zzC,zzD,zzE,zzF,zzG,i3,hl,hd,aah]
  exact lp
 simp only [akQ,aa1,Ja,jB,zzD,aaG,zzM,List.length_cons,List.length_nil,zzF,zzG]
 rw [if_pos (by omega),qy st1]
 unfold jR
 rw [st2]; rfl
abbrev itC:Rho->Option (LP):=fun ρ=>(jr (jL abG (jr (op2 dIx (lkp 0) (cst (PyData.int 3))) (jr (jL zI (jr (lkp 1) jB)) (jr (lkp 2) jB)))) jB (hid (some 4) ρ)).bind aah
theorem ak9 {m S N:PyData}{b:Int}{r:Int}{dl:LP}{c:Str} (i3:dIx m (.int 3)=some (.int b)) (hl:zI [S]=some (.int r)) (hd:abG [.int b,.int r,N]=some (.list dl))
  (lp:Qf (zy 2 (jE (jK 6) (jE (jK 7) qp))) (zl "digit_added" (gDA 6)).1 (fxC "digit_added" (tDA 6)) (Jk 0 dl) [some m,some S,some N,some (fnD "digit_added"),some (.list []),some S,none,none,none]=some c):tCA [m,S,N,fnD "digit_added"]=some c:=by
 refine (zH rfl).trans ?_
 show ah8 4 (Ja jB) (nxX (qQ (brw (some 4) (lkp 1)) (jK 5)) (agO itC (zy 2 (jE (jK 6) (jE (jK 7) qp))) (zl "digit_added" (gDA 6)).1 (fxC "digit_added" (tDA 6)))) [some m,some S,some N,some (fnD "digit_added"),none,none,none,none,none]=_
 have st1:qQ (brw (some 4) (lkp 1)) (jK 5) [some m,some S,some N,some (fnD "digit_added"),some (.list []),none,none,none,none]=some (.nx [some m,some S,some N,some (fnD "digit_added"),some (.list []),some S,none,none,none]):=by
  simp only [qQ,brw,hid,lkp,jK,zzA,zzB,zzC,zzD,zzE,zzF,zzG]
 have st2:agO itC (zy 2 (jE (jK 6) (jE (jK 7) qp))) (zl "digit_added" (gDA 6)).1 (fxC "digit_added" (tDA 6)) [some m,some S,some N,some (fnD "digit_added"),some (.list []),some S,none,none,none]=some c:=by
  simp only [agO,itC,jL,op2,jr,jB,hid,lkp,cst,zzA,zzB,zzC,zzD,zzE,zzF,zzG,i3,hl,hd,aah]
  exact lp
 have nw:ah8 4 (Ja jB) (nxX (qQ (brw (some 4) (lkp 1)) (jK 5)) (agO itC (zy 2 (jE (jK 6) (jE (jK 7) qp))) (zl "digit_added" (gDA 6)).1 (fxC "digit_added" (tDA 6)))) [some m,some S,some N,some (fnD "digit_added"),none,none,none,none,none]=nxX (qQ (brw (some 4) (lkp 1)) (jK 5)) (agO itC (zy 2 (jE (jK 6) (jE (jK 7) qp))) (zl "digit_added" (gDA 6)).1 (fxC "digit_added" (tDA 6))) [some m,some S,some N,some (fnD "digit_added"),some (.list []),none,none,none,none]:=by
  unfold ah8
  simp only [Ja,jB,zzD,aaG,zzM,List.length_cons,List.length_nil,zzF,zzG]
  rw [if_pos (by omega)]
 rw [nw]
 unfold nxX
 rw [st1,zzD]
 exact st2
section
variable {u e l b:Int}
theorem aiL {ps:PL} (hb:0<b):∀ (i:Nat) (dg:Int) (cs:List (Nat × Int)),chg b e ps i dg=some cs->∀ c ∈ cs,c.1<i/\0<=c.2/\c.2<b
 | 0,dg,cs,h=>by
  unfold chg at h
  split at h
  ·cases h; exact fun c hc=>nomatch hc
  ·cases h
 | i+1,dg,cs,h=>by
  unfold chg at h
  split at h
  ·cases h; exact fun c hc=>nomatch hc
  ·cases hq:chg b e ps i ((wt e (ps.getD i z00)+dg) / b) with
   | none=>rw [hq] at h; cases h
   | some c1=>
    rw [hq] at h
    cases h
    intro c hc
    rcases List.mem_append.mp hc with z | z
    ·obtain ⟨q1,q2⟩:=aiL hb i _ c1 hq c z
     exact ⟨by omega,q2⟩
    ·rw [List.mem_singleton.mp z]
     exact ⟨Nat.lt_succ_self _,Int.emod_nonneg _ (by omega),Int.emod_lt_of_pos _ hb⟩
theorem adh (H:zu=true) (h:okN u e l b=true):∀ (cs:List (Nat × Int)) (ps:PL),(∀ c ∈ cs,0<=c.2/\c.2<b)->ps.all (okP u l)=true->(zv (js u e l b) cs ps).all (okP u l)=true
 | [],ps,_,hk=>hk
 | c::cs,ps,hc,hk=>by
  have fw:=Zw H h (hc c List.mem_cons_self).1 (hc c List.mem_cons_self).2
  refine adh H h cs (ps.set c.1 (fpr (js u e l b) c.2)) (fun d hd=>hc d (List.mem_cons_of_mem _ hd)) ?_
  refine List.all_eq_true.mpr fun p hp=>?_
  rcases List.mem_or_eq_of_mem_set hp with q | q
  ·exact List.all_eq_true.mp hk p q
  ·rw [q]; exact fw.2.2
def QA (M:PyData) (b e:Int):List Int->Nat->PL->Option (List (Nat × Int) × PL)
 | [],_,ps=>some ([],ps)
 | d::ds,i,ps=>(chg b e ps (i+1) d).bind fun cs=>(QA M b e ds (i+1) (zv M cs ps)).map fun q=>(cs++q.1,q.2)
theorem ajP (H:zu=true) (h:okN u e l b=true) {r:Nat} (h4:r<=4) {S N:PyData}:∀ (ds:List Int) (i:Nat) (ps:PL) (acc:List (Nat × Int)) (x6 x7 x8:OP),i+ds.length=r->ps.length=r->ps.all (okP u l)=true->(∀ d ∈ ds,0<=d)->acc.length<=10*i->
  (∀ res,QA (js u e l b) b e ds i ps=some res->∃ y6 y7 y8,qj (zy 2 (jE (jK 6) (jE (jK 7) qp))) (zl "digit_added" (gDA 6)).1 (Jk i (ds.map .int)) [some (js u e l b),some S,some N,some (fnD "digit_added"),some (.list (acc.map (QH (js u e l b)))),some (jN ps),x6,x7,x8]=some (.nx [some (js u e l b),some S,some N,some (fnD "digit_added"),some (.list ((acc++res.1).map (QH (js u e l b)))),some (jN res.2),y6,y7,y8]))/\
  (QA (js u e l b) b e ds i ps=none->qj (zy 2 (jE (jK 6) (jE (jK 7) qp))) (zl "digit_added" (gDA 6)).1 (Jk i (ds.map .int)) [some (js u e l b),some S,some N,some (fnD "digit_added"),some (.list (acc.map (QH (js u e l b)))),some (jN ps),x6,x7,x8]=none/\
   Qf (zy 2 (jE (jK 6) (jE (jK 7) qp))) (zl "digit_added" (gDA 6)).1 (fxC "digit_added" (tDA 6)) (Jk i (ds.map .int)) [some (js u e l b),some S,some N,some (fnD "digit_added"),some (.list (acc.map (QH (js u e l b)))),some (jN ps),x6,x7,x8]=some ("TooGreat":Str))
 | [],i,ps,acc,x6,x7,x8,_,_,_,_,_=>⟨fun res hr=>by cases hr; exact ⟨x6,x7,x8,by rw [List.append_nil]; rfl⟩,fun hr=>nomatch hr⟩
 | d::ds,i,ps,acc,x6,x7,x8,hi,hl,hk,hd,ha=>by
  obtain ⟨a1,a2,a3,a4,a5,a6,a7,a8,a9,a10⟩:=qC h
  have hb:0<b:=by omega
  rw [List.length_cons] at hi
  have en:Jk i ((d::ds).map PyData.int)= .tuple [.int (i:Int),.int d]::Jk (i+1) (ds.map .int):=rfl
  rw [en]
  obtain ⟨e1,e2⟩:=as3 H h hk (by omega) (i+1) (6 - (i+2)) d (by omega) (hd d List.mem_cons_self)
  rw [show i+1+1+(6 - (i+2))=6 by omega,show (((i+1:Nat):Int) - 1)=(i:Int) by omega] at e1 e2
  cases hq:chg b e ps (i+1) d with
  | none=>
   obtain ⟨n1,n2⟩:=e2 hq
   have an:QA (js u e l b) b e (d::ds) i ps=none:=by rw [QA,hq]; rfl
   refine ⟨fun res hr=>(by rw [an] at hr; cases hr),fun _=>?_⟩
   obtain ⟨c1,c2⟩:=aps (x:="digit_added") (S:=S) (N:=N) (x8:=x8) (ch:=acc.map (QH (js u e l b))) n1 n2
   refine ⟨?_,?_⟩
   ·rw [qj]
    simp only [zy,jE,qp,jK,List.length_cons,List.length_nil,zzM,zzD,zzF,zzG,c1,zzH]
   ·rw [Qf]
    simp only [zy,jE,qp,jK,List.length_cons,List.length_nil,zzM,zzD,zzF,zzG,c1]
    exact c2
  | some cs=>
   have run:=e1 cs hq
   have ok:=aiL (e:=e) hb (i+1) d cs hq
   have cl:=af4 (i+1) d cs hq
   have bh:=ahk (m:=js u e l b) (cs:=cs) (ps:=ps) fun c hc=>by have:=(ok c hc).1; omega
   have ci:=arx (x:="digit_added") (g:=gDA 6) (S:=S) (N:=N) (x8:=x8) (ch:=acc.map (QH (js u e l b))) run bh (anr _ cs) (by rw [List.length_map,List.length_map]; omega)
   obtain ⟨f1,f2⟩:=ajP H h h4 (S:=S) (N:=N) ds (i+1) (zv (js u e l b) cs ps) (acc++cs) (some (.int (i:Int))) (some (.int d)) (some (.list (cs.map (QH (js u e l b))))) (by omega) (by rw [ZB]; exact hl) (adh H h cs ps (fun c hc=>(ok c hc).2) hk) (fun x hx=>hd x (List.mem_cons_of_mem _ hx)) (by rw [List.length_append]; omega)
   rw [List.map_append] at f1 f2
   have ad:QA (js u e l b) b e (d::ds) i ps=(QA (js u e l b) b e ds (i+1) (zv (js u e l b) cs ps)).map fun q=>(cs++q.1,q.2):=by rw [QA,hq]; rfl
   refine ⟨fun res hr=>?_,fun hr=>?_⟩
   ·rw [ad] at hr
    cases hs:QA (js u e l b) b e ds (i+1) (zv (js u e l b) cs ps) with
    | none=>rw [hs] at hr; cases hr
    | some q=>
     rw [hs] at hr
     cases hr
     obtain ⟨y6,y7,y8,l1⟩:=f1 q hs
     refine ⟨y6,y7,y8,?_⟩
     rw [qj]
     simp only [zy,jE,qp,jK,List.length_cons,List.length_nil,zzM,zzD,zzF,zzG,ci]
     rw [l1,List.append_assoc]
   ·rw [ad] at hr
    cases hs:QA (js u e l b) b e ds (i+1) (zv (js u e l b) cs ps) with
    | some q=>rw [hs] at hr; cases hr
    | none=>
     obtain ⟨l1,l2⟩:=f2 hs
     refine ⟨?_,?_⟩
     ·rw [qj]
      simp only [zy,jE,qp,jK,List.length_cons,List.length_nil,zzM,zzD,zzF,zzG,ci]
      exact l1
     ·rw [Qf]
      simp only [zy,jE,qp,jK,List.length_cons,List.length_nil,zzM,zzD,zzF,zzG,ci]
      exact l2
theorem as4 (H:zu=true) (h:okN u e l b=true) {ps:PL}{n:Int}{r:Nat} (hr:ps.length=r) (h1:1<=r) (h4:r<=4) (hk:ps.all (okP u l)=true) (n0:0<=n) (nn:∀ d ∈ dgl b r n,0<=d):
  (∀ res,QA (js u e l b) b e (dgl b r n) 0 ps=some res->ag8 [js u e l b,jN ps,.int n]=some (.list (res.1.map (QH (js u e l b)))))/\
  (QA (js u e l b) b e (dgl b r n) 0 ps=none->ag8 [js u e l b,jN ps,.int n]=none/\amW [js u e l b,jN ps,.int n]=some ("TooGreat":Str)):=by
 obtain ⟨a1,a2,a3,a4,a5,a6,a7,a8,a9,a10⟩:=qC h
 have hb:0<b:=by omega
 have gd:=acj (n:=n) hb a9 h1 h4
 have i3:dIx (js u e l b) (.int 3)=some (.int b):=rfl
 have sl:zI [jN ps]=some (.int (r:Int)):=by
  have:=ade ps
  rw [hr] at this; exact this
 obtain ⟨c1,c2⟩:=ajP H h h4 (S:=jN ps) (N:= .int n) (dgl b r n) 0 ps [] none none none (by rw [Zy]; omega) hr hk nn (Nat.zero_le _)
 refine ⟨fun res hres=>?_,fun hres=>?_⟩
 ·obtain ⟨y6,y7,y8,l1⟩:=c1 res hres
  exact ans (ak7 i3 sl gd l1)
 ·obtain ⟨l1,l2⟩:=c2 hres
  exact arA (ak8 i3 sl gd l1) (ak9 i3 sl gd l2)
theorem ajQ (hb:0<b):∀ (k:Nat) (n:Int),dgl b (k+1) n=(List.range (k+1)).map (dig b (k+1) n)
 | 0,n=>by
  show [n]=_
  simp [dig]
 | k+1,n=>by
  show dgl b (k+1) (n / b)++[n % b]=_
  rw [ajQ hb k (n / b),List.range_succ (n:=k+1),List.map_append]
  congr 1
  ·apply List.map_congr_left
   intro i hi
   have hi:=List.mem_range.mp hi
   have e1:k+1+1 - 1 - i=(k+1 - 1 - i)+1:=by omega
   have e2:n / b ^ (k+1+1 - 1 - i)=n / b / b ^ (k+1 - 1 - i):=by
    rw [e1,Int.pow_succ,Int.mul_comm,Int.ediv_ediv_of_nonneg (by omega)]
   unfold dig
   rw [e2]
  ·simp [dig]
theorem arE (hb:0<b) {r:Nat}{n:Int} (n0:0<=n) (i:Nat):0<=dig b r n i:=by
 have:=adb hb (r - 1 - i)
 unfold dig
 split
 ·exact Int.emod_nonneg _ (by omega)
 ·exact Int.ediv_nonneg n0 (by omega)
end
section
variable {m s t d C:PyData}{c:Str}
theorem arF (g:qB [m,s]=some .none) (g2:qT [t]=some .none) (g3:ag8 [m,s,t]=some C):JL [m,s,t]=some C:=by
 simp [JL,jA,abY,jJ,jR,abD,qo,jL,jr,jB,lkp,g,g2,g3]
theorem as5 (g:qB [m,s]=some .none) (x:JR [m,s]=none) (g2:qT [t]=some .none) (x2:Qy [t]=none) (g3:ag8 [m,s,t]=none) (x3:amW [m,s,t]=some c):JL [m,s,t]=none/\ab6 [m,s,t]=some c:=by
 constructor
 ·simp [JL,jA,abY,jJ,jR,abD,qo,jL,jr,jB,lkp,g,g2,g3]
 ·refine zR rfl ?_
  show ab5.1 [some m,some s,some t]=_
  simp [ab5,orX,nxX,abD,jL,jr,jB,lkp,g,x,g2,x2,x3]
theorem anx (g:JL [m,s,t]=some C) (g2:aio [s,C]=some d):QZ [m,s,t]=some d:=by
 simp [QZ,jA,afp,jJ,jR,qo,jL,jr,jB,lkp,g,g2]
theorem apz (g:JL [m,s,t]=none) (x:ab6 [m,s,t]=some c):QZ [m,s,t]=none/\ac7 [m,s,t]=some c:=by
 constructor
 ·simp [QZ,jA,afp,jJ,jR,qo,jL,jr,jB,lkp,g]
 ·refine zR rfl ?_
  show afy.1 [some m,some s,some t]=_
  simp [afy,aoL,jL,jr,jB,lkp,x]
end
section
variable {u e l b:Int}
theorem ahl {M:PyData}:∀ (ds:List Int) (i:Nat) (ps:PL) (res:List (Nat × Int) × PL),QA M b e ds i ps=some res->res.2=zv M res.1 ps
 | [],i,ps,res,h=>by cases h; rfl
 | d::ds,i,ps,res,h=>by
  rw [QA] at h
  cases hq:chg b e ps (i+1) d with
  | none=>rw [hq] at h; cases h
  | some cs=>
   rw [hq,zzD] at h
   cases hs:QA M b e ds (i+1) (zv M cs ps) with
   | none=>rw [hs] at h; cases h
   | some q=>
    rw [hs] at h
    cases h
    show q.2=zv M (cs++q.1) ps
    rw [ak5,ahl ds (i+1) _ q hs]
theorem ajR {M:PyData} (hb:0<b):∀ (ds:List Int) (i:Nat) (ps:PL) (res:List (Nat × Int) × PL),QA M b e ds i ps=some res->∀ c ∈ res.1,c.1<i+ds.length/\0<=c.2/\c.2<b
 | [],i,ps,res,h,c,hc=>by cases h; cases hc
 | d::ds,i,ps,res,h,c,hc=>by
  rw [QA] at h
  cases hq:chg b e ps (i+1) d with
  | none=>rw [hq] at h; cases h
  | some cs=>
   rw [hq,zzD] at h
   cases hs:QA M b e ds (i+1) (zv M cs ps) with
   | none=>rw [hs] at h; cases h
   | some q=>
    rw [hs] at h
    cases h
    rw [List.length_cons]
    rcases List.mem_append.mp hc with z | z
    ·have:=aiL (e:=e) hb (i+1) d cs hq c z
     exact ⟨by omega,this.2⟩
    ·have:=ajR hb ds (i+1) _ q hs c z
     exact ⟨by omega,this.2⟩
theorem apA (hb:0<b) {r:Nat} (h1:1<=r) (m:Int) (m0:0<=m):∀ d ∈ dgl b r m,0<=d:=fun d hd=>by
 obtain ⟨k,rfl⟩:∃ k,r=k+1:=⟨r - 1,by omega⟩
 rw [ajQ hb k m] at hd
 obtain ⟨i,_,rfl⟩:=List.mem_map.mp hd
 exact arE hb m0 i
theorem anz (H:zu=true) (h:okN u e l b=true) {r n:Int} (h1:1<=r) (h4:r<=4) (h0:0<=n) (hn:n<=99999):ZX [js u e l b,.int r,.int n]=some .none/\air [js u e l b,.int r,.int n]=none:=by
 refine ⟨ak2 H h h1 h4 h0 hn,?_⟩
 have g:=Qk (akZ H h)
 have x:=aeo (akZ H h)
 obtain ⟨g2,x2⟩:=apu ⟨h1,h4⟩
 obtain ⟨g3,x3⟩:=aiK ⟨h0,hn⟩
 refine zR rfl ?_
 show afw.1 [some (js u e l b),some (.int r),some (.int n)]=_
 simp [afw,orX,nxX,abD,jL,jr,jB,lkp,g,x,g2,x2,g3,x3]
end
section
variable {u e l b:Int}{ps:PL}
theorem ZC (hs:okS u l ps=true):1<=ps.length/\ps.length<=4/\ps.all (okP u l)=true:=by
 unfold okS at hs
 simp only [Bool.and_eq_true,decide_eq_true_eq] at hs
 exact ⟨hs.1.1,hs.1.2,hs.2⟩
theorem apB {N:List Str}{n:Nat}{B:RO}{ds:LP}{ρ:Rho} (hl:ds.length=n) (h:B (jJ N ds)=some (.nx ρ)):jA N n B ds=some .none:=by
 unfold jA
 rw [if_pos hl,h]
theorem aet {M S:PyData}{n v:Int} (g:QG [M,S]=some (.int v)) (hv:n<=v):abX [M,S,.int n]=some .none/\afx [M,S,.int n]=none:=by
 have c1:zn (fun i j=>decide (j<i)) (.int n) (.int v)=some (.bool false):=by
  show some (PyData.bool (decide (v<n)))=_
  rw [decide_eq_false (by omega)]
 constructor
 ·refine apB (ρ:=[some M,some S,some (.int n)]) rfl ?_
  show abW.1 [some M,some S,some (.int n)]=_
  dsimp? [abW,g,c1]
 ·refine zR rfl ?_
  show ab4.1 [some M,some S,some (.int n)]=_
  dsimp? [ab4,g,c1]
theorem arG {M S:PyData}{n v:Int}{r:PyData}{c:Str} (ck:qB [M,S]=some .none) (tk:JR [M,S]=none) (gn:qT [.int n]=some .none) (xn:Qy [.int n]=none) (g:QG [M,S]=some (.int v)) (hv:n<=v) (ln:zI [S]=some r) (p1:JK [M,r,.int (v - n)]=none) (p2:aaB [M,r,.int (v - n)]=some c):aee [M,S,.int n]=none/\ahb [M,S,.int n]=some c:=by
 obtain ⟨e1,e2⟩:=aet g hv
 have s1:Z3 (.int v) (.int n)=some (.int (v - n)):=rfl
 constructor
 ·refine ZA ?_
  show aed.1 [some M,some S,some (.int n)]=_
  dsimp? [aed,ck,gn,e1,g,ln,s1,p1]
 ·refine zR rfl ?_
  show ajB.1 [some M,some S,some (.int n)]=_
  dsimp? [ajB,ck,tk,gn,xn,e1,e2,g,ln,s1,p2]
theorem apC {M S D:PyData}{n v:Int}{r:PyData} (ck:qB [M,S]=some .none) (gn:qT [.int n]=some .none) (g:QG [M,S]=some (.int v)) (hv:n<=v) (ln:zI [S]=some r) (p1:JK [M,r,.int (v - n)]=some D):aee [M,S,.int n]=some D:=by
 obtain ⟨e1,e2⟩:=aet g hv
 have s1:Z3 (.int v) (.int n)=some (.int (v - n)):=rfl
 refine qM rfl ?_
 show aed.1 [some M,some S,some (.int n)]=_
 dsimp? [aed,ck,gn,e1,g,ln,s1,p1]
end
section
variable {m r n:PyData}{c:Str}
end
section
variable {u e l b:Int}{ps:PL}
theorem ck2 (H:zu=true) (h:okN u e l b=true) (hs:okS u l ps=true):qB [js u e l b,jN ps]=some .none/\JR [js u e l b,jN ps]=none:=
 ⟨anm H h hs,aiI (akZ H h) (adg ps) (by rw [aep]; exact hs)⟩
end
def sh (n:Nat) (d:PyData):Prop:=shl n d/\noD d=true
theorem ahm {ds:LP} (h:∀ d ∈ ds,noD d=true):noDs ds=true:=by
 induction ds with
 | nil=>rfl
 | cons d ds ih=>
  show (noD d && noDs ds)=true
  rw [h d List.mem_cons_self,ih fun x hx=>h x (List.mem_cons_of_mem _ hx)]; rfl
theorem anA {n:Nat}{ds:LP} (h:∀ d ∈ ds,sh n d):sh (n+1) (.list ds):=⟨apv.mpr fun d hd=>(h d hd).1,ahm fun d hd=>(h d hd).2⟩
theorem af5 {n:Nat}{ds:LP} (h:∀ d ∈ ds,sh n d):sh (n+1) (.tuple ds):=⟨af1.mpr fun d hd=>(h d hd).1,ahm fun d hd=>(h d hd).2⟩
theorem ajS {n m:Nat}{d:PyData} (h:sh n d) (hm:n<=m):sh m d:=⟨⟨h.1.1,Nat.le_trans h.1.2 hm⟩,h.2⟩
theorem adi (i:Int):sh 1 (.int i):=⟨ajN i,rfl⟩
theorem apD (ps:List (Int × Int)):sh 3 (jN ps):=⟨apw ps,adg ps⟩
def aaI (M s K:PyData) (p q:Addr):Cell:= .ins "Bench" [("now",s),("manner",M),("kept",K),("done",jv p),("undone",jv q)]
structure Bn (μ:jC) (a p q:Addr) (M s K:PyData) (D U:LP):Prop where
 ap:a ≠ p
 aq:a ≠ q
 pq:p ≠ q
 ha:μ a=some (aaI M s K p q)
 hp:μ p=some (.lst D)
 hq:μ q=some (.lst U)
def ZF (μ μ':jC) (a p q:Addr):Prop:=∀ x,x ≠ a->x ≠ p->x ≠ q->μ' x=μ x
noncomputable def stp (w:Str) (s K:PyData):PyData:= .tuple [.str w,s,K]
section
variable {M s s' v n r K K':PyData}{a p q:Addr}{μ:jC}{R:Res PyData->jC->Prop}{D U:LP}{c w:Str}
theorem aqc {tc:Rho->Option Bool}{ρ:Rho} (h:tc ρ=some true):zB tc ρ=some false:=by simp [zB,h]
theorem m_value (b:Bn μ a p q M s K D U) (g:QG [M,s]=some v) (hR:R (.ok v) μ):Jo [jv a] μ R:=by
 simp only [Jo,qu,afC,zc,zi,BX.bindC,j7,qZ,Je,aam,rtC]
 exact ⟨_,rfl,a,_,M,rfl,b.ha,rfl,_,rfl,a,_,s,rfl,b.ha,rfl,_,rfl,_,rfl,_,rfl,v,g,hR⟩
theorem m_setting (b:Bn μ a p q M s K D U) (hR:R (.ok s) μ):Qj [jv a] μ R:=by
 simp only [Qj,qu,abg,zc,zi,BX.bindC,j7,qZ,Je,aam,rtC]
 exact ⟨_,rfl,a,_,s,rfl,b.ha,rfl,hR⟩
theorem m_names (b:Bn μ a p q M s K D U) (g:afd [K]=some v) (hR:R (.ok v) μ):Zu [jv a] μ R:=by
 simp only [Zu,qu,afL,zc,zi,BX.bindC,j7,qZ,Je,aam,rtC]
 exact ⟨_,rfl,a,_,K,rfl,b.ha,rfl,_,rfl,_,rfl,v,g,hR⟩
theorem m_steps (b:Bn μ a p q M s K D U) (hR:R (.ok (.tuple [.int (D.length:Int),.int (U.length:Int)])) μ):JT [jv a] μ R:=by
 simp only [JT,qu,afR,zc,zi,BX.bindC,j7,qZ,Je,aam,rtC,ara]
 exact ⟨_,rfl,a,_,_,rfl,b.ha,rfl,p,D,_,rfl,b.hp,rfl,rfl,_,rfl,a,_,_,rfl,b.ha,rfl,q,U,_,rfl,b.hq,rfl,rfl,_,rfl,_,rfl,_,rfl,_,rfl,hR⟩
theorem m_go_on (b:Bn μ a p q M s K D U) (hl:D.length<1000000) (g:QG [M,s']=some v) (k:∀ μ',Bn μ' a p q M s' K' (D++[stp w s K]) []->ZF μ μ' a p q->R (.ok v) μ'):Q5 [jv a,.str w,s',K'] μ R:=by
 have h1:qY μ p (.lst (D++[stp w s K])) a=some (aaI M s K p q):=by rw [jD b.ap]; exact b.ha
 have h2:qY μ p (.lst (D++[stp w s K])) q=some (.lst U):=by rw [jD (Ne.symm b.pq)]; exact b.hq
 have h3:qY (qY μ p (.lst (D++[stp w s K]))) q (.lst []) a=some (aaI M s K p q):=by rw [jD b.aq]; exact h1
 simp only [Q5,qu,aiv,zc,zi,BX.bindC,j7,qZ,Je,aam,rtC,amG,aq9,amF,asH,asI,JB,QB]
 refine ⟨_,rfl,a,_,_,rfl,b.ha,rfl,⟨p,D,rfl,b.hp⟩,_,rfl,_,rfl,a,_,s,rfl,b.ha,rfl,_,rfl,a,_,K,rfl,b.ha,rfl,_,rfl,_,rfl,_,rfl,_,rfl,_,rfl,p,D,rfl,b.hp,hl,?_⟩
 refine ⟨_,rfl,a,_,_,rfl,h1,rfl,q,U,rfl,h2,?_⟩
 refine ⟨_,rfl,_,rfl,a,_,rfl,h3,(by show 5<1000; omega),_,rfl,_,rfl,a,_,rfl,jH,(by show 5<1000; omega),_,rfl,⟨a,_,rfl,jH,rfl⟩,_,rfl,rfl,?_⟩
 have B:Bn (qY (qY (qY (qY μ p (.lst (D++[stp w s K]))) q (.lst [])) a (aaI M s' K p q)) a (aaI M s' K' p q)) a p q M s' K' (D++[stp w s K]) []:=by
  refine ⟨b.ap,b.aq,b.pq,jH,?_,?_⟩
  ·rw [jD (Ne.symm b.ap),jD (Ne.symm b.ap),jD b.pq]; exact jH
  ·rw [jD (Ne.symm b.aq),jD (Ne.symm b.aq)]; exact jH
 exact m_value B g (k _ B fun x x1 x2 x3=>by rw [jD x1,jD x1,jD x3,jD x2])
theorem m_add (b:Bn μ a p q M s K D U) (hl:D.length<1000000) (f:QZ [M,s,n]=some s') (g:QG [M,s']=some v) (k:∀ μ',Bn μ' a p q M s' K (D++[stp "add" s K]) []->ZF μ μ' a p q->R (.ok v) μ'):aeg [jv a,n] μ R:=by
 simp only [aeg,qu,ajE,zc,zi,BX.bindC,j7,qZ,Je,aam,rtC,JB,QB,agS]
 exact ⟨_,rfl,⟨a,_,rfl,b.ha,rfl⟩,_,rfl,_,rfl,a,_,M,rfl,b.ha,rfl,_,rfl,a,_,s,rfl,b.ha,rfl,_,rfl,_,rfl,_,rfl,_,rfl,_,rfl,rfl,.inl ⟨s',f,_,rfl,a,_,K,rfl,b.ha,rfl,_,rfl,_,rfl,_,rfl,_,rfl,rfl,m_go_on b hl g k⟩⟩
theorem anB (b:Bn μ a p q M s K D U) (t:ac7 [M,s,n]=some c) (hR:R (.er c) μ):aeg [jv a,n] μ R:=by
 simp only [aeg,qu,ajE,zc,zi,BX.bindC,j7,qZ,Je,aam,rtC,JB,QB,agS]
 exact ⟨_,rfl,⟨a,_,rfl,b.ha,rfl⟩,_,rfl,_,rfl,a,_,M,rfl,b.ha,rfl,_,rfl,a,_,s,rfl,b.ha,rfl,_,rfl,_,rfl,_,rfl,_,rfl,_,rfl,rfl,.inr ⟨c,t,hR⟩⟩
theorem m_take (b:Bn μ a p q M s K D U) (hl:D.length<1000000) (f:aee [M,s,n]=some s') (g:QG [M,s']=some v) (k:∀ μ',Bn μ' a p q M s' K (D++[stp "take" s K]) []->ZF μ μ' a p q->R (.ok v) μ'):abh [jv a,n] μ R:=by
 simp only [abh,qu,afF,zc,zi,BX.bindC,j7,qZ,Je,aam,rtC,JB,QB,agS]
 exact ⟨_,rfl,⟨a,_,rfl,b.ha,rfl⟩,_,rfl,_,rfl,a,_,M,rfl,b.ha,rfl,_,rfl,a,_,s,rfl,b.ha,rfl,_,rfl,_,rfl,_,rfl,_,rfl,_,rfl,rfl,.inl ⟨s',f,_,rfl,a,_,K,rfl,b.ha,rfl,_,rfl,_,rfl,_,rfl,_,rfl,rfl,m_go_on b hl g k⟩⟩
theorem ala (b:Bn μ a p q M s K D U) (t:ahb [M,s,n]=some c) (hR:R (.er c) μ):abh [jv a,n] μ R:=by
 simp only [abh,qu,afF,zc,zi,BX.bindC,j7,qZ,Je,aam,rtC,JB,QB,agS]
 exact ⟨_,rfl,⟨a,_,rfl,b.ha,rfl⟩,_,rfl,_,rfl,a,_,M,rfl,b.ha,rfl,_,rfl,a,_,s,rfl,b.ha,rfl,_,rfl,_,rfl,_,rfl,_,rfl,_,rfl,rfl,.inr ⟨c,t,hR⟩⟩
theorem m_push (b:Bn μ a p q M s K D U) (hl:D.length<1000000) (f:abe [M,s,n]=some s') (g:QG [M,s']=some v) (k:∀ μ',Bn μ' a p q M s' K (D++[stp "push" s K]) []->ZF μ μ' a p q->R (.ok v) μ'):afH [jv a,n] μ R:=by
 simp only [afH,qu,aiy,zc,zi,BX.bindC,j7,qZ,Je,aam,rtC,JB,QB,agS]
 exact ⟨_,rfl,⟨a,_,rfl,b.ha,rfl⟩,_,rfl,_,rfl,a,_,M,rfl,b.ha,rfl,_,rfl,a,_,s,rfl,b.ha,rfl,_,rfl,_,rfl,_,rfl,_,rfl,_,rfl,rfl,.inl ⟨s',f,_,rfl,a,_,K,rfl,b.ha,rfl,_,rfl,_,rfl,_,rfl,_,rfl,rfl,m_go_on b hl g k⟩⟩
noncomputable def dk (r:List (PyData × PyData)):PyData:= .dict ((.none,.none)::r)
theorem m_keep {kv:List (PyData × PyData)}{nm:Str} (b:Bn μ a p q M s (dk kv) D U) (hl:D.length<1000000) (hk:kv.length<1000000) (f:Zs [.str nm]=some (.bool true)) (g:QG [M,s]=some v) (k:∀ μ',Bn μ' a p q M s (dk (ZJ kv (Sum.inr nm) s)) (D++[stp "keep" s (dk kv)]) []->ZF μ μ' a p q->R (.ok v) μ'):abi [jv a,.str nm] μ R:=by
 show afJ.1 [some (jv a),some (.str nm),none] μ (adz R)
 simp only [afJ]
 refine ⟨false,?_,a,_,kv,s,nm,rfl,b.ha,rfl,rfl,rfl,hk,by decide,by decide,(by show 2<3; omega),?_⟩
 ·exact aqc (JA (Qa rfl f))
 ·simp only [zc,zi,BX.bindC,j7,qZ,Je,aam,rtC,JB,QB,agS]
  exact ⟨_,rfl,⟨a,_,rfl,b.ha,rfl⟩,_,rfl,_,rfl,a,_,s,rfl,b.ha,rfl,_,rfl,_,rfl,_,rfl,_,rfl,_,rfl,rfl,m_go_on b hl g k⟩
theorem m_recall {kv:List (PyData × PyData)}{nm:Str} (b:Bn μ a p q M s (dk kv) D U) (hl:D.length<1000000) (f:Zs [.str nm]=some (.bool true)) (h:zL kv (Sum.inr nm)=some s') (g:QG [M,s']=some v) (k:∀ μ',Bn μ' a p q M s' (dk kv) (D++[stp "recall" s (dk kv)]) []->ZF μ μ' a p q->R (.ok v) μ'):ac9 [jv a,.str nm] μ R:=by
 show aaE.1 [some (jv a),some (.str nm)] μ (adz R)
 simp only [aaE]
 refine ⟨false,aqc (JA (Qa rfl f)),?_⟩
 have hh:ajq true (.str nm) (dk kv)=some (.bool false):=by
  show some (PyData.bool (!(zL kv (Sum.inr nm)).isSome))=_
  rw [h]; rfl
 refine ⟨.str nm,rfl,_,rfl,a,_,dk kv,rfl,b.ha,rfl,_,hh,false,rfl,?_⟩
 refine ⟨_,rfl,⟨a,_,rfl,b.ha,rfl⟩,_,rfl,_,rfl,a,_,dk kv,rfl,b.ha,rfl,.str nm,rfl,s',h,_,rfl,a,_,dk kv,rfl,b.ha,rfl,_,rfl,_,rfl,_,rfl,_,rfl,rfl,m_go_on b hl g k⟩
theorem m_cross {x y:Addr}{w:Str}{s0 K0:PyData}{D0:LP} (ax:a ≠ x) (ay:a ≠ y) (xy:x ≠ y) (ha:μ a=some (aaI M s K p q)) (hx:μ x=some (.lst (D0++[stp w s0 K0]))) (hy:μ y=some (.lst U)) (hl:U.length<1000000) (k:∀ μ',μ' a=some (aaI M s0 K0 p q)->μ' x=some (.lst D0)->μ' y=some (.lst (U++[stp w s K]))->(∀ z,z ≠ a->z ≠ x->z ≠ y->μ' z=μ z)->R (.ok (.str w)) μ'):acd [jv a,jv x,jv y] μ R:=by
 show acb.1 [some (jv a),some (jv x),some (jv y),none] μ (adz R)
 have e1:(!(D0++[stp w s0 K0]).isEmpty)=true:=by cases D0 <;> rfl
 have e2:(D0++[stp w s0 K0])[(D0++[stp w s0 K0]).length - 1]?=some (stp w s0 K0):=by simp
 have e3:(D0++[stp w s0 K0]).dropLast=D0:=by simp
 have h1:qY μ x (.lst D0) a=some (aaI M s K p q):=by rw [jD ax]; exact ha
 have h2:qY μ x (.lst D0) y=some (.lst U):=by rw [jD (Ne.symm xy)]; exact hy
 have h3:qY (qY μ x (.lst D0)) y (.lst (U++[stp w s K])) a=some (aaI M s K p q):=by rw [jD ay]; exact h1
 simp only [acb]
 refine ⟨_,rfl,x,_,rfl,hx,_,rfl,?_⟩
 rw [e1]
 refine ⟨_,rfl,x,_,_,rfl,hx,e2,?_⟩
 rw [e3]
 refine ⟨_,rfl,⟨y,U,rfl,h2⟩,_,rfl,_,rfl,a,_,s,rfl,h1,rfl,_,rfl,a,_,K,rfl,h1,rfl,_,rfl,_,rfl,_,rfl,_,rfl,_,rfl,y,U,rfl,h2,hl,?_⟩
 refine ⟨_,rfl,_,rfl,a,_,rfl,h3,(by show 5<1000; omega),_,rfl,_,rfl,a,_,rfl,jH,(by show 5<1000; omega),_,rfl,?_⟩
 refine k _ jH ?_ ?_ fun z z1 z2 z3=>?_
 ·rw [jD (Ne.symm ax),jD (Ne.symm ax),jD xy]; exact jH
 ·rw [jD (Ne.symm ay),jD (Ne.symm ay)]; exact jH
 ·rw [jD z1,jD z1,jD z3,jD z2]
theorem m_back {w:Str}{s0 K0:PyData}{D0:LP} (b:Bn μ a p q M s K (D0++[stp w s0 K0]) U) (hl:U.length<1000000) (k:∀ μ',Bn μ' a p q M s0 K0 D0 (U++[stp w s K])->ZF μ μ' a p q->R (.ok (.str w)) μ'):Q6 [jv a] μ R:=by
 simp only [Q6,qu,aiC,zc,zi,BX.bindC,j7,qZ,Je,aam,rtC,JB,QB]
 exact ⟨_,rfl,⟨a,_,rfl,b.ha,rfl⟩,_,rfl,a,_,_,rfl,b.ha,rfl,_,rfl,a,_,_,rfl,b.ha,rfl,_,rfl,_,rfl,_,rfl,rfl,m_cross b.ap b.aq b.pq b.ha b.hp b.hq hl fun μ' h1 h2 h3 h4=>k μ' ⟨b.ap,b.aq,b.pq,h1,h2,h3⟩ h4⟩
theorem m_forth {w:Str}{s0 K0:PyData}{U0:LP} (b:Bn μ a p q M s K D (U0++[stp w s0 K0])) (hl:D.length<1000000) (k:∀ μ',Bn μ' a p q M s0 K0 (D++[stp w s K]) U0->ZF μ μ' a p q->R (.ok (.str w)) μ'):aaF [jv a] μ R:=by
 simp only [aaF,qu,afP,zc,zi,BX.bindC,j7,qZ,Je,aam,rtC,JB,QB]
 exact ⟨_,rfl,⟨a,_,rfl,b.ha,rfl⟩,_,rfl,a,_,_,rfl,b.ha,rfl,_,rfl,a,_,_,rfl,b.ha,rfl,_,rfl,_,rfl,_,rfl,rfl,m_cross b.aq b.ap (Ne.symm b.pq) b.ha b.hq b.hp hl fun μ' h1 h2 h3 h4=>k μ' ⟨b.ap,b.aq,b.pq,h1,h3,h2⟩ fun z z1 z2 z3=>h4 z z1 z3 z2⟩
def Ext (μ μ':jC):Prop:=∀ x c,μ x=some c->μ' x=some c
theorem anC {ρ:Rho} (f:Zp [M,r,.int 0]=some s) (k:∀ (a p q:Addr) (μ':jC),Bn μ' a p q M s (dk []) [] []->μ a=none->μ p=none->μ q=none->Ext μ μ'->R (.ok (jv a)) μ'):aq8 "Bench" ait 3 [M,r] ρ μ R:=by
 refine ⟨rfl,fun a ha=>?_⟩
 show afA.1 [some (jv a),some M,some r] _ (adz _)
 simp only [afA]
 refine ⟨_,rfl,_,rfl,_,rfl,_,rfl,_,rfl,_,rfl,_,rfl,rfl,.inl ⟨s,f,_,rfl,a,_,rfl,jH,(by show 0<1000; omega),?_⟩⟩
 refine ⟨_,rfl,_,rfl,a,_,rfl,jH,(by show 1<1000; omega),?_⟩
 refine ⟨_,rfl,_,rfl,a,_,rfl,jH,(by show 2<1000; omega),?_⟩
 refine ⟨[],rfl,fun p hp=>⟨_,rfl,a,_,rfl,(jD (fun z=>?_)).trans jH,(by show 3<1000; omega),?_⟩⟩
 ·subst z; rw [jH] at hp; cases hp
 have ap:a ≠ p:=fun z=>by subst z; rw [jH] at hp; cases hp
 refine ⟨[],rfl,fun q hq=>⟨_,rfl,a,_,rfl,(jD (fun z=>?_)).trans jH,(by show 4<1000; omega),rfl,?_⟩⟩
 ·subst z; rw [jH] at hq; cases hq
 have aq:a ≠ q:=fun z=>by subst z; rw [jH] at hq; cases hq
 have pq:p ≠ q:=fun z=>by subst z; rw [jD (Ne.symm ap),jH] at hq; cases hq
 have hp':μ p=none:=by simp only [jD (Ne.symm ap)] at hp; exact hp
 have hq':μ q=none:=by simp only [jD (Ne.symm aq),jD (Ne.symm pq)] at hq; exact hq
 refine k a p q _ ⟨ap,aq,pq,jH,?_,?_⟩ ha hp' hq' fun x c hx=>?_
 ·rw [jD (Ne.symm ap),jD pq,jD (Ne.symm ap)]; exact jH
 ·rw [jD (Ne.symm aq)]; exact jH
 ·have n1:x ≠ a:=fun z=>by subst z; rw [ha] at hx; cases hx
  have n2:x ≠ p:=fun z=>by subst z; rw [hp'] at hx; cases hx
  have n3:x ≠ q:=fun z=>by subst z; rw [hq'] at hx; cases hx
  simp only [jD n1,jD n2,jD n3]; exact hx
end
mutual
theorem adj:∀ d:PyData,noD d=true->PyData.eqv d d=true
 | .none,_=>by simp [PyData.eqv]
 | .bool _,_=>by simp [PyData.eqv]
 | .int _,_=>by simp [PyData.eqv]
 | .str _,_=>by simp [PyData.eqv]
 | .tuple ds,h=>by rw [PyData.eqv]; exact eqvA_self ds (by simpa [noD] using h)
 | .list ds,h=>by rw [PyData.eqv]; exact eqvA_self ds (by simpa [noD] using h)
 | .dict _,h=>by simp [noD] at h
theorem eqvA_self:∀ ds:LP,noDs ds=true->PyData.eqvAll ds ds=true
 | [],_=>by simp [PyData.eqvAll]
 | d::ds,h=>by
  have h':noD d=true/\noDs ds=true:=by simpa [noDs] using h
  rw [PyData.eqvAll,adj d h'.1,eqvA_self ds h'.2]; rfl
end
theorem adk {n:Nat}{d:PyData} (h:sh n d) (hn:n<30):dNe d d=some (.bool false):=by
 have ok:=af2 h.1 hn
 unfold dNe
 rw [if_pos ⟨ok,ok⟩,adj d h.2]; rfl
theorem aqd {n:Nat}{d:PyData} (h:sh n d) (hn:n<30) (hl:dEq d d=if okD d=true/\okD d=true then some (.bool (PyData.eqv d d)) else none):dEq d d=some (.bool true):=by
 have ok:=af2 h.1 hn
 rw [hl,if_pos ⟨ok,ok⟩,adj d h.2]
noncomputable def abm:List Str:=["add","take","push","keep","recall"]
theorem af6 {t:Str} (h:t ∈ abm):sh 1 (.str t):=by
 simp only [abm,List.mem_cons,List.not_mem_nil,or_false] at h
 rcases h with rfl | rfl | rfl | rfl | rfl <;> exact ⟨⟨by decide +kernel,by simp [PyData.depth]⟩,rfl⟩
theorem as6 {t:Str} (h:t="a" ∨ t="b"):sh 1 (.str t):=by
 rcases h with rfl | rfl <;> exact ⟨⟨by decide +kernel,by simp [PyData.depth]⟩,rfl⟩
section
variable {ρ ρ1:Rho}{μ:jC}{R:OutC->jC->Prop}{S S' S0:TRS}{tc:Rho->Option Bool}{F:RO}{f:RP}{d:PyData}{i:Nat}{T:TR PyData}
theorem anD (h:tc ρ=some false) (k:S' ρ μ R):zc (ifC (j7 tc) S abF) S' ρ μ R:=⟨false,h,k⟩
theorem aiM (h:tc ρ=some true) (k:zc S S' ρ μ R):zc (ifC (j7 tc) S S0) S' ρ μ R:=⟨true,h,k⟩
theorem adl (h:F ρ=some (.nx ρ1)) (k:S' ρ1 μ R):zc (acP F) S' ρ μ R:=⟨.nx ρ1,h,k⟩
end
theorem adm {i j:Int}{b:Bool}{ρ:Rho}{f:RP} (h:f ρ=some (.int i)) (hb:decide (i=j)=b):tst (op2 dEq f (cst (.int j))) ρ=some b:=by subst hb; exact JA (qz h rfl (Zz i j))
section
variable {ρ ρ1:Rho}{μ:jC}{R:OutC->jC->Prop}{A B S S' S0:TRS}{tc:Rho->Option Bool}{F:RO}{f:RP}{d:PyData}{i j:Nat}{T:TR PyData}{l:Addr}{ds:LP}
theorem anE (h:zc A (zc B S') ρ μ R):zc (zc A B) S' ρ μ R:=by
 have e:(fun (o:OutC) (μ':jC)=>match o with
   | .nx ρ'=>B ρ' μ' fun o μ'=>match o with
    | .nx ρ'=>S' ρ' μ' R
    | o=>R o μ'
   | o=>(match o with
    | .nx ρ'=>S' ρ' μ' R
    | o=>R o μ'))=fun o μ'=>match o with
   | .nx ρ'=>zc B S' ρ' μ' R
   | o=>R o μ':=by
  funext o μ'
  cases o <;> rfl
 show A ρ μ _
 exact e ▸ h
theorem as7 (h:A ρ μ fun o μ'=>match o with
  | .nx ρ'=>S' ρ' μ' R
  | o=>R o μ'):zc A S' ρ μ R:=h
end
theorem ZD {ga:PyData->Rho->Option Rho}{S:TRS}{R:OutC->jC->Prop} (I:Nat->Rho->jC->Prop):∀ (ds:LP) (j:Nat) (ρ:Rho) (μ:jC),I j ρ μ->
  (∀ (i:Nat) (d:PyData) (ρ:Rho) (μ:jC) (R':OutC->jC->Prop),ds[i]?=some d->I (j+i) ρ μ->(∀ ρ' μ',I (j+i+1) ρ' μ'->R' (.nx ρ') μ')->∃ ρ1,ga d ρ=some ρ1/\S ρ1 μ R')->(∀ ρ' μ',I (j+ds.length) ρ' μ'->R (.nx ρ') μ')->ad2 ga S ds ρ μ R
 | [],j,ρ,μ,h,_,k=>k ρ μ h
 | d::ds,j,ρ,μ,h,st,k=>by
  obtain ⟨ρ1,g1,g2⟩:=st 0 d ρ μ (ap5 (fun ρ2 μ2=>ad2 ga S ds ρ2 μ2 R) R) rfl h fun ρ' μ' h'=>ZD I ds (j+1) ρ' μ' h' (fun i d' ρ μ R' hd hi kk=>st (i+1) d' ρ μ R' (by simpa using hd) (by rw [show j+(i+1)=j+1+i by omega]; exact hi) (fun ρ' μ' z=>kk ρ' μ' (by rw [show j+1+i+1=j+(i+1)+1 by omega]; exact z))) fun ρ' μ' z=>k ρ' μ' (by rw [List.length_cons,show j+(ds.length+1)=j+1+ds.length by omega]; exact z)
  exact ⟨ρ1,g1,g2⟩
section
variable {u e l b:Int}{ps:PL}
section
variable {m r n d:PyData}{c:Str}
theorem arH (g:ZX [m,r,n]=some .none) (g2:JK [m,r,n]=some d):Zp [m,r,n]=some d:=by
 simp [Zp,jA,afl,jJ,jR,abD,qo,jL,jr,jB,lkp,g,g2]
end
theorem anF (H:zu=true) (h:okN u e l b=true) {r:Nat} (h1:1<=r) (h4:r<=4):Zp [js u e l b,.int (r:Int),.int 0]=some (jN (pln (js u e l b) b r 0)):=by
 obtain ⟨a1,a2,a3,a4,a5,a6,a7,a8,a9,a10⟩:=qC h
 obtain ⟨k1,k2⟩:=anz H h (r:=(r:Int)) (n:=0) (by omega) (by omega) (by omega) (by omega)
 exact arH k1 (add H h h1 h4 (by omega) (Int.pow_pos (by omega)))
theorem arI (H:zu=true) (h:okN u e l b=true) (hs:okS u l ps=true) {n:Int} (n0:0<=n) (n1:n<=99999):(∃ qs:PL,QZ [js u e l b,jN ps,.int n]=some (jN qs)/\okS u l qs=true/\qs.length=ps.length) ∨ ac7 [js u e l b,jN ps,.int n]=some "TooGreat":=by
 obtain ⟨a1,a2,a3,a4,a5,a6,a7,a8,a9,a10⟩:=qC h
 have hb:0<b:=by omega
 obtain ⟨h1,h4,hk⟩:=ZC hs
 obtain ⟨ck,tk⟩:=ck2 H h hs
 obtain ⟨gn,xn⟩:=aiK (i:=n) ⟨n0,n1⟩
 obtain ⟨c1,c2⟩:=as4 H h (ps:=ps) rfl h1 h4 hk n0 (apA hb h1 n n0)
 cases hq:QA (js u e l b) b e (dgl b ps.length n) 0 ps with
 | none=>
  obtain ⟨g3,x3⟩:=c2 hq
  obtain ⟨p1,p2⟩:=as5 ck tk gn xn g3 x3
  exact .inr (apz p1 p2).2
 | some res=>
  have g:=arF ck gn (c1 res hq)
  have q2:=ahl _ _ _ res hq
  have lt:=ajR (e:=e) hb _ _ _ res hq
  rw [Zy] at lt
  have bh:=ahk (m:=js u e l b) (cs:=res.1) (ps:=ps) fun c hc=>by have:=(lt c hc).1; omega
  refine .inl ⟨_,anx g bh,?_,ZB _ _ _⟩
  simp only [okS,Bool.and_eq_true,decide_eq_true_eq,ZB]
  exact ⟨⟨h1,h4⟩,adh H h _ _ (fun c hc=>(lt c hc).2) hk⟩
theorem apE (H:zu=true) (h:okN u e l b=true) (hs:okS u l ps=true) {n:Int} (n0:0<=n) (n1:n<=99999) (hv:n<=val b e ps):(∃ qs:PL,aee [js u e l b,jN ps,.int n]=some (jN qs)/\okS u l qs=true/\qs.length=ps.length) ∨ ahb [js u e l b,jN ps,.int n]=some "TooGreat":=by
 obtain ⟨h1,h4,hk⟩:=ZC hs
 obtain ⟨ck,tk⟩:=ck2 H h hs
 obtain ⟨gn,xn⟩:=aiK (i:=n) ⟨n0,n1⟩
 have g:=ajI h h4 hk
 have ln:=ade ps
 by_cases hp:val b e ps - n<b ^ ps.length
 ·exact .inl ⟨_,apC ck gn g hv ln (add H h h1 h4 (by omega) hp),ank H h h1 h4 (by omega) hp,af0 _ _ _ _⟩
 ·exact .inr (arG ck tk gn xn g hv ln (aiJ h h1 h4 (by omega) (by omega)) (aiG h h1 h4 (by omega) (by omega))).2
theorem apF (H:zu=true) (h:okN u e l b=true) (hs:okS u l ps=true) {p:Int × Int} (hp:ps[0]?=some p) {k:Bool}{c:Int} (hc:c=1 ∨ c=-1) (ho:okP u l (shP p k c)=true):abe [js u e l b,jN ps,mv 0 k c]=some (jN (ps.set 0 (shP p k c)))/\okS u l (ps.set 0 (shP p k c))=true/\(ps.set 0 (shP p k c)).length=ps.length:=by
 have t:=as1 (e:=e) (b:=b) hs hp k hc
 rw [if_pos ho] at t
 exact ⟨anw H h hs t,ajO hs 0 ho,List.length_set⟩
end
def GS (u l:Int) (r:Nat) (d:PyData):Prop:=∃ ps:PL,d=jN ps/\okS u l ps=true/\ps.length=r
noncomputable abbrev KV:=List (PyData × PyData)
inductive KO (G:PyData->Prop):KV->Prop
 | n:KO G []
 | a (x:PyData) (hx:G x):KO G [(.str "a",x)]
 | b (y:PyData) (hy:G y):KO G [(.str "b",y)]
 | ab (x y:PyData) (hx:G x) (hy:G y):KO G [(.str "a",x),(.str "b",y)]
 | ba (y x:PyData) (hy:G y) (hx:G x):KO G [(.str "b",y),(.str "a",x)]
theorem aqe:aac (Sum.inr "a") (.str "a")=true:=by decide
theorem aqf:aac (Sum.inr "a") (.str "b")=false:=by decide
theorem aqg:aac (Sum.inr "b") (.str "a")=false:=by decide
theorem aqh:aac (Sum.inr "b") (.str "b")=true:=by decide
section
variable {G:PyData->Prop}{kv:KV}
theorem KO.len (h:KO G kv):kv.length<1000000:=by cases h <;> simp
theorem KO.val (h:KO G kv) {nm:Str}{d:PyData} (e:zL kv (Sum.inr nm)=some d):G d:=by
 have key:∀ p ∈ kv,G p.2:=by cases h <;> simp_all
 unfold zL at e
 cases hf:kv.find? fun p=>aac (Sum.inr nm) p.1 with
 | none=>rw [hf] at e; cases e
 | some p=>
  rw [hf] at e; cases e
  exact key p (List.mem_of_find?_eq_some hf)
theorem KO.put (h:KO G kv) {nm:Str} (hn:nm="a" ∨ nm="b") {d:PyData} (hd:G d):KO G (ZJ kv (Sum.inr nm) d):=by
 rcases hn with rfl | rfl <;> cases h <;> simp only [ZJ,List.any_cons,List.any_nil,List.map_cons,List.map_nil,aqe,aqf,aqg,aqh,Bool.or_false,Bool.or_true,Bool.false_or,Bool.true_or,zzM,zzN,zzL,List.nil_append,List.cons_append,acv] <;> constructor <;> assumption
def kN (kv:KV):List Str:=match kv with
 | []=>[]
 | [(.str t,_)]=>[t]
 | _=>["a","b"]
theorem KO.srt (h:KO G kv):afd [dk kv]=some (.list ((kN kv).map .str)):=by
 cases h <;> rfl
end
end Rods
end
section
namespace Rods
open PySem L2 BX
open PyProof.Rows hiding St
section
variable {u e l b:Int}{r:Nat}{ps:PL}{kv:KV}{a p q:Addr}{μ:jC}{R:Res PyData->jC->Prop}{D U:LP}
def nw (b e:Int) (ps:PL) (kv:KV):PyData:= .tuple [jN ps,.int (val b e ps),.list ((kN kv).map .str)]
structure Gd (u l:Int) (r:Nat) (ps:PL) (kv:KV):Prop where
 ok:okS u l ps=true
 len:ps.length=r
 ko:KO (GS u l r) kv
theorem Gd.num (g:Gd u l r ps kv) (h:okN u e l b=true):QG [js u e l b,jN ps]=some (.int (val b e ps)):=by
 obtain ⟨k1,k4,kk⟩:=ZC g.ok
 exact ajI h k4 kk
theorem adn (h:okN u e l b=true) (g:Gd u l r ps kv) (bn:Bn μ a p q (js u e l b) (jN ps) (dk kv) D U) (hR:R (.ok (nw b e ps kv)) μ):ajG [jv a] μ R:=by
 show ajF.1 [some (jv a)] μ (adz R)
 simp only [ajF]
 exact ⟨jv a,rfl,⟨a,_,rfl,bn.ha,rfl⟩,_,rfl,rfl,m_setting bn ⟨jv a,rfl,⟨a,_,rfl,bn.ha,rfl⟩,_,rfl,rfl,m_value bn (g.num h) ⟨jv a,rfl,⟨a,_,rfl,bn.ha,rfl⟩,_,rfl,rfl,m_names bn g.ko.srt ⟨_,rfl,_,rfl,_,rfl,_,rfl,_,rfl,hR⟩⟩⟩⟩
theorem as8 (k:KO (GS u l r) kv):∀ t ∈ kN kv,t="a" ∨ t="b":=by
 cases k <;> simp [kN]
theorem anG (g:Gd u l r ps kv):sh 4 (nw b e ps kv):=af5 fun d hd=>by
 simp only [List.mem_cons,List.not_mem_nil,or_false] at hd
 rcases hd with rfl | rfl | rfl
 ·exact apD _
 ·exact ajS (adi _) (by omega)
 ·refine ajS (n:=2) (anA fun d hd=>?_) (by omega)
  obtain ⟨t,ht,rfl⟩:=List.mem_map.mp hd
  exact as6 (as8 g.ko t ht)
theorem ahn (k:KO (GS u l r) kv) {nm:Str} (hn:nm="a" ∨ nm="b") (neg:Bool):dIn neg (.str nm) (.list ((kN kv).map .str))=some (.bool (if neg then !(zL kv (Sum.inr nm)).isSome else (zL kv (Sum.inr nm)).isSome)):=by
 rcases hn with rfl | rfl <;> cases k <;> cases neg <;> first | rfl | decide +kernel | kernel_rfl
theorem af7 {nm:Str} (hn:nm="a" ∨ nm="b" ∨ nm="zz"):Zs [.str nm]=some (.bool true):=by
 rcases hn with rfl | rfl | rfl <;> kernel_rfl
end
section
variable {u e l b:Int}{r:Nat}{ps:PL}{kv:KV}{a p q:Addr}{μ:jC}{R:Res PyData->jC->Prop}{D U:LP}
theorem anH {i j:Int}{ρ:Rho}{f:RP} (h:f ρ=some (.int i)) (hb:i<j):tst (op2 (zn fun i j=>decide (i<j)) f (cst (.int j))) ρ=some true:=JA (qz h rfl (by show some (PyData.bool (decide (i<j)))=_; rw [decide_eq_true hb]))
theorem aqi {i j:Int}{ρ:Rho}{f:RP} (h:f ρ=some (.int i)) (hb:¬ i<j):tst (op2 (zn fun i j=>decide (i<j)) f (cst (.int j))) ρ=some false:=JA (qz h rfl (by show some (PyData.bool (decide (i<j)))=_; rw [decide_eq_false hb]))
theorem arJ {i j:Int}{ρ:Rho}{f:RP} (h:f ρ=some (.int i)) (hb:j<i):tst (op2 (zn fun i j=>decide (j<i)) f (cst (.int j))) ρ=some true:=JA (qz h rfl (by show some (PyData.bool (decide (j<i)))=_; rw [decide_eq_true hb]))
theorem anI {i j:Int}{ρ:Rho}{f:RP} (h:f ρ=some (.int i)) (hb:¬ j<i):tst (op2 (zn fun i j=>decide (j<i)) f (cst (.int j))) ρ=some false:=JA (qz h rfl (by show some (PyData.bool (decide (j<i)))=_; rw [decide_eq_false hb]))
theorem aqj {tc:Rho->Option Bool}{A B:RP}{ρ:Rho} (h:tc ρ=some true):ifD tc A B ρ=A ρ:=by simp [ifD,h]
theorem ajT {tc:Rho->Option Bool}{A B:RP}{ρ:Rho} (h:tc ρ=some false):ifD tc A B ρ=B ρ:=by simp [ifD,h]
theorem arK {s t:Rho->Option Bool}{ρ:Rho} (h:s ρ=some false):adt s t ρ=some false:=by simp [adt,h]
theorem aiN {s t:Rho->Option Bool}{ρ:Rho}{v:Bool} (h:s ρ=some true) (k:t ρ=some v):adt s t ρ=some v:=by simp [adt,h,k]
theorem KO.valput {G:PyData->Prop}{kv:KV} (h:KO G kv) {nm:Str} (hn:nm="a" ∨ nm="b") {d:PyData}:zL (ZJ kv (Sum.inr nm) d) (Sum.inr nm)=some d:=by
 rcases hn with rfl | rfl <;> cases h <;> simp only [ZJ,zL,List.any_cons,List.any_nil,List.map_cons,List.map_nil,aqe,aqf,aqg,aqh,Bool.or_false,Bool.or_true,Bool.false_or,Bool.true_or,zzM,zzN,zzL,List.nil_append,List.cons_append,acv,List.find?_cons,List.find?_nil] <;> rfl
theorem eqi (i:Int):dEq (.int i) (.int i)=some (.bool true):=by rw [Zz,decide_eq_true rfl]
theorem as9 {v:Int} (hv:0<=v):∃ m:Int,aja [.int 30,.int v]=some (.int m)/\0<=m/\m<=v/\m<=30:=by
 refine ⟨if v<30 then v else 30,rfl,?_⟩
 split <;> omega
theorem apG (H:zu=true) (h:okN u e l b=true) {ns:List Int} (hn:ns.length<1000000) {t:Int} (ht:0<=t) (g:Gd u l r ps kv) (bn:Bn μ a p q (js u e l b) (jN ps) (dk kv) D U) (hl:D.length<1000000) (k0:R (.ok (.bool true)) μ)
  (k1:∀ μ' w qs kv',w ∈ abm->Gd u l r qs kv'->Bn μ' a p q (js u e l b) (jN qs) (dk kv') (D++[stp w (jN ps) (dk kv)]) []->ZF μ μ' a p q->R (.ok (.bool true)) μ'):aiE [scr ns,.int t,jv a,js u e l b] μ R:=by
 obtain ⟨a1,a2,a3,a4,a5,a6,a7,a8,a9,a10⟩:=qC h
 obtain ⟨s1,s4,sp⟩:=ZC g.ok
 have gn:=g.num h
 have vn:=arv h sp
 obtain ⟨m30,e30,m0,mv1,m1⟩:=as9 vn
 obtain ⟨w,d1,w0,w7⟩:=qE ns hn t 7 ht (by omega)
 obtain ⟨n1,d2,n10,n11⟩:=qE ns hn (t+1) (1+b) (by omega) (by omega)
 obtain ⟨n2,d3,n20,n21⟩:=qE ns hn (t+1) (1+m30) (by omega) (by omega)
 obtain ⟨n3,d4,n30,n31⟩:=qE ns hn (t+2) 2 (by omega) (by omega)
 generalize scr ns=S at*
 show afT.1 [some S,some (.int t),some (jv a),some (js u e l b),none,none,none,none,none,none] μ (adz R)
 simp only [afT]
 refine adl (ρ1:=[some S,some (.int t),some (jv a),some (js u e l b),some (.int w),none,none,none,none,none]) (JY (i:=4) (Qa rfl d1)) ?_
 by_cases c1:w<2
 ·refine aiM (anH (i:=w) rfl c1) ?_
  refine anE (adl (ρ1:=[some S,some (.int t),some (jv a),some (js u e l b),some (.int w),some (.int n1),none,none,none,none]) (JY (i:=5) (Qa (qf rfl (qf (qz rfl rfl (add_int _ _)) (qf (qz rfl (qz rfl rfl rfl) (add_int _ _)) rfl))) d2)) ?_)
  refine anE (as7 ?_)
  refine ⟨jv a,rfl,⟨a,_,rfl,bn.ha,rfl⟩,.int n1,rfl,_,rfl,_,rfl,rfl,?_⟩
  rcases arI H h g.ok n10 (by omega) with ⟨qs,f,ok,len⟩ | f
  ·have g':Gd u l r qs kv:=⟨ok,len.trans g.len,g.ko⟩
   exact m_add bn hl f (g'.num h) fun μ' bn' el=>⟨jv a,rfl,⟨a,_,rfl,bn'.ha,rfl⟩,_,rfl,rfl,m_value bn' (g'.num h) ⟨_,eqi _,k1 _ _ _ _ (by simp [abm]) g' bn' el⟩⟩
  ·exact anB bn f ⟨rfl,.bool true,rfl,k0⟩
 ·refine anD (aqi (i:=w) rfl c1) ?_
  by_cases c2:w=2
  ·refine aiM (adm (i:=w) rfl (decide_eq_true c2)) ?_
   refine anE (as7 ?_)
   refine ⟨jv a,rfl,⟨a,_,rfl,bn.ha,rfl⟩,S,rfl,.int (t+1),qz rfl rfl (add_int _ _),.int 1,rfl,.int 30,rfl,jv a,rfl,⟨a,_,rfl,bn.ha,rfl⟩,_,rfl,rfl,m_value bn gn ?_⟩
   refine ⟨_,rfl,_,rfl,_,rfl,.int m30,e30,.int (1+m30),rfl,_,rfl,_,rfl,_,rfl,_,rfl,.int n2,d3,?_⟩
   refine ⟨_,rfl,_,rfl,rfl,?_⟩
   rcases apE H h g.ok n20 (by omega) (by omega) with ⟨qs,f,ok,len⟩ | f
   ·have g':Gd u l r qs kv:=⟨ok,len.trans g.len,g.ko⟩
    exact m_take bn hl f (g'.num h) fun μ' bn' el=>⟨jv a,rfl,⟨a,_,rfl,bn'.ha,rfl⟩,_,rfl,rfl,m_value bn' (g'.num h) ⟨_,eqi _,k1 _ _ _ _ (by simp [abm]) g' bn' el⟩⟩
   ·exact ala bn f ⟨rfl,.bool true,rfl,k0⟩
  ·refine anD (adm (i:=w) rfl (decide_eq_false c2)) ?_
   by_cases c3:w=3
   ·refine aiM (adm (i:=w) rfl (decide_eq_true c3)) ?_
    obtain ⟨p0,pr',hps⟩:∃ p0 pr',ps=p0::pr':=by
     cases ps with
     | nil=>simp at s1
     | cons x y=>exact ⟨x,y,rfl⟩
    have hp0:ps[0]?=some p0:=by rw [hps]; rfl
    have i0:dIx (jN ps) (.int 0)=some (pr p0):=by
     subst hps
     show (if ((p0::pr').map pr).length<1000000 then atI ((p0::pr').map pr) 0 else none)=_
     rw [if_pos (by simp at s4 ⊢; omega)]
     unfold atI ixN
     rw [if_pos (Int.le_refl 0),if_pos (by simp)]; rfl
    have ok0:okP u l p0=true:=List.all_eq_true.mp sp p0 (by rw [hps]; exact List.mem_cons_self)
    obtain ⟨q1,q2,q3,q4⟩:=Js ok0
    obtain ⟨x,y⟩:=p0
    refine ⟨jv a,rfl,⟨a,_,rfl,bn.ha,rfl⟩,_,rfl,rfl,m_setting bn ⟨.int 0,rfl,pr (x,y),i0,[some S,some (.int t),some (jv a),some (js u e l b),some (.int w),none,some (.int x),some (.int y),none,none],rfl,?_⟩⟩
    have key:∃ (k:Bool) (c:Int),(c=1 ∨ c=-1)/\okP u l (shP (x,y) k c)=true/\∃ y8,(qQ (ifD (tst (op2 (zn fun i j=>decide (j<i)) (lkp 7) (cst (.int 0)))) (QF (jr (cst (.int 0)) (jr (cst (.str "lower")) (jr (fun ρ=>(cst (.int 1) ρ).bind ahV) jB)))) (QF (jr (cst (.int 0)) (jr (cst (.str "upper")) (jr (ifD (tst (op2 (zn fun i j=>decide (i<j)) (lkp 6) (op2 dIx (lkp 3) (cst (.int 0))))) (cst (.int 1)) (fun ρ=>(cst (.int 1) ρ).bind ahV)) jB))))) (jK 8)) [some S,some (.int t),some (jv a),some (js u e l b),some (.int w),none,some (.int x),some (.int y),none,none]=some (.nx [some S,some (.int t),some (jv a),some (js u e l b),some (.int w),none,some (.int x),some (.int y),some y8,none])/\(ifS (adt (tst (op2 dEq (lkp 7) (cst (.int 0)))) (tst (op2 dEq (op2 dIx (lkp 3) (cst (.int 0))) (cst (.int 0))))) (jR (qQ (cst (.tuple [.int 0,.str "lower",.int 1])) (jK 8)) qx) qx) [some S,some (.int t),some (jv a),some (js u e l b),some (.int w),none,some (.int x),some (.int y),some y8,none]=some (.nx [some S,some (.int t),some (jv a),some (js u e l b),some (.int w),none,some (.int x),some (.int y),some (mv 0 k c),none]):=by
     have iu:op2 dIx (lkp 3) (cst (.int 0)) [some S,some (.int t),some (jv a),some (js u e l b),some (.int w),none,some (.int x),some (.int y),none,none]=some (.int u):=rfl
     have iu8:∀ y8,op2 dIx (lkp 3) (cst (.int 0)) [some S,some (.int t),some (jv a),some (js u e l b),some (.int w),none,some (.int x),some (.int y),some y8,none]=some (.int u):=fun _=>rfl
     by_cases yy:0<y
     ·refine ⟨true,-1,.inr rfl,?_,mv 0 true (-1),JY (i:=8) ((aqj (arJ (i:=y) rfl yy)).trans rfl),?_⟩
      ·simp only [okP,shP,zzM,Bool.and_eq_true,decide_eq_true_eq] at *; omega
      ·exact arD (arK (adm (i:=y) rfl (decide_eq_false (by omega))))
     ·have y0:y=0:=by omega
      by_cases xx:x<u
      ·have tp:QF (jr (cst (.int 0)) (jr (cst (.str "upper")) (jr (ifD (tst (op2 (zn fun i j=>decide (i<j)) (lkp 6) (op2 dIx (lkp 3) (cst (.int 0))))) (cst (.int 1)) (fun ρ=>(cst (.int 1) ρ).bind ahV)) jB))) [some S,some (.int t),some (jv a),some (js u e l b),some (.int w),none,some (.int x),some (.int y),none,none]=some (mv 0 false 1):=by
        unfold QF
        rw [qf rfl (qf rfl (qf ((aqj (JA (qz rfl iu (by show some (PyData.bool (decide (x<u)))=_; rw [decide_eq_true xx])))).trans rfl) rfl)),zzD,if_pos fw3]; rfl
       refine ⟨false,1,.inl rfl,?_,mv 0 false 1,JY (i:=8) ((ajT (anI (i:=y) rfl yy)).trans tp),?_⟩
       ·simp only [okP,shP,zzL,zzN,Bool.and_eq_true,decide_eq_true_eq] at *; omega
       ·exact arD (aiN (adm (i:=y) rfl (decide_eq_true y0)) (adm (iu8 _) (decide_eq_false (by omega))))
      ·have tp:QF (jr (cst (.int 0)) (jr (cst (.str "upper")) (jr (ifD (tst (op2 (zn fun i j=>decide (i<j)) (lkp 6) (op2 dIx (lkp 3) (cst (.int 0))))) (cst (.int 1)) (fun ρ=>(cst (.int 1) ρ).bind ahV)) jB))) [some S,some (.int t),some (jv a),some (js u e l b),some (.int w),none,some (.int x),some (.int y),none,none]=some (mv 0 false (-1)):=by
        unfold QF
        rw [qf rfl (qf rfl (qf ((ajT (JA (qz rfl iu (by show some (PyData.bool (decide (x<u)))=_; rw [decide_eq_false xx])))).trans rfl) rfl)),zzD,if_pos fw3]; rfl
       by_cases u0:u=0
       ·refine ⟨true,1,.inl rfl,?_,mv 0 false (-1),JY (i:=8) ((ajT (anI (i:=y) rfl yy)).trans tp),?_⟩
        ·simp only [okP,shP,zzM,Bool.and_eq_true,decide_eq_true_eq] at *; omega
        ·exact (at0 (aiN (adm (i:=y) rfl (decide_eq_true y0)) (adm (iu8 _) (decide_eq_true u0)))).trans rfl
       ·refine ⟨false,-1,.inr rfl,?_,mv 0 false (-1),JY (i:=8) ((ajT (anI (i:=y) rfl yy)).trans tp),?_⟩
        ·simp only [okP,shP,zzL,zzN,Bool.and_eq_true,decide_eq_true_eq] at *; omega
        ·exact arD (aiN (adm (i:=y) rfl (decide_eq_true y0)) (adm (iu8 _) (decide_eq_false u0)))
    obtain ⟨k,c,hc,ho,y8,f8,f9⟩:=key
    refine adl f8 (adl f9 ?_)
    obtain ⟨f,ok,len⟩:=apF H h g.ok hp0 hc ho
    have g':Gd u l r (ps.set 0 (shP (x,y) k c)) kv:=⟨ok,len.trans g.len,g.ko⟩
    refine ⟨jv a,rfl,⟨a,_,rfl,bn.ha,rfl⟩,mv 0 k c,rfl,_,rfl,_,rfl,rfl,?_⟩
    exact m_push bn hl f (g'.num h) fun μ' bn' el=>⟨jv a,rfl,⟨a,_,rfl,bn'.ha,rfl⟩,_,rfl,rfl,m_value bn' (g'.num h) ⟨_,eqi _,k1 _ _ _ _ (by simp [abm]) g' bn' el⟩⟩
   ·refine anD (adm (i:=w) rfl (decide_eq_false c3)) ?_
    have hnm:∃ nm:Str,(nm="a" ∨ nm="b")/\ard (.str "ab") (.int n3)=some (.str nm):=by
     have:n3=0 ∨ n3=1:=by omega
     rcases this with rfl | rfl
     ·exact ⟨"a",.inl rfl,by kernel_rfl⟩
     ·exact ⟨"b",.inr rfl,by kernel_rfl⟩
    obtain ⟨nm,hnm,inm⟩:=hnm
    refine adl (ρ1:=[some S,some (.int t),some (jv a),some (js u e l b),some (.int w),none,none,none,none,some (.str nm)]) (JY (i:=9) (qz rfl (Qa (qf rfl (qf (qz rfl rfl (add_int _ _)) rfl)) d4) inm)) ?_
    have keep:(zc (zi (amC (opC dEq (BX.bindC (j7 (lkp 2)) (JB "Bench" "keep" abi 2 (Je (j7 (lkp 9)) (qZ (some []))))) (BX.bindC (j7 (lkp 2)) (JB "Bench" "value" Jo 1 (qZ (some []))))) (opC (dIn false) (j7 (lkp 9)) (BX.bindC (j7 (lkp 2)) (JB "Bench" "names" Zu 1 (qZ (some [])))))) rtC) abF) [some S,some (.int t),some (jv a),some (js u e l b),some (.int w),none,none,none,none,some (.str nm)] μ (adz R):=by
     have g':Gd u l r ps (ZJ kv (Sum.inr nm) (jN ps)):=⟨g.ok,g.len,g.ko.put hnm ⟨ps,rfl,g.ok,g.len⟩⟩
     refine ⟨jv a,rfl,⟨a,_,rfl,bn.ha,rfl⟩,.str nm,rfl,_,rfl,_,rfl,rfl,?_⟩
     refine m_keep bn hl g.ko.len (af7 (by rcases hnm with rfl | rfl <;> simp)) gn fun μ' bn' el=>?_
     refine ⟨jv a,rfl,⟨a,_,rfl,bn'.ha,rfl⟩,_,rfl,rfl,m_value bn' gn ?_⟩
     refine ⟨_,eqi _,?_⟩
     have inn:dIn false (.str nm) (.list ((kN (ZJ kv (Sum.inr nm) (jN ps))).map .str))=some (.bool true):=by
      rw [ahn g'.ko hnm false,g.ko.valput hnm]; rfl
     exact ⟨true,rfl,.str nm,rfl,jv a,rfl,⟨a,_,rfl,bn'.ha,rfl⟩,_,rfl,rfl,m_names bn' g'.ko.srt ⟨_,inn,k1 _ _ _ _ (by simp [abm]) g' bn' el⟩⟩
    by_cases c4:w<6
    ·refine ⟨true,anH (i:=w) rfl c4,true,rfl,?_⟩
     exact keep
    ·refine ⟨false,aqi (i:=w) rfl c4,?_⟩
     refine ⟨.str nm,rfl,jv a,rfl,⟨a,_,rfl,bn.ha,rfl⟩,_,rfl,rfl,m_names bn g.ko.srt ?_⟩
     refine ⟨_,ahn g.ko hnm true,_,rfl,?_⟩
     cases hv:zL kv (Sum.inr nm) with
     | none=>exact keep
     | some s'=>
      obtain ⟨qs,rfl,ok,len⟩:=g.ko.val hv
      have g':Gd u l r qs kv:=⟨ok,len,g.ko⟩
      refine ⟨jv a,rfl,⟨a,_,rfl,bn.ha,rfl⟩,.str nm,rfl,_,rfl,_,rfl,rfl,?_⟩
      exact m_recall bn hl (af7 (by rcases hnm with rfl | rfl <;> simp)) hv (g'.num h) fun μ' bn' el=>⟨jv a,rfl,⟨a,_,rfl,bn'.ha,rfl⟩,_,rfl,rfl,m_value bn' (g'.num h) ⟨_,eqi _,k1 _ _ _ _ (by simp [abm]) g' bn' el⟩⟩
end
section
variable {u e l b:Int}{r:Nat}{a p q:Addr}{μ:jC}{R:Res PyData->jC->Prop}
structure Hs (u l:Int) (r m:Nat) (S:Nat->PL) (K:Nat->KV) (W:Nat->Str):Prop where
 good:∀ i,i<=m->Gd u l r (S i) (K i)
 word:∀ i,i<m->W i ∈ abm
def Bk (S:Nat->PL) (K:Nat->KV) (W:Nat->Str) (i:Nat):PyData:=stp (W i) (jN (S i)) (dk (K i))
def Fw (S:Nat->PL) (K:Nat->KV) (W:Nat->Str) (i:Nat):PyData:=stp (W i) (jN (S (i+1))) (dk (K (i+1)))
def dn (S:Nat->PL) (K:Nat->KV) (W:Nat->Str) (i:Nat):LP:=(List.range i).map (Bk S K W)
def un (S:Nat->PL) (K:Nat->KV) (W:Nat->Str) (m i:Nat):LP:=(List.range (m - i)).map fun j=>Fw S K W (m - 1 - j)
def rws (b e:Int) (S:Nat->PL) (K:Nat->KV) (n:Nat):LP:=(List.range n).map fun i=>nw b e (S i) (K i)
noncomputable def wds (W:Nat->Str) (m j:Nat):LP:=(List.range j).map fun i=>PyData.str (W (m - 1 - i))
theorem ZZ (S:Nat->PL) (K:Nat->KV) (W:Nat->Str) (i:Nat):(dn S K W i).length=i:=by simp [dn]
theorem anJ (S:Nat->PL) (K:Nat->KV) (W:Nat->Str) (m i:Nat):(un S K W m i).length=m - i:=by simp [un]
theorem ajU (S:Nat->PL) (K:Nat->KV) (n:Nat):(rws b e S K n).length=n:=by simp [rws]
theorem af8 (W:Nat->Str) (m j:Nat):(wds W m j).length=j:=by simp [wds]
theorem af9 (S:Nat->PL) (K:Nat->KV) (W:Nat->Str) (i:Nat):dn S K W (i+1)=dn S K W i++[Bk S K W i]:=by simp [dn,List.range_succ]
theorem ajV (S:Nat->PL) (K:Nat->KV) (W:Nat->Str) {m i:Nat} (h:i<m):un S K W m i=un S K W m (i+1)++[Fw S K W i]:=by
 unfold un
 rw [show m - i=(m - (i+1))+1 by omega,List.range_succ,List.map_append,List.map_singleton,show m - 1 - (m - (i+1))=i by omega]
theorem aho (W:Nat->Str) (m j:Nat):wds W m (j+1)=wds W m j++[.str (W (m - 1 - j))]:=by simp [wds,List.range_succ]
theorem aga (S:Nat->PL) (K:Nat->KV) {n i:Nat} (h:i<n):(rws b e S K n)[i]?=some (nw b e (S i) (K i)):=by simp [rws,h]
theorem apH (W:Nat->Str) {m n i:Nat} (h:i<n):(wds W m n)[i]?=some (.str (W (m - 1 - i))):=by simp [wds,h]
theorem ajW {ds:LP}{d:PyData}{i:Nat}{k:Int} (hk:k=(i:Int)) (h:ds[i]?=some d):atI ds k=some d:=by
 subst hk
 have hi:i<ds.length:=by
  rcases Nat.lt_or_ge i ds.length with z | z
  ·exact z
  ·rw [List.getElem?_eq_none z] at h; cases h
 unfold atI
 rw [afU (by omega) (by omega)]
 exact h
theorem Hs.ext {m:Nat}{S:Nat->PL}{K:Nat->KV}{W:Nat->Str} (hs:Hs u l r m S K W) {w:Str}{qs:PL}{kv:KV} (hw:w ∈ abm) (g:Gd u l r qs kv):∃ S' K' W',Hs u l r (m+1) S' K' W'/\S' (m+1)=qs/\K' (m+1)=kv/\dn S' K' W' (m+1)=dn S K W m++[stp w (jN (S m)) (dk (K m))]/\rws b e S' K' (m+2)=rws b e S K (m+1)++[nw b e qs kv]:=by
 refine ⟨fun i=>if i<=m then S i else qs,fun i=>if i<=m then K i else kv,fun i=>if i<m then W i else w,⟨fun i hi=>?_,fun i hi=>?_⟩,?_,?_,?_,?_⟩
 ·show Gd u l r (if i<=m then S i else qs) (if i<=m then K i else kv)
  by_cases z:i<=m
  ·rw [if_pos z,if_pos z]; exact hs.good i z
  ·rw [if_neg z,if_neg z]; exact g
 ·show (if i<m then W i else w) ∈ abm
  by_cases z:i<m
  ·rw [if_pos z]; exact hs.word i z
  ·rw [if_neg z]; exact hw
 ·exact if_neg (by omega)
 ·exact if_neg (by omega)
 ·rw [af9]
  refine congr (congrArg _ (List.map_congr_left fun i hi=>?_)) (congrArg (fun x=>[x]) ?_)
  ·have:=List.mem_range.mp hi
   simp only [Bk,if_pos this,if_pos (Nat.le_of_lt this)]
  ·simp only [Bk,if_pos (Nat.le_refl m),if_neg (Nat.lt_irrefl m)]
 ·unfold rws
  rw [List.range_succ,List.map_append,List.map_singleton]
  refine congr (congrArg _ (List.map_congr_left fun i hi=>?_)) (congrArg (fun x=>[x]) ?_)
  ·have:=List.mem_range.mp hi
   simp only [if_pos (show i<=m by omega)]
  ·simp only [if_neg (show ¬ m+1<=m by omega)]
abbrev At (μ:jC) (a p q:Addr) (M:PyData) (S:Nat->PL) (K:Nat->KV) (W:Nat->Str) (m i:Nat):Prop:=Bn μ a p q M (jN (S i)) (dk (K i)) (dn S K W i) (un S K W m i)
section
variable {M:PyData}{S:Nat->PL}{K:Nat->KV}{W:Nat->Str}{m i:Nat}
theorem ajX (hi:i<m) (hm:m<1000) (bn:At μ a p q M S K W m (i+1)) (k:∀ μ',At μ' a p q M S K W m i->ZF μ μ' a p q->R (.ok (.str (W i))) μ'):Q6 [jv a] μ R:=by
 unfold At at bn
 rw [af9] at bn
 refine m_back bn (by rw [anJ]; omega) fun μ' bn' el=>k μ' ?_ el
 show Bn _ _ _ _ _ _ _ _ _
 rw [ajV S K W hi]; exact bn'
theorem anK (hi:i<m) (hm:m<1000) (bn:At μ a p q M S K W m i) (k:∀ μ',At μ' a p q M S K W m (i+1)->ZF μ μ' a p q->R (.ok (.str (W i))) μ'):aaF [jv a] μ R:=by
 unfold At at bn
 rw [ajV S K W hi] at bn
 refine m_forth bn (by rw [ZZ]; omega) fun μ' bn' el=>k μ' ?_ el
 show Bn _ _ _ _ _ _ _ _ _
 rw [af9]; exact bn'
theorem Za (hi:i<=m) (bn:At μ a p q M S K W m i) (hR:R (.ok (.tuple [.int (i:Int),.int ((m:Int) - (i:Int))])) μ):JT [jv a] μ R:=by
 refine m_steps bn ?_
 rw [ZZ,anJ,show ((m - i:Nat):Int)=(m:Int) - (i:Int) by omega]; exact hR
end
theorem Bn.put {M s K:PyData}{D U:LP} (bn:Bn μ a p q M s K D U) {x:Addr}{c:Cell} (xa:a ≠ x) (xp:p ≠ x) (xq:q ≠ x):Bn (qY μ x c) a p q M s K D U:=
 ⟨bn.ap,bn.aq,bn.pq,by rw [jD xa]; exact bn.ha,by rw [jD xp]; exact bn.hp,by rw [jD xq]; exact bn.hq⟩
theorem ne2 (i j:Int):dNe (.tuple [.int i,.int j]) (.tuple [.int i,.int j])=some (.bool false):=adk (n:=2) (af5 fun d hd=>by
 simp only [List.mem_cons,List.not_mem_nil,or_false] at hd
 rcases hd with rfl | rfl <;> exact adi _) (by omega)
theorem at1 {i j k:Int} (h:i ≠ j):dNe (.tuple [.int i,.int k]) (.tuple [.int j,.int k])=some (.bool true):=by
 have sh2:∀ i j:Int,sh 2 (.tuple [.int i,.int j]):=fun i j=>af5 fun d hd=>by
  simp only [List.mem_cons,List.not_mem_nil,or_false] at hd
  rcases hd with rfl | rfl <;> exact adi _
 unfold dNe
 rw [if_pos ⟨af2 (sh2 i k).1 (by omega),af2 (sh2 j k).1 (by omega)⟩]
 simp [PyData.eqv,PyData.eqvAll,h]
end
section
variable {u e l b:Int}{r:Nat}{a p q rw ws:Addr}
def LI1 (Q:PyData) (u e l b:Int) (r:Nat) (a p q rw:Addr) (k:Nat) (ρ:Rho) (μ:jC):Prop:=
 ∃ (m:Nat) (S:Nat->PL) (K:Nat->KV) (W:Nat->Str) (x4 x5:OP),ρ=[some Q,some (js u e l b),some (jv a),some (jv rw),x4,x5,none,none,none]/\m<=k/\Hs u l r m S K W/\At μ a p q (js u e l b) S K W m m/\μ rw=some (.lst (rws b e S K (m+1)))
theorem at2 (H:zu=true) (h:okN u e l b=true) {ns:List Int} (hn:ns.length<1000000) {k:Nat} (hk:k<20) (na:a ≠ rw) (np:p ≠ rw) (nq:q ≠ rw) {ρ:Rho}{μ:jC}{R:OutC->jC->Prop} (hi:LI1 (scr ns) u e l b r a p q rw k ρ μ) (kk:∀ ρ' μ',LI1 (scr ns) u e l b r a p q rw (k+1) ρ' μ'->R (.nx ρ') μ'):∃ ρ1,jK 4 (.int (k:Int)) ρ=some ρ1/\ana.1 ρ1 μ R:=by
 obtain ⟨m,S,K,W,x4,x5,rfl,hm,hs,bn,hrw⟩:=hi
 refine ⟨[some (scr ns),some (js u e l b),some (jv a),some (jv rw),some (.int (k:Int)),x5,none,none,none],rfl,?_⟩
 simp only [ana]
 have g:=hs.good m (Nat.le_refl _)
 refine ⟨jv a,rfl,⟨a,_,rfl,bn.ha,rfl⟩,_,rfl,rfl,Za (Nat.le_refl _) bn ?_⟩
 have un0:un S K W m m=[]:=by simp [un]
 have bn0:Bn μ a p q (js u e l b) (jN (S m)) (dk (K m)) (dn S K W m) (un S K W m m):=bn
 have e1:op2 Jd (cst (.int 10)) (op2 aaV (cst (.int 5)) (lkp 4)) [some (scr ns),some (js u e l b),some (jv a),some (jv rw),some (.int (k:Int)),some (.tuple [.int (m:Int),.int ((m:Int) - (m:Int))]),none,none,none]=some (.int (10+5*(k:Int))):=qz rfl (qz rfl rfl (zo ⟨by omega,by omega⟩)) (add_int _ _)
 refine ⟨scr ns,rfl,_,e1,jv a,rfl,js u e l b,rfl,_,rfl,_,rfl,_,rfl,_,rfl,_,rfl,rfl,apG H h hn (by omega) g bn0 (by rw [ZZ]; omega) ?_ ?_⟩
 ·refine ⟨true,rfl,false,rfl,?_⟩
  refine ⟨jv a,rfl,⟨a,_,rfl,bn.ha,rfl⟩,_,rfl,rfl,Za (Nat.le_refl _) bn ?_⟩
  refine ⟨_,rfl,_,ne2 _ _,false,rfl,?_⟩
  exact kk _ _ ⟨m,S,K,W,_,_,rfl,by omega,hs,bn,hrw⟩
 ·intro μ' w qs kv hw g' bn' el
  obtain ⟨S',K',W',hs',hS,hK,hD,hr⟩:=hs.ext (b:=b) (e:=e) hw g'
  refine ⟨true,rfl,false,rfl,?_⟩
  refine ⟨jv a,rfl,⟨a,_,rfl,bn'.ha,rfl⟩,_,rfl,rfl,m_steps bn' ?_⟩
  have nz:dNe (.tuple [.int ((dn S K W m++[stp w (jN (S m)) (dk (K m))]).length:Int),.int (([]:LP).length:Int)]) (.tuple [.int (m:Int),.int ((m:Int) - (m:Int))])=some (.bool true):=by
   rw [Int.sub_self,List.length_append,ZZ]
   exact at1 (k:=0) (by simp only [List.length_singleton]; omega)
  refine ⟨_,rfl,_,nz,true,rfl,?_⟩
  have hrw':μ' rw=some (.lst (rws b e S K (m+1))):=by rw [el rw (Ne.symm na) (Ne.symm np) (Ne.symm nq)]; exact hrw
  refine ⟨jv rw,rfl,⟨rw,_,rfl,hrw'⟩,jv a,rfl,_,rfl,_,rfl,rfl,adn h g' bn' ⟨rw,_,rfl,hrw',by rw [ajU]; omega,?_⟩⟩
  refine kk _ _ ⟨m+1,S',K',W',_,_,rfl,by omega,hs',?_,?_⟩
  ·show Bn _ _ _ _ _ _ _ _ _
   have un0:un S' K' W' (m+1) (m+1)=[]:=by simp [un]
   rw [hS,hK,hD,un0]
   exact bn'.put na np nq
  ·rw [jH,hr]
def LI2 (Q:PyData) (u e l b:Int) (a p q rw ws:Addr) (m:Nat) (S:Nat->PL) (K:Nat->KV) (W:Nat->Str) (j:Nat) (ρ:Rho) (μ:jC):Prop:=
 ∃ (x4 x5:OP),ρ=[some Q,some (js u e l b),some (jv a),some (jv rw),x4,x5,some (.int (m:Int)),some (jv ws),none]/\j<=m/\At μ a p q (js u e l b) S K W m (m - j)/\μ rw=some (.lst (rws b e S K (m+1)))/\μ ws=some (.lst (wds W m j))
structure Ap (a p q rw ws:Addr):Prop where
 ar:a ≠ rw
 pr:p ≠ rw
 qr:q ≠ rw
 aw:a ≠ ws
 pw:p ≠ ws
 qw:q ≠ ws
 rw:rw ≠ ws
theorem at3 (h:okN u e l b=true) {Q:PyData}{m j:Nat}{S:Nat->PL}{K:Nat->KV}{W:Nat->Str} (hs:Hs u l r m S K W) (hm:m<100) (ap:Ap a p q rw ws) (hj:j<m) {ρ:Rho}{μ:jC}{R:OutC->jC->Prop} (hi:LI2 Q u e l b a p q rw ws m S K W j ρ μ) (kk:∀ ρ' μ',LI2 Q u e l b a p q rw ws m S K W (j+1) ρ' μ'->R (.nx ρ') μ'):∃ ρ1,jK 4 (.int ((m:Int) - 1 - (j:Int))) ρ=some ρ1/\anb.1 ρ1 μ R:=by
 obtain ⟨x4,x5,rfl,_,bn,hrw,hws⟩:=hi
 obtain ⟨k,hk⟩:∃ k:Nat,m=k+1+j:=⟨m - 1 - j,by omega⟩
 rw [show (m:Int) - 1 - (j:Int)=(k:Int) by omega]
 rw [show m - j=k+1 by omega] at bn
 refine ⟨[some Q,some (js u e l b),some (jv a),some (jv rw),some (.int (k:Int)),x5,some (.int (m:Int)),some (jv ws),none],rfl,?_⟩
 simp only [anb]
 refine ⟨jv ws,rfl,⟨ws,_,rfl,hws⟩,jv a,rfl,⟨a,_,rfl,bn.ha,rfl⟩,_,rfl,rfl,ajX (by omega) (by omega) bn fun μ1 bn1 el=>?_⟩
 have hws1:μ1 ws=some (.lst (wds W m j)):=by rw [el ws (Ne.symm ap.aw) (Ne.symm ap.pw) (Ne.symm ap.qw)]; exact hws
 have hrw1:μ1 rw=some (.lst (rws b e S K (m+1))):=by rw [el rw (Ne.symm ap.ar) (Ne.symm ap.pr) (Ne.symm ap.qr)]; exact hrw
 refine ⟨ws,_,rfl,hws1,by rw [af8]; omega,?_⟩
 have bn2:At (qY μ1 ws (.lst (wds W m j++[.str (W k)]))) a p q (js u e l b) S K W m k:=bn1.put ap.aw ap.pw ap.qw
 have hrw2:qY μ1 ws (.lst (wds W m j++[.str (W k)])) rw=some (.lst (rws b e S K (m+1))):=by rw [jD ap.rw]; exact hrw1
 have hws2:qY μ1 ws (.lst (wds W m j++[.str (W k)])) ws=some (.lst (wds W m (j+1))):=by rw [jH,aho,show m - 1 - j=k by omega]
 generalize qY μ1 ws (.lst (wds W m j++[.str (W k)]))=μ2 at*
 have g:=hs.good k (by omega)
 refine ⟨jv a,rfl,_,rfl,_,rfl,rfl,adn h g bn2 ?_⟩
 refine ⟨jv rw,rfl,.int (k:Int),rfl,rw,_,(k:Int),_,rfl,hrw2,rfl,ajW rfl (aga S K (by omega)),.bool false,adk (anG g) (by omega),false,rfl,?_⟩
 refine ⟨jv a,rfl,⟨a,_,rfl,bn2.ha,rfl⟩,_,rfl,rfl,Za (by omega) bn2 ?_⟩
 refine ⟨.tuple [.int (k:Int),.int ((m:Int) - (k:Int))],rfl,.bool false,ne2 _ _,false,rfl,?_⟩
 refine kk _ _ ⟨_,_,rfl,by omega,?_,hrw2,hws2⟩
 rw [show m - (j+1)=k by omega]; exact bn2
end
section
variable {u e l b:Int}{r:Nat}{a p q rw ws:Addr}
def LI3 (Q:PyData) (u e l b:Int) (a p q rw ws:Addr) (m:Nat) (S:Nat->PL) (K:Nat->KV) (W:Nat->Str) (j:Nat) (ρ:Rho) (μ:jC):Prop:=
 ∃ (x4 x5:OP),ρ=[some Q,some (js u e l b),some (jv a),some (jv rw),x4,x5,some (.int (m:Int)),some (jv ws),none]/\j<=m/\At μ a p q (js u e l b) S K W m j/\μ rw=some (.lst (rws b e S K (m+1)))/\μ ws=some (.lst (wds W m m))
theorem at4 (h:okN u e l b=true) {Q:PyData}{m j:Nat}{S:Nat->PL}{K:Nat->KV}{W:Nat->Str} (hs:Hs u l r m S K W) (hm:m<100) (ap:Ap a p q rw ws) (hj:j<m) {ρ:Rho}{μ:jC}{R:OutC->jC->Prop} (hi:LI3 Q u e l b a p q rw ws m S K W j ρ μ) (kk:∀ ρ' μ',LI3 Q u e l b a p q rw ws m S K W (j+1) ρ' μ'->R (.nx ρ') μ'):∃ ρ1,jK 4 (.int (1+(j:Int))) ρ=some ρ1/\anc.1 ρ1 μ R:=by
 obtain ⟨x4,x5,rfl,_,bn,hrw,hws⟩:=hi
 obtain ⟨k,hk⟩:∃ k:Nat,k=1+j:=⟨_,rfl⟩
 rw [show (1:Int)+(j:Int)=(k:Int) by omega]
 refine ⟨[some Q,some (js u e l b),some (jv a),some (jv rw),some (.int (k:Int)),x5,some (.int (m:Int)),some (jv ws),none],rfl,?_⟩
 simp only [anc]
 refine ⟨jv a,rfl,⟨a,_,rfl,bn.ha,rfl⟩,_,rfl,rfl,anK hj (by omega) bn fun μ1 bn1 el=>?_⟩
 have hws1:μ1 ws=some (.lst (wds W m m)):=by rw [el ws (Ne.symm ap.aw) (Ne.symm ap.pw) (Ne.symm ap.qw)]; exact hws
 have hrw1:μ1 rw=some (.lst (rws b e S K (m+1))):=by rw [el rw (Ne.symm ap.ar) (Ne.symm ap.pr) (Ne.symm ap.qr)]; exact hrw
 have gw:(wds W m m)[m - k]?=some (.str (W j)):=by rw [apH W (by omega),show m - 1 - (m - k)=j by omega]
 refine ⟨jv ws,rfl,.int ((m:Int) - (k:Int)),rfl,ws,_,(m:Int) - (k:Int),_,rfl,hws1,rfl,ajW (i:=m - k) (by omega) gw,.bool false,adk (af6 (hs.word j hj)) (by omega),false,rfl,?_⟩
 have g:=hs.good (j+1) hj
 refine ⟨jv a,rfl,_,rfl,_,rfl,rfl,adn h g bn1 ?_⟩
 refine ⟨jv rw,rfl,.int (k:Int),rfl,rw,_,(k:Int),_,rfl,hrw1,rfl,ajW (i:=j+1) (by omega) (aga S K (by omega)),.bool false,adk (anG g) (by omega),false,rfl,?_⟩
 refine ⟨jv a,rfl,⟨a,_,rfl,bn1.ha,rfl⟩,_,rfl,rfl,Za (by omega) bn1 ?_⟩
 have ck:((j+1:Nat):Int)=(k:Int):=by omega
 rw [ck]
 refine ⟨.tuple [.int (k:Int),.int ((m:Int) - (k:Int))],rfl,.bool false,ne2 _ _,false,rfl,?_⟩
 exact kk _ _ ⟨_,_,rfl,by omega,bn1,hrw1,hws1⟩
theorem ZF.trans {μ μ1 μ2:jC} (h1:ZF μ μ1 a p q) (h2:ZF μ1 μ2 a p q):ZF μ μ2 a p q:=fun x x1 x2 x3=>(h2 x x1 x2 x3).trans (h1 x x1 x2 x3)
theorem aeu {M:PyData}{m:Nat}{S:Nat->PL}{K:Nat->KV}{W:Nat->Str}{R:LP->jC->Prop} (hm:m<100):∀ (ds:LP) (j:Nat) (x:OP) (μ:jC),j+ds.length<=m->At μ a p q M S K W m (m - j)->(∀ μ',At μ' a p q M S K W m (m - (j+ds.length))->ZF μ μ' a p q->R (wds W m (j+ds.length)) μ')->
  acW (jK 0) (BX.bindC (j7 (lkp 1)) (aju "Bench" "back" Q6 1)) ds (wds W m j) [x,some (jv a)] μ R
 | [],j,x,μ,hj,bn,k=>k μ bn fun _ _ _ _=>rfl
 | d::ds,j,x,μ,hj,bn,k=>by
  rw [List.length_cons] at hj
  rw [show m - j=m - j - 1+1 by omega] at bn
  refine ⟨[some d,some (jv a)],rfl,jv a,rfl,⟨a,_,rfl,bn.ha,rfl⟩,rfl,ajX (by omega) (by omega) bn fun μ1 bn1 el=>?_⟩
  show acW _ _ ds (wds W m j++[.str (W (m - j - 1))]) _ μ1 R
  rw [show m - j - 1=m - 1 - j by omega,←aho]
  refine aeu hm ds (j+1) (some d) μ1 (by omega) (by rw [show m - (j+1)=m - j - 1 by omega]; exact bn1) fun μ2 bn2 el2=>?_
  have:=k μ2 (by rw [List.length_cons,show j+(ds.length+1)=j+1+ds.length by omega]; exact bn2) (el.trans el2)
  rw [List.length_cons,show j+(ds.length+1)=j+1+ds.length by omega] at this
  exact this
theorem arL {m:Nat}{S:Nat->PL}{K:Nat->KV}{W:Nat->Str} (hs:Hs u l r m S K W) {t:Nat} (ht:t<=m):sh 2 (.list (wds W m t)):=anA fun d hd=>by
 obtain ⟨i,hi,rfl⟩:=List.mem_map.mp hd
 have:=List.mem_range.mp hi
 exact af6 (hs.word _ (by omega))
theorem apI (W:Nat->Str) {m t:Nat} (ht:t<=m):aad (wds W m m) none (some (t:Int))=wds W m t:=by
 unfold aad
 rw [HT.sIx_none,HT.sIx_nat,af8,List.drop_zero,Nat.sub_zero,Nat.min_eq_left ht]
 unfold wds
 rw [←List.map_take,List.take_range,Nat.min_eq_left ht]
theorem apJ {m:Nat}{S:Nat->PL}{K:Nat->KV}{W:Nat->Str} (hs:Hs u l r m S K W) (τ:Rho) (hl:τ.length=1):Jc (jK 0) (tst (op2 (dIn true) (lkp 0) (cst (.tuple [.str "add",.str "take",.str "push",.str "keep",.str "recall"])))) (lkp 0) (wds W m m) τ=some []:=by
 obtain ⟨x,rfl⟩:∃ x,τ=[x]:=by
  match τ,hl with
  | [x],_=>exact ⟨x,rfl⟩
 rw [Z7 (fun _=>false) id (wds W m m) [x] (fun d hd=>?_) fun d hd z=>nomatch z]
 ·simp
 ·obtain ⟨i,hi,rfl⟩:=List.mem_map.mp hd
  have w5:=hs.word (m - 1 - i) (by have:=List.mem_range.mp hi; omega)
  refine JA (qz rfl rfl ?_)
  simp only [abm,List.mem_cons,List.not_mem_nil,or_false] at w5
  rcases w5 with e | e | e | e | e <;> rw [e] <;> kernel_rfl
theorem ata {ps:PL}{kv:KV} (g:Gd u l r ps kv):dEq (nw b e ps kv) (nw b e ps kv)=some (.bool true):=aqd (anG g) (by omega) rfl
theorem eq2 (i j:Int):dEq (.tuple [.int i,.int j]) (.tuple [.int i,.int j])=some (.bool true):=aqd (n:=2) (af5 fun d hd=>by
 simp only [List.mem_cons,List.not_mem_nil,or_false] at hd
 rcases hd with rfl | rfl <;> exact adi _) (by omega) rfl
theorem alb {lo:Int}{n j:Nat}{d:PyData} (h:(QS lo n)[j]?=some d):j<n/\d= .int (lo - (j:Int)):=by
 unfold QS at h
 rw [List.getElem?_map] at h
 by_cases hj:j<n
 ·rw [List.getElem?_range hj] at h; cases h; exact ⟨hj,rfl⟩
 ·rw [List.getElem?_eq_none (by simp; omega)] at h; cases h
theorem anL {lo:Int}{n j:Nat}{d:PyData} (h:(Jb lo n)[j]?=some d):j<n/\d= .int (lo+(j:Int)):=by
 unfold Jb at h
 rw [List.getElem?_map] at h
 by_cases hj:j<n
 ·rw [List.getElem?_range hj] at h; cases h; exact ⟨hj,rfl⟩
 ·rw [List.getElem?_eq_none (by simp; omega)] at h; cases h
theorem apK (H:zu=true) (h:okN u e l b=true) {Q:PyData}{m:Nat}{S:Nat->PL}{K:Nat->KV}{W:Nat->Str} (hs:Hs u l r m S K W) (hm:m<100) (ap:Ap a p q rw ws) {t:Nat} (ht:t<=m) (d7:J8 [Q,.int 7,.int ((m:Int)+1)]=some (.int (t:Int))) {x4 x5:OP}{μ:jC}{R:Res PyData->jC->Prop} (bn:At μ a p q (js u e l b) S K W m m) (hrw:μ rw=some (.lst (rws b e S K (m+1)))) (hws:μ ws=some (.lst (wds W m m))) (hR:∀ μ,R (.ok (.bool true)) μ):(zc (acP (qQ (jL J8 (jr (lkp 0) (jr (cst (.int 7)) (jr (op2 Jd (lkp 6) (cst (.int 1))) jB)))) (jK 8))) (zc (ifC (ae7 (opC dNe (amO (fun ρ=>(jr (lkp 8) jB ρ).bind agv) [none,some 2] (jK 0) (BX.bindC (j7 (lkp 1)) (aju "Bench" "back" Q6 1))) (BX.bindC (j7 (lkp 7)) fun od=>BX.bindC (j7 (lkp 8)) (asS od)))) (zc (acP (qo (cst (.bool false)))) abF) abF) (zc (ifC (ae7 (opC dNe (BX.bindC (j7 (lkp 2)) (JB "Bench" "steps" JT 1 (qZ (some [])))) (j7 (QF (jr (op2 Z3 (lkp 6) (lkp 8)) (jr (lkp 8) jB)))))) (zc (acP (qo (cst (.bool false)))) abF) abF) (zc (ifC (orC (ae7 (opC dNe (BX.bindC (j7 (lkp 2)) (JB "Bench" "keep" abi 2 (Je (j7 (cst (.str "zz"))) (qZ (some []))))) (BX.bindC (j7 (lkp 2)) (JB "Bench" "value" Jo 1 (qZ (some [])))))) (ae7 (opC dNe (BX.bindC (j7 (lkp 2)) (JB "Bench" "steps" JT 1 (qZ (some [])))) (j7 (QF (jr (op2 Jd (op2 Z3 (lkp 6) (lkp 8)) (cst (.int 1))) (jr (cst (.int 0)) jB))))))) (zc (acP (qo (cst (.bool false)))) abF) abF) (zc (ifC (ae7 (opC dNe (BX.bindC (j7 (lkp 2)) (JB "Bench" "back" Q6 1 (qZ (some [])))) (j7 (cst (.str "keep"))))) (zc (acP (qo (cst (.bool false)))) abF) abF) (zc (zi (amC (opC dEq (BX.bindC (Je (j7 (lkp 2)) (qZ (some []))) (ap7 ajG 1)) (BX.bindC (j7 (lkp 3)) fun od=>BX.bindC (j7 (op2 Z3 (lkp 6) (lkp 8))) (asR od))) (opC dEq (BX.bindC (j7 (lkp 2)) (JB "Bench" "steps" JT 1 (qZ (some [])))) (j7 (QF (jr (op2 Z3 (lkp 6) (lkp 8)) (jr (cst (.int 1)) jB)))))) rtC) abF)))))) [some Q,some (js u e l b),some (jv a),some (jv rw),x4,x5,some (.int (m:Int)),some (jv ws),none] μ (adz R):=by
 refine adl (ρ1:=[some Q,some (js u e l b),some (jv a),some (jv rw),x4,x5,some (.int (m:Int)),some (jv ws),some (.int (t:Int))]) (JY (i:=8) (Qa (qf rfl (qf rfl (qf (qz rfl rfl (add_int _ _)) rfl))) d7)) ?_
 refine ⟨Jb 0 t,?_,?_,?_⟩
 ·show (jr _ jB _).bind agv=_
  rw [qf rfl rfl,zzD]
  exact (afV (by omega) (by omega)).trans (by rw [Int.toNat_natCast])
 ·simp [few,adf]; omega
 have hl:=adf t
 refine aeu hm (Jb 0 t) 0 none μ (by rw [hl]; omega) bn fun μ1 bn1 el=>?_
 rw [hl,Nat.zero_add] at bn1 ⊢
 have hws1:μ1 ws=some (.lst (wds W m m)):=by rw [el ws (Ne.symm ap.aw) (Ne.symm ap.pw) (Ne.symm ap.qw)]; exact hws
 have hrw1:μ1 rw=some (.lst (rws b e S K (m+1))):=by rw [el rw (Ne.symm ap.ar) (Ne.symm ap.pr) (Ne.symm ap.qr)]; exact hrw
 refine ⟨jv ws,rfl,.int (t:Int),rfl,ws,_,(t:Int),rfl,hws1,rfl,?_⟩
 rw [apI W ht]
 refine ⟨.bool false,adk (arL hs ht) (by omega),false,rfl,?_⟩
 refine ⟨jv a,rfl,⟨a,_,rfl,bn1.ha,rfl⟩,_,rfl,rfl,Za (by omega) bn1 ?_⟩
 have c1:((m - t:Nat):Int)=(m:Int) - (t:Int):=by omega
 have c2:(m:Int) - ((m:Int) - (t:Int))=(t:Int):=by omega
 rw [c1,c2]
 refine ⟨.tuple [.int ((m:Int) - (t:Int)),.int (t:Int)],rfl,.bool false,ne2 _ _,false,rfl,?_⟩
 have g:=hs.good (m - t) (by omega)
 refine ⟨jv a,rfl,⟨a,_,rfl,bn1.ha,rfl⟩,.str "zz",rfl,_,rfl,_,rfl,rfl,m_keep bn1 (by rw [ZZ]; omega) g.ko.len (af7 (.inr (.inr rfl))) (g.num h) fun μ2 bn2 el2=>?_⟩
 refine ⟨jv a,rfl,⟨a,_,rfl,bn2.ha,rfl⟩,_,rfl,rfl,m_value bn2 (g.num h) ⟨.bool false,adk (adi _) (by omega),false,rfl,?_⟩⟩
 refine ⟨jv a,rfl,⟨a,_,rfl,bn2.ha,rfl⟩,_,rfl,rfl,m_steps bn2 ?_⟩
 have c3:((dn S K W (m - t)++[stp "keep" (jN (S (m - t))) (dk (K (m - t)))]).length:Int)=(m:Int) - (t:Int)+1:=by rw [List.length_append,ZZ,List.length_singleton]; omega
 rw [c3]
 refine ⟨.tuple [.int ((m:Int) - (t:Int)+1),.int 0],rfl,.bool false,ne2 _ _,false,rfl,?_⟩
 refine ⟨jv a,rfl,⟨a,_,rfl,bn2.ha,rfl⟩,_,rfl,rfl,m_back bn2 (by simp) fun μ3 bn3 el3=>?_⟩
 refine ⟨.str "keep",rfl,.bool false,adk (af6 (by simp [abm])) (by omega),false,rfl,?_⟩
 have hrw3:μ3 rw=some (.lst (rws b e S K (m+1))):=by rw [(el2.trans el3) rw (Ne.symm ap.ar) (Ne.symm ap.pr) (Ne.symm ap.qr)]; exact hrw1
 refine ⟨jv a,rfl,_,rfl,_,rfl,rfl,adn h g bn3 ?_⟩
 refine ⟨jv rw,rfl,.int ((m:Int) - (t:Int)),rfl,rw,_,(m:Int) - (t:Int),_,rfl,hrw3,rfl,ajW (i:=m - t) (by omega) (aga S K (by omega)),.bool true,ata g,true,rfl,?_⟩
 refine ⟨jv a,rfl,⟨a,_,rfl,bn3.ha,rfl⟩,_,rfl,rfl,m_steps bn3 ?_⟩
 rw [ZZ,c1]
 exact ⟨.tuple [.int ((m:Int) - (t:Int)),.int 1],rfl,.bool true,eq2 _ _,hR _⟩
end
section
variable {u e l b:Int}
theorem apL {i j:Int} (h:0<=i) (h':i<1000000) (h2:0<=j) (h3:j<1000000):akl [.int i,.int j]=some (Jb i (j - i).toNat):=by
 have h:-(2 ^ 62)<=i/\i<2 ^ 62/\-(2 ^ 62)<=j/\j<2 ^ 62:=by omega
 simp only [akl,h]; rfl
theorem anM (H:zu=true) (h:okN u e l b=true) {ns:List Int} (hn:ns.length<1000000) {r n1:Nat} (h1:1<=r) (h4:r<=4) (hn1:n1<=12) {Q:PyData} (hQ:Q=scr ns) (mn:Zq [Q,.int 0]=some (js u e l b)) (d5:J8 [Q,.int 5,.int 3]=some (.int ((r:Int) - 1))) (d6:J8 [Q,.int 6,.int 10]=some (.int ((n1:Int) - 3)))
  {R:Res PyData->jC->Prop} (hR:∀ μ,R (.ok (.bool true)) μ):ane [Q] (fun _=>none) R:=by
 obtain ⟨a1,a2,a3,a4,a5,a6,a7,a8,a9,a10⟩:=qC h
 have s0:=anF H h h1 h4
 have okp:=ank H h h1 h4 (Int.le_refl _) (Int.pow_pos (show (0:Int)<b by omega))
 have lenp:=af0 (js u e l b) b r 0
 generalize hps:pln (js u e l b) b r 0=ps at*
 have ad:Jd (.int 1) (.int ((r:Int) - 1))=some (.int (r:Int)):=by
  show some (PyData.int (1+((r:Int) - 1)))=_
  congr 2; omega
 have ad6:Jd (.int 3) (.int ((n1:Int) - 3))=some (.int (n1:Int)):=by
  show some (PyData.int (3+((n1:Int) - 3)))=_
  congr 2; omega
 show apo.1 [some Q,none,none,none,none,none,none,none,none] (fun _=>none) (adz R)
 simp only [apo]
 refine adl (ρ1:=[some Q,some (js u e l b),none,none,none,none,none,none,none]) (JY (i:=1) (Qa rfl mn)) ?_
 refine ⟨js u e l b,rfl,.int (r:Int),qz rfl (Qa rfl d5) ad,_,rfl,_,rfl,_,rfl,anC s0 fun a p q μ1 bn na np nq hx=>?_⟩
 have g0:Gd u l r ps []:=⟨okp,lenp,.n⟩
 refine ⟨jv a,rfl,_,rfl,_,rfl,rfl,adn h g0 bn ⟨_,rfl,_,rfl,rfl,fun rw hrw=>?_⟩⟩
 have n1':a ≠ rw:=fun z=>by subst z; rw [bn.ha] at hrw; cases hrw
 have n2':p ≠ rw:=fun z=>by subst z; rw [bn.hp] at hrw; cases hrw
 have n3':q ≠ rw:=fun z=>by subst z; rw [bn.hq] at hrw; cases hrw
 have hw2:qY μ1 rw (.lst [nw b e ps []]) rw=some (.lst (rws b e (fun _=>ps) (fun _=>[]) 1)):=jH
 have bn2:Bn (qY μ1 rw (.lst [nw b e ps []])) a p q (js u e l b) (jN ps) (dk []) [] []:=bn.put n1' n2' n3'
 generalize qY μ1 rw (.lst [nw b e ps []])=μ2 at*
 refine ⟨Jb 0 n1,?_,?_⟩
 ·show (jr _ jB _).bind agv=_
  rw [qf (qz rfl (Qa rfl d6) ad6) rfl,zzD]
  exact (afV (by omega) (by omega)).trans (by rw [Int.toNat_natCast])
 refine ZD (LI1 Q u e l b r a p q rw) (Jb 0 n1) 0 _ μ2 ⟨0,fun _=>ps,fun _=>[],fun _=>"add",_,_,rfl,Nat.le_refl _,⟨fun i _=>g0,fun i hi=>absurd hi (Nat.not_lt_zero _)⟩,bn2,hw2⟩ (fun i d ρ μ R' hd hi kk=>?_) fun ρ' μ' hi=>?_
 ·obtain ⟨hj,rfl⟩:=anq hd
  rw [Nat.zero_add] at hi
  subst hQ
  exact at2 H h hn (show i<20 by omega) n1' n2' n3' hi (fun ρ' μ' z=>kk ρ' μ' (by rw [Nat.zero_add]; exact z))
 rw [adf,Nat.zero_add] at hi
 obtain ⟨m,S,K,W,x4,x5,rfl,hm,hs,bn3,hw3⟩:=hi
 refine ⟨rw,_,.int (m:Int),rfl,hw3,?_,rfl,?_⟩
 ·have e1:zI [.list (rws b e S K (m+1))]=some (.int ((m+1:Nat):Int)):=by
   show some (PyData.int ((rws b e S K (m+1)).length:Int))=_
   rw [ajU]
  refine qz (Qa rfl e1) rfl ?_
  show some (PyData.int (((m+1:Nat):Int) - 1))=_
  congr 2; omega
 refine ⟨[],rfl,fun ws hws=>?_⟩
 have n4:a ≠ ws:=fun z=>by subst z; rw [bn3.ha] at hws; cases hws
 have n5:p ≠ ws:=fun z=>by subst z; rw [bn3.hp] at hws; cases hws
 have n6:q ≠ ws:=fun z=>by subst z; rw [bn3.hq] at hws; cases hws
 have n7:rw ≠ ws:=fun z=>by subst z; rw [hw3] at hws; cases hws
 have ap:Ap a p q rw ws:=⟨n1',n2',n3',n4,n5,n6,n7⟩
 have bn4:At (qY μ' ws (.lst [])) a p q (js u e l b) S K W m m:=bn3.put n4 n5 n6
 have hw4:qY μ' ws (.lst []) rw=some (.lst (rws b e S K (m+1))):=by rw [jD n7]; exact hw3
 have hs4:qY μ' ws (.lst []) ws=some (.lst (wds W m 0)):=jH
 generalize qY μ' ws (.lst [])=μ4 at*
 refine ⟨QS ((m:Int) - 1) m,?_,?_⟩
 ·show (jr _ _ _).bind aoE=_
  rw [qf (qz rfl rfl rfl) rfl,zzD]
  show (if (-1:Int)=-1/\-1000000<=(m:Int) - 1/\(m:Int) - 1<1000000/\(-1000000:Int)<=-1/\(-1:Int)<1000000 then some (QS ((m:Int) - 1) ((m:Int) - 1 - (-1)).toNat) else none)=_
  rw [if_pos ⟨rfl,by omega,by omega,by omega,by omega⟩,show ((m:Int) - 1 - (-1)).toNat=m by omega]
 refine ZD (LI2 Q u e l b a p q rw ws m S K W) (QS ((m:Int) - 1) m) 0 _ μ4 ⟨_,_,rfl,Nat.zero_le _,bn4,hw4,hs4⟩ (fun i d ρ μ R' hd hi kk=>?_) fun ρ' μ5 hi=>?_
 ·obtain ⟨hj,rfl⟩:=alb hd
  rw [Nat.zero_add] at hi
  exact at3 h hs (by omega) ap hj hi (fun ρ' μ' z=>kk ρ' μ' (by rw [Nat.zero_add]; exact z))
 rw [show (QS ((m:Int) - 1) m).length=m by simp [QS],Nat.zero_add] at hi
 obtain ⟨y4,y5,rfl,_,bn5,hw5,hs5⟩:=hi
 rw [Nat.sub_self] at bn5
 have flt:tst (op2 dNe (Qc (itS (lkp 7)) [none] (jK 0) (tst (op2 (dIn true) (lkp 0) (cst (.tuple [.str "add",.str "take",.str "push",.str "keep",.str "recall"])))) (lkp 0)) (Ja jB)) [some Q,some (js u e l b),some (jv a),some (jv rw),y4,y5,some (.int (m:Int)),some (.list (wds W m m)),none]=some false:=by
  have e1:Qc (itS (lkp 7)) [none] (jK 0) (tst (op2 (dIn true) (lkp 0) (cst (.tuple [.str "add",.str "take",.str "push",.str "keep",.str "recall"])))) (lkp 0) [some Q,some (js u e l b),some (jv a),some (jv rw),y4,y5,some (.int (m:Int)),some (.list (wds W m m)),none]=some (.list []):=by
   have e2:itS (lkp 7) [some Q,some (js u e l b),some (jv a),some (jv rw),y4,y5,some (.int (m:Int)),some (.list (wds W m m)),none]=some (wds W m m):=rfl
   unfold Qc
   rw [e2,zzD,if_pos (by simp [few,af8]; omega),apJ hs _ rfl]; rfl
  exact JA (qz e1 rfl (by kernel_rfl))
 refine ⟨ws,_,false,rfl,hs5,flt,?_⟩
 refine ⟨Jb 1 m,?_,?_⟩
 ·show (jr _ _ _).bind akl=_
  rw [qf rfl (qf (qz rfl rfl (add_int _ _)) rfl),zzD]
  exact (apL (by omega) (by omega) (by omega) (by omega)).trans (by rw [show ((m:Int)+1 - 1).toNat=m by omega])
 refine ZD (LI3 Q u e l b a p q rw ws m S K W) (Jb 1 m) 0 _ μ5 ⟨_,_,rfl,Nat.zero_le _,bn5,hw5,hs5⟩ (fun i d ρ μ R' hd hi kk=>?_) fun ρ' μ6 hi=>?_
 ·obtain ⟨hj,rfl⟩:=anL hd
  rw [Nat.zero_add] at hi
  exact at4 h hs (by omega) ap hj hi (fun ρ' μ' z=>kk ρ' μ' (by rw [Nat.zero_add]; exact z))
 rw [show (Jb 1 m).length=m by simp [Jb],Nat.zero_add] at hi
 obtain ⟨z4,z5,rfl,_,bn6,hw6,hs6⟩:=hi
 obtain ⟨t,d7,t0,t1⟩:=qE ns hn 7 ((m:Int)+1) (by omega) (by omega)
 obtain ⟨t,rfl⟩:=Int.eq_ofNat_of_zero_le t0
 exact apK H h hs (by omega) ap (t:=t) (by omega) (by rw [hQ]; exact d7) bn6 hw6 hs6 hR
theorem alc (H:zu=true) (ns:List Int) (hn:ns.length<1000000):ane [scr ns] (fun _=>none) (fun o _=>o= .ok (.bool true)):=by
 obtain ⟨u,e,l,b,mn,hm⟩:=aiF ns hn 0 (Int.le_refl _)
 have h:=apq hm
 obtain ⟨k5,d5,p5,q5⟩:=qE ns hn 5 3 (by omega) (by omega)
 obtain ⟨k6,d6,p6,q6⟩:=qE ns hn 6 10 (by omega) (by omega)
 exact anM (r:=(k5+1).toNat) (n1:=(k6+3).toNat) H h hn (by omega) (by omega) (by omega) rfl mn (by rw [show (((k5+1).toNat:Nat):Int) - 1=k5 by omega]; exact d5) (by rw [show (((k6+3).toNat:Nat):Int) - 3=k6 by omega]; exact d6) fun _=>rfl
end
end Rods
end
section
namespace BX
open PySem L2
open PyProof.Rows hiding St
theorem jX.thr {P:Program}{w:World}{K:Fg}{mg:SV}{base h:Heap}{x:Str}{st:Stmt}{ps:List Str}{k n:Nat}{g:LP->Option Str} (T:jX K x st) (X:K.In h) (G:h.Ns mainGlobals mg)
  (pa:jw x st ps) (ok:∀ f fd,Fun K x x st f fd->FnOk P w K mg base (CXt P w) k f fd ps (ah3 K mg n g)):qJ P w K mg base x ps k n g:=by
 obtain ⟨f,oc,od,an,kV,doc,pm,Kc,ct,osl,a,l,c,kp⟩:=T
 have F1:=aaP (st:=st) l c kp
 exact ⟨f,_,ok f _ F1,PySem.W.mg_of X G a,kp,F1.binds pa⟩
end BX
namespace Rods
open PySem L2 BX
open PyProof.Rows hiding St
structure Tops (K:Fg):Prop where
 isWhole:jX K "is_whole" aap
 rodWorth:jX K "rod_worth" Zf
 beads:jX K "beads" afe
 allRods:jX K "all_rods" aaq
 hasAll:jX K "has_all_digits" Zg
 isManner:jX K "is_manner" Zh
 check:jX K "check_manner" acX
 rodsWith:jX K "rods_with" Qi
 fewest:jX K "fewest_beads" abR
 chkRods:jX K "check_rods" Jy
 chkNum:jX K "check_number" zF
 asked:jX K "check_asked" Jf
 num:jX K "number_on" Jr
 digits:jX K "digits_by_rods" Zl
 plainR:jX K "plain_rods" Zk
 plainS:jX K "plain_setting" aau
 isRod:jX K "is_rod" afj
 isSet:jX K "is_setting" zP
 chkSet:jX K "check_setting" zt
 cell:jX K "_law_cell" ajw
 drawn:jX K "_law_drawn" afm
 manner:jX K "_law_manner" abU
 enough:jX K "check_enough" aav
 less:jX K "less" ag6
 beh:jX K "behind_changes" Zr
 DA:jX K "digit_added" sDA
 cbd:jX K "changes_by_digits" ain
 chA:jX K "changes_adding" amU
 adding:jX K "adding" aaw
 added:jX K "added" ac1
 NamesBeads:jX K "names_beads" JM
 Pushed:jX K "pushed" abZ
 CanMove:jX K "can_move" aay
 BehindMove:jX K "behind_move" JO
 Moved:jX K "moved" ac4
 IsName:jX K "is_name" aaC
 LStep:jX K "_law_step" afS
 LNow:jX K "_law_now" ahf
 law:jX K "law" abj
 MInit:zE K "Bench" "__init__" "Bench.__init__" afz
 MSetting:zE K "Bench" "setting" "Bench.setting" Zt
 MValue:zE K "Bench" "value" "Bench.value" ab8
 MGoOn:zE K "Bench" "go_on" "Bench.go_on" afD
 MAdd:zE K "Bench" "add" "Bench.add" ajD
 MTake:zE K "Bench" "take" "Bench.take" afE
 MPush:zE K "Bench" "push" "Bench.push" afG
 MKeep:zE K "Bench" "keep" "Bench.keep" afI
 MRecall:zE K "Bench" "recall" "Bench.recall" aaD
 MNames:zE K "Bench" "names" "Bench.names" ab9
 MCross:zE K "Bench" "cross" "Bench.cross" aca
 MBack:zE K "Bench" "back" "Bench.back" afN
 MForth:zE K "Bench" "forth" "Bench.forth" ace
 MSteps:zE K "Bench" "steps" "Bench.steps" acf
 cls:akF K "Bench"
 fd_done:agT K "Bench" "done"
 fd_kept:agT K "Bench" "kept"
 fd_manner:agT K "Bench" "manner"
 fd_now:agT K "Bench" "now"
 fd_undone:agT K "Bench" "undone"
structure Consts (K:Fg) (mg:SV):Prop where
 b:Bare mg
 least:GC K mg "LEAST_PARTS" (.tuple [.int 0,.int 1,.int 0,.int 2])
 most:GC K mg "MOST_PARTS" (.tuple [.int 3,.int 16,.int 12,.int 16])
 mostRods:GC K mg "MOST_RODS" (.int 4)
 mostNumber:GC K mg "MOST_NUMBER" (.int 99999)
 decks:GC K mg "DECKS" (.tuple [.str "upper",.str "lower"])
 mostLetters:GC K mg "MOST_LETTERS" (.int 6)
 errT:ErrT K mg "BeadError" amX
theorem aiO:jw "is_whole" aap ["thing","least","most"]:=fun _ _ _ _ _ _ us hl=>by obtain ⟨v0,v1,v2,rfl⟩:=ZO us hl; rfl
theorem ahp:jw "rod_worth" Zf ["manner","rod"]:=fun _ _ _ _ _ _ us hl=>by obtain ⟨v0,v1,rfl⟩:=aaN us hl; rfl
theorem anN:jw "beads" afe ["rod"]:=fun _ _ _ _ _ _ us hl=>by obtain ⟨v0,rfl⟩:=adp us hl; rfl
theorem aiP:jw "all_rods" aaq ["manner"]:=fun _ _ _ _ _ _ us hl=>by obtain ⟨v0,rfl⟩:=adp us hl; rfl
theorem ald:jw "has_all_digits" Zg ["manner"]:=fun _ _ _ _ _ _ us hl=>by obtain ⟨v0,rfl⟩:=adp us hl; rfl
theorem ahq:jw "is_manner" Zh ["thing"]:=fun _ _ _ _ _ _ us hl=>by obtain ⟨v0,rfl⟩:=adp us hl; rfl
theorem ahr:jw "check_manner" acX ["thing"]:=fun _ _ _ _ _ _ us hl=>by obtain ⟨v0,rfl⟩:=adp us hl; rfl
theorem ahs:jw "rods_with" Qi ["manner","worth"]:=fun _ _ _ _ _ _ us hl=>by obtain ⟨v0,v1,rfl⟩:=aaN us hl; rfl
theorem ale:jw "fewest_beads" abR ["manner","worth"]:=fun _ _ _ _ _ _ us hl=>by obtain ⟨v0,v1,rfl⟩:=aaN us hl; rfl
theorem ado:jw "check_rods" Jy ["rods"]:=fun _ _ _ _ _ _ us hl=>by obtain ⟨v0,rfl⟩:=adp us hl; rfl
theorem aev:jw "check_number" zF ["number"]:=fun _ _ _ _ _ _ us hl=>by obtain ⟨v0,rfl⟩:=adp us hl; rfl
theorem aht:jw "check_asked" Jf ["manner","rods","number"]:=fun _ _ _ _ _ _ us hl=>by obtain ⟨v0,v1,v2,rfl⟩:=ZO us hl; rfl
theorem arM:jw "number_on" Jr ["manner","setting"]:=fun _ _ _ _ _ _ us hl=>by obtain ⟨v0,v1,rfl⟩:=aaN us hl; rfl
theorem alf:jw "digits_by_rods" Zl ["base","rods","number"]:=fun _ _ _ _ _ _ us hl=>by obtain ⟨v0,v1,v2,rfl⟩:=ZO us hl; rfl
theorem aew:jw "plain_rods" Zk ["manner","rods","number"]:=fun _ _ _ _ _ _ us hl=>by obtain ⟨v0,v1,v2,rfl⟩:=ZO us hl; rfl
theorem aex:jw "plain_setting" aau ["manner","rods","number"]:=fun _ _ _ _ _ _ us hl=>by obtain ⟨v0,v1,v2,rfl⟩:=ZO us hl; rfl
theorem anO:jw "is_rod" afj ["manner","thing"]:=fun _ _ _ _ _ _ us hl=>by obtain ⟨v0,v1,rfl⟩:=aaN us hl; rfl
theorem ahu:jw "is_setting" zP ["manner","thing"]:=fun _ _ _ _ _ _ us hl=>by obtain ⟨v0,v1,rfl⟩:=aaN us hl; rfl
theorem aey:jw "check_setting" zt ["manner","thing"]:=fun _ _ _ _ _ _ us hl=>by obtain ⟨v0,v1,rfl⟩:=aaN us hl; rfl
theorem apM:jw "_law_cell" ajw ["_law_script","_law_k"]:=fun _ _ _ _ _ _ us hl=>by obtain ⟨v0,v1,rfl⟩:=aaN us hl; rfl
theorem anP:jw "_law_drawn" afm ["_law_script","_law_k","_law_many"]:=fun _ _ _ _ _ _ us hl=>by obtain ⟨v0,v1,v2,rfl⟩:=ZO us hl; rfl
theorem alg:jw "_law_manner" abU ["_law_script","_law_at"]:=fun _ _ _ _ _ _ us hl=>by obtain ⟨v0,v1,rfl⟩:=aaN us hl; rfl
theorem aez:jw "check_enough" aav ["manner","setting","number"]:=fun _ _ _ _ _ _ us hl=>by obtain ⟨v0,v1,v2,rfl⟩:=ZO us hl; rfl
theorem ajY:jw "less" ag6 ["manner","setting","number"]:=fun _ _ _ _ _ _ us hl=>by obtain ⟨v0,v1,v2,rfl⟩:=ZO us hl; rfl
theorem arN:jw "behind_changes" Zr ["setting","changes"]:=fun _ _ _ _ _ _ us hl=>by obtain ⟨v0,v1,rfl⟩:=aaN us hl; rfl
theorem ajZ:jw "digit_added" sDA ["manner","setting","rod","digit"]:=fun _ _ _ _ _ _ us hl=>by obtain ⟨v0,v1,v2,v3,rfl⟩:=aqD us hl; rfl
theorem anQ:jw "changes_by_digits" ain ["manner","setting","number","digit_changes"]:=fun _ _ _ _ _ _ us hl=>by obtain ⟨v0,v1,v2,v3,rfl⟩:=aqD us hl; rfl
theorem anR:jw "changes_adding" amU ["manner","setting","number"]:=fun _ _ _ _ _ _ us hl=>by obtain ⟨v0,v1,v2,rfl⟩:=ZO us hl; rfl
theorem aeA:jw "adding" aaw ["manner","setting","number"]:=fun _ _ _ _ _ _ us hl=>by obtain ⟨v0,v1,v2,rfl⟩:=ZO us hl; rfl
theorem ahv:jw "added" ac1 ["manner","setting","number"]:=fun _ _ _ _ _ _ us hl=>by obtain ⟨v0,v1,v2,rfl⟩:=ZO us hl; rfl
theorem adD:jw "names_beads" JM ["setting","thing"]:=fun _ _ _ _ _ _ us hl=>by obtain ⟨v0,v1,rfl⟩:=aaN us hl; rfl
theorem alh:jw "pushed" abZ ["rod","deck","by"]:=fun _ _ _ _ _ _ us hl=>by obtain ⟨v0,v1,v2,rfl⟩:=ZO us hl; rfl
theorem aiQ:jw "can_move" aay ["manner","setting","thing"]:=fun _ _ _ _ _ _ us hl=>by obtain ⟨v0,v1,v2,rfl⟩:=ZO us hl; rfl
theorem adE:jw "behind_move" JO ["setting","move"]:=fun _ _ _ _ _ _ us hl=>by obtain ⟨v0,v1,rfl⟩:=aaN us hl; rfl
theorem ahw:jw "moved" ac4 ["manner","setting","move"]:=fun _ _ _ _ _ _ us hl=>by obtain ⟨v0,v1,v2,rfl⟩:=ZO us hl; rfl
theorem ali:jw "is_name" aaC ["thing"]:=fun _ _ _ _ _ _ us hl=>by obtain ⟨v0,rfl⟩:=adp us hl; rfl
theorem anS:jw "_law_step" afS ["_law_script","_law_at","_law_bench","_law_manner_here"]:=fun _ _ _ _ _ _ us hl=>by obtain ⟨v0,v1,v2,v3,rfl⟩:=aqD us hl; rfl
theorem apN:jw "_law_now" ahf ["_law_bench"]:=fun _ _ _ _ _ _ us hl=>by obtain ⟨v0,rfl⟩:=adp us hl; rfl
theorem anT:jZ "__init__" "Bench.__init__" afz ["self","manner","rods"]:=fun _ _ _ _ _ _ us hl=>match us,hl with | [_,_,_],_=>rfl
theorem ahx:jZ "setting" "Bench.setting" Zt ["self"]:=fun _ _ _ _ _ _ us hl=>match us,hl with | [_],_=>rfl
theorem alj:jZ "value" "Bench.value" ab8 ["self"]:=fun _ _ _ _ _ _ us hl=>match us,hl with | [_],_=>rfl
theorem anU:jZ "go_on" "Bench.go_on" afD ["self","word","fresh","kept"]:=fun _ _ _ _ _ _ us hl=>match us,hl with | [_,_,_,_],_=>rfl
theorem apO:jZ "add" "Bench.add" ajD ["self","number"]:=fun _ _ _ _ _ _ us hl=>match us,hl with | [_,_],_=>rfl
theorem anV:jZ "take" "Bench.take" afE ["self","number"]:=fun _ _ _ _ _ _ us hl=>match us,hl with | [_,_],_=>rfl
theorem anW:jZ "push" "Bench.push" afG ["self","move"]:=fun _ _ _ _ _ _ us hl=>match us,hl with | [_,_],_=>rfl
theorem anX:jZ "keep" "Bench.keep" afI ["self","name"]:=fun _ _ _ _ _ _ us hl=>match us,hl with | [_,_],_=>rfl
theorem aiR:jZ "recall" "Bench.recall" aaD ["self","name"]:=fun _ _ _ _ _ _ us hl=>match us,hl with | [_,_],_=>rfl
theorem alk:jZ "names" "Bench.names" ab9 ["self"]:=fun _ _ _ _ _ _ us hl=>match us,hl with | [_],_=>rfl
theorem alm:jZ "cross" "Bench.cross" aca ["self","source","goal"]:=fun _ _ _ _ _ _ us hl=>match us,hl with | [_,_,_],_=>rfl
theorem anY:jZ "back" "Bench.back" afN ["self"]:=fun _ _ _ _ _ _ us hl=>match us,hl with | [_],_=>rfl
theorem aln:jZ "forth" "Bench.forth" ace ["self"]:=fun _ _ _ _ _ _ us hl=>match us,hl with | [_],_=>rfl
theorem alo:jZ "steps" "Bench.steps" acf ["self"]:=fun _ _ _ _ _ _ us hl=>match us,hl with | [_],_=>rfl
theorem at5 (HT:zu=true) {P:Program}{w:World}{K:Fg}{h:Heap}{mg:SV}{base:Heap} (X:K.In h) (G:h.Ns mainGlobals mg) (T:Tops K) (C:Consts K mg):CLaw P w K mg base:=by
 have f_done:qH K "Bench" "done":=T.fd_done.cls T.cls
 have f_kept:qH K "Bench" "kept":=T.fd_kept.cls T.cls
 have f_manner:qH K "Bench" "manner":=T.fd_manner.cls T.cls
 have f_now:qH K "Bench" "now":=T.fd_now.cls T.cls
 have f_undone:qH K "Bench" "undone":=T.fd_undone.cls T.cls
 have c_isWhole:jm P w K mg base "is_whole" ["thing","least","most"] 1 3 jV:=T.isWhole.callee X G aiO fun f fd F=>jM F aig fun Kc A Ko s H E hr=>aar.2 P w K mg base f Kc A Ko s H E C.b hr
 have c_rodWorth:jm P w K mg base "rod_worth" ["manner","rod"] 1 2 qD:=T.rodWorth.callee X G ahp fun f fd F=>jM F agX fun Kc A Ko s H E hr=>aa7.2 P w K mg base f Kc A Ko s H E trivial hr
 have c_beads:jm P w K mg base "beads" ["rod"] 1 1 Ji:=T.beads.callee X G anN fun f fd F=>jM F amR fun Kc A Ko s H E hr=>aih.2 P w K mg base f Kc A Ko s H E trivial hr
 have c_allRods:jm P w K mg base "all_rods" ["manner"] 1 1 Jx:=T.allRods.callee X G aiP fun f fd F=>aii F C.b
 have c_hasAll:jm P w K mg base "has_all_digits" ["manner"] 2 1 aas:=T.hasAll.callee X G ald fun f fd F=>jM F ad8 fun Kc A Ko s H E hr=>aff.2 P w K mg base f Kc A Ko s H E ⟨C.b,c_allRods,c_rodWorth⟩ hr
 have c_isManner:jm P w K mg base "is_manner" ["thing"] 3 1 qW:=T.isManner.callee X G ahq fun f fd F=>jM F JI fun Kc A Ko s H E hr=>aa8.2 P w K mg base f Kc A Ko s H E ⟨C.b,C.least,C.most,c_isWhole,c_hasAll⟩ hr
 have c_check:jm P w K mg base "check_manner" ["thing"] 4 1 QY:=T.check.callee X G ahr fun f fd F=>jM F ag1 fun Kc A Ko s H E hr=>aij.2 P w K mg base f Kc A Ko s H E ⟨c_isManner⟩ hr
 have c_rodsWith:jm P w K mg base "rods_with" ["manner","worth"] 2 2 Zi:=T.rodsWith.callee X G ahs fun f fd F=>jM F ag2 fun Kc A Ko s H E hr=>aa9.2 P w K mg base f Kc A Ko s H E ⟨c_allRods,c_rodWorth⟩ hr
 have c_fewest:jm P w K mg base "fewest_beads" ["manner","worth"] 3 2 JJ:=T.fewest.callee X G ale fun f fd F=>jM F akN fun Kc A Ko s H E hr=>afg.2 P w K mg base f Kc A Ko s H E ⟨C.b,c_rodsWith,c_beads⟩ hr
 have c_chkRods:jm P w K mg base "check_rods" ["rods"] 2 1 Jg:=T.chkRods.callee X G ado fun f fd F=>jM F acY fun Kc A Ko s H E hr=>aat.2 P w K mg base f Kc A Ko s H E ⟨c_isWhole,C.mostRods⟩ hr
 have c_chkNum:jm P w K mg base "check_number" ["number"] 2 1 qT:=T.chkNum.callee X G aev fun f fd F=>jM F ad9 fun Kc A Ko s H E hr=>abS.2 P w K mg base f Kc A Ko s H E ⟨c_isWhole,C.mostNumber⟩ hr
 have c_asked:jm P w K mg base "check_asked" ["manner","rods","number"] 5 3 ZX:=T.asked.callee X G aht fun f fd F=>jM F ag3 fun Kc A Ko s H E hr=>ail.2 P w K mg base f Kc A Ko s H E ⟨c_check,c_chkRods,c_chkNum⟩ hr
 have c_num:jm P w K mg base "number_on" ["manner","setting"] 2 2 QG:=T.num.callee X G arM fun f fd F=>jM F afh fun Kc A Ko s H E hr=>apf.2 P w K mg base f Kc A Ko s H E ⟨c_rodWorth⟩ hr
 have c_digits:jm P w K mg base "digits_by_rods" ["base","rods","number"] 1 3 abG:=T.digits.callee X G alf fun f fd F=>jM F afk fun Kc A Ko s H E hr=>aph.2 P w K mg base f Kc A Ko s H E C.b hr
 have c_plainR:jm P w K mg base "plain_rods" ["manner","rods","number"] 4 3 JK:=T.plainR.callee X G aew fun f fd F=>jM F Zn fun Kc A Ko s H E hr=>Zo.2 P w K mg base f Kc A Ko s H E ⟨C.b,c_digits,c_fewest⟩ hr
 have c_plainS:jm P w K mg base "plain_setting" ["manner","rods","number"] 6 3 Zp:=T.plainS.callee X G aex fun f fd F=>jM F aea fun Kc A Ko s H E hr=>afl.2 P w K mg base f Kc A Ko s H E ⟨c_asked,c_plainR⟩ hr
 have c_isRod:jm P w K mg base "is_rod" ["manner","thing"] 2 2 J1:=T.isRod.callee X G anO fun f fd F=>jM F amT fun Kc A Ko s H E hr=>aba.2 P w K mg base f Kc A Ko s H E ⟨C.b,c_isWhole⟩ hr
 have c_isSet:jm P w K mg base "is_setting" ["manner","thing"] 5 2 acZ:=T.isSet.callee X G ahu fun f fd F=>jM F ag4 fun Kc A Ko s H E hr=>abb.2 P w K mg base f Kc A Ko s H E ⟨C.b,c_check,c_isRod,C.mostRods⟩ hr
 have c_chkSet:jm P w K mg base "check_setting" ["manner","thing"] 6 2 qB:=T.chkSet.callee X G aey fun f fd F=>jM F aeb fun Kc A Ko s H E hr=>abT.2 P w K mg base f Kc A Ko s H E ⟨c_isSet⟩ hr
 have c_cell:jm P w K mg base "_law_cell" ["_law_script","_law_k"] 1 2 ag5:=T.cell.callee X G apM fun f fd F=>jM F api fun Kc A Ko s H E hr=>ajx.2 P w K mg base f Kc A Ko s H E C.b hr
 have c_drawn:jm P w K mg base "_law_drawn" ["_law_script","_law_k","_law_many"] 2 3 J8:=T.drawn.callee X G anP fun f fd F=>jM F ac0 fun Kc A Ko s H E hr=>aim.2 P w K mg base f Kc A Ko s H E ⟨c_cell⟩ hr
 have c_manner:jm P w K mg base "_law_manner" ["_law_script","_law_at"] 3 2 Zq:=T.manner.callee X G alg fun f fd F=>jM F zQ fun Kc A Ko s H E hr=>abV.2 P w K mg base f Kc A Ko s H E ⟨C.b,c_drawn⟩ hr
 have c_enough:jm P w K mg base "check_enough" ["manner","setting","number"] 3 3 abX:=T.enough.callee X G aez fun f fd F=>jM F aec fun Kc A Ko s H E hr=>abW.2 P w K mg base f Kc A Ko s H E ⟨c_num⟩ hr
 have c_less:jm P w K mg base "less" ["manner","setting","number"] 7 3 aee:=T.less.callee X G ajY fun f fd F=>jM F ajy fun Kc A Ko s H E hr=>aed.2 P w K mg base f Kc A Ko s H E ⟨C.b,c_chkSet,c_chkNum,c_enough,c_plainR,c_num⟩ hr
 have c_beh:jm P w K mg base "behind_changes" ["setting","changes"] 1 2 aio:=T.beh.callee X G arN fun f fd F=>jM F afo fun Kc A Ko s H E hr=>apk.2 P w K mg base f Kc A Ko s H E C.b hr
 have c_DA:∀ d:Nat,jm P w K mg base "digit_added" ["manner","setting","rod","digit"] (d+3) 4 (gDA d):=by
  intro d
  induction d with
  | zero=>exact T.DA.callee X G ajZ fun f fd F=>⟨fun vs H Q E h=>(by obtain ⟨ds,d,_,_,h,_⟩:=h; cases h),fun A Ko s H args us vs Q E _ _ _ _ h=>(by obtain ⟨ds,d,_,_,h,_⟩:=h; cases h)⟩
  | succ d ih=>exact T.DA.callee X G ajZ fun f fd F=>jM F ag7 fun Kc A Ko s H E hr=>(bDA (gDA d) d).2 P w K mg base f Kc A Ko s H E ⟨c_rodWorth,c_fewest,ih⟩ hr
 have x_DA:∀ d:Nat,qJ P w K mg base "digit_added" ["manner","setting","rod","digit"] (d+3) 4 (tDA d):=by
  intro d
  induction d with
  | zero=>exact T.DA.thr X G ajZ fun f fd F=>⟨fun vs H Q E h=>(by obtain ⟨ds,d,_,_,h,_⟩:=h; cases h),fun A Ko s H args us vs Q E _ _ _ _ h=>(by obtain ⟨ds,d,_,_,h,_⟩:=h; cases h)⟩
  | succ d ih=>exact T.DA.thr X G ajZ fun f fd F=>zq F ag7 fun Kc A Ko s H E hr=>(xDA (gDA d) (tDA d) d).2 P w K mg base f Kc A Ko s H E ⟨⟨c_rodWorth,c_fewest,c_DA d⟩,(C.errT.err (by decide)),ih⟩ hr
 have g_DA:GC K mg "digit_added" (fnD "digit_added"):=by
  obtain ⟨f,oc,od,an,kV,doc,pm,Kc,ct,osl,a,_⟩:=T.DA
  exact ⟨.ref f,.ref f,PySem.W.mg_of X G a,rfl,fun H=>⟨f,rfl,.inr (.inr (.inl ⟨_,rfl,a⟩))⟩⟩
 have c_cbdA:jm P w K mg base "changes_by_digits" ["manner","setting","number","digit_changes"] 10 4 gCA:=T.cbd.callee X G anQ fun f fd F=>jM F zG fun Kc A Ko s H E hr=>(akQ "digit_added" (gDA 6)).2 P w K mg base f Kc A Ko s H E ⟨C.b,c_digits,c_beh,c_DA 6⟩ hr
 have x_cbdA:qJ P w K mg base "changes_by_digits" ["manner","setting","number","digit_changes"] 10 4 tCA:=T.cbd.thr X G anQ fun f fd F=>zq F zG fun Kc A Ko s H E hr=>(asU "digit_added" (gDA 6) (tDA 6)).2 P w K mg base f Kc A Ko s H E ⟨⟨C.b,c_digits,c_beh,c_DA 6⟩,x_DA 6⟩ hr
 have c_chA:jm P w K mg base "changes_adding" ["manner","setting","number"] 11 3 ag8:=T.chA.callee X G anR fun f fd F=>jM F amV fun Kc A Ko s H E hr=>akR.2 P w K mg base f Kc A Ko s H E ⟨c_cbdA,g_DA⟩ hr
 have x_chA:qJ P w K mg base "changes_adding" ["manner","setting","number"] 11 3 amW:=T.chA.thr X G anR fun f fd F=>zq F amV fun Kc A Ko s H E hr=>apl.2 P w K mg base f Kc A Ko s H E ⟨⟨c_cbdA,g_DA⟩,x_cbdA⟩ hr
 have c_adding:jm P w K mg base "adding" ["manner","setting","number"] 12 3 JL:=T.adding.callee X G aeA fun f fd F=>jM F aef fun Kc A Ko s H E hr=>abY.2 P w K mg base f Kc A Ko s H E ⟨c_chkSet,c_chkNum,c_chA⟩ hr
 have c_added:jm P w K mg base "added" ["manner","setting","number"] 13 3 QZ:=T.added.callee X G ahv fun f fd F=>jM F ag9 fun Kc A Ko s H E hr=>afp.2 P w K mg base f Kc A Ko s H E ⟨c_adding,c_beh⟩ hr
 have x_check:qJ P w K mg base "check_manner" ["thing"] 4 1 afu:=T.check.thr X G ahr fun f fd F=>zq F ag1 fun Kc A Ko s H E hr=>aft.2 P w K mg base f Kc A Ko s H E ⟨c_isManner,(C.errT.err (by decide))⟩ hr
 have x_isSet:qJ P w K mg base "is_setting" ["manner","thing"] 5 2 aiq:=T.isSet.thr X G ahu fun f fd F=>zq F ag4 fun Kc A Ko s H E hr=>afv.2 P w K mg base f Kc A Ko s H E ⟨x_check⟩ hr
 have x_chkSet:qJ P w K mg base "check_setting" ["manner","thing"] 6 2 JR:=T.chkSet.thr X G aey fun f fd F=>zq F aeb fun Kc A Ko s H E hr=>ab1.2 P w K mg base f Kc A Ko s H E ⟨c_isSet,x_isSet,(C.errT.err (by decide))⟩ hr
 have x_chkRods:qJ P w K mg base "check_rods" ["rods"] 2 1 ac6:=T.chkRods.thr X G ado fun f fd F=>zq F acY fun Kc A Ko s H E hr=>aaA.2 P w K mg base f Kc A Ko s H E ⟨c_isWhole,C.mostRods,(C.errT.err (by decide))⟩ hr
 have x_chkNum:qJ P w K mg base "check_number" ["number"] 2 1 Qy:=T.chkNum.thr X G aev fun f fd F=>zq F ad9 fun Kc A Ko s H E hr=>ab2.2 P w K mg base f Kc A Ko s H E ⟨c_isWhole,C.mostNumber,(C.errT.err (by decide))⟩ hr
 have x_asked:qJ P w K mg base "check_asked" ["manner","rods","number"] 5 3 air:=T.asked.thr X G aht fun f fd F=>zq F ag3 fun Kc A Ko s H E hr=>afw.2 P w K mg base f Kc A Ko s H E ⟨c_chkRods,c_check,x_check,x_chkRods,x_chkNum⟩ hr
 have x_plainR:qJ P w K mg base "plain_rods" ["manner","rods","number"] 4 3 aaB:=T.plainR.thr X G aew fun f fd F=>zq F Zn fun Kc A Ko s H E hr=>ab3.2 P w K mg base f Kc A Ko s H E ⟨c_digits,(C.errT.err (by decide))⟩ hr
 have x_plainS:qJ P w K mg base "plain_setting" ["manner","rods","number"] 6 3 ajA:=T.plainS.thr X G aex fun f fd F=>zq F aea fun Kc A Ko s H E hr=>ajz.2 P w K mg base f Kc A Ko s H E ⟨c_asked,x_asked,x_plainR⟩ hr
 have x_enough:qJ P w K mg base "check_enough" ["manner","setting","number"] 3 3 afx:=T.enough.thr X G aez fun f fd F=>zq F aec fun Kc A Ko s H E hr=>ab4.2 P w K mg base f Kc A Ko s H E ⟨c_num,(C.errT.err (by decide))⟩ hr
 have x_adding:qJ P w K mg base "adding" ["manner","setting","number"] 12 3 ab6:=T.adding.thr X G aeA fun f fd F=>zq F aef fun Kc A Ko s H E hr=>ab5.2 P w K mg base f Kc A Ko s H E ⟨c_chkNum,c_chkSet,x_chkSet,x_chkNum,x_chA⟩ hr
 have x_added:qJ P w K mg base "added" ["manner","setting","number"] 13 3 ac7:=T.added.thr X G ahv fun f fd F=>zq F ag9 fun Kc A Ko s H E hr=>afy.2 P w K mg base f Kc A Ko s H E ⟨c_beh,x_adding⟩ hr
 have x_less:qJ P w K mg base "less" ["manner","setting","number"] 7 3 ahb:=T.less.thr X G ajY fun f fd F=>zq F ajy fun Kc A Ko s H E hr=>ajB.2 P w K mg base f Kc A Ko s H E ⟨C.b,c_num,c_enough,c_chkNum,c_chkSet,x_chkSet,x_chkNum,x_enough,x_plainR⟩ hr
 have c_NamesBeads:jm P w K mg base "names_beads" ["setting","thing"] 2 2 JN:=T.NamesBeads.callee X G adD fun f fd F=>jM F adA fun Kc A Ko s H E hr=>zm.2 P w K mg base f Kc A Ko s H E ⟨C.b,c_isWhole,C.decks⟩ hr
 have c_Pushed:jm P w K mg base "pushed" ["rod","deck","by"] 1 3 ab0:=T.Pushed.callee X G alh fun f fd F=>jM F akS fun Kc A Ko s H E hr=>aax.2 P w K mg base f Kc A Ko s H E ⟨trivial⟩ hr
 have c_CanMove:jm P w K mg base "can_move" ["manner","setting","thing"] 3 3 Q1:=T.CanMove.callee X G aiQ fun f fd F=>jM F aip fun Kc A Ko s H E hr=>aaz.2 P w K mg base f Kc A Ko s H E ⟨c_NamesBeads,c_isRod,c_Pushed⟩ hr
 have c_BehindMove:jm P w K mg base "behind_move" ["setting","move"] 2 2 JQ:=T.BehindMove.callee X G adE fun f fd F=>jM F ZK fun Kc A Ko s H E hr=>JP.2 P w K mg base f Kc A Ko s H E ⟨c_Pushed⟩ hr
 have c_Moved:jm P w K mg base "moved" ["manner","setting","move"] 7 3 abe:=T.Moved.callee X G ahw fun f fd F=>jM F aha fun Kc A Ko s H E hr=>afs.2 P w K mg base f Kc A Ko s H E ⟨c_chkSet,c_CanMove,c_BehindMove⟩ hr
 have x_Moved:qJ P w K mg base "moved" ["manner","setting","move"] 7 3 amZ:=T.Moved.thr X G ahw fun f fd F=>zq F aha fun Kc A Ko s H E hr=>amY.2 P w K mg base f Kc A Ko s H E ⟨c_CanMove,c_chkSet,x_chkSet,(C.errT.err (by decide))⟩ hr
 have c_IsName:jm P w K mg base "is_name" ["thing"] 1 1 Zs:=T.IsName.callee X G ali fun f fd F=>jM F akT fun Kc A Ko s H E hr=>ajC.2 P w K mg base f Kc A Ko s H E ⟨C.b,C.mostLetters⟩ hr
 have mk_Bench:aoV P w K mg base "Bench" ["self","manner","rods"] 7 3 ait:=T.MInit.mak T.cls X G anT fun f fd F=>aan F am1 fun Kc A Ko s H E hr=>afA.2 P w K mg base f Kc A Ko s H E ⟨f_now,f_manner,f_kept,f_done,f_undone,c_plainS,x_plainS⟩ hr
 have m_setting:qO P w K mg base "Bench" "setting" ["self"] 1 1 Qj:=T.MSetting.met T.cls ahx fun f fd F=>aan F ahd fun Kc A Ko s H E hr=>abg.2 P w K mg base f Kc A Ko s H E ⟨f_now⟩ hr
 have m_value:qO P w K mg base "Bench" "value" ["self"] 3 1 Jo:=T.MValue.met T.cls alj fun f fd F=>aan F akU fun Kc A Ko s H E hr=>afC.2 P w K mg base f Kc A Ko s H E ⟨f_manner,f_now,c_num⟩ hr
 have m_go_on:qO P w K mg base "Bench" "go_on" ["self","word","fresh","kept"] 4 4 Q5:=T.MGoOn.met T.cls anU fun f fd F=>aan F am2 fun Kc A Ko s H E hr=>aiv.2 P w K mg base f Kc A Ko s H E ⟨f_done,f_now,f_kept,f_undone,m_value⟩ hr
 have m_add:qO P w K mg base "Bench" "add" ["self","number"] 14 2 aeg:=T.MAdd.met T.cls apO fun f fd F=>aan F apm fun Kc A Ko s H E hr=>ajE.2 P w K mg base f Kc A Ko s H E ⟨f_manner,f_now,f_kept,m_go_on,c_added,x_added⟩ hr
 have m_take:qO P w K mg base "Bench" "take" ["self","number"] 8 2 abh:=T.MTake.met T.cls anV fun f fd F=>aan F am4 fun Kc A Ko s H E hr=>afF.2 P w K mg base f Kc A Ko s H E ⟨f_manner,f_now,f_kept,m_go_on,c_less,x_less⟩ hr
 have m_push:qO P w K mg base "Bench" "push" ["self","move"] 8 2 afH:=T.MPush.met T.cls anW fun f fd F=>aan F am5 fun Kc A Ko s H E hr=>aiy.2 P w K mg base f Kc A Ko s H E ⟨f_manner,f_now,f_kept,m_go_on,c_Moved,x_Moved⟩ hr
 have m_keep:qO P w K mg base "Bench" "keep" ["self","name"] 5 2 abi:=T.MKeep.met T.cls anX fun f fd F=>aan F ahe fun Kc A Ko s H E hr=>afJ.2 P w K mg base f Kc A Ko s H E ⟨f_kept,f_now,m_go_on,C.b,c_IsName,(C.errT.err (by decide))⟩ hr
 have m_recall:qO P w K mg base "Bench" "recall" ["self","name"] 5 2 ac9:=T.MRecall.met T.cls aiR fun f fd F=>aan F aiA fun Kc A Ko s H E hr=>aaE.2 P w K mg base f Kc A Ko s H E ⟨f_kept,m_go_on,c_IsName,(C.errT.err (by decide))⟩ hr
 have m_names:qO P w K mg base "Bench" "names" ["self"] 1 1 Zu:=T.MNames.met T.cls alk fun f fd F=>aan F akV fun Kc A Ko s H E hr=>afL.2 P w K mg base f Kc A Ko s H E ⟨f_kept,C.b⟩ hr
 have m_cross:qO P w K mg base "Bench" "cross" ["self","source","goal"] 1 3 acd:=T.MCross.met T.cls alm fun f fd F=>aan F aeh fun Kc A Ko s H E hr=>acb.2 P w K mg base f Kc A Ko s H E ⟨f_now,f_kept,(C.errT.err (by decide))⟩ hr
 have m_back:qO P w K mg base "Bench" "back" ["self"] 2 1 Q6:=T.MBack.met T.cls anY fun f fd F=>aan F am6 fun Kc A Ko s H E hr=>aiC.2 P w K mg base f Kc A Ko s H E ⟨f_done,f_undone,m_cross⟩ hr
 have m_forth:qO P w K mg base "Bench" "forth" ["self"] 2 1 aaF:=T.MForth.met T.cls aln fun f fd F=>aan F akW fun Kc A Ko s H E hr=>afP.2 P w K mg base f Kc A Ko s H E ⟨f_undone,f_done,m_cross⟩ hr
 have m_steps:qO P w K mg base "Bench" "steps" ["self"] 1 1 JT:=T.MSteps.met T.cls alo fun f fd F=>aan F akX fun Kc A Ko s H E hr=>afR.2 P w K mg base f Kc A Ko s H E ⟨f_done,f_undone,C.b⟩ hr
 have k_LStep:ad3 P w K mg base "_law_step" ["_law_script","_law_at","_law_bench","_law_manner_here"] 15 4 aiE:=T.LStep.cal0 X G anS fun f fd F=>arc F Jh fun Kc A Ko s H E hr=>afT.2 P w K mg base f Kc A Ko s H E ⟨m_add,m_value,m_take,m_setting,m_push,m_names,m_keep,m_recall,C.b,c_drawn,(C.errT.err (by decide))⟩ hr
 have k_LNow:ad3 P w K mg base "_law_now" ["_law_bench"] 4 1 ajG:=T.LNow.cal0 X G apN fun f fd F=>ap6 F apn fun Kc A Ko s H E hr=>ajF.2 P w K mg base f Kc A Ko s H E ⟨m_setting,m_value,m_names⟩ hr
 exact ⟨m_steps,m_back,m_forth,m_keep,m_value,mk_Bench,k_LNow,k_LStep,C.b,c_manner,c_drawn⟩
theorem arO (HT:zu=true) {P:Program}{w:World}{K:Fg}{h:Heap}{mg:SV}{fa:Addr} (X:K.In h) (G:h.Ns mainGlobals mg) (hfa:mg "law"=some (.ref fa)) (T:Tops K) (C:Consts K mg):
  ∃ fd:FuncData,(∀ (s:Shared) (v:Value),BindsTo s fd ⟨[v],[]⟩ [("_law_script",v)])/\∀ base:Heap,K.In base->base.Ns mainGlobals mg->FnOk P w K mg base CX0 16 fa fd ["_law_script"] (acS K 1 ane):=by
 have Q:∀ base:Heap,CLaw P w K mg base:=fun base=>at5 HT X G T C
 obtain ⟨f,oc,od,an,kV,doc,pm,Kc,ct,osl,a,l,c,kp⟩:=T.law
 have e:=hfa.symm.trans (PySem.W.mg_of X G a)
 cases e
 have F1:=aaP (st:=abj) l c kp
 exact ⟨_,fun s v=> .of_eq rfl,fun base _ _=>ap6 F1 Jz fun Kc A Ko s H E hr=>apo.2 P w K mg base fa Kc A Ko s H E (Q base) hr⟩
theorem atb (HT:zu=true) (K:Fg) (H:Hp) (a:Addr) (ns:List Int) (hl:ns.length<=63) (hS:SqL K H a (ns.map V.int)):acS K 1 ane [.ref a] H (fun v _=>v= .bl true) fun _ _ _=>False:=
 ⟨[scr ns],fun _=>none,fun o _=>o= .ok (.bool true),rfl,⟨_,_,rfl,⟨a,rfl,.inl ⟨ns,hS,rfl⟩⟩,rfl⟩,(fun a c z=>nomatch z),alc HT ns (by omega),(fun d μ' r v H' _ rv _=>by cases r; exact rv),fun c μ' r=>nomatch r⟩
theorem at6 (HT:zu=true) {l:PySem.W.OpenLaw}{q:Program}{loose:List Str}{XP:(SV)->Heap->Prop}{YP:World->Heap->Prop}{d:DefRec}{K:Params->Fg} (hn:l.most=some 63) (hdf:d.params.defaults=[])
  (hY:∀ (w:World) (h:Heap),YP w h->(K w.params).In h) (hnm:d.name="law")
  (F:∀ (w:World) (mg:SV) (h:Heap),(K w.params).In h->h.Ns mainGlobals mg->Tops (K w.params)/\Consts (K w.params) mg):
  PySem.W.WalkO q loose XP YP l.row.toRowW d [] (fun f vs=>PySem.call f vs):=
 L2.aoi (n:=63) (k:=16) (x:="_law_script") (CX:=fun _=>CX0) (sp:=fun w=>acS (K w.params) 1 ane) hn (by decide) hdf ⟨rfl,by decide,by decide⟩ hY (fun w mg fa h KX G hm=>by
  obtain ⟨T,C⟩:=F w mg h KX G
  rw [hnm] at hm
  exact arO HT KX G hm T C) (fun w H a ns hl _ hS=>atb HT (K w.params) H a ns hl hS) fun _ _ _ _ _ z=>z
theorem apP {K:Fg}{mg:SV}{h:Heap} (X:K.In h) (G:h.Ns mainGlobals mg) (z1:PySem.W.nsIn K mainGlobals "isinstance"=some none) (z2:PySem.W.nsIn K mainGlobals "bool"=some none) (z3:PySem.W.nsIn K mainGlobals "int"=some none) (z4:PySem.W.nsIn K mainGlobals "tuple"=some none) (z5:PySem.W.nsIn K mainGlobals "zip"=some none) (z6:PySem.W.nsIn K mainGlobals "range"=some none) (z7:PySem.W.nsIn K mainGlobals "all"=some none) (z8:PySem.W.nsIn K mainGlobals "len"=some none) (z9:PySem.W.nsIn K mainGlobals "max"=some none) (z10:PySem.W.nsIn K mainGlobals "min"=some none) (z11:PySem.W.nsIn K mainGlobals "sum"=some none) (z12:PySem.W.nsIn K mainGlobals "sorted"=some none) (z13:PySem.W.nsIn K mainGlobals "abs"=some none) (z14:PySem.W.nsIn K mainGlobals "list"=some none) (z15:PySem.W.nsIn K mainGlobals "enumerate"=some none) (z16:PySem.W.nsIn K mainGlobals "ValueError"=some none) (z17:PySem.W.nsIn K mainGlobals "str"=some none) (z18:PySem.W.nsIn K mainGlobals "set"=some none) (z19:PySem.W.nsIn K mainGlobals "dict"=some none):Bare mg:=
 have f:∀ {x:Str},PySem.W.nsIn K mainGlobals x=some none->mg x=none:=fun z=>PySem.W.mg_none_of X G z
 ⟨f z1,f z2,f z3,f z4,f z5,f z6,f z7,f z8,f z9,f z10,f z11,f z12,f z13,f z14,f z15,f z16,f z17,f z18,f z19⟩
theorem gc4 {K:Fg}{mg:SV}{h:Heap}{x:Str}{a:Addr}{od:Option Addr}{n:Nat}{osl:Array (Option Value)}{i1 i2 i3 i4:Int}{t1 t2 t3 t4:Tok} (X:K.In h) (G:h.Ns mainGlobals mg) (e:PySem.W.nsIn K mainGlobals x=some (some (.ref a)))
  (l:K.lookup a=some ⟨.type "tuple",od,.seq #[.int i1 t1,.int i2 t2,.int i3 t3,.int i4 t4] n,osl⟩):GC K mg x (.tuple [.int i1,.int i2,.int i3,.int i4]):=
 agD X G e l rfl ⟨_,_,[.int i1,.int i2,.int i3,.int i4],rfl,(by show 4<=sizeLine; rw [sizeLine_eq]; decide),.cons ⟨_,rfl⟩ (.cons ⟨_,rfl⟩ (.cons ⟨_,rfl⟩ (.cons ⟨_,rfl⟩ .nil))),fun H=>⟨_,_,rfl,rfl,_,_,rfl,rfl,_,_,rfl,rfl,_,_,rfl,rfl,rfl⟩⟩
theorem gcI {K:Fg}{mg:SV}{h:Heap}{x:Str}{i:Int}{t:Tok} (X:K.In h) (G:h.Ns mainGlobals mg) (e:PySem.W.nsIn K mainGlobals x=some (some (.int i t))):GC K mg x (.int i):=
 ⟨.int i,_,PySem.W.mg_of X G e,⟨t,rfl⟩,fun H=>rfl⟩
theorem anZ {K:Fg}{mg:SV}{h:Heap}{x:Str}{a:Addr}{od:Option Addr}{n:Nat}{osl:Array (Option Value)}{i1 i2:Str}{t1 t2:Tok} (X:K.In h) (G:h.Ns mainGlobals mg) (e:PySem.W.nsIn K mainGlobals x=some (some (.ref a)))
  (l:K.lookup a=some ⟨.type "tuple",od,.seq #[.str i1 t1,.str i2 t2] n,osl⟩):GC K mg x (.tuple [.str i1,.str i2]):=
 agD X G e l rfl ⟨_,_,[.str i1,.str i2],rfl,(by show 2<=sizeLine; rw [sizeLine_eq]; decide),.cons ⟨_,rfl⟩ (.cons ⟨_,rfl⟩ .nil),fun H=>⟨_,_,rfl,rfl,_,_,rfl,rfl,rfl⟩⟩
theorem apQ {K:Fg}{mg:SV}{h:Heap}{y:Str}{cs:List Str} (X:K.In h) (G:h.Ns mainGlobals mg) (q:ae5 K y cs=true):ErrT K mg y cs:=
 ⟨q,fun c C e=>PySem.W.mg_of X G (aoM e)⟩
end Rods
def PySem.W.Fast.tw8074704521756172519:Unit:=()
def PySem.W.Fast.tw17241867693918534525:Unit:=()
def PySem.W.Fast.tw7990123124568959548:Unit:=()
def PySem.W.Fast.tw6566483003182564402:Unit:=()
def PySem.W.Fast.tw15893971346325458538:Unit:=()
def PySem.W.Fast.tw17428864856769630424:Unit:=()
def PySem.W.Fast.tw6352566974176552670:Unit:=()
def PySem.W.Fast.tw5881936686234367577:Unit:=()
def PySem.W.Fast.tw10755057047384375105:Unit:=()
def PySem.W.Fast.tw9777001386122431750:Unit:=()
def PySem.W.Fast.tw17543173654412304373:Unit:=()
def PySem.W.Fast.tw485894930215879084:Unit:=()
def PySem.W.Fast.tw14844923620603477287:Unit:=()
def PySem.W.Fast.tw15198920591934418427:Unit:=()
def PySem.W.Fast.tw17307006484229371314:Unit:=()
def PySem.W.Fast.tw11258508403245661682:Unit:=()
def PySem.W.Fast.tw484788931997616540:Unit:=()
def PySem.W.Fast.tw10064809604074116037:Unit:=()
def PySem.W.Fast.tw9492678836972585909:Unit:=()
def PySem.W.Fast.tw2229112635026315660:Unit:=()
def PySem.W.Fast.tw11282886242349847021:Unit:=()
def PySem.W.Fast.tw268706444685042760:Unit:=()
def PySem.W.Fast.tw9450118807910226282:Unit:=()
def PySem.W.Fast.tw3698876366472818344:Unit:=()
open PySem PySem.W PyProof.Rows
set_option maxRecDepth 100000 in
set_option maxHeartbeats 0 in
theorem PySem.Challenge.cw_beadrods_k72_whole_back_holds : PySem.Challenge.rw_beadrods_k72_whole_back.Holds := by
  w_on; o_law; k_head; (case hw => w_witness2)
  k_fill
  refine Rods.at6 Rods.allN_true (l := PySem.Challenge.rw_beadrods_k72_whole_back) rfl rfl (fun w h Y => PySem.W.kIn_of Y) rfl ?F
  case F =>
    intro w mg h KX G
    refine ⟨⟨?f1, ?f2, ?f3, ?f4, ?f5, ?f6, ?f7, ?f8, ?f9, ?f10, ?f11, ?f12, ?f13, ?f14, ?f15, ?f16, ?f17, ?f18, ?f19, ?f20, ?f21, ?f22, ?f23, ?f24, ?f25, ?f26, ?f27, ?f28, ?f29, ?f30, ?f31, ?f32, ?f33, ?f34, ?f35, ?f36, ?f37, ?f38, ?f39, ?m1, ?m2, ?m3, ?m4, ?m5, ?m6, ?m7, ?m8, ?m9, ?m10, ?m11, ?m12, ?m13, ?m14, ?cl, ?d1, ?d2, ?d3, ?d4, ?d5⟩, ⟨?b, ?c1, ?c2, ?c3, ?c4, ?c5, ?c6, ?et⟩⟩
    case b => refine' Rods.apP KX G ?_ ?_ ?_ ?_ ?_ ?_ ?_ ?_ ?_ ?_ ?_ ?_ ?_ ?_ ?_ ?_ ?_ ?_ ?_ <;> k_is
    case c1 =>
      refine' Rods.gc4 KX G ?a ?l
      (case a => k_is); (case l => k_is)
    case c2 =>
      refine' Rods.gc4 KX G ?a ?l
      (case a => k_is); (case l => k_is)
    case c3 =>
      refine' Rods.gcI KX G ?a
      (case a => k_is)
    case c4 =>
      refine' Rods.gcI KX G ?a
      (case a => k_is)
    case c5 =>
      refine' Rods.anZ KX G ?a ?l
      (case a => k_is); (case l => k_is)
    case c6 =>
      refine' Rods.gcI KX G ?a
      (case a => k_is)
    case et => exact Rods.apQ KX G (by kernel_rfl)
    case m1 =>
      refine' BX.qI ?a ?b ?i ?l ?c ?k
      (case a => k_is); (case b => k_is); (case i => k_is); (case l => k_is); (case c => k_is); (case k => k_is)
    case m2 =>
      refine' BX.qI ?a ?b ?i ?l ?c ?k
      (case a => k_is); (case b => k_is); (case i => k_is); (case l => k_is); (case c => k_is); (case k => k_is)
    case m3 =>
      refine' BX.qI ?a ?b ?i ?l ?c ?k
      (case a => k_is); (case b => k_is); (case i => k_is); (case l => k_is); (case c => k_is); (case k => k_is)
    case m4 =>
      refine' BX.qI ?a ?b ?i ?l ?c ?k
      (case a => k_is); (case b => k_is); (case i => k_is); (case l => k_is); (case c => k_is); (case k => k_is)
    case m5 =>
      refine' BX.qI ?a ?b ?i ?l ?c ?k
      (case a => k_is); (case b => k_is); (case i => k_is); (case l => k_is); (case c => k_is); (case k => k_is)
    case m6 =>
      refine' BX.qI ?a ?b ?i ?l ?c ?k
      (case a => k_is); (case b => k_is); (case i => k_is); (case l => k_is); (case c => k_is); (case k => k_is)
    case m7 =>
      refine' BX.qI ?a ?b ?i ?l ?c ?k
      (case a => k_is); (case b => k_is); (case i => k_is); (case l => k_is); (case c => k_is); (case k => k_is)
    case m8 =>
      refine' BX.qI ?a ?b ?i ?l ?c ?k
      (case a => k_is); (case b => k_is); (case i => k_is); (case l => k_is); (case c => k_is); (case k => k_is)
    case m9 =>
      refine' BX.qI ?a ?b ?i ?l ?c ?k
      (case a => k_is); (case b => k_is); (case i => k_is); (case l => k_is); (case c => k_is); (case k => k_is)
    case m10 =>
      refine' BX.qI ?a ?b ?i ?l ?c ?k
      (case a => k_is); (case b => k_is); (case i => k_is); (case l => k_is); (case c => k_is); (case k => k_is)
    case m11 =>
      refine' BX.qI ?a ?b ?i ?l ?c ?k
      (case a => k_is); (case b => k_is); (case i => k_is); (case l => k_is); (case c => k_is); (case k => k_is)
    case m12 =>
      refine' BX.qI ?a ?b ?i ?l ?c ?k
      (case a => k_is); (case b => k_is); (case i => k_is); (case l => k_is); (case c => k_is); (case k => k_is)
    case m13 =>
      refine' BX.qI ?a ?b ?i ?l ?c ?k
      (case a => k_is); (case b => k_is); (case i => k_is); (case l => k_is); (case c => k_is); (case k => k_is)
    case m14 =>
      refine' BX.qI ?a ?b ?i ?l ?c ?k
      (case a => k_is); (case b => k_is); (case i => k_is); (case l => k_is); (case c => k_is); (case k => k_is)
    case cl =>
      refine' BX.ao1 ?a ?b ?c ?d ?e ?f ?g
      (case a => k_is); (case b => k_is); (case c => k_is); (case d => k_is); (case e => k_is); (case f => k_is); (case g => k_is)
    case d1 =>
      refine' BX.aao ?a ?b
      (case a => k_is); (case b => k_is)
    case d2 =>
      refine' BX.aao ?a ?b
      (case a => k_is); (case b => k_is)
    case d3 =>
      refine' BX.aao ?a ?b
      (case a => k_is); (case b => k_is)
    case d4 =>
      refine' BX.aao ?a ?b
      (case a => k_is); (case b => k_is)
    case d5 =>
      refine' BX.aao ?a ?b
      (case a => k_is); (case b => k_is)
    all_goals
      refine' BX.amg ?a ?l ?c ?k
      (case a => k_is); (case l => k_is); (case c => k_is); (case k => k_is)
#print axioms PySem.Challenge.cw_beadrods_k72_whole_back_holds
end
