import PyProof.Rows.All
import Wide.All
import OpenK.AllK
import Wide.FinOn
import Lean
import PyProof.EqAt
import PyProof.EqKinds
import PyProof.TupleCall
import PyProof.DictWalks
import PyProof.ListMulRoad
import PyProof.Rows.Range3
import PyProof.StationsW
import OpenK.KOwn
import PyProof.ExcBaseAll.ValueError
import PyProof.MaxThree
import KE.KIsAll
import KE.KIsNot
import PyProof.RulesAs
import PyProof.ExcArgsOwn
import PyProof.ExcAttrAll.ValueError
import KE.KRevSl
import KE.KDictOf
import KE.KDictList
import PyProof.AttrMissHeap
import PyProof.Rows.DictListVals
import PySem.Challenge.RW_beadrods_k40_alike
set_option Elab.async false
set_option linter.all false
set_option maxRecDepth 100000
set_option maxHeartbeats 4000000
abbrev Fg:=PySem.W.Frag
abbrev SV:=PySem.Str->Option PySem.Value
abbrev OP:=Option PySem.PyData
abbrev LP:=List PySem.PyData
abbrev SP0:=PySem.Shared->Prop
theorem zzA{α : Type _}{a : α}{l : List α} : (a :: l)[0]? = some a := rfl
theorem zzB{α : Type _}{a : α}{i : Nat}{l : List α} : (a :: l)[i + 1]? = l[i]? := rfl
theorem zzC{α : Type _}{o : Option α} : (some o).join = o := rfl
theorem zzD{α β : Type _}(a : α)(f : α → Option β) : (some a).bind f = f a := rfl
theorem zzE{α β : Type _}(a : α)(f : α → β) : Option.map f (some a) = some (f a) := rfl
theorem zzF{α : Type _}{x : α}{xs : List α}{i : Nat}{a : α} : (x :: xs).set (i + 1) a = x :: xs.set i a := rfl
theorem zzG{α : Type _}{x : α}{xs : List α}{a : α} : (x :: xs).set 0 a = a :: xs := rfl
theorem zzH{α β : Type _}(f : α → Option β) : (none : Option α).bind f = none := rfl
theorem zzI{α β : Type _}(f : α → β) : Option.map f (none : Option α) = none := rfl
theorem zzJ : (!true) = false := rfl
theorem zzK : (!false) = true := rfl
theorem zzL : (false = true) = False := Bool.false_eq_true
theorem zzM{α : Sort _}{x : Decidable True}(a b : α) : ite True a b = a := if_true a b
theorem zzN{α : Sort _}{x : Decidable False}(a b : α) : ite False a b = b := if_false a b
section
namespace L2
open PySem PySem.Spec PyProof.Rows
noncomputable abbrev Key:=Sum Int Str
noncomputable def ab7:Key->Value->Bool
 |.inl k,v=>Value.isInt k v
 |.inr x,v=>Value.isStrOf x v
noncomputable def asq(w:World):Key->Int
 |.inl k=>hashInt k
 |.inr x=>hashStr w x
theorem qf:∀{k:Key}{v:Value},ab7 k v=true->(∃i t,k=Sum.inl i/\v=Value.int i t)∨(∃x t,k=Sum.inr x/\v=Value.str x t)
 | .inl i,v,h=>by
  obtain⟨t,e⟩:=Value.isInt_shape (k:=i) (v:=v) h;exact .inl ⟨i,t,rfl,e⟩
 | .inr x,v,h=>by
  obtain⟨t,e⟩:=Value.isStrOf_shape (x:=x) (v:=v) h;exact .inr ⟨x,t,rfl,e⟩
theorem ajE(i:Int)(t:Tok):ab7 (.inl i) (.int i t)=true:=by simp[ab7,Value.isInt]
theorem ajF(x:Str)(t:Tok):ab7 (.inr x) (.str x t)=true:=by simp[ab7,Value.isStrOf]
theorem apT(a b:Int):decide ((Sum.inl a:Key)=Sum.inl b)=(a==b):=by
 by_cases e:a=b
 ·subst e;simp
 ·have h:¬ (Sum.inl a:Key)=Sum.inl b:=fun q=>e (Sum.inl.inj q)
  rw[decide_eq_false h];exact(beq_eq_false_iff_ne.mpr e).symm
theorem apU(a b:Str):decide ((Sum.inr a:Key)=Sum.inr b)=decide (a=b):=by
 by_cases e:a=b
 ·subst e;simp
 ·have h:¬ (Sum.inr a:Key)=Sum.inr b:=fun q=>e (Sum.inr.inj q)
  rw[decide_eq_false h,decide_eq_false e]
theorem apV(a:Int)(b:Str):decide ((Sum.inl a:Key)=Sum.inr b)=false:=decide_eq_false (fun q=>nomatch q)
theorem apW(a:Str)(b:Int):decide ((Sum.inr a:Key)=Sum.inl b)=false:=decide_eq_false (fun q=>nomatch q)
noncomputable def jV(prog:Program)(w:World):PySem.KeyKind prog w Key where
 is:=ab7
 hash:=asq w
 inj:=fun v a b ha hb=>by
  rcases qf ha with ⟨i,t,rfl,rfl⟩ | ⟨x,t,rfl,rfl⟩
  ·rcases qf hb with ⟨j,u,rfl,e⟩ | ⟨y,u,rfl,e⟩
   ·injection e with e1 _;rw[e1]
   ·exact nomatch e
  ·rcases qf hb with ⟨j,u,rfl,e⟩ | ⟨y,u,rfl,e⟩
   ·exact nomatch e
   ·injection e with e1 _;rw[e1]
 byValue:=fun k v h=>by
  rcases qf h with ⟨i,t,rfl,rfl⟩ | ⟨x,t,rfl,rfl⟩<;>rfl
 pyHash:=fun hv h=>by
  rcases qf hv with ⟨i,t,rfl,rfl⟩ | ⟨x,t,rfl,rfl⟩
  ·exact wpAny_pyHash_int h
  ·exact wpAny_pyHash_str h
 eqBool:=fun hu hv h=>by
  rcases qf hu with ⟨i,t,rfl,rfl⟩ | ⟨x,t,rfl,rfl⟩
  ·rcases qf hv with ⟨j,u,rfl,rfl⟩ | ⟨y,u,rfl,rfl⟩
   ·rw[apT]at h;exact wpAny_eqBool_int h
   ·rw[apV]at h;exact SeqAt.EqAt.int_str i t y u _ _ _ _ h
  ·rcases qf hv with ⟨j,u,rfl,rfl⟩ | ⟨y,u,rfl,rfl⟩
   ·rw[apW]at h;exact SeqAt.EqAt.str_int x t j u _ _ _ _ h
   ·rw[apU]at h;exact wpAny_eqBool_str h
 «strs»:=fun k x t v h=>by
  rcases qf h with ⟨i,u,rfl,e⟩ | ⟨y,u,rfl,e⟩
  ·exact nomatch e
  ·injection e with e1 _
   subst e1;cases v<;>rfl
theorem ac1(prog:Program)(w:World)(k:Key)(v:Value):(jV prog w).is k v=ab7 k v:=rfl
theorem ab8(prog:Program)(w:World)(i:Int)(t:Tok):(jV prog w).is (.inl i) (.int i t)=true:=ajE i t
theorem agc(prog:Program)(w:World)(x:Str)(t:Tok):(jV prog w).is (.inr x) (.str x t)=true:=ajF x t
inductive V where
 |non | bl (b:Bool) | int (i:Int) | str (x:Str) | byt (b:Array UInt8) | flt (b:UInt64) | ref (a:Addr) | ty (n:String)
 deriving DecidableEq
noncomputable def jS:V->Value->Prop
 |.non,u=>u=Value.none
 |.bl b,u=>u=Value.bool b
 |.int i,u=>∃t,u=Value.int i t
 |.str x,u=>∃t,u=Value.str x t
 |.byt b,u=>∃t,u=Value.bytes b t
 |.flt b,u=>∃t,u=Value.float b t
 |.ref a,u=>u=Value.ref a
 |.ty n,u=>u=Value.type n
noncomputable abbrev jM:List V->List Value->Prop:=Paired jS
theorem jM.length{xs:List V}{us:List Value}(r:jM xs us):xs.length=us.length:=Paired.length r
theorem jM.get:∀{xs:List V}{us:List Value}{i:Nat}{x:V},jM xs us->xs[i]?=some x->∃u,us[i]?=some u/\jS x u
 |_,_,_,_,.nil,e=>by simp at e
 |_,_,0,_,.cons r _,e=>by simp at e;subst e;exact⟨_,rfl,r⟩
 | _,_,i+1,x,.cons _ t,e=>by
  obtain⟨u,h1,h2⟩:=jM.get (i:=i) (x:=x) t (by simpa using e);exact⟨u,by simpa using h1,h2⟩
theorem jM.set{x:V}{u:Value}(r:jS x u):∀{xs:List V}{us:List Value} (i:Nat),jM xs us->jM (xs.set i x) (us.set i u)
 |_,_,_,.nil=> .nil
 |_,_,0,.cons _ t=> .cons r t
 |_,_,i+1,.cons q t=> .cons q (jM.set r i t)
theorem jM.append:∀{xs ys:List V}{us ws:List Value},jM xs us->jM ys ws->jM (xs++ys) (us++ws)
 |_,_,_,_,.nil,s=>s
 |_,_,_,_,.cons r t,s=> .cons r (jM.append t s)
theorem jM.take:∀{xs:List V}{us:List Value} (n:Nat),jM xs us->jM (xs.take n) (us.take n)
 |_,_,0,_=> .nil
 |_,_,_+1,.nil=> .nil
 |_,_,n+1,.cons r t=> .cons r (jM.take n t)
theorem jM.drop:∀{xs:List V}{us:List Value} (n:Nat),jM xs us->jM (xs.drop n) (us.drop n)
 |_,_,0,r=>r
 |_,_,_+1,.nil=> .nil
 |_,_,n+1,.cons _ t=>jM.drop n t
noncomputable def acl:Option V->Option Value->Prop
 |some v,some u=>jS v u
 |none,none=>True
 |_,_=>False
noncomputable def KV{κ:Type}:List (κ×V)->List (κ×Value)->Prop:=Paired fun (p:κ×V) (q:κ×Value)=>p.1=q.1/\jS p.2 q.2
noncomputable def kV:Key->V
 |.inl i=> .int i
 |.inr x=> .str x
inductive HO where
 |lst (xs:List V)
 |tup (xs:List V)
 |dK (kvs:List (Key×V)) | dT (kvs:List (List Key×V))
 |set (S:Int->Bool) (n:Nat)
 |ins (C dx:Addr) (fs:List (Str×V))
 |own (x:Addr)
 |xd (fs:List (Str×V))
 |met (f x:Addr)
 |rng (lo hi:Int)
 |frz (o:Obj) (u:HO)
 |tbl (ps:Array Value)
 |ext (φ:Heap->Prop)
noncomputable abbrev Hp:=Addr->Option HO
noncomputable def upd(H:Hp)(a:Addr)(o:HO):Hp:=fun b=>if b=a then some o else H b
theorem jt{H:Hp}{a:Addr}{o:HO}:upd H a o a=some o:=by unfold upd;rw[if_pos rfl]
theorem jp{H:Hp}{a b:Addr}{o:HO}(h:b≠a):upd H a o b=H b:=by unfold upd;rw[if_neg h]
theorem Z4{H:Hp}{a:Addr}{o u:HO}:upd (upd H a o) a u=upd H a u:=by
 funext b;unfold upd;split<;>rfl
theorem ark{H:Hp}{a b:Addr}{o u:HO}(h:H a=some o)(h':H b=some u)(d:o≠u):a≠b:=by
 intro e;subst e;rw[h]at h';exact d (Option.some.inj h')
theorem qG{H:Hp}{a b:Addr}{o:HO}(h:H a=some o)(h':H b=none):a≠b:=by
 intro e;subst e;rw[h]at h';cases h'
section
variable (P:Program)(w:World)
noncomputable def zd(H:Hp)(h:Heap)(a:Addr):HO->Prop
 |.lst xs=>xs.length<=sizeLine/\∃(its:List Value) (n:Nat),jM xs its/\h.get? a=some { cls:= .type "list",data:= .seq its.toArray n }
 |.tup xs=>xs.length<=sizeLine/\∃its:List Value,jM xs its/\IsTup h a its.toArray
 |.dK kvs=>kvs.length<=sizeLine/\(a==sysModules)=false/\∃vs,KV kvs vs/\h.DictOf (jV P w) a vs
 | .dT kvs=>kvs.length<=sizeLine/\(a==sysModules)=false/\∃xs:List (List Key×Addr×Value),
   Paired (fun (p:List Key×V) (q:List Key×Addr×Value)=>p.1=q.1/\H q.2.1=some (.tup (p.1.map kV))/\jS p.2 q.2.2) kvs xs/\
   ∃o es ep,h.get? a=some o/\o.ExactDict/\o.data= .dict es ep/\es.toList=xs.map (entryOfKey (tupleKind (jV P w)))/\(xs.map (·.1)).Nodup
 |.set S n=>h.SetOf (intKind P w) a S n
 | .ins C dx fs=>H dx=some (.own a)/\fs.length<=1000/\dx≠a/\h.get? a=some (PySem.W.instObj C dx)/\
   ∃mA,h.Ns1 dx mA/\(∀f,acl (fs.lookup f) (mA f))/\PySem.Within mA (fs.map (·.1))
 |.own _=>∃o,h.get? a=some o
 |.xd fs=>∃mA,h.Ns1 a mA/\∀f,acl (fs.lookup f) (mA f)
 |.rng lo hi=>∃t u v,h.get? a=some { cls:= .type "range",data:= .fields #[.int lo t,.int hi u,.int 1 v] }
 |.frz o u=>h.get? a=some o/\zd H h a u
 |.tbl ps=>h.get? a=some { cls:= .none,data:= .fields ps }
 |.met f x=>h.get? a=some (PySem.W.methodObj (.ref f) (.ref x))
 |.ext φ=>φ h/\(∃o,h.get? a=some o)/\∀h1 h2:Heap,φ h1->(∀o,h1.get? a=some o->h2.get? a=some o)->φ h2
noncomputable def HOk(H:Hp)(h:Heap):Prop:=∀a o,H a=some o->zd P w H h a o
end
section
variable {P:Program}{w:World}{H H':Hp}{h h':Heap}{a:Addr}{o:HO}
theorem zd.lt(x:zd P w H h a o):a<h.objs.size:=by
 cases o with
 |lst xs=>obtain⟨_,_,_,_,e⟩:=x;exact Heap.lt_size e
 |tup xs=>obtain⟨_,_,_,p⟩:=x;exact p.lt
 |dK kvs=>obtain⟨_,_,_,_,o,_,_,e,_⟩:=x;exact Heap.lt_size e
 |dT kvs=>obtain⟨_,_,_,_,o,_,_,e,_⟩:=x;exact Heap.lt_size e
 |set S n=>obtain⟨o,_,_,_,e,_⟩:=x;exact Heap.lt_size e
 |ins C dx fs=>obtain⟨_,_,_,e,_⟩:=x;exact Heap.lt_size e
 |own y=>obtain⟨_,e⟩:=x;exact Heap.lt_size e
 |xd fs=>obtain⟨_,⟨_,_,_,e,_⟩,_⟩:=x;exact Heap.lt_size e
 |rng lo hi=>obtain⟨_,_,_,e⟩:=x;exact Heap.lt_size e
 |frz ob u=>obtain⟨e,_⟩:=x;exact Heap.lt_size e
 |tbl ps=>exact Heap.lt_size (show h.get? a=some _ from x)
 |met f y=>exact Heap.lt_size (show h.get? a=some _ from x)
 |ext φ=>obtain⟨_,⟨_,e⟩,_⟩:=x;exact Heap.lt_size e
theorem Paired.mapP{α β:Type}{F G:α->β->Prop}:∀{l₁:List α}{l₂:List β},Paired F l₁ l₂->(∀a b,F a b->G a b)->Paired G l₁ l₂
 |_,_,.nil,_=> .nil
 |_,_,.cons r t,f=> .cons (f _ _ r) (Paired.mapP t f)
theorem zd.stay(x:zd P w H h a o)(k:∀b u,(b=a∨H b=some (.own a))->h.get? b=some u->h'.get? b=some u)
  (ho:∀b,H b=some (.own a)->H' b=some (.own a)) (ht:∀b xs,H b=some (.tup xs)->H' b=some (.tup xs)):zd P w H' h' a o:=by
 induction o with
 |lst xs=>obtain⟨z,its,n,r,e⟩:=x;exact⟨z,its,n,r,k _ _ (.inl rfl) e⟩
 |tup xs=>obtain⟨z,its,r,ob,e,c⟩:=x;exact⟨z,its,r,ob,k _ _ (.inl rfl) e,c⟩
 |dK kvs=>obtain⟨z,y,vs,r,ob,es,ep,e,c⟩:=x;exact⟨z,y,vs,r,ob,es,ep,k _ _ (.inl rfl) e,c⟩
 | dT kvs=>
  obtain⟨z,y,xs,r,ob,es,ep,e,c⟩:=x;exact⟨z,y,xs,Paired.mapP r fun p q z=>⟨z.1,ht _ _ z.2.1,z.2.2⟩,ob,es,ep,k _ _ (.inl rfl) e,c⟩
 |set S n=>obtain⟨ob,es,ep,t,e,c⟩:=x;exact⟨ob,es,ep,t,k _ _ (.inl rfl) e,c⟩
 | ins C dx fs=>
  obtain⟨d,z,ne,e,mA,⟨od,es,ep,e2,c⟩,r⟩:=x;exact⟨ho _ d,z,ne,k _ _ (.inl rfl) e,mA,⟨od,es,ep,k _ _ (.inr d) e2,c⟩,r⟩
 |own y=>obtain⟨ob,e⟩:=x;exact⟨ob,k _ _ (.inl rfl) e⟩
 |xd fs=>obtain⟨mA,⟨od,es,ep,e,c⟩,r⟩:=x;exact⟨mA,⟨od,es,ep,k _ _ (.inl rfl) e,c⟩,r⟩
 |rng lo hi=>obtain⟨t,u,v,e⟩:=x;exact⟨t,u,v,k _ _ (.inl rfl) e⟩
 |frz ob u ih=>obtain⟨e,q⟩:=x;exact⟨k _ _ (.inl rfl) e,ih q⟩
 | tbl ps=>
  have e:h.get? a=some { cls:= .none,data:= .fields ps }:=x;show h'.get? a=some { cls:= .none,data:= .fields ps };exact k a _ (.inl rfl) e
 | met f y=>
  have e:h.get? a=some (PySem.W.methodObj (.ref f) (.ref y)):=x;show h'.get? a=some (PySem.W.methodObj (.ref f) (.ref y));exact k a _ (.inl rfl) e
 |ext φ=>obtain⟨p,⟨o,e⟩,st⟩:=x;exact⟨st _ _ p fun o q=>k _ _ (.inl rfl) q,⟨o,k _ _ (.inl rfl) e⟩,st⟩
theorem HOk.lt(x:HOk P w H h)(e:H a=some o):a<h.objs.size:=(x a o e).lt
theorem HOk.fresh(x:HOk P w H h)(e:h.objs.size<=a):H a=none:=by
 cases q:H a with
 |none=>rfl
 |some u=>exact absurd (Nat.lt_of_lt_of_le (x.lt q) e) (Nat.lt_irrefl _)
theorem HOk.kept(x:HOk P w H h)(k:∀b u,h.get? b=some u->h'.get? b=some u):HOk P w H h':=fun a o e=>
 (x a o e).stay (fun b u _ q=>k b u q) (fun _ q=>q) fun _ _ q=>q
theorem HOk.laid(x:HOk P w H h)(k:∀b u,h.get? b=some u->h'.get? b=some u)(hp:h.objs.size<=a)(new:zd P w (upd H a o) h' a o):HOk P w (upd H a o) h':=fun b u e=>by
 have hn:=x.fresh hp;by_cases hb:b=a
 ·subst hb;rw[jt]at e;cases e;exact new
 ·rw[jp hb]at e
  exact(x b u e).stay (fun c v _ q=>k c v q) (fun c q=>by rw[jp (qG q hn)];exact q) fun c xs q=>by rw[jp (qG q hn)];exact q
end
noncomputable def Rd(H:Hp)(a:Addr)(u:HO):Prop:=H a=some u∨∃o,H a=some (.frz o u)
theorem Rd.of{H:Hp}{a:Addr}{u:HO}(h:H a=some u):Rd H a u:= .inl h
theorem Rd.ok{P:Program}{w:World}{H:Hp}{h:Heap}{a:Addr}{u:HO}(r:Rd H a u)(x:HOk P w H h):zd P w H h a u:=by
 rcases r with r | ⟨o,r⟩
 ·exact x a u r
 ·obtain⟨_,q⟩:=x a _ r
  exact q
noncomputable def Mut:Option HO->Prop
 |some (.lst _)=>True
 |some (.dK _)=>True
 |some (.dT _)=>True
 |some (.set _ _)=>True
 |some (.ins _ _ _)=>True
 |some (.ext _)=>True
 |_=>False
section
variable {P:Program}{w:World}{H:Hp}{h h':Heap}{x e:Addr}{o':HO}
theorem HOk.write(ok:HOk P w H h)(mu:Mut (H x))(he:e=x∨H e=some (.own x))(k:∀b u,b≠e->h.get? b=some u->h'.get? b=some u)(heo:∃u,h'.get? e=some u)
  (new:zd P w (upd H x o') h' x o'):HOk P w (upd H x o') h':=fun b u q=>by
 have nown:∀c y,H c=some (.own y)->c≠x:=fun c y r z=>by subst z;rw[r]at mu;exact mu
 have ntup:∀c xs,H c=some (.tup xs)->c≠x:=fun c xs r z=>by subst z;rw[r]at mu;exact mu
 by_cases hb:b=x
 ·subst hb;rw[jt]at q;cases q;exact new
 ·rw[jp hb]at q
  by_cases hbe:b=e
  ·have q':H b=some (.own x):=by
    rcases he with z | z
    ·exact absurd (hbe.trans z) hb
    ·rw[hbe];exact z
   rw[q]at q';cases q';obtain⟨v,hv⟩:=heo;exact⟨v,by rw[hbe];exact hv⟩
  ·refine(ok b u q).stay (fun c v hc r=>k c v ?_ r) (fun c r=>by rw[jp (nown c b r)];exact r) fun c xs r=>by rw[jp (ntup c xs r)];exact r
   rcases hc with rfl | hc
   ·exact hbe
   ·rintro rfl
    rcases he with z | z
    ·exact nown c b hc z
    ·rw[hc]at z;cases z;exact hb rfl
end
structure Un(fs ex:List Addr)(H H':Hp)(h h':Heap):Prop where
 keep:∀b o,h.get? b=some o->H b=none->b∉fs->b∉ex->h'.get? b=some o
 slot:∀b o,h.get? b=some o->H b=none->b∈fs->b∉ex->∃sl,h'.get? b=some { o with slots:=sl }
 free:∀b o,h.get? b=some o->H b=none->b∉ex->H' b=none
 there:∀b o,h.get? b=some o->b∉ex->∃o',h'.get? b=some o'
 tups:∀b xs,H b=some (.tup xs)->H' b=some (.tup xs)
 frzs:∀b o u,H b=some (.frz o u)->H' b=some (.frz o u)
 tbls:∀b ps,H b=some (.tbl ps)->∃more,H' b=some (.tbl (ps++more))
section
variable {fs fs' ex ex':List Addr}{H H1 H2:Hp}{h h1 h2 h':Heap}{a x e:Addr}{o:HO}
theorem Un.any(u:Un fs ex H H1 h h1){b:Addr}{ob:Obj}(q:h.get? b=some ob)(n:H b=none)(hx:b∉ex):∃sl,h1.get? b=some { ob with slots:=sl }:=by
 by_cases hb:b∈fs
 ·exact u.slot b ob q n hb hx
 ·exact⟨ob.slots,u.keep b ob q n hb hx⟩
theorem Un.trans(a:Un fs ex H H1 h h1)(b:Un fs ex H1 H2 h1 h2):Un fs ex H H2 h h2 where
 keep:=fun c ob q n hc hx=>b.keep c ob (a.keep c ob q n hc hx) (a.free c ob q n hx) hc hx
 slot:=fun c ob q n hc hx=>by
  obtain⟨sl,e1⟩:=a.slot c ob q n hc hx;obtain⟨sl',e2⟩:=b.slot c _ e1 (a.free c ob q n hx) hc hx;exact⟨sl',e2⟩
 free:=fun c ob q n hx=>by
  obtain⟨o',e1⟩:=a.there c ob q hx;exact b.free c o' e1 (a.free c ob q n hx) hx
 there:=fun c ob q hx=>by
  obtain⟨o',e1⟩:=a.there c ob q hx;exact b.there c o' e1 hx
 tups:=fun c xs q=>b.tups c xs (a.tups c xs q)
 frzs:=fun c ob xs q=>b.frzs c ob xs (a.frzs c ob xs q)
 tbls:=fun c ps q=>by
  obtain⟨m1,e1⟩:=a.tbls c ps q;obtain⟨m2,e2⟩:=b.tbls c _ e1;exact⟨m1++m2,by rw[e2,Array.append_assoc]⟩
theorem Un.kept(k:∀b u,h.get? b=some u->h'.get? b=some u):Un fs ex H H h h':=
 ⟨fun b ob q _ _ _=>k b ob q,fun b ob q _ _ _=>⟨ob.slots,k b ob q⟩,fun _ _ _ n _=>n,fun b ob q _=>⟨ob,k b ob q⟩,fun _ _ q=>q,fun _ _ _ q=>q,fun _ ps q=>⟨#[],by rw[q];simp⟩⟩
theorem Un.refl:Un fs ex H H h h:=Un.kept fun _ _ q=>q
theorem Un.laid(k:∀b u,h.get? b=some u->h'.get? b=some u)(hp:h.objs.size<=a)(hn:H a=none):Un fs ex H (upd H a o) h h' where
 keep:=fun b u q _ _ _=>k b u q
 slot:=fun b u q _ _ _=>⟨u.slots,k b u q⟩
 free:=fun b u q n _=>by rw[jp (Nat.ne_of_lt (Nat.lt_of_lt_of_le (Heap.lt_size q) hp))];exact n
 there:=fun b u q _=>⟨u,k b u q⟩
 tups:=fun b xs q=>by rw[jp (qG q hn)];exact q
 frzs:=fun b u xs q=>by rw[jp (qG q hn)];exact q
 tbls:=fun b ps q=>⟨#[],by rw[jp (qG q hn),q];simp⟩
theorem Un.write(mu:Mut (H x))(he:e=x∨H e=some (.own x))(k:∀b u,b≠e->h.get? b=some u->h'.get? b=some u)(heo:∃u,h'.get? e=some u):Un fs ex H (upd H x o) h h':=by
 have hx:∀b,H b=none->b≠x:=fun b n z=>by subst z;rw[n]at mu;exact mu
 have hb:∀b,H b=none->b≠e:=fun b n z=>by
  subst z;rcases he with r | r
  ·exact hx b n r
  ·rw[n]at r;cases r
 have hm:∀b u,H b=some u->¬ Mut (some u)->b≠x:=fun b u q nm z=>by subst z;rw[q]at mu;exact nm mu
 refine⟨fun b u q n _ _=>k b u (hb b n) q,fun b u q n _ _=>⟨u.slots,k b u (hb b n) q⟩,fun b u q n _=>by rw[jp (hx b n)];exact n,fun b u q _=>?_,
  fun b xs q=>by rw [jp (hm b _ q fun z=>z)]; exact q,fun b u xs q=>by rw [jp (hm b _ q fun z=>z)]; exact q,fun b ps q=>⟨#[],by rw [jp (hm b _ q fun z=>z),q]; simp⟩⟩
 by_cases hbe:b=e
 ·subst hbe;exact heo
 ·exact⟨u,k b u hbe q⟩
theorem Un.mono(u:Un fs ex H H1 h h1)(hs:∀b∈fs,b∈fs')(hx:∀b∈ex,b∈ex'):Un fs' ex' H H1 h h1:=
 ⟨fun b ob q n hb he=>u.keep b ob q n (fun z=>hb (hs b z)) fun z=>he (hx b z),fun _ _ q n _ he=>u.any q n fun z=>he (hx _ z),fun b ob q n he=>u.free b ob q n fun z=>he (hx b z),fun b ob q he=>u.there b ob q fun z=>he (hx b z),u.tups,u.frzs,u.tbls⟩
end
noncomputable def trk(h:Heap)(H:Hp):List Addr:=(List.range h.objs.size).filter fun a=>(H a).isSome
noncomputable def ae2(h:Heap)(H:Hp):Heap:=PySem.W.hideAll h (trk h H)
theorem ajG(h:Heap)(H:Hp):(ae2 h H).objs.size=h.objs.size:=PySem.W.hideAll_size _ _
theorem akW{h:Heap}{H:Hp}{b:Addr}{o:Obj}(e:h.get? b=some o)(n:H b=none):(ae2 h H).get? b=some o:=
 PySem.W.hideAll_get _ e fun hm=>by
  have q:(H b).isSome=true:=(List.mem_filter.mp hm).2;rw[n]at q;simp at q
theorem anC{h:Heap}{H:Hp}{b:Addr}{o:Obj}(e:(ae2 h H).get? b=some o):h.get? b=some o/\H b=none:=by
 have e':h.get? b=some o:=PySem.W.of_hideAll (trk h H) e;refine⟨e',?_⟩;cases q:H b with
 |none=>rfl
 | some x=>
  have hm:b∈trk h H:=List.mem_filter.mpr ⟨List.mem_range.mpr (Heap.lt_size e'),by simp[q]⟩;have z:(ae2 h H).get? b=none:=PySem.W.hideAll_none (trk h H) hm;rw[z]at e;cases e
noncomputable def anD(g h:Heap)(L:Addr):List (Addr×Obj):=(List.range h.objs.size).filterMap fun a=>if a=L∨(g.get? a).isSome=true then none else (h.get? a).map fun o=>(a,o)
noncomputable def qh(g h:Heap)(L d:Addr):List (Addr×Obj):=(anD g h L).filter fun p=>decide (p.1≠d)
structure Mod(K:Fg)(mg:SV)(base:Heap):Prop where
 kin:K.In base
 glob:base.Ns mainGlobals mg
 blt:∃mb,base.Ns builtinsNs mb/\∀x:Str,x≠"__name__"->mb x=bootBuiltins x
 nolimit:base.NoLimit
structure Cx where
 prog:Program
 w:World
 K:Fg
 mg:SV
 base:Heap
 A:Around
 N:List Str
 s₀:Shared
 H₀:Hp
 env:Env
 Ko:List Env
 stack:List Env
 ex:List Addr
 fn:Str->Bool
 calm:Bool
 pn:List (Addr×Obj)
 xe:Value->SP0
noncomputable def frs(l:List Env):List Addr:=l.filterMap (·.frame)
noncomputable abbrev Cx.fs(X:Cx):List Addr:=frs X.Ko
noncomputable def Vis(sc:Scope)(x:Str):Prop:=sc.names.lookup x=some .local∨sc.names.lookup x=some .cell∨sc.names.lookup x=some .free
noncomputable def Loc(sc:Scope)(x:Str):Prop:=sc.names.lookup x=some .local∨sc.names.lookup x=some .cell
noncomputable def asr(env:Env)(h:Heap)(m:SV)(x:Str)(u:Value):Prop:=
 (env.kindOf x=some .local/\m x=some u)∨((env.kindOf x=some .cell∨env.kindOf x=some .free)/\∃c,env.cells.lookup x=some c/\h.IsCell c (some u))
structure Cx.Ok(X:Cx):Prop where
 mod:Mod X.K X.mg X.base
 kind:X.env.scope.kind= .function
 glob:X.env.globals=mainGlobals
 blt:X.env.builtins=builtinsNs
 above:X.s₀.heap.objs.size<=X.env.locals
 inj:∀x y c,X.env.cells.lookup x=some c->X.env.cells.lookup y=some c->x=y
 has:∀x,(X.env.kindOf x=some .cell∨X.env.kindOf x=some .free)->∃c,X.env.cells.lookup x=some c
 cab:∀x c,X.fn x=true->X.env.cells.lookup x=some c->X.s₀.heap.objs.size<=c
 hd:X.calm=true->X.A.handled=none
 frames:X.A.frames=some X.stack
 stk:X.stack=X.Ko∨(X.stack=X.env::X.Ko/\X.env.frame=some X.env.locals)
 exf:∀b∈X.ex,b≠X.env.locals/\∀x c,X.env.cells.lookup x=some c->c≠b
 bs:∀b o,X.base.get? b=some o->X.s₀.heap.get? b=some o/\X.H₀ b=none
 bsz:X.base.objs.size<=X.s₀.heap.objs.size
 noex:∀b o,X.base.get? b=some o->b∉X.ex
 exfs:∀b∈X.ex,b∉X.fs
 funs:X.s₀.heap.FunFrames X.base X.Ko
 frf:∀b∈X.fs,X.H₀ b=none
structure Inv(X:Cx)(Kp:List (Addr×Obj))(σ:List (Option V))(H:Hp)(s:Shared):Prop where
 ok:X.Ok
 os:s.os=X.s₀.os
 bare:AllBare s.gens
 base:Un X.fs X.ex X.H₀ H X.s₀.heap s.heap
 loc:∃m,s.heap.Ns X.env.locals m/\∀(i:Nat) (x:Str) (v:V),X.N[i]?=some x->σ[i]?=some (some v)->Vis X.env.scope x->∃u,jS v u/\asr X.env s.heap m x u
 cell:∀x c,X.env.cells.lookup x=some c->∃v,s.heap.IsCell c v
 free:H X.env.locals=none
 freeC:∀x c,X.env.cells.lookup x=some c->H c=none
 pin:∀p∈X.pn++Kp,s.heap.get? p.1=some p.2/\H p.1=none/\p.1≠X.env.locals/\p.1∉X.fs/\∀v,p.2.data ≠ .cell v
 hok:HOk X.prog X.w H s.heap
 len:σ.length=X.N.length
section
variable {X:Cx}{Kp:List (Addr×Obj)}{σ:List (Option V)}{H H':Hp}{s:Shared}{h':Heap}
theorem Cx.Ok.nofr(ok:X.Ok){b:Addr}{o:Obj}(e:X.base.get? b=some o):b∉X.fs:=fun hb=>by
 have:=(ok.funs.mem hb).1;rw[e]at this;cases this
theorem Inv.bs(I:Inv X Kp σ H s):∀b o,X.base.get? b=some o->s.heap.get? b=some o/\H b=none:=fun b o e=>
 ⟨I.base.keep b o (I.ok.bs b o e).1 (I.ok.bs b o e).2 (I.ok.nofr e) (I.ok.noex b o e),I.base.free b o (I.ok.bs b o e).1 (I.ok.bs b o e).2 (I.ok.noex b o e)⟩
theorem Inv.bk(I:Inv X Kp σ H s):∀b o,X.base.get? b=some o->s.heap.get? b=some o:=fun b o e=>(I.bs b o e).1
theorem Inv.mod(I:Inv X Kp σ H s):Mod X.K X.mg X.base:=I.ok.mod
theorem Inv.kIn(I:Inv X Kp σ H s):X.K.In s.heap:=I.ok.mod.kin.keeps I.bk
theorem Inv.nolimit(I:Inv X Kp σ H s):s.heap.NoLimit:=I.ok.mod.nolimit.keeps I.bk
theorem Inv.fr(I:Inv X Kp σ H s):∃m,Fr X.base X.env.locals s.heap m:=
 let ⟨m,hn,_⟩:=I.loc
 ⟨m,hn,I.bk,Nat.le_trans I.ok.bsz I.ok.above⟩
theorem Inv.lt(I:Inv X Kp σ H s):X.env.locals<s.heap.objs.size:=let ⟨_,hn,_⟩:=I.loc;hn.lt
theorem Inv.sz(I:Inv X Kp σ H s):X.s₀.heap.objs.size<=s.heap.objs.size:=Nat.le_trans I.ok.above (Nat.le_of_lt I.lt)
theorem Inv.nofs(I:Inv X Kp σ H s){a:Addr}(h:s.heap.objs.size<=a):a∉X.fs:=fun hb=>by
 obtain⟨_,o,ho,_⟩:=I.ok.funs.mem hb;exact absurd (Nat.lt_of_lt_of_le (Heap.lt_size ho) (Nat.le_trans I.sz h)) (Nat.lt_irrefl _)
theorem Inv.cne(I:Inv X Kp σ H s):∀x c,X.env.cells.lookup x=some c->c≠X.env.locals:=fun x c e z=>by
 obtain⟨v,o,ho,hd⟩:=I.cell x c e;obtain⟨m,⟨o',es,ep,ho',hd',_⟩,_⟩:=I.loc;rw[z,ho']at ho;cases ho;rw[hd']at hd;cases hd
theorem Inv.funs(I:Inv X Kp σ H s):s.heap.FunFrames X.base X.Ko:=by
 have all:∀(l:List Env),(∀b∈frs l,b∈X.fs)->X.s₀.heap.FunFrames X.base l->s.heap.FunFrames X.base l:=by
  intro l
  induction l with
  |nil=>intro _ _;trivial
  | cons env r ih=>
   intro hs hl;obtain⟨hk,⟨L,o,hf,hn,ho,hd⟩,hr⟩:=hl;have hL:L∈X.fs:=hs L (by unfold frs;rw[List.filterMap_cons,hf];exact List.mem_cons_self);obtain⟨sl,e⟩:=I.base.slot L o ho (I.ok.frf L hL) hL fun z=>I.ok.exfs L z hL;exact⟨hk,⟨L,_,hf,hn,e,hd⟩,ih (fun b hb=>hs b (by unfold frs;rw[List.filterMap_cons,hf];exact List.mem_cons_of_mem _ hb)) hr⟩
 exact all X.Ko (fun _ hb=>hb) I.ok.funs
theorem Inv.stack(I:Inv X Kp σ H s):s.heap.FunFrames X.base X.stack:=by
 rcases I.ok.stk with e | ⟨e,hf⟩
 ·rw[e];exact I.funs
 ·rw[e]
  obtain⟨m,hn,_⟩:=I.loc;refine .cons (by rw[I.ok.kind];decide) hf hn ?_ I.funs;exact Heap.get?_none_of_le (Nat.le_trans I.ok.bsz I.ok.above)
theorem Inv.stkSub(I:Inv X Kp σ H s):∀b∈frs X.stack,b∈X.env.locals::X.fs:=fun b hb=>by
 rcases I.ok.stk with e | ⟨e,hf⟩
 ·rw[e]at hb;exact List.mem_cons_of_mem _ hb
 ·rw[e]at hb
  unfold frs at hb;rw[List.filterMap_cons,hf]at hb;exact hb
theorem Inv.stkFree(I:Inv X Kp σ H s):∀b∈frs X.stack,H b=none:=fun b hb=>by
 rcases List.mem_cons.mp (I.stkSub b hb)with e | hb
 ·rw[e];exact I.free
 ·obtain⟨_,o,ho,_⟩:=I.ok.funs.mem hb
  exact I.base.free b o ho (I.ok.frf b hb) fun z=>I.ok.exfs b z hb
theorem Inv.step{g':Array GenState}{t':Nat}{d':Drawn}{ch:List Addr}(I:Inv X Kp σ H s)
  (hch:∀b∈ch,(b∈X.ex∨X.s₀.heap.objs.size<=b)/\b≠X.env.locals/\(∀x c,X.env.cells.lookup x=some c->c≠b)/\∀p∈X.pn++Kp,p.1≠b)
  (keep:∀b o,b≠X.env.locals->b∉X.fs->b∉ch->s.heap.get? b=some o->H b=none->h'.get? b=some o)
  (slot:∀b o,b≠X.env.locals->b∈X.fs->b∉ch->s.heap.get? b=some o->H b=none->∃sl,h'.get? b=some { o with slots:=sl }) (free:∀b o,b∉ch->s.heap.get? b=some o->H b=none->H' b=none)
  (there:∀b o,b∉ch->s.heap.get? b=some o->∃o',h'.get? b=some o')
  (tups:∀b xs,H b=some (.tup xs)->H' b=some (.tup xs)) (frzs:∀b o u,H b=some (.frz o u)->H' b=some (.frz o u)) (tbls:∀b ps,H b=some (.tbl ps)->∃more,H' b=some (.tbl (ps++more)))
  (ns:∀m,s.heap.Ns X.env.locals m->h'.Ns X.env.locals m) (hok:HOk X.prog X.w H' h') (hg:AllBare g'):
  Inv X Kp σ H' { s with heap:=h',gens:=g',drawn:=d',toks:=t' }:=by
 have neL:∀b o,X.s₀.heap.get? b=some o->b≠X.env.locals:=fun b o e=>Nat.ne_of_lt (Nat.lt_of_lt_of_le (Heap.lt_size e) I.ok.above)
 have neC:∀b o,X.s₀.heap.get? b=some o->b∉X.ex->b∉ch:=fun b o e hx hb=>by
  rcases (hch b hb).1 with z | z
  ·exact hx z
  ·exact absurd (Nat.lt_of_lt_of_le (Heap.lt_size e) z) (Nat.lt_irrefl _)
 have cellK:∀x c,X.env.cells.lookup x=some c->∀v,s.heap.IsCell c v->h'.IsCell c v:=fun x c e v ⟨o,ho,hd⟩=>by
  have nch:c∉ch:=fun z=>(hch c z).2.2.1 x c e rfl;by_cases hc:c∈X.fs
  ·obtain⟨sl,q⟩:=slot c o (I.cne x c e) hc nch ho (I.freeC x c e)
   exact⟨_,q,hd⟩
  ·exact⟨o,keep c o (I.cne x c e) hc nch ho (I.freeC x c e),hd⟩
 refine⟨I.ok,I.os,hg,⟨fun b o e n hb hx=>?_,fun b o e n hb hx=>?_,fun b o e n hx=>?_,fun b o e hx=>?_,fun b xs e=>tups b xs (I.base.tups b xs e),fun b o xs e=>frzs b o xs (I.base.frzs b o xs e),fun b ps e=>?_⟩,?_,fun x c e=>?_,?_,fun x c e=>?_,fun p hp=>?_,hok,I.len⟩
 ·exact keep b o (neL b o e) hb (neC b o e hx) (I.base.keep b o e n hb hx) (I.base.free b o e n hx)
 ·obtain⟨sl,e1⟩:=I.base.slot b o e n hb hx
  obtain⟨sl',e2⟩:=slot b _ (neL b o e) hb (neC b o e hx) e1 (I.base.free b o e n hx);exact⟨sl',e2⟩
 ·obtain⟨o',e1⟩:=I.base.there b o e hx
  exact free b o' (neC b o e hx) e1 (I.base.free b o e n hx)
 ·obtain⟨o',e1⟩:=I.base.there b o e hx
  exact there b o' (neC b o e hx) e1
 ·obtain⟨m1,e1⟩:=I.base.tbls b ps e
  obtain⟨m2,e2⟩:=tbls b _ e1;exact⟨m1++m2,by rw[e2,Array.append_assoc]⟩
 ·obtain⟨m,hn,hl⟩:=I.loc
  refine⟨m,ns m hn,fun i x v e1 e2 e3=>?_⟩;obtain⟨u,r,l⟩:=hl i x v e1 e2 e3;refine⟨u,r,?_⟩;rcases l with l | ⟨k,c,e,z⟩
  ·exact .inl l
  ·exact .inr ⟨k,c,e,cellK x c e _ z⟩
 ·obtain⟨v,z⟩:=I.cell x c e
  exact⟨v,cellK x c e v z⟩
 ·obtain⟨m,⟨o,_,_,ho,_⟩,_⟩:=I.loc
  exact free _ o (fun z=>(hch _ z).2.1 rfl) ho I.free
 ·obtain⟨v,o,ho,hd⟩:=I.cell x c e
  exact free c o (fun z=>(hch c z).2.2.1 x c e rfl) ho (I.freeC x c e)
 ·obtain⟨e,n,ne,nf,d⟩:=I.pin p hp
  have nch:p.1∉ch:=fun z=>(hch p.1 z).2.2.2 p hp rfl;exact⟨keep p.1 p.2 ne nf nch e n,free p.1 p.2 nch e n,ne,nf,d⟩
theorem Inv.un{t':Nat}(I:Inv X Kp σ H s)(u:Un X.fs [] H H' s.heap h')(hok:HOk X.prog X.w H' h'):Inv X Kp σ H' { s with heap:=h',toks:=t' }:=by
 obtain⟨m,⟨o,es,ep,ho,r⟩,_⟩:=id I.loc;obtain⟨sl,hL⟩:=u.any ho I.free (by simp)
 exact I.step (g':=s.gens) (d':=s.drawn) (ch:=[]) (fun _ z=>nomatch z) (fun b o _ hb _ e n=>u.keep b o e n hb (by simp)) (fun b o _ hb _ e n=>u.slot b o e n hb (by simp)) (fun b o _ e n=>u.free b o e n (by simp)) (fun b o _ e=>u.there b o e (by simp)) u.tups u.frzs u.tbls (fun m' hm=>by
  obtain ⟨o',es',ep',ho',r'⟩:=hm;rw [ho] at ho'; cases ho';exact ⟨_,es',ep',hL,r'⟩) hok I.bare
theorem Inv.call{g':Array GenState}{t':Nat}{d':Drawn}{ch:List Addr}(I:Inv X Kp σ H s)(u:Un (frs X.stack) ch H H' s.heap h')(hok:HOk X.prog X.w H' h')(hg:AllBare g')
  (hch:∀b∈ch,(b∈X.ex∨X.s₀.heap.objs.size<=b)/\b≠X.env.locals/\(∀x c,X.env.cells.lookup x=some c->c≠b)/\∀p∈X.pn++Kp,p.1≠b):
  Inv X Kp σ H' { s with heap:=h',gens:=g',drawn:=d',toks:=t' }:=by
 obtain⟨m,⟨o,es,ep,ho,r⟩,_⟩:=id I.loc;obtain⟨sl,hL⟩:=u.any ho I.free fun z=>(hch _ z).2.1 rfl
 exact I.step (ch:=ch) hch (fun b o hL hb hc e n=>u.keep b o e n (fun z=>(List.mem_cons.mp (I.stkSub b z)).elim hL hb) hc) (fun b o _ _ hc e n=>u.any e n hc) (fun b o hc e n=>u.free b o e n hc) (fun b o hc e=>u.there b o e hc) u.tups u.frzs u.tbls (fun m' hm=>by
  obtain ⟨o',es',ep',ho',r'⟩:=hm;rw [ho] at ho'; cases ho';exact ⟨_,es',ep',hL,r'⟩) hok hg
theorem Inv.turned{t':Nat}{it:Addr}(I:Inv X Kp σ H s)(k:∀b o,b≠it->s.heap.get? b=some o->h'.get? b=some o)(hn:H it=none)(hL:it≠X.env.locals)
  (h1:it∈X.ex∨X.s₀.heap.objs.size<=it) (h2:∀x c,X.env.cells.lookup x=some c->c≠it) (h3:∀p∈X.pn++Kp,p.1≠it):Inv X Kp σ H { s with heap:=h',toks:=t' }:=by
 have nit:∀b u,H b=some u->b≠it:=fun b u e z=>by rw[z,hn]at e;cases e
 refine I.step (g':=s.gens) (d':=s.drawn) (ch:=[it]) (fun b hb=>?_) (fun b o _ _ hc e _=>k b o (fun z=>hc (by simp[z])) e) (fun b o _ _ hc e _=>⟨o.slots,k b o (fun z=>hc (by simp[z])) e⟩) (fun _ _ _ _ n=>n)
  (fun b o hc e=>⟨o,k b o (fun z=>hc (by simp[z])) e⟩) (fun _ _ e=>e) (fun _ _ _ e=>e) (fun b ps e=>⟨#[],by rw[e];simp⟩) (fun m hm=>?_) (fun b u e=>?_) I.bare
 ·have e:b=it:=by simpa using hb
  subst e;exact⟨h1,hL,h2,h3⟩
 ·obtain⟨o,es,ep,ho,r⟩:=hm
  exact⟨o,es,ep,k _ o (Ne.symm hL) ho,r⟩
 ·refine(I.hok b u e).stay (fun c v hc q=>k c v ?_ q) (fun _ q=>q) fun _ _ q=>q
  rcases hc with z | z
  ·rw[z];exact nit b u e
  ·exact nit c _ z
theorem Inv.tok(I:Inv X Kp σ H s)(t:Nat):Inv X Kp σ H { s with toks:=t }:=I.un (h':=s.heap) (t':=t) Un.refl I.hok
theorem Inv.kept{t':Nat}(I:Inv X Kp σ H s)(k:∀b u,s.heap.get? b=some u->h'.get? b=some u):Inv X Kp σ H { s with heap:=h',toks:=t' }:=I.un (Un.kept k) (I.hok.kept k)
theorem Inv.laid{a:Addr}{o:HO}{t':Nat}(I:Inv X Kp σ H s)(k:∀b u,s.heap.get? b=some u->h'.get? b=some u)(hp:s.heap.objs.size<=a)(new:zd X.prog X.w (upd H a o) h' a o):
  Inv X Kp σ (upd H a o) { s with heap:=h',toks:=t' }:=I.un (Un.laid k hp (I.hok.fresh hp)) (I.hok.laid k hp new)
theorem Inv.write{x e:Addr}{o:HO}{t':Nat}(I:Inv X Kp σ H s)(mu:Mut (H x))(he:e=x∨H e=some (.own x))(k:∀b u,b≠e->s.heap.get? b=some u->h'.get? b=some u)(heo:∃u,h'.get? e=some u)
  (new:zd X.prog X.w (upd H x o) h' x o):Inv X Kp σ (upd H x o) { s with heap:=h',toks:=t' }:=I.un (Un.write mu he k heo) (I.hok.write mu he k heo new)
theorem Inv.pins_of{pins':List (Addr×Obj)}(I:Inv X Kp σ H s)(h:∀p∈pins',s.heap.get? p.1=some p.2/\H p.1=none/\p.1≠X.env.locals/\p.1∉X.fs/\∀v,p.2.data ≠ .cell v):Inv X pins' σ H s:=
 ⟨I.ok,I.os,I.bare,I.base,I.loc,I.cell,I.free,I.freeC,fun p hp=>(List.mem_append.mp hp).elim (fun z=>I.pin p (List.mem_append_left _ z)) (h p),I.hok,I.len⟩
theorem agd{N:List Str}(hN:N.Nodup){i j:Nat}{x:Str}(a:N[i]?=some x)(b:N[j]?=some x):i=j:=by
 obtain⟨h1,e1⟩:=List.getElem?_eq_some_iff.mp a;obtain⟨h2,e2⟩:=List.getElem?_eq_some_iff.mp b;exact(List.getElem_inj hN).mp (e1.trans e2.symm)
theorem aej{M:Model}{A:Around}{E:Value->SP0}{i:Nat}{x:Str}{v:V}{u:Value}{Q:Unit->SP0}(I:Inv X Kp σ H s)(hN:X.N.Nodup)(hi:X.N[i]?=some x)(hx:Loc X.env.scope x)(r:jS v u)
  (h:∀s',Inv X Kp (σ.set i (some v)) H s'->(∃a,Heap.SameBut a s.heap s'.heap/\(a=X.env.locals∨X.env.cells.lookup x=some a))->Q () s') (hf:X.fn x=true∨X.env.scope.names.lookup x=some .local:=by first|exact .inl rfl|exact .inr rfl|assumption):wpAny M A (storeName X.env x u) Q E s:=by
 obtain⟨m,hn,hl⟩:=id I.loc;have hcls:(X.env.scope.kind == .class||(X.env.scope.kind == .module&&X.env.locals != X.env.globals))=false:=by rw[I.ok.kind];rfl
 have hiσ:i < σ.length:=by rw[I.len];exact(List.getElem?_eq_some_iff.mp hi).1
 have cne:=I.cne
 have tracked:∀{a:Addr} {h':Heap},(∃o,s.heap.get? a=some o/\H a=none)->Heap.SameBut a s.heap h'->HOk X.prog X.w H h':=fun {a h'} ha hs b ob e=>by
  obtain⟨_,_,hfree⟩:=ha;refine(I.hok b ob e).stay (fun c w' hc q=>(hs.2 c ?_).trans q) (fun _ q=>q) fun _ _ q=>q
  rintro rfl
  rcases hc with rfl | hc
  ·rw[hfree]at e;cases e
  ·rw[hfree]at hc;cases hc
 rcases hx with hk | hk
 ·refine wpAny_storeName_local hk hn (fun h' hn' hs=>?_) hcls
  obtain⟨oL,_,_,hoL,_⟩:=id hn;refine h _ ⟨I.ok,I.os,I.bare,⟨fun b o e n hb hx=>?_,fun b o e n hb hx=>?_,I.base.free,fun b o e hx=>?_,I.base.tups,I.base.frzs,I.base.tbls⟩,⟨_,hn',fun j y v' e1 e2 e3=>?_⟩,fun y c e=>?_,I.free,I.freeC,fun p hp=>?_,tracked ⟨oL,hoL,I.free⟩ hs,by simpa using I.len⟩ ⟨_,hs,.inl rfl⟩
  ·exact(hs.2 b (Nat.ne_of_lt (Nat.lt_of_lt_of_le (Heap.lt_size e) I.ok.above))).trans (I.base.keep b o e n hb hx)
  ·obtain⟨sl,e1⟩:=I.base.slot b o e n hb hx
   exact⟨sl,(hs.2 b (Nat.ne_of_lt (Nat.lt_of_lt_of_le (Heap.lt_size e) I.ok.above))).trans e1⟩
  ·obtain⟨o',e1⟩:=I.base.there b o e hx
   exact⟨o',(hs.2 b (Nat.ne_of_lt (Nat.lt_of_lt_of_le (Heap.lt_size e) I.ok.above))).trans e1⟩
  ·by_cases hj:j=i
   ·subst hj
    rw[hi]at e1;cases e1;rw[List.getElem?_set_self hiσ]at e2;cases e2;exact⟨u,r,.inl ⟨hk,by simp⟩⟩
   ·rw[List.getElem?_set_ne (Ne.symm hj)]at e2
    obtain⟨u',r',q⟩:=hl j y v' e1 e2 e3;refine⟨u',r',?_⟩;rcases q with ⟨k,e⟩ | ⟨k,c,e,z⟩
    ·refine .inl ⟨k,?_⟩
     have:y≠x:=fun e=>hj (agd hN e1 (e▸hi));simp[this,e]
    ·exact .inr ⟨k,c,e,z.sameBut hs (cne y c e)⟩
  ·obtain⟨w',z⟩:=I.cell y c e
   exact⟨w',z.sameBut hs (cne y c e)⟩
  ·obtain⟨e,n,ne,nf,d⟩:=I.pin p hp
   exact⟨(hs.2 p.1 ne).trans e,n,ne,nf,d⟩
 ·have hfn:X.fn x=true:=by
   rcases hf with z | z
   ·exact z
   ·rw[z]at hk;cases hk
  obtain⟨c,hc⟩:=I.ok.has x (.inl hk);obtain⟨w',z⟩:=I.cell x c hc;refine wpAny_storeName_cell I.ok.kind hk hc z (fun h' hc' hs=>?_);obtain⟨oc,hoc,hocd⟩:=id z;refine h { s with heap:=h' } ⟨I.ok,I.os,I.bare,⟨fun b o e n hb hx=>?_,fun b o e n hb hx=>?_,I.base.free,fun b o e hx=>?_,I.base.tups,I.base.frzs,I.base.tbls⟩,⟨m,hn.sameBut hs (Ne.symm (cne x c hc)),fun j y v' e1 e2 e3=>?_⟩,fun y c' e=>?_,I.free,I.freeC,fun p hp=>?_,tracked ⟨oc,hoc,I.freeC x c hc⟩ hs,by simpa using I.len⟩ ⟨c,hs,.inr hc⟩
  ·exact(hs.2 b (Nat.ne_of_lt (Nat.lt_of_lt_of_le (Heap.lt_size e) (I.ok.cab x c hfn hc)))).trans (I.base.keep b o e n hb hx)
  ·obtain⟨sl,e1⟩:=I.base.slot b o e n hb hx
   exact⟨sl,(hs.2 b (Nat.ne_of_lt (Nat.lt_of_lt_of_le (Heap.lt_size e) (I.ok.cab x c hfn hc)))).trans e1⟩
  ·obtain⟨o',e1⟩:=I.base.there b o e hx
   exact⟨o',(hs.2 b (Nat.ne_of_lt (Nat.lt_of_lt_of_le (Heap.lt_size e) (I.ok.cab x c hfn hc)))).trans e1⟩
  ·by_cases hj:j=i
   ·subst hj
    rw[hi]at e1;cases e1;rw[List.getElem?_set_self hiσ]at e2;cases e2;exact⟨u,r,.inr ⟨.inl hk,c,hc,hc'⟩⟩
   ·rw[List.getElem?_set_ne (Ne.symm hj)]at e2
    obtain⟨u',r',q⟩:=hl j y v' e1 e2 e3;refine⟨u',r',?_⟩;rcases q with q | ⟨k,c',e,z'⟩
    ·exact .inl q
    ·refine .inr ⟨k,c',e,z'.sameBut hs ?_⟩
     rintro rfl
     exact hj (agd hN e1 (I.ok.inj _ _ _ e hc▸hi))
  ·by_cases hcc:c'=c
   ·subst hcc;exact⟨_,hc'⟩
   ·obtain⟨w2,z2⟩:=I.cell y c' e
    exact⟨w2,z2.sameBut hs hcc⟩
  ·obtain⟨e,n,ne,nf,d⟩:=I.pin p hp
   refine⟨(hs.2 p.1 ?_).trans e,n,ne,nf,d⟩;intro q;rw[q,hoc]at e;have q':oc=p.2:=Option.some.inj e;exact d w' (by rw[←q'];exact hocd)
theorem ac2{M:Model}{A:Around}{E:Value->SP0}{i:Nat}{x:Str}{v:V}{u:Value}{Q:Unit->SP0}(I:Inv X Kp σ H s)(hN:X.N.Nodup)(hi:X.N[i]?=some x)(hx:Loc X.env.scope x)(r:jS v u)
  (h:∀s',Inv X Kp (σ.set i (some v)) H s'->Q () s') (hf:X.fn x=true∨X.env.scope.names.lookup x=some .local:=by first|exact .inl rfl|exact .inr rfl|assumption):wpAny M A (storeName X.env x u) Q E s:=
 aej I hN hi hx r (fun s' I' _=>h s' I') hf
theorem Inv.call'{s':Shared}{ch:List Addr}(I:Inv X Kp σ H s)(ho:s'.os=s.os)(u:Un (frs X.stack) ch H H' s.heap s'.heap)(hok:HOk X.prog X.w H' s'.heap)(hg:AllBare s'.gens)
  (hch:∀b∈ch,(b∈X.ex∨X.s₀.heap.objs.size<=b)/\b≠X.env.locals/\(∀x c,X.env.cells.lookup x=some c->c≠b)/\∀p∈X.pn++Kp,p.1≠b):Inv X Kp σ H' s':=by
 obtain⟨h',g',d',t',o'⟩:=s';have e:o'=s.os:=ho;subst e;exact I.call (g':=g') (t':=t') (d':=d') u hok hg hch
end
noncomputable abbrev XK:=Value->Option Addr->Hp->Prop
noncomputable abbrev St:=List (Option V)
noncomputable abbrev VK:=V->Hp->Prop
noncomputable abbrev TE:=St->Hp->VK->Prop
noncomputable abbrev TT:=St->Hp->(Bool->Hp->Prop)->Prop
noncomputable abbrev TA:=St->Hp->(List V->Hp->Prop)->Prop
structure Ends where
 nx:St->Hp->Prop
 rt:VK
 bk:St->Hp->Prop:=fun _ _=>False
 ct:St->Hp->Prop:=fun _ _=>False
noncomputable abbrev TS:=Ends->St->Hp->Prop
noncomputable def EP(X:Cx)(Kp:List (Addr×Obj))(σ:St)(Q:VK)(u:Value)(s':Shared):Prop:=∃v H',Inv X Kp σ H' s'/\jS v u/\Q v H'
noncomputable def TP(X:Cx)(Kp:List (Addr×Obj))(σ:St)(Q:Bool->Hp->Prop)(b:Bool)(s':Shared):Prop:=∃H',Inv X Kp σ H' s'/\Q b H'
noncomputable def AP(X:Cx)(Kp:List (Addr×Obj))(σ:St)(Q:List V->Hp->Prop)(us:List Value)(s':Shared):Prop:=∃vs H',Inv X Kp σ H' s'/\jM vs us/\Q vs H'
noncomputable def SP(X:Cx)(Kp:List (Addr×Obj))(D:Ends)(f:Flow)(s':Shared):Prop:=
 match f with
 |.next=>∃σ' H',Inv X Kp σ' H' s'/\D.nx σ' H'
 |.brk=>∃σ' H',Inv X Kp σ' H' s'/\D.bk σ' H'
 |.cont=>∃σ' H',Inv X Kp σ' H' s'/\D.ct σ' H'
 |.ret u=>∃v σ' H',Inv X Kp σ' H' s'/\jS v u/\D.rt v H'
noncomputable def PE(X:Cx)(e:Expr)(t:TE):Prop:=
 ∀(Kp:List (Addr×Obj)) (s:Shared) (σ:St) (H:Hp) (Q:VK),Inv X Kp σ H s->t σ H Q->wpAny (model X.prog X.w) X.A (eval e X.env) (EP X Kp σ Q) X.xe s
noncomputable def PT(X:Cx)(e:Expr)(t:TT):Prop:=
 ∀(Kp:List (Addr×Obj)) (s:Shared) (σ:St) (H:Hp) (Q:Bool->Hp->Prop),Inv X Kp σ H s->t σ H Q->wpAny (model X.prog X.w) X.A (isTrue e X.env (eval e X.env)) (TP X Kp σ Q) X.xe s
noncomputable def PW(X:Cx)(e:Expr)(t:TT):Prop:=
 ∀(whole:Sem Value) (Kp:List (Addr×Obj)) (s:Shared) (σ:St) (H:Hp) (Q:Bool->Hp->Prop),Inv X Kp σ H s->t σ H Q->wpAny (model X.prog X.w) X.A (isTrue e X.env whole) (TP X Kp σ Q) X.xe s
theorem PW.pt{X:Cx}{e:Expr}{t:TT}(h:PW X e t):PT X e t:=h _
noncomputable def PA(X:Cx)(es:List Expr)(t:TA):Prop:=
 ∀(pos:Pos) (Kp:List (Addr×Obj)) (s:Shared) (σ:St) (H:Hp) (Q:List V->Hp->Prop),Inv X Kp σ H s->t σ H Q->wpAny (model X.prog X.w) X.A (spliced (backTo pos (starEach es X.env))) (AP X Kp σ Q) X.xe s
noncomputable def PS(X:Cx)(st:Stmt)(t:TS):Prop:=
 ∀(Kp:List (Addr×Obj)) (s:Shared) (σ:St) (H:Hp) (D:Ends),Inv X Kp σ H s->t D σ H->wpAny (model X.prog X.w) X.A (exec st X.env) (SP X Kp D) X.xe s
noncomputable def PSs(X:Cx)(st:List Stmt)(t:TS):Prop:=
 ∀(Kp:List (Addr×Obj)) (s:Shared) (σ:St) (H:Hp) (D:Ends),Inv X Kp σ H s->t D σ H->wpAny (model X.prog X.w) X.A (execs st X.env) (SP X Kp D) X.xe s
theorem thn{α:Type}{t:Sem α}{Q Q':α->SP0}{M:Model}{A:Around}{E:Value->SP0}{s:Shared}(h:wpAny M A t Q E s)(hQ:∀a s,Q a s->Q' a s):wpAny M A t Q' E s:=wpAny_mono h hQ fun _ _ x=>x
section
variable {X:Cx}
noncomputable def arl(i:Nat):TE:=fun σ H Q=>∃v,σ[i]?=some (some v)/\Q v H
noncomputable def tC(v:V):TE:=fun _ H Q=>Q v H
theorem ae3{i:Nat}{x:Str}{pos:Pos}(hN:X.N[i]?=some x)(hv:Vis X.env.scope x)(hd:(x==("__debug__":Str))=false:=by decide)(hcd:(x==("__classdict__":Str))=false:=by decide):PE X (.Name x pos) (arl i):=by
 intro Kp s σ H Q I h;obtain⟨v,e,h⟩:=h;obtain⟨m,hn,hl⟩:=I.loc;obtain⟨u,r,l⟩:=hl i x v hN e hv;have fin:EP X Kp σ Q u s:=⟨v,H,I,r,h⟩;rcases l with ⟨hk,hm⟩ | ⟨hk,c,hc,hcell⟩
 ·exact wpAny_Name (wpAny_loadName_local I.ok.kind hk hn hm fin) hd
 ·rcases hk with hk | hk
  ·exact wpAny_Name (wpAny_loadName_cell I.ok.kind hk hc hcell fin) hd
  ·exact wpAny_Name (wpAny_loadName_free I.ok.kind hk hc hcell fin hcd) hd
theorem ahR{i j pos}:PE X (.Constant (.int i) j pos) (tC (.int i)):=fun _ _ _ H _ I h=>wpAny_Constant_int ⟨.int i,H,I.tok _,⟨_,rfl⟩,h⟩
theorem arm{b j pos}:PE X (.Constant (.bool b) j pos) (tC (.bl b)):=fun _ _ _ H _ I h=>Constant_bool ⟨.bl b,H,I,rfl,h⟩
theorem akX{j pos}:PE X (.Constant .none j pos) (tC .non):=fun _ _ _ H _ I h=>Constant_none ⟨.non,H,I,rfl,h⟩
theorem akY{x j pos}:PE X (.Constant (.str x) j pos) (tC (.str x)):=fun _ _ _ H _ I h=>Calls.Constant_str ⟨.str x,H,I.tok _,⟨_,rfl⟩,h⟩
noncomputable def Gl(X:Cx)(x:Str):Prop:=X.env.kindOf x=some .globalImplicit
theorem aaU{E:Value->SP0}{Kp:List (Addr×Obj)}{s:Shared}{σ:St}{H:Hp}{x:Str}{u:Value}{pos:Pos}{Q:Value->SP0}(I:Inv X Kp σ H s)(hg:Gl X x)(hm:X.mg x=some u)(h:Q u s)
  (hd:(x==("__debug__":Str))=false:=by decide):wpAny (model X.prog X.w) X.A (eval (.Name x pos) X.env) Q E s:=
 Calls.Name_function_global I.ok.kind hg (Calls.loadGlobal_global (by rw[I.ok.glob];exact I.mod.glob.keeps I.bk) hm h) hd
theorem Zz{E:Value->SP0}{Kp:List (Addr×Obj)}{s:Shared}{σ:St}{H:Hp}{x:Str}{u:Value}{pos:Pos}{Q:Value->SP0}(I:Inv X Kp σ H s)(hg:Gl X x)(hm:X.mg x=none)(hv:bootBuiltins x=some u)(h:Q u s)
  (hn:x≠"__name__":=by decide) (hd:(x==("__debug__":Str))=false:=by decide):wpAny (model X.prog X.w) X.A (eval (.Name x pos) X.env) Q E s:=by
 obtain⟨mb,h1,h2⟩:=I.mod.blt;exact Calls.Name_function_global I.ok.kind hg (Calls.loadGlobal_builtin (by rw[I.ok.glob];exact I.mod.glob.keeps I.bk) hm (by rw[I.ok.blt];exact h1.keeps I.bk) ((h2 x hn).trans hv) h) hd
theorem ae4{x:Str}{v:V}{u:Value}{pos:Pos}(hg:Gl X x)(hm:X.mg x=some u)(r:jS v u)(hd:(x==("__debug__":Str))=false:=by decide):PE X (.Name x pos) (tC v):=
 fun _ _ _ H _ I h=>aaU I hg hm ⟨v,H,I,r,h⟩ hd
theorem aiC{x:Str}{v:V}{u:Value}{pos:Pos}(hg:Gl X x)(hm:X.mg x=none)(hv:bootBuiltins x=some u)(r:jS v u)(hn:x≠"__name__":=by decide)(hd:(x==("__debug__":Str))=false:=by decide):PE X (.Name x pos) (tC v):=
 fun _ _ _ H _ I h=>Zz I hg hm hv ⟨v,H,I,r,h⟩ hn hd
variable {a b:Expr}{ta tb:TE}{pos:Pos}
noncomputable def PC(X:Cx)(op:CmpOp)(a b:Expr)(t:TE):Prop:=
 ∀(Kp:List (Addr×Obj)) (s:Shared) (σ:St) (H:Hp) (Q:VK),Inv X Kp σ H s->t σ H Q->
  wpAny (model X.prog X.w) X.A (eval a X.env) (fun v s₁=>wpAny (model X.prog X.w) X.A (eval b X.env) (fun u s₂=>wpAny (model X.prog X.w) X.A (compareOp op v u) (EP X Kp σ Q) X.xe s₂) X.xe s₁) X.xe s
theorem akZ(b:Expr){op:CmpOp}(h:op ≠ .In)(h2:op ≠ .NotIn):behindInMarks op b=false:=by
 have e1:(op==CmpOp.In)=false:=by cases op<;>first|rfl|exact absurd rfl h
 have e2:(op==CmpOp.NotIn)=false:=by cases op<;>first|rfl|exact absurd rfl h2
 cases b<;>simp[behindInMarks,e1,e2]
noncomputable def tB(t:TE):TT:=fun σ H Q=>t σ H fun x H1=>∃c,x= .bl c/\Q c H1
theorem apX{op:CmpOp}{t:TE}(h:PC X op a b t)(h1:behindInMarks op b=false:=by first|exact akZ _ (by decide) (by decide)|rfl):PT X (.Compare a [op] [b] pos) (tB t):=by
 intro Kp s σ H Q I hw;refine wpAny_isTrue_Compare1 (thn (h Kp s σ H _ I hw) fun v s1 h1=>thn h1 fun u s2 h2=>thn h2 fun c s3 ⟨x,H1,I1,r1,q1⟩=>?_) h1;obtain⟨d,rfl,q⟩:=q1;cases r1;exact wpAny_truthy_bool ⟨H1,I1,q⟩
theorem apY{e:Expr}{t:TE}(h:PE X e t)(he:∀whole,isTrue e X.env whole=(do let v ←whole;standAt e.pos;holding [v] (truthy v)):=by intro _;rfl):PT X e (tB t):=by
 intro Kp s σ H Q I hw;refine isTrue_plain (thn (h Kp s σ H _ I hw) fun v s1 ⟨x,H1,I1,r1,q1⟩=>?_) (he _);obtain⟨d,rfl,q⟩:=q1;cases r1;exact wpAny_truthy_bool ⟨H1,I1,q⟩
variable {tA tB':TT}{qh:List Expr}
noncomputable def ass(t u:TT):TT:=fun σ H Q=>t σ H fun c H1=>if c=true then u σ H1 Q else Q false H1
noncomputable def tOr(t u:TT):TT:=fun σ H Q=>t σ H fun c H1=>if c=true then Q true H1 else u σ H1 Q
noncomputable def ast(t:TT):TT:=fun σ H Q=>t σ H fun c H1=>Q (!c) H1
theorem anE(ha:PT X a tA):PW X (.BoolOp .And [a] pos) tA:=by
 intro wh Kp s σ H Q I h;refine isTrue_and (thn (ha Kp s σ H Q I h) fun c s1 e=>?_);cases c with
 |true=>exact isTrue_and_nil e
 |false=>exact e
theorem apZ(ha:PT X a tA):PW X (.BoolOp .Or [a] pos) tA:=by
 intro wh Kp s σ H Q I h;refine isTrue_or (thn (ha Kp s σ H Q I h) fun c s1 e=>?_);cases c with
 |false=>exact isTrue_or_nil e
 |true=>exact e
theorem ap0(ha:PT X a tA)(hb:PW X (.BoolOp .And (b::qh) pos) tB'):PW X (.BoolOp .And (a::b::qh) pos) (ass tA tB'):=by
 intro wh Kp s σ H Q I h;refine isTrue_and (thn (ha Kp s σ H _ I h) fun c s1 ⟨H1,I1,q1⟩=>?_);cases c with
 |true=>exact hb wh Kp s1 σ H1 Q I1 q1
 |false=>exact⟨H1,I1,q1⟩
theorem arn(ha:PT X a tA)(hb:PW X (.BoolOp .Or (b::qh) pos) tB'):PW X (.BoolOp .Or (a::b::qh) pos) (tOr tA tB'):=by
 intro wh Kp s σ H Q I h;refine isTrue_or (thn (ha Kp s σ H _ I h) fun c s1 ⟨H1,I1,q1⟩=>?_);cases c with
 |true=>exact⟨H1,I1,q1⟩
 |false=>exact hb wh Kp s1 σ H1 Q I1 q1
theorem ap1(ha:PT X a tA):PT X (.UnaryOp .Not a pos) (ast tA):=by
 intro Kp s σ H Q I h;exact isTrue_not (ha Kp s σ H (fun c H1=>Q (!c) H1) I h)
noncomputable def aro(ta tb:TE):TE:=fun σ H Q=>ta σ H fun x H1=>∃c,x= .bl c/\if c=true then tb σ H1 Q else Q (.bl false) H1
theorem ap2{op}{t:TE}(h:PE X a t):PE X (.BoolOp op [a] pos) t:=fun Kp s σ H Q I hw=>BoolOp_one (h Kp s σ H Q I hw)
theorem ap3(ha:PE X a ta)(hb:PE X (.BoolOp .And (b::qh) pos) tb):PE X (.BoolOp .And (a::b::qh) pos) (aro ta tb):=by
 intro Kp s σ H Q I h;refine BoolOp_and (thn (ha Kp s σ H _ I h) fun v s1 ⟨x,H1,I1,r1,q1⟩=>?_);obtain⟨c,rfl,q1⟩:=q1;cases r1;refine wpAny_truthy_bool ?_;cases c with
 |true=>exact hb Kp s1 σ H1 Q I1 q1
 |false=>exact⟨.bl false,H1,I1,rfl,q1⟩
noncomputable def tIf(t:TT)(ta tb:TE):TE:=fun σ H Q=>t σ H fun c H1=>if c=true then ta σ H1 Q else tb σ H1 Q
theorem ak0{c:Expr}(hc:PT X c tA)(ha:PE X a ta)(hb:PE X b tb):PE X (.IfExp c a b pos) (tIf tA ta tb):=by
 intro Kp s σ H Q I h;refine wpAny_IfExp (thn (hc Kp s σ H _ I h) fun d s1 ⟨H1,I1,q1⟩=>?_);cases d with
 |true=>exact ha Kp s1 σ H1 Q I1 q1
 |false=>exact hb Kp s1 σ H1 Q I1 q1
end
noncomputable def SqL(K:Fg)(H:Hp)(a:Addr)(xs:List V):Prop:=
 Rd H a (.lst xs) ∨
  ∃(o:Obj) (its:Array Value) (n:Nat),K.lookup a=some o/\o.cls= .type "list"/\o.dict=none/\o.data= .seq its n/\its.size<=sizeLine/\jM xs its.toList
noncomputable def SqT(K:Fg)(H:Hp)(a:Addr)(xs:List V):Prop:=
 Rd H a (.tup xs) ∨
  ∃(o:Obj) (its:Array Value) (n:Nat),K.lookup a=some o/\o.cls= .type "tuple"/\o.data= .seq its n/\its.size<=sizeLine/\jM xs its.toList
noncomputable def asu:Value->Option V
 |.none=>some .non
 |.bool b=>some (.bl b)
 |.int i _=>some (.int i)
 |.str x _=>some (.str x)
 |.bytes b _=>some (.byt b)
 |.float b _=>some (.flt b)
 |.ref a=>some (.ref a)
 |.type n=>some (.ty n)
 |_=>none
theorem jS.abs{x:V}{u:Value}(r:jS x u):asu u=some x:=by
 cases x with
 |non=>cases r;rfl
 |bl _=>cases r;rfl
 |int _=>obtain⟨t,rfl⟩:=r;rfl
 |str _=>obtain⟨t,rfl⟩:=r;rfl
 |byt _=>obtain⟨t,rfl⟩:=r;rfl
 |flt _=>obtain⟨t,rfl⟩:=r;rfl
 |ref _=>cases r;rfl
 |ty _=>cases r;rfl
theorem jS.inj{x y:V}{u:Value}(r:jS x u)(q:jS y u):x=y:=Option.some.inj (r.abs.symm.trans q.abs)
theorem jM.inj:∀{xs ys:List V}{us:List Value},jM xs us->jM ys us->xs=ys
 |_,_,_,.nil,.nil=>rfl
 |_,_,_,.cons r t,.cons r' t'=>by rw[r.inj r',jM.inj t t']
section
variable {X:Cx}{Kp:List (Addr×Obj)}{σ:St}{H:Hp}{s:Shared}{a:Addr}{xs ys:List V}
theorem SqL.of{K:Fg}(h:H a=some (.lst xs)):SqL K H a xs:= .inl (.inl h)
theorem SqT.of{K:Fg}(h:H a=some (.tup xs)):SqT K H a xs:= .inl (.inl h)
theorem Inv.list(I:Inv X Kp σ H s)(h:SqL X.K H a xs):∃its:List Value,jM xs its/\PlainL s.heap a its.toArray/\xs.length<=sizeLine:=by
 rcases h with h | ⟨o,its,n,hk,hc,hd,hs,hz,r⟩
 ·obtain⟨z,its,n,r,e⟩:=h.ok I.hok
  exact⟨its,r,⟨_,n,e,rfl,rfl,rfl⟩,z⟩
 ·refine⟨its.toList,r,⟨o,n,I.kIn a o hk,hc,hd,by simpa using hs⟩,?_⟩
  have e:=r.length;simp only[Array.length_toList]at e;omega
theorem Inv.tuple(I:Inv X Kp σ H s)(h:SqT X.K H a xs):∃its:List Value,jM xs its/\IsTup s.heap a its.toArray/\xs.length<=sizeLine:=by
 rcases h with h | ⟨o,its,n,hk,hc,hs,hz,r⟩
 ·obtain⟨z,its,r,p⟩:=h.ok I.hok
  exact⟨its,r,p,z⟩
 ·refine⟨its.toList,r,⟨o,I.kIn a o hk,hc,n,by simpa using hs⟩,?_⟩
  have e:=r.length;simp only[Array.length_toList]at e;omega
theorem Inv.list_inj(I:Inv X Kp σ H s)(h:SqL X.K H a xs)(h':SqL X.K H a ys):xs=ys:=by
 obtain⟨its,r,⟨o,n,e,_,_,d⟩,_⟩:=I.list h;obtain⟨its',r',⟨o',n',e',_,_,d'⟩,_⟩:=I.list h';rw[e]at e';cases e';rw[d]at d';injection d' with d1 _
 have:its=its':=by simpa using congrArg Array.toList d1
 subst this;exact r.inj r'
theorem Inv.tuple_inj(I:Inv X Kp σ H s)(h:SqT X.K H a xs)(h':SqT X.K H a ys):xs=ys:=by
 obtain⟨its,r,⟨o,e,_,n,d⟩,_⟩:=I.tuple h;obtain⟨its',r',⟨o',e',_,n',d'⟩,_⟩:=I.tuple h';rw[e]at e';cases e';rw[d]at d';injection d' with d1 _
 have:its=its':=by simpa using congrArg Array.toList d1
 subst this;exact r.inj r'
end
noncomputable abbrev Cx.wish(X:Cx)(E:Value->SP0):Cx:={ X with xe:=E }
noncomputable abbrev Cx.nox(X:Cx):Cx:=X.wish fun _ _=>False
theorem Cx.Ok.wish{X:Cx}(ok:X.Ok)(E:Value->SP0):(X.wish E).Ok:=
 ⟨ok.mod,ok.kind,ok.glob,ok.blt,ok.above,ok.inj,ok.has,ok.cab,ok.hd,ok.frames,ok.stk,ok.exf,ok.bs,ok.bsz,ok.noex,ok.exfs,ok.funs,ok.frf⟩
theorem Cx.Ok.unwish{X:Cx}{E:Value->SP0}(ok:(X.wish E).Ok):X.Ok:=
 ⟨ok.mod,ok.kind,ok.glob,ok.blt,ok.above,ok.inj,ok.has,ok.cab,ok.hd,ok.frames,ok.stk,ok.exf,ok.bs,ok.bsz,ok.noex,ok.exfs,ok.funs,ok.frf⟩
section
variable {X:Cx}{Kp:List (Addr×Obj)}{σ:St}{H:Hp}{s:Shared}{E:Value->SP0}
theorem Inv.wish(I:Inv X Kp σ H s)(E:Value->SP0):Inv (X.wish E) Kp σ H s:=⟨I.ok.wish E,I.os,I.bare,I.base,I.loc,I.cell,I.free,I.freeC,I.pin,I.hok,I.len⟩
theorem Inv.unwish(I:Inv (X.wish E) Kp σ H s):Inv X Kp σ H s:=⟨I.ok.unwish,I.os,I.bare,I.base,I.loc,I.cell,I.free,I.freeC,I.pin,I.hok,I.len⟩
theorem SP.unwish{D:Ends}{f:Flow}{s':Shared}(h:SP (X.wish E) Kp D f s'):SP X Kp D f s':=by
 cases f with
 |next=>obtain⟨σ',H',I,q⟩:=h;exact⟨σ',H',I.unwish,q⟩
 |brk=>obtain⟨σ',H',I,q⟩:=h;exact⟨σ',H',I.unwish,q⟩
 |cont=>obtain⟨σ',H',I,q⟩:=h;exact⟨σ',H',I.unwish,q⟩
 |ret u=>obtain⟨v,σ',H',I,r,q⟩:=h;exact⟨v,σ',H',I.unwish,r,q⟩
theorem PE.nox{e:Expr}{t:TE}(h:PE X.nox e t):PE X e t:=fun Kp s σ H Q I hw=>
 wpAny_mono (h Kp s σ H Q (I.wish _) hw) (fun _ _ ⟨v,H',I',r,q⟩=>⟨v,H',I'.unwish,r,q⟩) fun _ _ z=>False.elim z
theorem PT.nox{e:Expr}{t:TT}(h:PT X.nox e t):PT X e t:=fun Kp s σ H Q I hw=>
 wpAny_mono (h Kp s σ H Q (I.wish _) hw) (fun _ _ ⟨H',I',q⟩=>⟨H',I'.unwish,q⟩) fun _ _ z=>False.elim z
theorem PSs.nox{st:List Stmt}{t:TS}(h:PSs X.nox st t):PSs X st t:=fun Kp s σ H D I hw=>
 wpAny_mono (h Kp s σ H D (I.wish _) hw) (fun _ _ q=>q.unwish) fun _ _ z=>False.elim z
end
section
variable {X:Cx}{st:Stmt}{qh:List Stmt}{t u:TS}{e:Expr}{te:TE}{pos:Pos}
noncomputable def arp:TS:=fun D σ H=>D.nx σ H
noncomputable def asv(t u:TS):TS:=fun D σ H=>t { D with nx:=u D } σ H
theorem aiD:PSs X [] arp:=fun _ _ σ H _ I h=>wpAny_execs_nil ⟨σ,H,I,h⟩
theorem Ju(h1:PS X st t)(h2:PSs X qh u):PSs X (st::qh) (asv t u):=by
 intro Kp s σ H D I h;refine wpAny_execs_cons (thn (h1 Kp s σ H { D with nx:=u D } I h) fun f s1 q=>?_);cases f with
 | next=>
  obtain⟨σ',H',I',q⟩:=q;exact h2 Kp s1 σ' H' D I' q
 |ret v=>exact q
 |brk=>exact q
 |cont=>exact q
theorem aaV(h1:PS X st t):PSs X [st] t:=by
 intro Kp s σ H D I h;refine wpAny_execs_cons (thn (h1 Kp s σ H D I h) fun f s1 q=>?_);cases f with
 |next=>exact wpAny_execs_nil q
 |ret v=>exact q
 |brk=>exact q
 |cont=>exact q
theorem Inv.quiet{Kp:List (Addr×Obj)}{σ:St}{H:Hp}{s:Shared}(I:Inv X Kp σ H s):interactive X.env=false:=by simp[interactive,I.ok.kind]
noncomputable def arq(te:TE):TS:=fun D σ H=>te σ H fun _ H1=>D.nx σ H1
theorem ae5(he:PE X e te)(hs:swapsWith e none pos.line X.env=pure false:=by rfl):PS X (.Expr e pos) (arq te):=by
 intro Kp s σ H D I h;exact wpAny_Expr_any (thn (he Kp s σ H _ I h) fun v s1 ⟨x,H1,I1,r1,q1⟩=>⟨σ,H1,I1,q1⟩) I.quiet hs
noncomputable def asw(te:TE):TS:=fun D σ H=>te σ H D.rt
theorem ae6(he:PE X e te):PS X (.Return (some e) pos) (asw te):=by
 intro Kp s σ H D I h;exact wpAny_Return_some (thn (he Kp s σ H _ I h) fun v s1 ⟨x,H1,I1,r1,q1⟩=>⟨x,σ,H1,I1,r1,q1⟩)
noncomputable def asx(c:TT)(t u:TS):TS:=fun D σ H=>c σ H fun b H1=>if b=true then t D σ H1 else u D σ H1
theorem apx{c:Expr}{a b:List Stmt}{tc:TT}(hc:PT X c tc)(ha:PSs X a t)(hb:PSs X b u):PS X (.If c a b pos) (asx tc t u):=by
 intro Kp s σ H D I h;refine wpAny_If (thn (hc Kp s σ H _ I h) fun d s1 ⟨H1,I1,q1⟩=>?_);cases d with
 |true=>exact ha Kp s1 σ H1 D I1 q1
 |false=>exact hb Kp s1 σ H1 D I1 q1
noncomputable def ap4:TS:=fun _ _ _=>False
theorem ajH{sts:List Stmt}:PSs X sts ap4:=fun _ _ _ _ _ _ h=>h.elim
end
noncomputable abbrev TG:=V->St->Hp->(St->Hp->Prop)->Prop
noncomputable abbrev TGs:=List V->St->Hp->(St->Hp->Prop)->Prop
noncomputable def PG(X:Cx)(target:Expr)(t:TG):Prop:=
 ∀(Kp:List (Addr×Obj)) (s:Shared) (σ:St) (H:Hp) (v:V) (u:Value) (Q:St->Hp->Prop),Inv X Kp σ H s->jS v u->t v σ H Q->
  wpAny (model X.prog X.w) X.A (assign target X.env u) (fun _ s'=>∃σ' H',Inv X Kp σ' H' s'/\Q σ' H') X.xe s
noncomputable def PGs(X:Cx)(ts:List Expr)(t:TGs):Prop:=
 ∀(Kp:List (Addr×Obj)) (s:Shared) (σ:St) (H:Hp) (vs:List V) (us:List Value) (Q:St->Hp->Prop),Inv X Kp σ H s->jM vs us->t vs σ H Q->
  wpAny (model X.prog X.w) X.A (assignInOrder ((assignEach ts X.env).map (·.2)) us) (fun _ s'=>∃σ' H',Inv X Kp σ' H' s'/\Q σ' H') X.xe s
noncomputable abbrev ak1:=V->V->V->Hp->(Hp->Prop)->Prop
noncomputable def anF(X:Cx)(t:ak1):Prop:=
 ∀(Kp:List (Addr×Obj)) (s:Shared) (σ:St) (H:Hp) (o i v:V) (ov iv u:Value) (Q:Hp->Prop),Inv X Kp σ H s->jS o ov->jS i iv->jS v u->t o i v H Q->
  wpAny (model X.prog X.w) X.A (setItem ov iv u) (fun _ s'=>∃H',Inv X Kp σ H' s'/\Q H') X.xe s
noncomputable abbrev TIp:=V->V->Hp->VK->Prop
noncomputable def PIp(X:Cx)(op:Operator)(t:TIp):Prop:=
 ∀(Kp:List (Addr×Obj)) (s:Shared) (σ:St) (H:Hp) (x y:V) (v u:Value) (Q:VK),Inv X Kp σ H s->jS x v->jS y u->t x y H Q->
  wpAny (model X.prog X.w) X.A (inplaceOp op v u) (EP X Kp σ Q) X.xe s
section
variable {X:Cx}{pos:Pos}
noncomputable def ak2(i:Nat):TG:=fun v σ H Q=>Q (σ.set i (some v)) H
theorem Z5{i:Nat}{x:Str}(hN:X.N.Nodup)(hi:X.N[i]?=some x)(hx:Loc X.env.scope x)(hf:X.fn x=true∨X.env.scope.names.lookup x=some .local:=by first|exact .inl rfl|exact .inr rfl|assumption):PG X (.Name x pos) (ak2 i):=by
 intro Kp s σ H v u Q I r h;exact wpAny_assign_Name (ac2 I hN hi hx r (fun s' I'=>⟨_,H,I',h⟩) hf)
noncomputable def asy:TGs:=fun vs σ H Q=>vs=[]/\Q σ H
noncomputable def arr(t:TG)(u:TGs):TGs:=fun vs σ H Q=>∃v r,vs=v::r/\t v σ H fun σ' H'=>u r σ' H' Q
theorem aiE:PGs X [] asy:=by
 intro Kp s σ H vs us Q I r h;obtain⟨e,h⟩:=h;subst e;cases r;exact assignInOrder_nil ⟨σ,H,I,h⟩
theorem age{e:Expr}{es:List Expr}{t:TG}{u:TGs}(h1:PG X e t)(h2:PGs X es u)
  (hs:(assignEach (e::es) X.env).map (·.2)=assign e X.env::(assignEach es X.env).map (·.2):=by rfl):PGs X (e::es) (arr t u):=by
 intro Kp s σ H vs us Q I r h;obtain⟨v,vr,e1,h⟩:=h;subst e1;cases r with
 | cons r rr=>
  rw[hs];refine assignInOrder_cons (thn (h1 Kp s σ H _ _ _ I r h) fun _ s1 ⟨σ1,H1,I1,q1⟩=>?_);exact h2 Kp s1 σ1 H1 _ _ Q I1 rr q1
noncomputable def asz(K:Fg)(n:Nat)(t:TGs):TG:=fun v σ H Q=>∃a xs,v= .ref a/\SqT K H a xs/\xs.length=n/\t xs σ H Q
theorem ak3{es:List Expr}{k:Nat}{t:TGs}{n:Nat}(hc:X.calm=true)(h:PGs X es t)
  (hn:(assignEach es X.env).length=n:=by rfl) (hst:(assignEach es X.env).findIdx? (·.1)=none:=by rfl):PG X (.Tuple es k pos) (asz X.K n t):=by
 intro Kp s σ H v u Q I r hw;obtain⟨a,xs,e1,hq,hl,hw⟩:=hw;subst e1;cases r;obtain⟨its,rv,ht,hz⟩:=I.tuple hq;refine assign_Tuple_tuple (I.ok.hd hc) ht (by simp[hn,←hl,rv.length]) hst fun h' hx=>?_;have I1:Inv X Kp σ H { s with heap:=h' }:=I.kept (t':=s.toks) fun b o e=>hx b o (Nat.ne_of_lt (Heap.lt_size e)) e;exact h Kp _ σ H xs _ Q I1 (by simpa using rv) hw
noncomputable def asC(to ti:TE)(t:ak1):TG:=fun v σ H Q=>to σ H fun o H1=>ti σ H1 fun i H2=>t o i v H2 fun H3=>Q σ H3
theorem ap5{o i:Expr}{to ti:TE}{t:ak1}(ho:PE X o to)(hi:PE X i ti)(hs:anF X t)
  (ha:∀v,assign (.Subscript o i pos) X.env v=(do
   let ov ←holding [v] (eval o X.env)
   let iv ←holding [v,ov] (eval i X.env)
   standAt pos
   holding [v,ov,iv] (setItem ov iv v)
   release [v,ov,iv] []):=by intro _; rfl):PG X (.Subscript o i pos) (asC to ti t):=by
 intro Kp s σ H v u Q I r h;rw[ha];refine wpAny_bind (wpAny_holding (thn (ho Kp s σ H _ I h) fun ov s1 ⟨x,H1,I1,r1,q1⟩=>?_));refine wpAny_bind (wpAny_holding (thn (hi Kp s1 σ H1 _ I1 q1) fun iv s2 ⟨y,H2,I2,r2,q2⟩=>?_));refine wpAny_bind (wpAny_standAt (wpAny_bind (wpAny_holding (thn (hs Kp s2 σ H2 x y v ov iv u _ I2 r1 r2 r q2) fun _ s3 ⟨H3,I3,q3⟩=>?_))));exact wpAny_release ⟨σ,H3,I3,q3⟩
noncomputable def ap6(te:TE)(g:TG):TS:=fun D σ H=>te σ H fun x H1=>g x σ H1 D.nx
theorem ahS{tg e:Expr}{te:TE}{g:TG}(he:PE X e te)(hg:PG X tg g)(hs:swapsWithSole [tg] e pos.line X.env=pure false:=by rfl)(hw:swappedStores [tg] e X.env=pure none:=by rfl)
  (h1:(assignEach [tg] X.env).map (·.2)=[assign tg X.env]:=by rfl):PS X (.Assign [tg] e pos) (ap6 te g):=by
 intro Kp s σ H D I h;refine wpAny_Assign_stores (thn (he Kp s σ H _ I h) fun v s1 ⟨x,H1,I1,r1,q1⟩=>?_) hs hw;rw[h1];exact thn (hg Kp s1 σ H1 x v _ I1 r1 q1) fun _ s2 q=>q
theorem ac3{i:Nat}{x:Str}{e:Expr}{te:TE}{pos':Pos}(hN:X.N.Nodup)(hi:X.N[i]?=some x)(hx:Loc X.env.scope x)(he:PE X e te)(hs:swapsWith e (some (.Name x pos')) pos.line X.env=pure false:=by rfl)(hf:X.fn x=true∨X.env.scope.names.lookup x=some .local:=by first|exact .inl rfl|exact .inr rfl|assumption):
  PS X (.Assign [.Name x pos'] e pos) (ap6 te (ak2 i)):=by
 intro Kp s σ H D I h;refine wpAny_Assign_Name (thn (he Kp s σ H _ I h) fun v s1 ⟨y,H1,I1,r1,q1⟩=>?_) hs;exact ac2 I1 hN hi hx r1 (fun s2 I2=>⟨_,H1,I2,q1⟩) hf
noncomputable def ars(to ti te:TE)(tget:V->V->Hp->VK->Prop)(tip:TIp)(tset:ak1):TS:=fun D σ H=>to σ H fun o H1=>ti σ H1 fun i H2=>tget o i H2 fun x H3=>te σ H3 fun y H4=>tip x y H4 fun z H5=>tset o i z H5 fun H6=>D.nx σ H6
noncomputable def art(X:Cx)(t:V->V->Hp->VK->Prop):Prop:=
 ∀(Kp:List (Addr×Obj)) (s:Shared) (σ:St) (H:Hp) (o i:V) (ov iv:Value) (Q:VK),Inv X Kp σ H s->jS o ov->jS i iv->t o i H Q->
  wpAny (model X.prog X.w) X.A (getItem ov iv) (EP X Kp σ Q) X.xe s
theorem anG{o i e:Expr}{to ti te:TE}{tget:V->V->Hp->VK->Prop}{tip:TIp}{tset:ak1}{op:Operator}{tpos:Pos}(ho:PE X o to)(hi:PE X i ti)(hg:art X tget)(he:PE X e te)(hp:PIp X op tip)(hs:anF X tset)
  (ha:∀ov iv new,augStore i ov iv new=(do holding [new,ov,iv] (setItem ov iv new);release [new,ov,iv] [];pure .next):=by intros;rfl):PS X (.AugAssign (.Subscript o i tpos) op e pos) (ars to ti te tget tip tset):=by
 intro Kp s σ H D I h;refine wpAny_AugAssign_SubscriptAny (thn (ho Kp s σ H _ I h) fun ov s1 ⟨x1,H1,I1,r1,q1⟩=>?_) ha;refine thn (hi Kp s1 σ H1 _ I1 q1) fun iv s2 ⟨x2,H2,I2,r2,q2⟩=>?_;refine thn (hg Kp s2 σ H2 x1 x2 ov iv _ I2 r1 r2 q2) fun old s3 ⟨x3,H3,I3,r3,q3⟩=>?_;refine thn (he Kp s3 σ H3 _ I3 q3) fun v s4 ⟨x4,H4,I4,r4,q4⟩=>?_;refine thn (hp Kp s4 σ H4 x3 x4 old v _ I4 r3 r4 q4) fun new s5 ⟨x5,H5,I5,r5,q5⟩=>?_;exact thn (hs Kp s5 σ H5 x1 x2 x5 ov iv new _ I5 r1 r2 r5 q5) fun _ s6 ⟨H6,I6,q6⟩=>⟨σ,H6,I6,q6⟩
noncomputable def ipI(f:Int->Int->Int):TIp:=fun x y H Q=>∃i j,x= .int i/\y= .int j/\Q (.int (f i j)) H
theorem ap7:PIp X .Add (ipI fun i j=>i+j):=by
 intro Kp s σ H x y v u Q I r1 r2 h;obtain⟨i,j,e1,e2,q⟩:=h;subst e1;subst e2;obtain⟨t,rfl⟩:=r1;obtain⟨t',rfl⟩:=r2;exact iadd_int ⟨.int _,H,I.tok _,⟨_,rfl⟩,q⟩
end
section
variable {X:Cx}{pos:Pos}
end
structure It where
 go:Nat->Hp->Prop
 yld:Nat->Hp->V->Hp->Prop
 stop:Nat->Hp->Prop
noncomputable def agf(X:Cx)(Kp:List (Addr×Obj))(H:Hp)(b:Addr):Prop:=
 H b=none/\b≠X.env.locals/\b∉X.fs/\(b∈X.ex∨X.s₀.heap.objs.size<=b)/\(∀x c,X.env.cells.lookup x=some c->c≠b)/\∀p∈X.pn++Kp,p.1≠b
theorem Inv.fpOk{X:Cx}{Kp:List (Addr×Obj)}{σ:St}{H H':Hp}{s:Shared}{b:Addr}(I:Inv X Kp σ H s)(hb:s.heap.objs.size<=b)(hn:H' b=none):agf X Kp H' b:=by
 refine⟨hn,Nat.ne_of_gt (Nat.lt_of_lt_of_le I.lt hb),I.nofs hb,.inr (Nat.le_trans I.sz hb),fun x c e z=>?_,fun p hp z=>?_⟩
 ·obtain⟨v,q⟩:=I.cell x c e
  exact absurd (Nat.lt_of_lt_of_le q.lt (by rw[z];exact hb)) (Nat.lt_irrefl _)
 ·exact absurd (Nat.lt_of_lt_of_le (Heap.lt_size (I.pin p hp).1) (by rw[z];exact hb)) (Nat.lt_irrefl _)
structure Turn(P:Program)(w:World)(K:Fg)(tg:Expr)(J:It)(fp:List Addr)(it:Addr)(tn:Nat->Heap->Prop):Prop where
 mem:it∈fp
 obj:∀i h,tn i h->∀b∈fp,∃o,h.get? b=some o/\∀v,o.data ≠ .cell v
 keep:∀i h h',tn i h->(∀b∈fp,∀o,h.get? b=some o->h'.get? b=some o)->tn i h'
 item:∀(X:Cx),X.prog=P->X.w=w->X.K=K->X.calm=true->∀(i:Nat) (Kp:List (Addr×Obj)) (s:Shared) (σ:St) (H:Hp) (E:Value->SP0),Inv X Kp σ H s->(∀b∈fp,agf X Kp H b)->tn i s.heap->J.go i H->
  wpAny (model P w) X.A (pyNext (.ref it)) (fun r s1=>∃u,r=some u/\
   wpAny (model P w) X.A (letOwnedTupleGo tg (.ref it) u) (fun _ s2=>∃ x H',Inv X Kp σ H' s2/\jS x u/\J.yld i H x H'/\tn (i+1) s2.heap/\∀ b ∈ fp,H' b=none) E s1) E s
 done:∀(X:Cx),X.prog=P->X.w=w->X.K=K->X.calm=true->∀(i:Nat) (Kp:List (Addr×Obj)) (s:Shared) (σ:St) (H:Hp) (E:Value->SP0),Inv X Kp σ H s->(∀b∈fp,agf X Kp H b)->tn i s.heap->J.stop i H->
  wpAny (model P w) X.A (pyNext (.ref it)) (fun r s1=>r=none/\Inv X Kp σ H s1) E s
 self:∀(A:Around) (i:Nat) (s:Shared) (Q:Value->SP0) (E:Value->SP0),tn i s.heap->Q (.ref it) s->wpAny (model P w) A (pyIter (.ref it)) Q E s
noncomputable abbrev TI:=St->Hp->(It->Hp->Prop)->Prop
noncomputable def PIE(X:Cx)(Kp:List (Addr×Obj))(σ:St)(tg:Expr)(R:It->Hp->Prop)(itv:Value)(s2:Shared):Prop:=
 ∃(it:Addr) (fp:List Addr) (tn:Nat->Heap->Prop) (J:It) (H':Hp),itv= .ref it/\Inv X Kp σ H' s2/\Turn X.prog X.w X.K tg J fp it tn/\tn 0 s2.heap/\(∀b∈fp,agf X Kp H' b)/\R J H'
noncomputable def PI(X:Cx)(tg iter:Expr)(wi:TI):Prop:=
 ∀(Kp:List (Addr×Obj)) (s:Shared) (σ:St) (H:Hp) (R:It->Hp->Prop),Inv X Kp σ H s->wi σ H R->
  wpAny (model X.prog X.w) X.A (eval iter X.env) (fun v s1=>wpAny (model X.prog X.w) X.A (pyIter v) (PIE X Kp σ tg R) X.xe s1) X.xe s
theorem agg{M : Model}{A : Around}{E : Value -> Shared -> Prop}{s : Shared}{tg : Expr}{it : Addr}{u : Value}{o : Obj}{n : String}{vs : Array Value}{Q : Unit -> Shared -> Prop}(ho : s.heap.get? it = some o)(hc : o.cls = .type n)(hd : o.data = .fields vs)
    (hn : ["enumerate", "zip", "dict_itemiterator", "dict_reverseitemiterator", "odict_iterator", "itertools.zip_longest", "itertools.pairwise"].contains n = false) (hQ : Q () s) : wpAny M A (letOwnedTupleGo tg (.ref it) u) Q E s := by
  unfold letOwnedTupleGo
  cases tg<;>first
    |exact wpAny_pure hQ
    | (cases u<;>first
        | exact wpAny_pure hQ
        | (refine wpAny_bind (wpAny_load ho ?_)
           rw [hc, hd];show wpAny M A (if (["enumerate", "zip", "dict_itemiterator", "dict_reverseitemiterator", "odict_iterator", "itertools.zip_longest", "itertools.pairwise"].contains n && vs[0]? == some (rawInt _)) = true then _ else _) Q E s;rw [if_neg (by intro h; rw [hn, Bool.false_and] at h; cases h)];exact wpAny_pure hQ))
noncomputable def Itl(K:Fg)(a:Addr):It:=
 ⟨fun i H=>∃xs x,SqL K H a xs/\xs[i]?=some x,fun i H x H'=>H'=H/\∀xs,SqL K H a xs->xs[i]?=some x,fun i H=>∃xs,SqL K H a xs/\xs.length<=i⟩
noncomputable def Itt(K:Fg)(a:Addr):It:=
 ⟨fun i H=>∃xs x,SqT K H a xs/\xs[i]?=some x,fun i H x H'=>H'=H/\∀xs,SqT K H a xs->xs[i]?=some x,fun i H=>∃xs,SqT K H a xs/\xs.length<=i⟩
noncomputable def Itr(lo:Int)(n:Nat):It:=⟨fun i _=>i<n,fun i H x H'=>H'=H/\x= .int (lo+i),fun i _=>n<=i⟩
theorem ajI{P:Program}{w:World}{K:Fg}{tg:Expr}(a it:Addr):Turn P w K tg (Itl K a) [it] it (fun i h=>h.IsListIter it a i) where
 mem:=by simp
 obj:=fun i h st b hb=>by
  have e:b=it:=by simpa using hb
  subst e;obtain⟨o,e,c,d⟩:=st;exact⟨o,e,fun v z=>by rw[d]at z;cases z⟩
 keep:=fun i h h' st k=>st.at fun o e=>k it (by simp) o e
 item:=by
  intro X hP hw hK hc i Kp s σ H E I hf st hg;subst hP hw hK;obtain⟨xs,x,hq,hx⟩:=hg;obtain⟨its,rv,p,hz⟩:=I.list hq;obtain⟨u,hu,ru⟩:=rv.get hx;obtain⟨f0,f1,f2,f3,f4,f5⟩:=hf it (by simp);refine wpAny_pyNext_list_item st p.isList (x:=u) (by simpa using hu) fun h' st' sb=>?_;have I1:Inv X Kp σ H { s with heap:=h' }:=I.turned (t':=s.toks) (fun b o hb e=>(sb.2 b hb).trans e) f0 f1 f3 f4 f5;obtain⟨o,e,c,d⟩:=id st';exact⟨u,rfl,agg (s:={ s with heap:=h' }) e c d (by decide) ⟨x,H,I1,ru,⟨rfl,fun ys hy=>by rw[I.list_inj hy hq];exact hx⟩,st',fun b hb=>(hf b hb).1⟩⟩
 done:=by
  intro X hP hw hK hc i Kp s σ H E I hf st hg;subst hP hw hK;obtain⟨xs,hq,hx⟩:=hg;obtain⟨its,rv,p,hz⟩:=I.list hq;obtain⟨f0,f1,f2,f3,f4,f5⟩:=hf it (by simp);have hl:=rv.length;exact wpAny_pyNext_list_end (I.ok.hd hc) st p.isList (by simp;omega) fun h' eb=>⟨rfl,I.turned (t':=s.toks) (fun b o hb e=>eb b o hb e) f0 f1 f3 f4 f5⟩
 self:=fun _ _ _ _ _ st h=>wpAny_pyIter_listiter st h
theorem ahT{P:Program}{w:World}{K:Fg}{tg:Expr}(a it:Addr):Turn P w K tg (Itt K a) [it] it (fun i h=>h.IsTupleIter it a i) where
 mem:=by simp
 obj:=fun i h st b hb=>by
  have e:b=it:=by simpa using hb
  subst e;obtain⟨o,e,c,d⟩:=st;exact⟨o,e,fun v z=>by rw[d]at z;cases z⟩
 keep:=fun i h h' st k=>st.at fun o e=>k it (by simp) o e
 item:=by
  intro X hP hw hK hc i Kp s σ H E I hf st hg;subst hP hw hK;obtain⟨xs,x,hq,hx⟩:=hg;obtain⟨its,rv,p,hz⟩:=I.tuple hq;obtain⟨u,hu,ru⟩:=rv.get hx;obtain⟨f0,f1,f2,f3,f4,f5⟩:=hf it (by simp);refine wpAny_pyNext_tuple_item st (show s.heap.IsTuple a its.toArray from p) (x:=u) (by simpa using hu) fun h' st' sb=>?_;have I1:Inv X Kp σ H { s with heap:=h' }:=I.turned (t':=s.toks) (fun b o hb e=>(sb.2 b hb).trans e) f0 f1 f3 f4 f5;obtain⟨o,e,c,d⟩:=id st';exact⟨u,rfl,agg (s:={ s with heap:=h' }) e c d (by decide) ⟨x,H,I1,ru,⟨rfl,fun ys hy=>by rw[I.tuple_inj hy hq];exact hx⟩,st',fun b hb=>(hf b hb).1⟩⟩
 done:=by
  intro X hP hw hK hc i Kp s σ H E I hf st hg;subst hP hw hK;obtain⟨xs,hq,hx⟩:=hg;obtain⟨its,rv,p,hz⟩:=I.tuple hq;obtain⟨f0,f1,f2,f3,f4,f5⟩:=hf it (by simp);have hl:=rv.length;exact wpAny_pyNext_tuple_end (I.ok.hd hc) st (show s.heap.IsTuple a its.toArray from p) (by simp;omega) fun h' eb=>⟨rfl,I.turned (t':=s.toks) (fun b o hb e=>eb b o hb e) f0 f1 f3 f4 f5⟩
 self:=fun _ _ _ _ _ st h=>wpAny_pyIter_tupleiter st h
theorem ahU{P:Program}{w:World}{K:Fg}{tg:Expr}(it:Addr)(lo:Int)(n:Nat):Turn P w K tg (Itr lo n) [it] it (fun i h=>IsRangeIter h it (lo+(i:Nat)*1) ((n:Int)-(i:Nat)) 1) where
 mem:=by simp
 obj:=fun i h st b hb=>by
  have e:b=it:=by simpa using hb
  subst e
  exact⟨_,st,fun v z=>by
   have z':Data.fields _=Data.cell v:=z;cases z'⟩
 keep:=fun i h h' st k=>k it (by simp) _ st
 item:=by
  intro X hP hw hK hc i Kp s σ H E I hf st hg;subst hP hw hK;obtain⟨f0,f1,f2,f3,f4,f5⟩:=hf it (by simp);have W:=Walks.range (prog:=X.prog) (w:=X.w) (I.ok.hd hc) it lo 1 n;refine W.item i s _ _ hg st fun v h' tk hv st' kk=>?_;obtain⟨t,rfl⟩:=hv;have I1:Inv X Kp σ H { s with heap:=h',toks:=tk }:=I.turned (fun b o hb e=>kk b o (by simpa using hb) e) f0 f1 f3 f4 f5;refine⟨_,rfl,agg (s:={ s with heap:=h',toks:=tk }) (n:="range_iterator") st' rfl rfl (by decide) ⟨.int (lo+i),H,I1,⟨t,?_⟩,⟨rfl,rfl⟩,st',fun b hb=>(hf b hb).1⟩⟩;rw[Int.mul_one]
 done:=by
  intro X hP hw hK hc i Kp s σ H E I hf st hg;subst hP hw hK;obtain⟨f0,f1,f2,f3,f4,f5⟩:=hf it (by simp);exact wpAny_pyNext_range_end (I.ok.hd hc) st (by have:n<=i:=hg;omega) fun h' eb=>⟨rfl,I.turned (t':=s.toks) (fun b o hb e=>eb b o hb e) f0 f1 f3 f4 f5⟩
 self:=fun _ _ _ _ _ st h=>wpAny_pyIter_rangeiter st h
section
variable {X:Cx}{tg:Expr}
noncomputable def aru(K:Fg)(tl:TE):TI:=fun σ H R=>tl σ H fun x H1=>∃a,x= .ref a/\(∃xs,SqL K H1 a xs)/\R (Itl K a) H1
noncomputable def asD(K:Fg)(tl:TE):TI:=fun σ H R=>tl σ H fun x H1=>∃a,x= .ref a/\(∃xs,SqT K H1 a xs)/\R (Itt K a) H1
theorem aiF{l:Expr}{tl:TE}(hl:PE X l tl):PI X tg l (aru X.K tl):=by
 intro Kp s σ H R I h;refine thn (hl Kp s σ H _ I h) fun v s1 ⟨x,H1,I1,r1,q1⟩=>?_;obtain⟨a,e,⟨xs,hq⟩,q⟩:=q1;subst e;cases r1;obtain⟨its,rv,p,hz⟩:=I1.list hq;refine wpAny_pyIter_list p.isList ?_;refine⟨s1.heap.objs.size,[s1.heap.objs.size],_,_,H1,rfl,I1.kept (t':=s1.toks) fun b o e=>Heap.get?_push_of_some _ e,ajI a _,⟨_,Heap.get?_push_size _ rfl,rfl,rfl⟩,fun b hb=>?_,q⟩;have e:b=s1.heap.objs.size:=by simpa using hb
 subst e;exact I1.fpOk (Nat.le_refl _) (I1.hok.fresh (Nat.le_refl _))
theorem ap8{l:Expr}{tl:TE}(hl:PE X l tl):PI X tg l (asD X.K tl):=by
 intro Kp s σ H R I h;refine thn (hl Kp s σ H _ I h) fun v s1 ⟨x,H1,I1,r1,q1⟩=>?_;obtain⟨a,e,⟨xs,hq⟩,q⟩:=q1;subst e;cases r1;obtain⟨its,rv,p,hz⟩:=I1.tuple hq;refine wpAny_pyIter_tuple (show s1.heap.IsTuple a its.toArray from p) ?_;refine⟨s1.heap.objs.size,[s1.heap.objs.size],_,_,H1,rfl,I1.kept (t':=s1.toks) fun b o e=>Heap.get?_push_of_some _ e,ahT a _,⟨_,Heap.get?_push_size _ rfl,rfl,rfl⟩,fun b hb=>?_,q⟩;have e:b=s1.heap.objs.size:=by simpa using hb
 subst e;exact I1.fpOk (Nat.le_refl _) (I1.hok.fresh (Nat.le_refl _))
theorem ak4{Kp:List (Addr×Obj)}{σ:St}{H:Hp}{s:Shared}{R:It->Hp->Prop}{E:Value->SP0}{lo hi:Int}{t u v:Tok}{tk:Nat}(I:Inv X Kp σ H s)(h1:-(2 ^ 62)<=lo)(h2:lo<2 ^ 62)(h3:-(2 ^ 62)<=hi)(h4:hi<2 ^ 62)
  (q:R (Itr lo (hi-lo).toNat) H):wpAny (model X.prog X.w) X.A (pyIter (.ref s.heap.objs.size)) (PIE X Kp σ tg R) E { s with heap:=s.heap.push { cls:= .type "range",data:= .fields #[.int lo t,.int hi u,.int 1 v] },toks:=tk }:=by
 refine wpAny_pyIter_range (IsRange.new ..) (small_one h1 h2 h3 h4) ?_;have I1:Inv X Kp σ H { s with heap:=s.heap.push { cls:= .type "range",data:= .fields #[.int lo t,.int hi u,.int 1 v] },toks:=tk }:=I.kept fun b o e=>Heap.get?_push_of_some _ e
 refine⟨(s.heap.push { cls:= .type "range",data:= .fields #[.int lo t,.int hi u,.int 1 v] }).objs.size,[(s.heap.push { cls:= .type "range",data:= .fields #[.int lo t,.int hi u,.int 1 v] }).objs.size],_,_,H,rfl,
  I1.kept (t':=tk) fun b o e=>Heap.get?_push_of_some _ e,ahU _ lo (hi - lo).toNat,?_,fun b hb=>?_,q⟩
 ·have e1:lo+((0:Nat):Int)*1=lo:=by simp
  have e2:(((hi-lo).toNat:Nat):Int)-((0:Nat):Int)=Builtin.Range.rangeSize lo hi 1:=by rw[rangeSize_one];split<;>omega
  show IsRangeIter _ _ (lo+((0:Nat):Int)*1) ((((hi-lo).toNat:Nat):Int)-((0:Nat):Int)) 1;rw[e1,e2];exact Heap.get?_push_size _ rfl
 ·have e:b=(s.heap.push { cls:= .type "range",data:= .fields #[.int lo t,.int hi u,.int 1 v] }).objs.size:=by simpa using hb
  subst e;exact I1.fpOk (Nat.le_refl _) (I1.hok.fresh (Nat.le_refl _))
noncomputable def arv(ta:TA):TI:=fun σ H R=>ta σ H fun vs H1=>∃j:Int,vs=[.int j]/\-(2 ^ 62)<=j/\j<2 ^ 62/\R (Itr 0 j.toNat) H1
theorem abI{a:Expr}{ta:TA}{p pos:Pos}(hg:Gl X "range")(hm:X.mg "range"=none)(ha:PA X [a] ta)(hs:starEach [a] X.env=[(false,eval a X.env)]:=by rfl):PI X tg (.Call (.Name "range" p) [a] [] pos) (arv ta):=by
 intro Kp s σ H R I h;refine Call_ (Zz I hg hm boot_range (PyProof.Rows.callWith_type1 (thn (ha pos Kp s σ H _ I h) fun us s1 ⟨vs,H1,I1,r1,q1⟩=>?_) hs rfl));obtain⟨j,e,q1,q2,q⟩:=q1;subst e;cases r1 with
 | cons r rr=>
  cases rr;obtain⟨t,rfl⟩:=r;exact call_range_1 (ak4 I1 (by omega) (by omega) q1 q2 (by simpa using q))
noncomputable def asE(wi:TI)(g:TG)(tb:TS):TS:=fun D σ H=>wi σ H fun J H1=>∃W:Nat->Nat->St->Hp->Prop,(∃m,W 0 m σ H1)/\∀i m σ H,W i m σ H->
 (J.stop i H/\D.nx σ H)∨(J.go i H/\∃N:St->Hp->Prop,(∀σ' H',N σ' H'->∃m',m' < m/\W (i+1) m' σ' H')/\∀x H',J.yld i H x H'->g x σ H' fun σ2 H2=>tb { D with nx:=N,ct:=N,bk:=D.nx } σ2 H2)
noncomputable def abJ(fp:List Addr)(h:Heap):List (Addr×Obj):=fp.filterMap fun b=>(h.get? b).map fun o=>(b,o)
theorem Jj{fp:List Addr}{h:Heap}{b:Addr}{o:Obj}(hb:b∈fp)(e:h.get? b=some o):(b,o)∈abJ fp h:=List.mem_filterMap.mpr ⟨b,hb,by rw[e];rfl⟩
theorem ajJ{fp:List Addr}{h:Heap}{p:Addr×Obj}(hp:p∈abJ fp h):p.1∈fp/\h.get? p.1=some p.2:=by
 obtain⟨b,hb,e⟩:=List.mem_filterMap.mp hp;cases q:h.get? b with
 |none=>rw[q]at e;cases e
 | some o=>
  rw[q]at e;have e':(b,o)=p:=Option.some.inj e;subst e';exact⟨hb,q⟩
theorem Inv.pinned{Kp:List (Addr×Obj)}{σ:St}{H:Hp}{s:Shared}{fp:List Addr}(I:Inv X Kp σ H s)(hf:∀b∈fp,agf X Kp H b)(ho:∀b∈fp,∃o,s.heap.get? b=some o/\∀v,o.data ≠ .cell v):Inv X (Kp++abJ fp s.heap) σ H s:=
 I.pins_of fun p hp=>(List.mem_append.mp hp).elim (fun z=>I.pin p (List.mem_append_right _ z)) fun z=>by
  obtain⟨hb,e⟩:=ajJ z;obtain⟨f0,f1,f2,_⟩:=hf p.1 hb;obtain⟨o,e',d⟩:=ho p.1 hb;rw[e]at e';cases e';exact⟨e,f0,f1,f2,d⟩
theorem Inv.unpinned{Kp pl:List (Addr×Obj)}{σ:St}{H:Hp}{s:Shared}(I:Inv X (Kp++pl) σ H s):Inv X Kp σ H s:=I.pins_of fun p hp=>I.pin p (List.mem_append_right _ (List.mem_append_left _ hp))
theorem ac4{iter:Expr}{body:List Stmt}{wi:TI}{g:TG}{tb:TS}{pos:Pos}(hp:PassesOwn (model X.prog X.w) X.A X.env X.xe)(hc:X.calm=true)(hi:PI X tg iter wi)(hg:PG X tg g)(hb:PSs X body tb)
  (hs:∀x,foldedSetIterable iter X.env x=pure x:=by intro _;rfl):PS X (.For tg iter body [] pos) (asE wi g tb):=by
 intro Kp s σ H D I h;refine wpAny_For (thn (hi Kp s σ H _ I h) fun v s1 h1=>thn h1 fun itv s2 h2=>?_) hs;obtain⟨it,fp,tn,J,H2,e,I2,T,st2,f2,W,⟨m0,w0⟩,turn⟩:=h2;subst e;have stat:∀{H':Hp},(∀b∈fp,H' b=none)->∀b∈fp,agf X Kp H' b:=fun hn b hb=>⟨hn b hb,(f2 b hb).2⟩;refine codeAny_forLoop_any (fun n s'=>∃i σ' H',Inv X Kp σ' H' s'/\tn i s'.heap/\(∀b∈fp,H' b=none)/\W i n σ' H') ?_ m0 ⟨0,σ,H2,I2,st2,fun b hb=>(f2 b hb).1,w0⟩
 rintro n s3 ⟨i,σ3,H3,I3,st3,fr3,w3⟩
 rcases turn i n σ3 H3 w3 with ⟨stop,qn⟩ | ⟨go,N,hN,step⟩
 ·refine wpAny_passesOwn hp (thn (T.done X rfl rfl rfl hc i Kp s3 σ3 H3 X.xe I3 (stat fr3) st3 stop) fun r s4 ⟨hr,I4⟩=>?_)
  subst hr;exact wpAny_execs_nil ⟨σ3,H3,I4,qn⟩
 ·refine wpAny_passesOwn hp (thn (T.item X rfl rfl rfl hc i Kp s3 σ3 H3 X.xe I3 (stat fr3) st3 go) fun r s4 ⟨u,hr,h4⟩=>?_)
  subst hr;refine wpAny_passesOwn hp (thn h4 fun _ s5 ⟨x,H5,I5,r5,y5,st5,fr5⟩=>?_);have I5':=I5.pinned (stat fr5) (T.obj _ _ st5);refine wpAny_passesOwn hp (thn (hg _ s5 σ3 H5 x u _ I5' r5 (step x H5 y5)) fun _ s6 ⟨σ6,H6,I6,q6⟩=>?_);refine wpAny_passesOwn hp (thn (hb _ s6 σ6 H6 _ I6 q6) fun f s7 q7=>?_)
  have again:∀{σ7:St} {H7:Hp},Inv X (Kp++abJ fp s5.heap) σ7 H7 s7->N σ7 H7->∃m,m<n/\∃i σ' H',Inv X Kp σ' H' s7/\tn i s7.heap/\(∀b∈fp,H' b=none)/\W i m σ' H':=fun {σ7 H7} I7 n7=>by
   obtain⟨m',hm,w7⟩:=hN σ7 H7 n7;refine⟨m',hm,i+1,σ7,H7,I7.unpinned,T.keep _ _ _ st5 fun b hb o e=>(I7.pin (b,o) (List.mem_append_right _ (List.mem_append_right _ (Jj hb e)))).1,fun b hb=>?_,w7⟩;obtain⟨o,e,d⟩:=T.obj _ _ st5 b hb;exact(I7.pin (b,o) (List.mem_append_right _ (List.mem_append_right _ (Jj hb e)))).2.1
  cases f with
  |next=>obtain⟨σ7,H7,I7,n7⟩:=q7;exact again I7 n7
  |cont=>obtain⟨σ7,H7,I7,n7⟩:=q7;exact again I7 n7
  |brk=>obtain⟨σ7,H7,I7,q7⟩:=q7;exact⟨σ7,H7,I7.unpinned,q7⟩
  |ret v=>obtain⟨x7,σ7,H7,I7,r7,q7⟩:=q7;exact⟨x7,σ7,H7,I7.unpinned,r7,q7⟩
end
theorem ak5{K:Fg}{a:Addr}{xs:List V}{g:TG}{tb:TS}{D:Ends}{σ:St}{H:Hp}(Pv:Nat->St->Hp->Prop)(h0:Pv 0 σ H)(hl:∀i σ H,i<=xs.length->Pv i σ H->SqL K H a xs)
  (hs:∀i x σ H,xs[i]?=some x->Pv i σ H->g x σ H fun σ2 H2=>tb { D with nx:=Pv (i+1),ct:=Pv (i+1),bk:=D.nx } σ2 H2) (hd:∀σ H,Pv xs.length σ H->D.nx σ H):
  ∃W:Nat->Nat->St->Hp->Prop,(∃m,W 0 m σ H)/\∀i m σ H,W i m σ H->
   ((Itl K a).stop i H/\D.nx σ H)∨((Itl K a).go i H/\∃N:St->Hp->Prop,(∀σ' H',N σ' H'->∃m',m' < m/\W (i+1) m' σ' H')/\∀x H',(Itl K a).yld i H x H'->g x σ H' fun σ2 H2=>tb { D with nx:=N,ct:=N,bk:=D.nx } σ2 H2):=by
 refine⟨fun i m σ H=>m=xs.length-i/\i<=xs.length/\Pv i σ H,⟨xs.length,by simp,Nat.zero_le _,h0⟩,?_⟩
 rintro i m σ H ⟨rfl,hi,p⟩
 have q:=hl i σ H hi p;by_cases hlt:i<xs.length
 ·refine .inr ⟨⟨xs,xs[i],q,by simp[hlt]⟩,Pv (i+1),fun σ' H' p'=>⟨xs.length-(i+1),by omega,rfl,hlt,p'⟩,fun x H' y=>?_⟩
  obtain⟨e,y⟩:=y;subst e;exact hs i x σ _ (y xs q) p
 ·have e:i=xs.length:=by omega
  subst e;exact .inl ⟨⟨xs,q,Nat.le_refl _⟩,hd σ H p⟩
theorem aek{lo:Int}{n:Nat}{g:TG}{tb:TS}{D:Ends}{σ:St}{H:Hp}(Pv:Nat->St->Hp->Prop)(h0:Pv 0 σ H)
  (hs:∀i σ H,i<n->Pv i σ H->g (.int (lo+i)) σ H fun σ2 H2=>tb { D with nx:=Pv (i+1),ct:=Pv (i+1),bk:=D.nx } σ2 H2) (hd:∀σ H,Pv n σ H->D.nx σ H):
  ∃W:Nat->Nat->St->Hp->Prop,(∃m,W 0 m σ H)/\∀i m σ H,W i m σ H->
   ((Itr lo n).stop i H/\D.nx σ H)∨((Itr lo n).go i H/\∃N:St->Hp->Prop,(∀σ' H',N σ' H'->∃m',m' < m/\W (i+1) m' σ' H')/\∀x H',(Itr lo n).yld i H x H'->g x σ H' fun σ2 H2=>tb { D with nx:=N,ct:=N,bk:=D.nx } σ2 H2):=by
 refine⟨fun i m σ H=>m=n-i/\i<=n/\Pv i σ H,⟨n,by simp,Nat.zero_le _,h0⟩,?_⟩
 rintro i m σ H ⟨rfl,hi,p⟩
 by_cases hlt:i<n
 ·refine .inr ⟨hlt,Pv (i+1),fun σ' H' p'=>⟨n-(i+1),by omega,rfl,hlt,p'⟩,fun x H' y=>?_⟩
  obtain⟨e,y⟩:=y;subst e y;exact hs i σ _ hlt p
 ·have e:i=n:=by omega
  subst e;exact .inl ⟨Nat.le_refl _,hd σ H p⟩
noncomputable abbrev R2:=V->V->Hp->VK->Prop
noncomputable def OpR(X:Cx)(f:Value->Value->Sem Value)(r:R2):Prop:=
 ∀(Kp:List (Addr×Obj)) (s:Shared) (σ:St) (H:Hp) (x y:V) (v u:Value) (Q:VK),Inv X Kp σ H s->jS x v->jS y u->r x y H Q->
  wpAny (model X.prog X.w) X.A (f v u) (EP X Kp σ Q) X.xe s
noncomputable def UnR(X:Cx)(f:Value->Sem Value)(r:V->Hp->VK->Prop):Prop:=
 ∀(Kp:List (Addr×Obj)) (s:Shared) (σ:St) (H:Hp) (x:V) (v:Value) (Q:VK),Inv X Kp σ H s->jS x v->r x H Q->
  wpAny (model X.prog X.w) X.A (f v) (EP X Kp σ Q) X.xe s
noncomputable def zS(X:Cx)(f:Value)(r:List V->Hp->VK->Prop):Prop:=
 ∀(Kp:List (Addr×Obj)) (s:Shared) (σ:St) (H:Hp) (xs:List V) (us:List Value) (Q:VK),Inv X Kp σ H s->jM xs us->r xs H Q->
  wpAny (model X.prog X.w) X.A (call f us) (EP X Kp σ Q) X.xe s
noncomputable def tOp(r:R2)(ta tb:TE):TE:=fun σ H Q=>ta σ H fun x H1=>tb σ H1 fun y H2=>r x y H2 Q
noncomputable def tUn(r:V->Hp->VK->Prop)(ta:TE):TE:=fun σ H Q=>ta σ H fun x H1=>r x H1 Q
noncomputable def rI(C:Int->Int->Prop)(g:Int->Int->V):R2:=fun x y H Q=>∃i j,x= .int i/\y= .int j/\C i j/\Q (g i j) H
noncomputable def rI0(g:Int->Int->V):R2:=fun x y H Q=>∃i j,x= .int i/\y= .int j/\Q (g i j) H
noncomputable def rU(g:Int->V):V->Hp->VK->Prop:=fun x H Q=>∃i,x= .int i/\Q (g i) H
section
variable {X:Cx}{a b c:Expr}{ta tb tc:TE}{pos:Pos}
theorem ap9(ha:PE X a ta)(hb:PE X b tb){Kp:List (Addr×Obj)}{s:Shared}{σ:St}{H:Hp}{R:V->V->Hp->Prop}(I:Inv X Kp σ H s)
  (h:ta σ H fun x H1=>tb σ H1 fun y H2=>R x y H2) {Q:Value->SP0} {f:Value->Value->Sem Value}
  (hf:∀v u s2 x y H2,Inv X Kp σ H2 s2->jS x v->jS y u->R x y H2->wpAny (model X.prog X.w) X.A (f v u) Q X.xe s2):
  wpAny (model X.prog X.w) X.A (eval a X.env) (fun v s₁=>wpAny (model X.prog X.w) X.A (eval b X.env) (fun u s₂=>wpAny (model X.prog X.w) X.A (f v u) Q X.xe s₂) X.xe s₁) X.xe s:=by
 refine thn (ha Kp s σ H _ I h) fun v s1 ⟨x,H1,I1,r1,q1⟩=>?_;refine thn (hb Kp s1 σ H1 _ I1 q1) fun u s2 ⟨y,H2,I2,r2,q2⟩=>?_;exact hf v u s2 x y H2 I2 r1 r2 q2
theorem apy{op:Operator}{r:R2}(ho:OpR X (binaryOp op) r)(ha:PE X a ta)(hb:PE X b tb):PE X (.BinOp a op b pos) (tOp r ta tb):=by
 intro Kp s σ H Q I h;exact wpAny_BinOp (ap9 ha hb I h fun v u s2 x y H2 I2 rx ry q=>ho Kp s2 σ H2 x y v u Q I2 rx ry q)
theorem arw{op:UnaryOp}{r:V->Hp->VK->Prop}(ho:UnR X (unaryOp op) r)(ha:PE X a ta):PE X (.UnaryOp op a pos) (tUn r ta):=by
 intro Kp s σ H Q I h;exact UnaryOp_ (thn (ha Kp s σ H _ I h) fun v s1 ⟨x,H1,I1,r1,q1⟩=>ho Kp s1 σ H1 x v Q I1 r1 q1)
theorem opI{f:Value->Value->Sem Value}{C:Int->Int->Prop}{g:Int->Int->Int}
  (rule:∀(i j:Int) (t u:Tok) (s:Shared) (Q:Value->SP0) (E:Value->SP0),C i j->Q (.int (g i j) s.toks) { s with toks:=s.toks+1 }->wpAny (model X.prog X.w) X.A (f (.int i t) (.int j u)) Q E s):
  OpR X f (rI C fun i j=> .int (g i j)):=by
 intro Kp s σ H x y v u Q I rx ry h;obtain⟨i,j,rfl,rfl,hc,q⟩:=h;obtain⟨t,rfl⟩:=rx;obtain⟨t',rfl⟩:=ry;exact rule i j t t' s _ _ hc ⟨.int (g i j),H,I.tok _,⟨_,rfl⟩,q⟩
theorem arx{f:Value->Value->Sem Value}{g:Int->Int->Int}
  (rule:∀(i j:Int) (t u:Tok) (s:Shared) (Q:Value->SP0) (E:Value->SP0),Q (.int (g i j) s.toks) { s with toks:=s.toks+1 }->wpAny (model X.prog X.w) X.A (f (.int i t) (.int j u)) Q E s):
  OpR X f (rI0 fun i j=> .int (g i j)):=by
 intro Kp s σ H x y v u Q I rx ry h;obtain⟨i,j,rfl,rfl,q⟩:=h;obtain⟨t,rfl⟩:=rx;obtain⟨t',rfl⟩:=ry;exact rule i j t t' s _ _ ⟨.int (g i j),H,I.tok _,⟨_,rfl⟩,q⟩
theorem aqa{f:Value->Value->Sem Value}{g:Int->Int->Bool}
  (rule:∀(i j:Int) (t u:Tok) (s:Shared) (Q:Value->SP0) (E:Value->SP0),Q (.bool (g i j)) s->wpAny (model X.prog X.w) X.A (f (.int i t) (.int j u)) Q E s):
  OpR X f (rI0 fun i j=> .bl (g i j)):=by
 intro Kp s σ H x y v u Q I rx ry h;obtain⟨i,j,rfl,rfl,q⟩:=h;obtain⟨t,rfl⟩:=rx;obtain⟨t',rfl⟩:=ry;exact rule i j t t' s _ _ ⟨.bl (g i j),H,I,rfl,q⟩
noncomputable def asF(i j:Int):Prop:=0<j/\j<1073741824
noncomputable def aqb(i j:Int):Prop:=(-(2 ^ 64)<i/\i<2 ^ 64)∨(-(2 ^ 64)<j/\j<2 ^ 64)
theorem aqb.ok{i j:Int}(h:aqb i j):IntMulOk i j:=by
 rcases h with ⟨h1,h2⟩ | ⟨h1,h2⟩
 ·exact .of_left (intBits_le_64 h1 h2)
 ·exact .of_right (intBits_le_64 h1 h2)
theorem aqc:OpR X (binaryOp .Add) (rI0 fun i j=> .int (i+j)):=arx fun _ _ _ _ _ _ _ q=>add_int q
theorem aqd:OpR X (binaryOp .Sub) (rI0 fun i j=> .int (i-j)):=arx fun _ _ _ _ _ _ _ q=>sub_int q
theorem aqe:OpR X (binaryOp .Mult) (rI aqb fun i j=> .int (i*j)):=opI fun _ _ _ _ _ _ _ hc q=>mul_int q hc.ok
theorem anH:OpR X (binaryOp .FloorDiv) (rI asF fun i j=> .int (i / j)):=opI fun i j _ _ _ _ _ hc q=>by
 have h1:(0:Int)<j:=hc.1;have h2:j<1073741824:=hc.2;exact floordiv_int (by omega) (by rw[Int.fdiv_eq_ediv_of_nonneg i (by omega)];exact q) (.inl (PyProof.noPylong_small (by omega)))
theorem aqf:OpR X (binaryOp .Mod) (rI (fun _ j=>0<j) fun i j=> .int (i % j)):=opI fun i j _ _ _ _ _ hc q=>by
 have h1:(0:Int)<j:=hc;exact mod_int' (by omega) (by rw[Int.fmod_eq_emod_of_nonneg i (by omega)];exact q)
theorem unI{f:Value->Sem Value}{g:Int->Int}
  (rule:∀(i:Int) (t:Tok) (s:Shared) (Q:Value->SP0) (E:Value->SP0),Q (.int (g i) s.toks) { s with toks:=s.toks+1 }->wpAny (model X.prog X.w) X.A (f (.int i t)) Q E s):
  UnR X f (rU fun i=> .int (g i)):=by
 intro Kp s σ H x v Q I rx h;obtain⟨i,rfl,q⟩:=h;obtain⟨t,rfl⟩:=rx;exact rule i t s _ _ ⟨.int (g i),H,I.tok _,⟨_,rfl⟩,q⟩
theorem aqg:UnR X (unaryOp .USub) (rU fun i=> .int (-i)):=unI fun _ _ _ _ _ q=>neg_int q
end
section
variable {X:Cx}{a b c:Expr}{ta tb tc:TE}{pos:Pos}
theorem aqh{Kp:List (Addr×Obj)}{σ:St}{H:Hp}{s:Shared}{Q:VK}{k k':Bool}(I:Inv X Kp σ H s)(q:Q (.bl k) H)(e:k=k'):EP X Kp σ Q (.bool k') s:=by
 subst e;exact⟨.bl k,H,I,rfl,q⟩
theorem ary:OpR X (compareOp .Lt) (rI0 fun i j=> .bl (decide (i<j))):=aqa fun _ _ _ _ _ _ _ q=>lt_int q
theorem arz:OpR X (compareOp .LtE) (rI0 fun i j=> .bl (decide (i<=j))):=aqa fun _ _ _ _ _ _ _ q=>le_int q
theorem arA:OpR X (compareOp .Gt) (rI0 fun i j=> .bl (decide (j<i))):=aqa fun _ _ _ _ _ _ _ q=>gt_int q
theorem anI:OpR X (compareOp .IsNot) (fun x y H Q=>y= .non/\Q (.bl (!decide (x= .non))) H):=by
 intro Kp s σ H x y v u Q I rx ry h;obtain⟨rfl,q⟩:=h;cases ry;refine isnot_none_gen (aqh I q ?_)
 cases x<;>first
  | (cases rx;rfl)
  | (obtain⟨t,rfl⟩:=rx;rfl)
theorem OpR.or{f:Value->Value->Sem Value}{r r':R2}(h:OpR X f r)(h':OpR X f r'):OpR X f (fun x y H Q=>r x y H Q∨r' x y H Q):=by
 intro Kp s σ H x y v u Q I rx ry q;rcases q with q | q
 ·exact h Kp s σ H x y v u Q I rx ry q
 ·exact h' Kp s σ H x y v u Q I rx ry q
theorem ae7(b:Expr){op:CmpOp}(h:op ≠ .In:=by decide)(h2:op ≠ .NotIn:=by decide):behindInMarks op b=false:=by
 have e1:(op==CmpOp.In)=false:=by cases op<;>first|rfl|exact absurd rfl h
 have e2:(op==CmpOp.NotIn)=false:=by cases op<;>first|rfl|exact absurd rfl h2
 cases b<;>simp[behindInMarks,e1,e2]
theorem anJ{op:CmpOp}{r:R2}(ho:OpR X (compareOp op) r)(ha:PE X a ta)(hb:PE X b tb)(hm:behindInMarks op b=false):PE X (.Compare a [op] [b] pos) (tOp r ta tb):=by
 intro Kp s σ H Q I h;exact wpAny_Compare1 (ap9 ha hb I h fun v u s2 x y H2 I2 rx ry q=>ho Kp s2 σ H2 x y v u Q I2 rx ry q) hm
noncomputable def apz(t:TE):TT:=fun σ H Q=>t σ H fun x H'=>∃k,x= .bl k/\Q k H'
theorem anK{op:CmpOp}{r:R2}(ho:OpR X (compareOp op) r)(ha:PE X a ta)(hb:PE X b tb)(hm:behindInMarks op b=false):PT X (.Compare a [op] [b] pos) (apz (tOp r ta tb)):=by
 intro Kp s σ H Q I h
 refine wpAny_isTrue_Compare1 (thn (ha Kp s σ H _ I h) fun v s1 ⟨x,H1,I1,r1,q1⟩=>thn (hb Kp s1 σ H1 _ I1 q1) fun u s2 ⟨y,H2,I2,r2,q2⟩=>
  thn (ho Kp s2 σ H2 x y v u _ I2 r1 r2 q2) fun c s3 ⟨z,H3,I3,r3,k,e,q3⟩=>?_) hm
 subst e;cases r3;exact wpAny_truthy_bool ⟨H3,I3,q3⟩
noncomputable def ahV(r r':R2)(ta tb tc:TE):TE:=fun σ H Q=>ta σ H fun x H1=>tb σ H1 fun y H2=>r x y H2 fun z H3=>∃k,z= .bl k/\
 (if k=true then tc σ H3 fun w' H4=>r' y w' H4 Q else Q (.bl false) H3)
theorem ak6{op op':CmpOp}{r r':R2}(ho:OpR X (compareOp op) r)(ho':OpR X (compareOp op') r')(ha:PE X a ta)(hb:PE X b tb)(hc:PE X c tc)
  (hm:lastMarks [op,op'] [b,c]=false:=by with_unfolding_all rfl):PE X (.Compare a [op,op'] [b,c] pos) (ahV r r' ta tb tc):=by
 intro Kp s σ H Q I h
 refine Compare_chain (thn (ha Kp s σ H _ I h) fun v s1 ⟨x,H1,I1,r1,q1⟩=>chain_link (thn (hb Kp s1 σ H1 _ I1 q1) fun u s2 ⟨y,H2,I2,r2,q2⟩=>
  thn (ho Kp s2 σ H2 x y v u _ I2 r1 r2 q2) fun d s3 ⟨z,H3,I3,r3,k,e,q3⟩=>?_)) hm
 subst e;cases r3;refine wpAny_truthy_bool ?_;cases k with
 |false=>exact ite_ff ⟨.bl false,H3,I3,rfl,q3⟩
 |true=>exact ite_tt (chain_last (thn (hc Kp s3 σ H3 _ I3 q3) fun w' s4 ⟨z',H4,I4,r4,q4⟩=>ho' Kp s4 σ H4 y z' u w' Q I4 r2 r4 q4))
theorem ak7{op op':CmpOp}{r r':R2}(ho:OpR X (compareOp op) r)(ho':OpR X (compareOp op') r')(ha:PE X a ta)(hb:PE X b tb)(hc:PE X c tc)
  (hm:lastMarks [op,op'] [b,c]=false:=by with_unfolding_all rfl):PT X (.Compare a [op,op'] [b,c] pos) (apz (ahV r r' ta tb tc)):=by
 intro Kp s σ H Q I h
 refine isTrue_chain (thn (ha Kp s σ H _ I h) fun v s1 ⟨x,H1,I1,r1,q1⟩=>test_link (thn (hb Kp s1 σ H1 _ I1 q1) fun u s2 ⟨y,H2,I2,r2,q2⟩=>
  thn (ho Kp s2 σ H2 x y v u _ I2 r1 r2 q2) fun d s3 ⟨z,H3,I3,r3,k,e,q3⟩=>?_)) hm
 subst e;cases r3;refine wpAny_truthy_bool ?_;cases k with
 | false=>
  obtain⟨k',e',q'⟩:=q3;cases e';exact ite_ff ⟨H3,I3,q'⟩
 | true=>
  refine ite_tt (test_last (thn (hc Kp s3 σ H3 _ I3 q3) fun w' s4 ⟨z',H4,I4,r4,q4⟩=>thn (ho' Kp s4 σ H4 y z' u w' _ I4 r2 r4 q4) fun d' s5 ⟨z2,H5,I5,r5,k2,e2,q5⟩=>?_));subst e2;cases r5;exact wpAny_truthy_bool ⟨H5,I5,q5⟩
theorem abK:(sizeLine:Nat)<2 ^ 63:=by rw[sizeLine_eq];decide
theorem Zs{x:V}{us:List Value}(r:jM [x] us):∃u,us=[u]/\jS x u:=by
 cases r with
 |cons r1 r2=>cases r2;exact⟨_,rfl,r1⟩
theorem aiG{x y:V}{us:List Value}(r:jM [x,y] us):∃u w',us=[u,w']/\jS x u/\jS y w':=by
 cases r with
 | cons r1 r2=>
  cases r2 with
  |cons r3 r4=>cases r4;exact⟨_,_,rfl,r1,r3⟩
theorem ajK(hc:X.calm=true):zS X (.builtin "max") (fun xs H Q=>∃i j,xs=[.int i,.int j]/\Q (.int (if j>i then j else i)) H):=by
 intro Kp s σ H xs us Q I r h;obtain⟨i,j,rfl,q⟩:=h;obtain⟨u,w',rfl,⟨t,rfl⟩,⟨t',rfl⟩⟩:=aiG r;refine max_two_ints (I.ok.hd hc) fun h' tk k=>⟨_,H,I.kept k,?_,q⟩;by_cases hj:j>i
 ·rw[if_pos hj,if_pos hj];exact⟨_,rfl⟩
 ·rw[if_neg hj,if_neg hj];exact⟨_,rfl⟩
theorem ajL(hc:X.calm=true):zS X (.builtin "min") (fun xs H Q=>∃i j,xs=[.int i,.int j]/\Q (.int (if j<i then j else i)) H):=by
 intro Kp s σ H xs us Q I r h;obtain⟨i,j,rfl,q⟩:=h;obtain⟨u,w',rfl,⟨t,rfl⟩,⟨t',rfl⟩⟩:=aiG r;refine min_two_ints (I.ok.hd hc) fun h' tk k=>⟨_,H,I.kept k,?_,q⟩;by_cases hj:j<i
 ·rw[if_pos hj,if_pos hj];exact⟨_,rfl⟩
 ·rw[if_neg hj,if_neg hj];exact⟨_,rfl⟩
theorem ajM:zS X (.type "int") (fun xs H Q=>(∃i,xs=[.int i]/\Q (.int i) H)∨∃k,xs=[.bl k]/\Q (.int (if k then 1 else 0)) H):=by
 intro Kp s σ H xs us Q I r h;rcases h with ⟨i,rfl,q⟩ | ⟨k,rfl,q⟩
 ·obtain⟨u,rfl,t,rfl⟩:=Zs r
  exact call_int_int ⟨.int i,H,I,⟨_,rfl⟩,q⟩
 ·obtain⟨u,rfl,r1⟩:=Zs r
  cases r1;exact call_int_bool ⟨.int (if k then 1 else 0),H,I.tok _,⟨_,rfl⟩,q⟩
end
structure ObjM(h:Heap)(x dx C:Addr)(mA:SV):Prop where
 obj:h.get? x=some (PySem.W.instObj C dx)
 ns:h.Ns1 dx mA
 ne:dx≠x
section
variable {prog:Program}{w:World}{A:Around}{E:Value->SP0}{s:Shared}{K:Fg}{x dx C f:Addr}{mA:SV}{name:Str}{v:Value}
end
theorem acl.some_of{v:V}{o:Option Value}(r:acl (some v) o):∃u,o=some u/\jS v u:=by
 cases o with
 |none=>exact(show False from r).elim
 |some u=>exact⟨u,rfl,r⟩
section
variable {P:Program}{w:World}{H H':Hp}{h h':Heap}{a C dx:Addr}{fs fs':List (Str×V)}
end
structure Cls(K:Fg)(C:Addr):Prop where
 pg:PySem.W.plainGet K C Str.empty=true
 hd:PySem.W.hasDictIn K C=true
 po:PySem.W.plainOver K C=true
 sa:PySem.W.findIn K (.ref C) "__setattr__"=some (some (.builtin "object.__setattr__"))
theorem Cls.get{K:Fg}{C:Addr}(c:Cls K C)(f:Str):PySem.W.plainGet K C f=true:=c.pg
structure Con(K:Fg)(C:Addr)(f:Str)(v:V)(u:Value):Prop where
 at_:PySem.W.findIn K (.ref C) f=some (some u)
 rel:jS v u
 get:PySem.W.specialIn K u "__get__"=some none
 cp:PySem.W.copiedNames.contains f=false
structure Meth(K:Fg)(C:Addr)(m:Str)(f:Addr):Prop where
 at_:PySem.W.findIn K (.ref C) m=some (some (.ref f))
 fn:PySem.W.isFn K (.ref f)=true
 kp:PySem.W.keepIn K (.ref f)=true
section
variable {X:Cx}{Kp:List (Addr×Obj)}{σ:St}{H:Hp}{s:Shared}{a C dx:Addr}{fs:List (Str×V)}{f:Str}{v:V}{A:Around}{E:Value->SP0}
end
section
variable {X:Cx}{o e value:Expr}{f:Str}{pos pos' tpos:Pos}{ta tv:TE}
end
section
variable {X:Cx}{Kp:List (Addr×Obj)}{σ:St}{H:Hp}{s:Shared}{A:Around}{E:Value->SP0}{Q:Value->SP0}{c:Value}{b:Bool}
inductive TyOf (K:Fg) (H:Hp):V->Value->Prop where
 |non:TyOf K H .non (.type "NoneType")
 |bl (x:Bool):TyOf K H (.bl x) (.type "bool")
 |int (i:Int):TyOf K H (.int i) (.type "int")
 |str (x:Str):TyOf K H (.str x) (.type "str")
 |flt (x:UInt64):TyOf K H (.flt x) (.type "float")
 |lst {a:Addr} {xs:List V} (e:H a=some (.lst xs)):TyOf K H (.ref a) (.type "list")
 |frz {a:Addr} {o:Obj} {xs:List V} (e:H a=some (.frz o (.lst xs))):TyOf K H (.ref a) (.type "list")
 |tup {a:Addr} {xs:List V} (e:H a=some (.tup xs)):TyOf K H (.ref a) (.type "tuple")
 |dK {a:Addr} {kvs:List (Key×V)} (e:H a=some (.dK kvs)):TyOf K H (.ref a) (.type "dict")
 |dT {a:Addr} {kvs:List (List Key×V)} (e:H a=some (.dT kvs)):TyOf K H (.ref a) (.type "dict")
 | ins {a C dx:Addr} {fs:List (Str×V)} (e:H a=some (.ins C dx fs)) (cl:Cls K C) (ha:PySem.W.findIn K (.ref C) "__class__"=some (some (.builtin "object.__class__")))
   (hn:PySem.W.specialIn K (.builtin "object.__class__") "__get__"=some (some (.builtin "getset_descriptor.__get__"))) (htk:PySem.W.takesIn K (.builtin "object.__class__")=some true)
   (hm:PySem.W.mroIn K C (.type "object")=some true):TyOf K H (.ref a) (.ref C)
end
structure Room(k:Nat)(A:Around):Prop where
 hd:A.handled=none
 dp:A.depth+3*k+5<recursionLimit
 un:A.units+16*k+200<cLine
theorem Room.mono{j k:Nat}{A:Around}(r:Room k A)(h:j<=k):Room j A:=⟨r.hd,by have:=r.dp;omega,by have:=r.un;omega⟩
theorem Room.deeper{k:Nat}{A:Around}(r:Room (k+1) A)(env:Env):Room k (A.deeper env):=
 ⟨r.hd,by have:=r.dp;show A.depth+1+3*k+5<_;omega,by have:=r.un;show A.units+3+16*k+200<_;omega⟩
theorem Room.in1{k:Nat}{A:Around}(r:Room (k+1) A):Room k A.in1:=
 ⟨r.hd,by have:=r.dp;show A.depth+3*k+5<_;omega,by have:=r.un;show A.units+1+16*k+200<_;omega⟩
theorem Room.depth{k:Nat}{A:Around}(r:Room k A):A.depth<recursionLimit:=by have:=r.dp;omega
theorem Room.units{k:Nat}{A:Around}(r:Room k A):A.units+64<cLine:=by have:=r.un;omega
noncomputable def anL:TA:=fun _ H Q=>Q [] H
noncomputable def aiH(ta:TE)(tr:TA):TA:=fun σ H Q=>ta σ H fun x H1=>tr σ H1 fun xs H2=>Q (x::xs) H2
section
variable {X:Cx}{e:Expr}{es:List Expr}{te:TE}{t:TA}{pos:Pos}
theorem aaF{α:Type}:∀(us:List α),us.length=1->∃a,us=[a]
 | [a],_=>⟨a,rfl⟩
theorem acm{α:Type}(us:List α)(h:us.length=2):∃a b,us=[a,b]:=by
 cases us with
 |nil=>cases h
 |cons a r=>obtain⟨b,rfl⟩:=aaF r (Nat.succ.inj h);exact⟨a,b,rfl⟩
theorem ad8{α:Type}(us:List α)(h:us.length=3):∃a b c,us=[a,b,c]:=by
 cases us with
 |nil=>cases h
 |cons a r=>obtain⟨b,c,rfl⟩:=acm r (Nat.succ.inj h);exact⟨a,b,c,rfl⟩
theorem anM{α:Type}(us:List α)(h:us.length=4):∃a b c d,us=[a,b,c,d]:=by
 cases us with
 |nil=>cases h
 |cons a r=>obtain⟨b,c,d,rfl⟩:=ad8 r (Nat.succ.inj h);exact⟨a,b,c,d,rfl⟩
theorem asG{α:Type}(us:List α)(h:us.length=5):∃a b c d e,us=[a,b,c,d,e]:=by
 cases us with
 |nil=>cases h
 |cons a r=>obtain⟨b,c,d,e,rfl⟩:=anM r (Nat.succ.inj h);exact⟨a,b,c,d,e,rfl⟩
theorem Jk:PA X [] anL:=fun _ _ _ _ H Q I h=>Calls.spliced_nil ⟨[],H,I,.nil,h⟩
theorem qL(ha:PE X e te)(hr:PA X es t)(hs:starEach (e::es) X.env=(false,eval e X.env)::starEach es X.env:=by rfl):PA X (e::es) (aiH te t):=by
 intro pos Kp s σ H Q I h;rw[hs];show wpAny _ _ (spliced ((false,eval e X.env)::backTo pos (starEach es X.env))) _ _ s;refine Calls.spliced_cons (thn (ha Kp s σ H _ I h) fun u s1 ⟨x,H1,I1,r1,q1⟩=>?_);exact thn (hr pos Kp s1 σ H1 _ I1 q1) fun us s2 ⟨xs,H2,I2,r2,q2⟩=>⟨x::xs,H2,I2,.cons r1 r2,q2⟩
noncomputable def asH(t:TA):TE:=fun σ H Q=>t σ H fun xs H1=>xs.length<=sizeLine/\∀p,H1 p=none->Q (.ref p) (upd H1 p (.tup xs))
noncomputable def asI(t:TA):TE:=fun σ H Q=>t σ H fun xs H1=>xs.length<=sizeLine/\∀p,H1 p=none->Q (.ref p) (upd H1 p (.lst xs))
theorem ak8{x1}(h:PA X es t):PE X (.Tuple es x1 pos) (asH t):=by
 intro Kp s σ H Q I hq;refine wpAny_Tuple_spliced (thn (h pos Kp s σ H _ I hq) fun us s1 ⟨xs,H1,I1,r,z,q⟩=>⟨by rw[←r.length];exact z,?_⟩);have hf:H1 s1.heap.objs.size=none:=I1.hok.fresh (Nat.le_refl _);refine⟨.ref s1.heap.objs.size,upd H1 s1.heap.objs.size (.tup xs),I1.laid (t':=s1.toks) (fun b u e=>Heap.get?_push_of_some _ e) (Nat.le_refl _) ?_,rfl,q _ hf⟩;exact⟨z,us,r,⟨_,Heap.get?_push_size _ rfl,rfl,_,rfl⟩⟩
theorem ae8(h:PA X es t):PE X (.List es pos) (asI t):=by
 intro Kp s σ H Q I hq;refine wpAny_List_spliced (thn (h pos Kp s σ H _ I hq) fun us s1 ⟨xs,H1,I1,r,z,q⟩=>⟨by rw[←r.length];exact z,?_⟩);have hf:H1 s1.heap.objs.size=none:=I1.hok.fresh (Nat.le_refl _);refine⟨.ref s1.heap.objs.size,upd H1 s1.heap.objs.size (.lst xs),I1.laid (t':=s1.toks) (fun b u e=>Heap.get?_push_of_some _ e) (Nat.le_refl _) ?_,rfl,q _ hf⟩;exact⟨z,us,0,r,Heap.get?_push_size _ rfl⟩
end
noncomputable abbrev Sp:=List V->Hp->VK->XK->Prop
noncomputable abbrev CXT:=List Env->Hp->Shared->XK->Value->SP0
structure Env0(P:Program)(w:World)(K:Fg)(mg:SV)(base:Heap)(A:Around)(Ko:List Env)(s:Shared)(H:Hp):Prop where
 frames:A.frames=some Ko
 mod:Mod K mg base
 bs:∀b o,base.get? b=some o->s.heap.get? b=some o/\H b=none
 bsz:base.objs.size<=s.heap.objs.size
 funs:s.heap.FunFrames base Ko
 frf:∀b∈frs Ko,H b=none
 hok:HOk P w H s.heap
 bare:AllBare s.gens
noncomputable def CE(Ko:List Env)(P:Program)(w:World)(H:Hp)(s:Shared)(Q:VK)(u:Value)(s':Shared):Prop:=
 ∃v H',s'.os=s.os/\AllBare s'.gens/\Un (frs Ko) [] H H' s.heap s'.heap/\HOk P w H' s'.heap/\jS v u/\Q v H'
noncomputable def CR(CX:CXT)(Ko:List Env)(P:Program)(w:World)(H:Hp)(s:Shared)(Q:VK)(E:XK)(r:Result)(s':Shared):Prop:=
 match r with
 |.ok (.ret u)=>CE Ko P w H s Q u s'
 |.ok _=>False
 |.error e=>CX Ko H s E e s'
structure FnOk(P:Program)(w:World)(K:Fg)(mg:SV)(base:Heap)(CX:CXT)(k:Nat)(f:Addr)(fd:FuncData)(ps:List Str)(sp:Sp):Prop where
 len:∀vs H Q E,sp vs H Q E->vs.length=ps.length
 run:∀(A:Around) (Ko:List Env) (s:Shared) (H:Hp) (args:Args) (us:List Value) (vs:List V) (Q:VK) (E:XK),Room k A->Env0 P w K mg base A Ko s H->BindsTo s fd args (ps.zip us)->jM vs us->sp vs H Q E->
  codeAny (model P w) A (.call (.ref f) args) (CR CX Ko P w H s Q E) s
theorem FnOk.mono{P:Program}{w:World}{K:Fg}{mg:SV}{base:Heap}{CX:CXT}{j k:Nat}{f:Addr}{fd:FuncData}{ps:List Str}{sp:Sp}(F:FnOk P w K mg base CX j f fd ps sp)(h:j<=k):
  FnOk P w K mg base CX k f fd ps sp:=⟨F.len,fun A Ko s H args us vs Q E hr=>F.run A Ko s H args us vs Q E (hr.mono h)⟩
theorem FnOk.imp{P:Program}{w:World}{K:Fg}{mg:SV}{base:Heap}{CX:CXT}{k:Nat}{f:Addr}{fd:FuncData}{ps:List Str}{sp sp':Sp}(F:FnOk P w K mg base CX k f fd ps sp)
  (h:∀vs H Q E,sp' vs H Q E->sp vs H Q E):FnOk P w K mg base CX k f fd ps sp':=
 ⟨fun vs H Q E q=>F.len vs H Q E (h _ _ _ _ q),fun A Ko s H args us vs Q E hr he hb hv hs=>F.run A Ko s H args us vs Q E hr he hb hv (h _ _ _ _ hs)⟩
theorem Env0.in1{P:Program}{w:World}{K:Fg}{mg:SV}{base:Heap}{A:Around}{Ko:List Env}{s:Shared}{H:Hp}(e:Env0 P w K mg base A Ko s H):
  Env0 P w K mg base A.in1 Ko s H:=⟨e.frames,e.mod,e.bs,e.bsz,e.funs,e.frf,e.hok,e.bare⟩
section
variable {X:Cx}{Kp:List (Addr×Obj)}{σ:St}{H:Hp}{s s':Shared}
theorem Inv.env0(I:Inv X Kp σ H s):Env0 X.prog X.w X.K X.mg X.base X.A X.stack s H:=
 ⟨I.ok.frames,I.ok.mod,I.bs,Nat.le_trans I.ok.bsz I.sz,I.stack,I.stkFree,I.hok,I.bare⟩
theorem Inv.after{Q:VK}{u:Value}(I:Inv X Kp σ H s)(h:CE X.stack X.prog X.w H s Q u s'):EP X Kp σ Q u s':=by
 obtain⟨v,H',os,bare,un,hok,r,q⟩:=h;obtain⟨hh,g,d,t,os'⟩:=s';obtain rfl:os'=s.os:=os;exact⟨v,H',I.call (h':=hh) (g':=g) (d':=d) (t':=t) (ch:=[]) un hok bare (fun b z=>absurd z (by simp)),r,q⟩
end
noncomputable def apA(sp:Sp)(dvs:List V)(E:XK)(t:TA):TE:=fun σ H Q=>t σ H fun vs H1=>sp (vs++dvs) H1 Q E
noncomputable def aaW(K:Fg)(fd:FuncData)(ps:List Str)(ds:List Value):Prop:=
 ∀(s:Shared) (us:List Value),K.In s.heap->(us++ds).length=ps.length->BindsTo s fd ⟨us,[]⟩ (ps.zip (us++ds))
theorem aaW.all{K:Fg}{fd:FuncData}{ps:List Str}(h:∀us:List Value,us.length=ps.length->bindArgs fd ⟨us,[]⟩=pure (ps.zip us)):aaW K fd ps []:=fun s us _ hl=>by
 rw[List.append_nil]at hl ⊢;exact .of_eq (h us hl)
noncomputable def ahW(CX:CXT)(X:Cx)(E:XK):Prop:=∀(Kp:List (Addr×Obj)) (σ:St) (H:Hp) (s:Shared) (e:Value) (s':Shared),Inv X Kp σ H s->CX X.stack H s E e s'->X.xe e s'
section
variable {X:Cx}{CX:CXT}{k:Nat}{f C:Addr}{fd:FuncData}{ps:List Str}{sp:Sp}{dvs:List V}{ds:List Value}{E:XK}{x m:Str}{p pos apos:Pos}{e o:Expr}{es:List Expr}{ta:TE}{t:TA}
theorem ak9{Kp:List (Addr×Obj)}{σ:St}{H:Hp}{s:Shared}{Q:VK}{us:List Value}{vs:List V}(F:FnOk X.prog X.w X.K X.mg X.base CX k f fd ps sp)(hr:Room k X.A)(hb:aaW X.K fd ps ds)(hd:jM dvs ds)(hx:ahW CX X E)
  (I:Inv X Kp σ H s) (r:jM vs us) (h:sp (vs++dvs) H Q E):wpAny (model X.prog X.w) X.A (call (.ref f) us) (EP X Kp σ Q) X.xe s:=by
 have r2:jM (vs++dvs) (us++ds):=r.append hd;have hl:(us++ds).length=ps.length:=by rw[←r2.length];exact F.len _ _ _ _ h
 refine wpAny_call (codeAny_mono (F.run X.A X.stack s H ⟨us,[]⟩ (us++ds) (vs++dvs) Q E hr I.env0 (hb s us I.kIn hl) r2 h) fun r s' hq=>?_);cases r with
 |error e=>exact hx Kp σ H s e s' I hq
 | ok fl=>
  cases fl with
  |ret u=>exact I.after hq
  |next=>exact False.elim hq
  |brk=>exact False.elim hq
  |cont=>exact False.elim hq
theorem anN(F:FnOk X.prog X.w X.K X.mg X.base CX k f fd ps sp)(hr:Room k X.A)(hg:Gl X x)(hm:X.mg x=some (.ref f))(hk:PySem.W.keepIn X.K (.ref f)=true)(hb:aaW X.K fd ps ds)(hd:jM dvs ds)(hx:ahW CX X E)
  (ha:PA X (e::es) t) (hdb:(x==("__debug__":Str))=false:=by decide) (he:starEach (e::es) X.env=(false,eval e X.env)::starEach es X.env:=by rfl) (hpl:(backTo pos (starEach es X.env)).any (·.1)=false:=by rfl):
  PE X (.Call (.Name x p) (e::es) [] pos) (apA sp dvs E t):=by
 intro Kp s σ H Q I h;refine wpAny_Call_Name_kw (aaU I hg hm ?_ hdb);refine PySem.W.callWith_K (h₀:=X.base) I.ok.mod.kin hk (thn (ha pos Kp s σ H _ I h) fun us s1 ⟨vs,H1,I1,r,q⟩=>⟨I1.kIn,?_⟩) he hpl;exact ak9 F hr hb hd hx I1 r q
structure Mk(K:Fg)(C f:Addr):Prop where
 makes:PySem.W.makesIn K C=true
 init:PySem.W.findIn K (.ref C) "__init__"=some (some (.ref f))
 fn:PySem.W.isFn K (.ref f)=true
 kp:PySem.W.keepIn K (.ref C)=true
end
noncomputable def PK(X:Cx)(kws:List Keyword)(t:TA):Prop:=
 ∀(pos:Pos) (Kp:List (Addr×Obj)) (s:Shared) (σ:St) (H:Hp) (Q:List V->Hp->Prop),Inv X Kp σ H s->t σ H Q->wpAny (model X.prog X.w) X.A (evalAll ((backToKw pos (keywordEach kws X.env)).map (·.2))) (AP X Kp σ Q) X.xe s
section
variable {X:Cx}{CX:CXT}{k:Nat}{f C:Addr}{fd:FuncData}{ps ks:List Str}{sp:Sp}{E:XK}{x m:Str}{p pos apos kpos:Pos}{e o:Expr}{es:List Expr}{kws:List Keyword}{te ta:TE}{t tk:TA}{nm:Option Str}
theorem aqi:PK X [] anL:=fun _ _ _ _ H Q I h=>wpAny_evalAll_nil ⟨[],H,I,.nil,h⟩
theorem anO(ha:PE X e te)(hr:PK X kws t):PK X (⟨nm,e,kpos⟩::kws) (aiH te t):=by
 intro pos Kp s σ H Q I h;show wpAny _ _ (evalAll ((do let v ←eval e X.env;standAt pos;pure v)::(backToKw pos (keywordEach kws X.env)).map (·.2))) _ _ s;refine wpAny_evalAll_cons (wpAny_bind (thn (ha Kp s σ H _ I h) fun u s1 ⟨x,H1,I1,r1,q1⟩=>wpAny_bind (wpAny_standAt (wpAny_pure ?_))));exact thn (hr pos Kp s1 σ H1 _ I1 q1) fun us s2 ⟨xs,H2,I2,r2,q2⟩=>⟨x::xs,H2,I2,.cons r1 r2,q2⟩
structure KBinds(K:Fg)(fd:FuncData)(ps ks:List Str)(g:List Value->List Value->List Value)(gV:List V->List V->List V):Prop where
 to:∀(s:Shared) (us ws:List Value),K.In s.heap->(g us ws).length=ps.length->BindsTo s fd ⟨us,ks.zip ws⟩ (ps.zip (g us ws))
 rel:∀{vs:List V} {us:List Value} {zs:List V} {ws:List Value},jM vs us->jM zs ws->jM (gV vs zs) (g us ws)
variable {g:List Value->List Value->List Value}{gV:List V->List V->List V}
end
structure FnScope(N P:List Str)(sc:Scope):Prop where
 kind:sc.kind= .function
 co:sc.isCoroutine=false
 gen:sc.isGenerator=false
 nd:N.Nodup
 pre:N.take P.length=P
 par:∀x∈P,sc.names.lookup x=some .local∨sc.names.lookup x=some .cell
 nofree:∀y∈sc.names,y.2 ≠ .free
theorem ael{kindOf:Str->Option NameKind}{x:Str}:∀{binds:List (Str×Value)}{m:SV},(∀v,(x,v)∉binds)->bindL kindOf binds m x=m x
 | [],_,_=>rfl
 | (n,v)::r,m,h=>by
  unfold bindL;rw[ael fun w hw=>h w (List.mem_cons_of_mem _ hw)];split
  ·have:x≠n:=by rintro rfl;exact h v List.mem_cons_self
   simp[this]
  ·rfl
theorem aem{kindOf:Str->Option NameKind}{x:Str}:∀{binds:List (Str×Value)}{m:SV},(∀v,(x,v)∉binds)->bindC kindOf binds m x=m x
 | [],_,_=>rfl
 | (n,v)::r,m,h=>by
  unfold bindC;rw[aem fun w hw=>h w (List.mem_cons_of_mem _ hw)];split
  ·rfl
  ·have:x≠n:=by rintro rfl;exact h v List.mem_cons_self
   simp[this]
theorem aen{kindOf:Str->Option NameKind}{x:Str}{v:Value}:∀{P:List Str}{vs:List Value}{i:Nat}{m:SV},P.Nodup->P[i]?=some x->vs[i]?=some v->kindOf x=some .local->
  bindL kindOf (P.zip vs) m x=some v
 | [],_,_,_,_,h,_,_=>by simp at h
 |_::_,[],_,_,_,_,h,_=>by simp at h
 | p::P,w::vs,0,m,nd,h1,h2,hk=>by
  simp at h1 h2;subst h1;subst h2;show bindL kindOf ((p,w)::P.zip vs) m p=_;unfold bindL;rw[ael fun v hv=>(List.nodup_cons.mp nd).1 (List.of_mem_zip hv).1,if_pos hk];simp
 | p::P,w::vs,i+1,m,nd,h1,h2,hk=>by
  show bindL kindOf ((p,w)::P.zip vs) m x=_;unfold bindL;exact aen (i:=i) (List.nodup_cons.mp nd).2 (by simpa using h1) (by simpa using h2) hk
theorem aeo{kindOf:Str->Option NameKind}{x:Str}{v:Value}:∀{P:List Str}{vs:List Value}{i:Nat}{m:SV},P.Nodup->P[i]?=some x->vs[i]?=some v->kindOf x≠some .local->
  bindC kindOf (P.zip vs) m x=some v
 | [],_,_,_,_,h,_,_=>by simp at h
 |_::_,[],_,_,_,_,h,_=>by simp at h
 | p::P,w::vs,0,m,nd,h1,h2,hk=>by
  simp at h1 h2;subst h1;subst h2;show bindC kindOf ((p,w)::P.zip vs) m p=_;unfold bindC;rw[aem fun v hv=>(List.nodup_cons.mp nd).1 (List.of_mem_zip hv).1,if_neg hk];simp
 | p::P,w::vs,i+1,m,nd,h1,h2,hk=>by
  show bindC kindOf ((p,w)::P.zip vs) m x=_;unfold bindC;exact aeo (i:=i) (List.nodup_cons.mp nd).2 (by simpa using h1) (by simpa using h2) hk
noncomputable def Ji(N:List Str)(vs:List V):St:=vs.map some++List.replicate (N.length-vs.length) none
noncomputable def JV(CX:CXT)(P:Program)(w:World)(K:Fg)(mg:SV)(base:Heap)(N:List Str)(qual:Str)(scope:Scope)(f:Addr)(cd:Value)(A:Around)(Ko:List Env)(s:Shared)(H:Hp)(E:XK):Cx where
 prog:=P
 w:=w
 K:=K
 mg:=mg
 base:=base
 A:=A.deeper (envOfC qual scope s.heap.objs.size f cd)
 N:=N
 s₀:=s
 H₀:=H
 env:=envOfC qual scope s.heap.objs.size f cd
 Ko:=Ko
 stack:=envOfC qual scope s.heap.objs.size f cd::Ko
 ex:=[]
 calm:=true
 fn:=fun _=>true
 pn:=[]
 xe:=fun e s'=>wpAny (model P w) (A.deeper (envOfC qual scope s.heap.objs.size f cd)) (leaving (envOfC qual scope s.heap.objs.size f cd) e) (fun _ s''=>CX Ko H s E e s'') (fun e' s''=>CX Ko H s E e' s'') s'
theorem agh{sc:Scope}{n:Nat}{x:Str}(h:sc.names.lookup x=some .cell):∃c,(cellsFrom n sc.names []).lookup x=some c:=by
 have q:=PySem.W.cellsFrom_some sc.names n [] (.inl h);exact Option.isSome_iff_exists.mp q
theorem abL{CX:CXT}{P:Program}{w:World}{K:Fg}{mg:SV}{base:Heap}{N ps:List Str}{qual:Str}{scope:Scope}{f:Addr}{cd:Value}{A:Around}{Ko:List Env}{s s1:Shared}{H:Hp}{E:XK}{us:List Value}{vs:List V}
  (S:FnScope N ps scope) (hd:A.handled=none) (e0:Env0 P w K mg base A Ko s H) (hl:vs.length=ps.length) (r:jM vs us)
  (x:InCallC s s.heap.objs.size (bindL (envOfC qual scope s.heap.objs.size f cd).kindOf (ps.zip us) fun _=>none) (cellsFrom (s.heap.objs.size+1) scope.names []) (bindC (envOfC qual scope s.heap.objs.size f cd).kindOf (ps.zip us) fun _=>none) s1):
  Inv (JV CX P w K mg base N qual scope f cd A Ko s H E) [] (Ji N vs) H s1:=by
 have hpl:ps.length<=N.length:=by have:=congrArg List.length S.pre;rw[List.length_take]at this;omega
 obtain⟨h1,tk,rfl,hk⟩:=x.done;have noA:∀b:Addr,b∉(JV CX P w K mg base N qual scope f cd A Ko s H E).ex:=fun b z=>absurd (show b∈([]:List Addr) from z) (by simp)
 refine⟨⟨e0.mod,S.kind,rfl,rfl,Nat.le_refl _,fun y z c h1 h2=>?_,fun y hy=>?_,fun y c _ h=>?_,fun _=>hd,Around.frames_deeper e0.frames,.inr ⟨rfl,rfl⟩,fun b z=>absurd z (noA b),e0.bs,e0.bsz,fun b _ _=>noA b,fun b z=>absurd z (noA b),e0.funs,e0.frf⟩,
  rfl,e0.bare,Un.kept hk,⟨_,x.toInCall.ns,fun i y v h1 h2 h3=>?_⟩,fun y c h=>⟨_,x.cell y c h⟩,e0.hok.fresh (Nat.le_refl _),fun y c h=>?_,fun p hp=>absurd (show p ∈ ([]:List (Addr × Obj)) from hp) (by simp),e0.hok.kept hk,?_⟩
 ·exact name_of_addr x.apart (PySem.mem_of_lookup h1) (PySem.mem_of_lookup h2)
 ·have hy:scope.names.lookup y=some .cell∨scope.names.lookup y=some .free:=hy
  rcases hy with hy | hy
  ·exact agh hy
  ·exact absurd rfl (S.nofree _ (PySem.mem_of_lookup hy))
 ·exact Nat.le_of_lt (x.above y c (PySem.mem_of_lookup h))
 ·have hi:i<vs.length:=by
   unfold Ji at h2;by_cases hi:i<vs.length
   ·exact hi
   ·rw[List.getElem?_append_right (by simpa using hi)]at h2
    rw[List.getElem?_replicate]at h2;split at h2<;>cases h2
  have ha:vs[i]?=some v:=by
   unfold Ji at h2;rw[List.getElem?_append_left (by simpa using hi),List.getElem?_map]at h2;cases e:vs[i]? with
   |none=>rw[e]at h2;cases h2
   |some a=>rw[e]at h2;cases h2;rfl
  obtain⟨u,hu,rv⟩:=r.get ha
  have hp:ps[i]?=some y:=by
   rw[←S.pre,List.getElem?_take_of_lt (by omega)];exact h1
  have ndP:ps.Nodup:=by rw[←S.pre];exact S.nd.sublist (List.take_sublist _ _)
  refine⟨u,rv,?_⟩;rcases S.par y (List.mem_of_getElem? hp)with k | k
  ·exact .inl ⟨k,aen ndP hp hu k⟩
  ·obtain⟨c,e⟩:=agh (n:=s.heap.objs.size+1) k
   refine .inr ⟨.inl k,c,e,?_⟩;have q:=x.cell y c e;rw[aeo ndP hp hu (by show scope.names.lookup y≠_;rw[k];decide)]at q;exact q
 ·exact e0.hok.fresh (Nat.le_of_lt (x.above y c (PySem.mem_of_lookup h)))
 ·unfold Ji
  show _=N.length;rw[List.length_append,List.length_map,List.length_replicate];omega
theorem arB{CX:CXT}{P:Program}{w:World}{K:Fg}{mg:SV}{base:Heap}{k:Nat}{f:Addr}{name qual:Str}{params:Arguments}{body:List Stmt}{scope:Scope}{dV kV doc pm Kc ct oc:Value}{an od:Option Addr}
  {osl:Array (Option Value)} {N ps:List Str} {sp:Sp} (lk:K.lookup f=some ⟨oc,od,.func (PySem.W.fnOf name qual params body scope dV kV doc pm an Kc ct),osl⟩) (hcd:PySem.W.codeIn K Kc qual=true) (S:FnScope N ps scope)
  (len:∀vs H Q E,sp vs H Q E->vs.length=ps.length)
  (hbody:∀(A:Around) (Ko:List Env) (s:Shared) (H:Hp) (vs:List V) (Q:VK) (E:XK),Room k (A.deeper (envOfC qual scope s.heap.objs.size f Kc))->sp vs H Q E->
   ∃ t,PSs (JV CX P w K mg base N qual scope f Kc A Ko s H E) body t/\t { nx:=fun _ H'=>Q .non H',rt:=Q } (Ji N vs) H):
  FnOk P w K mg base CX (k+1) f (PySem.W.fnOf name qual params body scope dV kV doc pm an Kc ct) ps sp:=by
 refine⟨len,fun A Ko s H args us vs Q E hr e0 hb r hsp=>?_⟩;have hl:=len _ _ _ _ hsp;have KX:K.In s.heap:=e0.mod.kin.keeps fun b o e=>(e0.bs b o e).1;have lim:s.heap.NoLimit:=e0.mod.nolimit.keeps fun b o e=>(e0.bs b o e).1
 have hkind:∀y∈ps.zip us,scope.names.lookup y.1=some .local∨(scope.names.lookup y.1=some .cell/\((cellsFrom (s.heap.objs.size+1) scope.names []).lookup y.1).isSome=true):=fun⟨n,v⟩ hy=>by
  rcases S.par n (List.of_mem_zip hy).1 with q | q
  ·exact .inl q
  ·exact .inr ⟨q,PySem.W.cellsFrom_some _ _ _ (.inl q)⟩
 refine codeAny_call_function hr.depth (KX _ _ lk) rfl S.co S.gen rfl (PySem.W.codeRec_of KX hcd) (hb _ _ _ _ ?_);refine wpAny_newFunctionEnv_cells S.kind hkind fun env he s1 x=>?_;subst he;refine⟨lim.keeps x.toInCall.keep,codeAny_func ?_⟩;obtain⟨t,ht,hq⟩:=hbody A Ko s H vs Q E (hr.deeper _) hsp;have I:Inv (JV CX P w K mg base N qual scope f Kc A Ko s H E) [] (Ji N vs) H s1:=abL S hr.hd e0 hl r x;refine wpAny_mono (ht [] s1 (Ji N vs) H _ I hq) (fun fl s' hs=>?_) fun e s' hs=>hs
 have fin:∀{σ':St} {H':Hp} {v:V} {u:Value},Inv (JV CX P w K mg base N qual scope f Kc A Ko s H E) [] σ' H' s'->jS v u->Q v H'->CE Ko P w H s Q u s':=
  fun {σ' H' v u} J rv q=>⟨v,H',J.os,J.bare,J.base,J.hok,rv,q⟩
 cases fl with
 | ret u=>
  obtain⟨v,σ',H',J,rv,q⟩:=hs;exact fin J rv q
 | next=>
  obtain⟨σ',H',J,q⟩:=hs;exact fin (v:=V.non) (u:=Value.none) J rfl q
 | brk=>
  obtain⟨_,_,_,q⟩:=hs;exact False.elim q
 | cont=>
  obtain⟨_,_,_,q⟩:=hs;exact False.elim q
section
variable {X:Cx}{x:Str}{p pos:Pos}{e:Expr}{es:List Expr}{t:TA}{id T:String}{r:List V->Hp->VK->Prop}
noncomputable def tCB(r:List V->Hp->VK->Prop)(t:TA):TE:=fun σ H Q=>t σ H fun vs H1=>r vs H1 Q
theorem aaX(hc:zS X (.builtin id) r)(hg:Gl X x)(hm:X.mg x=none)(hv:bootBuiltins x=some (.builtin id))(ha:PA X (e::es) t)(hn:x≠"__name__":=by decide)(hdb:(x==("__debug__":Str))=false:=by decide)
  (he:starEach (e::es) X.env=(false,eval e X.env)::starEach es X.env:=by rfl) (hpl:(backTo pos (starEach es X.env)).any (·.1)=false:=by rfl):PE X (.Call (.Name x p) (e::es) [] pos) (tCB r t):=by
 intro Kp s σ H Q I h;refine wpAny_Call_Name_kw (Zz I hg hm hv ?_ hn hdb);exact PyProof.Rows.callWith_builtin1 (thn (ha pos Kp s σ H _ I h) fun us s1 ⟨vs,H1,I1,r1,q1⟩=>hc Kp s1 σ H1 vs us Q I1 r1 q1) he hpl
theorem ajN(hc:zS X (.type T) r)(hg:Gl X x)(hm:X.mg x=none)(hv:bootBuiltins x=some (.type T))(ha:PA X (e::es) t)(hn:x≠"__name__":=by decide)(hdb:(x==("__debug__":Str))=false:=by decide)
  (he:starEach (e::es) X.env=(false,eval e X.env)::starEach es X.env:=by rfl) (hpl:(backTo pos (starEach es X.env)).any (·.1)=false:=by rfl):PE X (.Call (.Name x p) (e::es) [] pos) (tCB r t):=by
 intro Kp s σ H Q I h;refine wpAny_Call_Name_kw (Zz I hg hm hv ?_ hn hdb);exact PyProof.Rows.callWith_type1 (thn (ha pos Kp s σ H _ I h) fun us s1 ⟨vs,H1,I1,r1,q1⟩=>hc Kp s1 σ H1 vs us Q I1 r1 q1) he hpl
end
end L2
namespace HT
open PySem PyProof.Rows
section
open PySem.SeqAt
open PySem.AutoSeq1 (wpAny_loadPart')
open PySem.MeetsSeq PySem.MeetsSeq2 PySem.MeetsSeq3
end
section
variable {prog:Program}{w:World}{A:Around}{E:Value->SP0}{s:Shared}
theorem cat_tup{t b:Addr}{vs ws:List Value}{Q:Value->SP0}(ht:IsTup s.heap t vs.toArray)(hb:IsTup s.heap b ws.toArray)(hv:vs≠[])
  (h1:ws=[]->Q (.ref t) s) (h2:ws≠[]->Q (.ref s.heap.objs.size) { s with heap:=s.heap.push { cls:= .type "tuple",data:= .seq (vs++ws).toArray } })
  (hsz:vs.length+ws.length<=sizeLine):wpAny (model prog w) A (binaryOp .Add (.ref t) (.ref b)) Q E s:=by
 obtain⟨⟨cls,dd,data,sl⟩,ho,hc,n,hd⟩:=id ht;obtain⟨⟨cls2,dd2,data2,sl2⟩,ho2,hc2,n2,hd2⟩:=id hb;simp only at hc hd hc2 hd2;subst hc hd hc2 hd2;have e:vs.toArray++ws.toArray=(vs++ws).toArray:=by simp
 by_cases hw:ws=[]
 ·exact concat_meets ⟨_,ho,rfl⟩ ⟨_,ho2,rfl⟩ noFill_tuple_add seq_tuple_add PySem.F.slot_tuple_add PySem.F.entry_tuple_add (PySem.F.args_tuple_add_2 _ _)
   (tuple_addW1 t b vs.toArray ws.toArray n n2 dd dd2 sl sl2 (by simpa using hv) (by simp[hw])) ⟨ho,ho2,h1 hw⟩
 ·refine concat_meets ⟨_,ho,rfl⟩ ⟨_,ho2,rfl⟩ noFill_tuple_add seq_tuple_add PySem.F.slot_tuple_add PySem.F.entry_tuple_add (PySem.F.args_tuple_add_2 _ _)
   (tuple_addW2 t b vs.toArray ws.toArray n n2 dd dd2 sl sl2 (by simpa using hv) (by simpa using hw) (by rw[List.size_toArray,List.size_toArray];exact hsz)) ⟨ho,ho2,?_⟩
  rw[e];exact h2 hw
noncomputable def sIx(n d:Nat):Option Int->Nat
 |none=>d
 |some v=>if v<0 then (v+(n:Int)).toNat else min v.toNat n
theorem sIx_none(n d:Nat):sIx n d none=d:=rfl
theorem sIx_nat(n d k:Nat):sIx n d (some (k:Int))=min k n:=by
 show(if (k:Int)<0 then ((k:Int)+(n:Int)).toNat else min (k:Int).toNat n)=min k n;rw[if_neg (by omega),Int.toNat_natCast]
theorem aqj(n d:Nat)(hd:d<=n)(o:Option Int):sIx n d o<=n:=by
 cases o with
 |none=>exact hd
 | some v=>
  show(if v<0 then (v+(n:Int)).toNat else min v.toNat n)<=n;by_cases hv:v<0
  ·rw[if_pos hv];omega
  ·rw[if_neg hv];exact Nat.min_le_right _ _
theorem aiI(v:Int)(n d:Nat):(if v<0 then max (v+(n:Int)) 0 else min v (n:Int))=((sIx n d (some v):Nat):Int):=by
 show(if v<0 then max (v+(n:Int)) 0 else min v (n:Int))=(((if v<0 then (v+(n:Int)).toNat else min v.toNat n):Nat):Int);by_cases hv:v<0
 ·simp only[if_pos hv];omega
 ·simp only[if_neg hv];omega
theorem ahX(lo hi:Option Int)(n:Nat):Builtin.Slice.sliceAdjust lo hi 1 (n:Int)=(((sIx n 0 lo:Nat):Int),((sIx n n hi:Nat):Int)):=by
 have h1:¬ ((1:Int)<0):=by omega
 unfold Builtin.Slice.sliceAdjust;simp only[h1,zzN];refine Prod.ext ?_ ?_
 ·cases lo with
  |none=>rfl
  |some v=>exact aiI v n 0
 ·cases hi with
  |none=>rfl
  |some v=>exact aiI v n n
theorem ahY(i j:Nat):Builtin.Slice.slicePlaces (i:Int) (j:Int) 1=j-i:=by
 unfold Builtin.Slice.slicePlaces;have h1:(1:Int)>0:=by omega
 simp only[h1,zzM,Int.ediv_one];split<;>omega
theorem ac5{v:Value}{o:Option Int}{Q:Option Int->SP0}(p:IsPart v o)(h:Q o s):wpAny (model prog w) A (Builtin.Slice.slicePartIndex v) Q E s:=by
 cases p with
 |none=>exact slicePart_none h
 |int i t=>exact slicePart_int h
theorem sliceApplied_gen{sl:Addr}{vl vu:Value}{lo hi:Option Int}{n:Nat}{Q:Int×Int×Nat->SP0}(hs:s.heap.IsSliceOf sl vl vu .none)(pl:IsPart vl lo)(pu:IsPart vu hi)
  (h:Q (((sIx n 0 lo:Nat):Int),1,sIx n n hi-sIx n 0 lo) s):wpAny (model prog w) A (Builtin.Slice.sliceApplied (.ref sl) (pure (n:Int))) Q E s:=by
 obtain⟨os,hos,hcs,hds⟩:=id hs;unfold Builtin.Slice.sliceApplied Builtin.Slice.sliceFields;refine wpAny_bind (wpAny_bind (wpAny_field hos hds (x:=vl) rfl (wpAny_bind (wpAny_field hos hds (x:=vu) rfl (wpAny_bind (wpAny_field hos hds (x:= .none) rfl (wpAny_pure ?_)))))));refine wpAny_bind (slicePart_none ?_);show wpAny _ _ (if ((1:Int)==0)=true then _ else _) _ _ s;rw[if_neg (by decide)];refine wpAny_bind (ac5 pl (wpAny_bind (ac5 pu (wpAny_bind (wpAny_pure ?_)))));show wpAny _ _ (match Builtin.Slice.sliceAdjust lo hi 1 (n:Int)with | (lo,hi)=>pure (lo,(1:Int),Builtin.Slice.slicePlaces lo hi 1)) _ _ s;rw[ahX lo hi n];show wpAny _ _ (pure (((sIx n 0 lo:Nat):Int),(1:Int),Builtin.Slice.slicePlaces ((sIx n 0 lo:Nat):Int) ((sIx n n hi:Nat):Int) 1)) _ _ s;rw[ahY];exact wpAny_pure h
theorem ala(xs:Array Value)(i k:Nat):((List.range k).filterMap fun (m:Nat)=>xs[((i:Int)+(m:Int)*1).toNat]?).toArray=((xs.toList.drop i).take k).toArray:=by
 have e:(fun (m:Nat)=>xs[((i:Int)+(m:Int)*1).toNat]?)=fun m=>xs[i+m]?:=by
  funext m;have:((i:Int)+(m:Int)*1).toNat=i+m:=by omega
  rw[this]
 rw[e];have:=pick_run xs i k;rw[List.filterMap_map]at this;have e2:((fun x=>xs[x]?)∘fun x=>i+x)=fun m=>xs[i+m]?:=rfl;rw[e2]at this;rw[this]
theorem getItem_tuple_cut{t sl:Addr}{items:Array Value}{vl vu:Value}{lo hi:Option Int}{Q:Value->SP0}(ht:IsTup s.heap t items)(hs:s.heap.IsSliceOf sl vl vu .none)(pl:IsPart vl lo)(pu:IsPart vu hi)
  (hw:¬ (sIx items.size 0 lo=0/\sIx items.size items.size hi=items.size))
  (h:Q (.ref s.heap.objs.size) { s with heap:=s.heap.push { cls:= .type "tuple",data:= .seq ((items.toList.drop (sIx items.size 0 lo)).take (sIx items.size items.size hi-sIx items.size 0 lo)).toArray } })
  (hsz:items.size<=sizeLine):wpAny (model prog w) A (getItem (.ref t) (.ref sl)) Q E s:=by
 have htake:sizeOk (.seq ((items.toList.drop (sIx items.size 0 lo)).take (sIx items.size items.size hi-sIx items.size 0 lo)).toArray):=by
  show((items.toList.drop (sIx items.size 0 lo)).take (sIx items.size items.size hi-sIx items.size 0 lo)).toArray.size<=sizeLine;rw[List.size_toArray,List.length_take,List.length_drop,Array.length_toList];omega
 have hj:sIx items.size items.size hi<=items.size:=aqj _ _ (Nat.le_refl _) hi;obtain⟨os,hos,hcs,hds⟩:=id hs;have hTs:s.TypeIs (.ref sl) "slice":=⟨os,hos,hcs⟩;unfold getItem
 try with_reducible refine wpAny_holding ?_
 first | refine wpAny_bind (wpAny_pure ?_) | skip
 refine wpAny_bind (wpAny_sequenceKey ht.typeIs (by decide) ?_)
 refine wpAny_bind (wpAny_callSpecial?_slot (name:=Str.ofString "__getitem__") ht.typeIs PyProof.Rows.slot_tuple_getitem
  (wpAny_call_entry PyProof.Rows.slot_tuple_getitem ht.typeIs entry_tuple_getitem ?_ (args_tuple_getitem _ _)))
 show wpAny _ _ (Builtin.Tuple.tupleItemsOf (.ref t) >>= _) _ _ s;refine wpAny_bind (tupleItemsOf_ ht ?_);refine wpAny_bind (wpAny_typeOf hTs ?_);rw[if_pos (by decide)];refine wpAny_bind (sliceApplied_gen hs pl pu ?_)
 have hno:¬ ((((sIx items.size 0 lo:Nat):Int)==0&&(1:Int)==1&&(sIx items.size items.size hi-sIx items.size 0 lo)==items.size)=true):=by
  intro q;rw[Bool.and_eq_true,Bool.and_eq_true]at q;have q1:((sIx items.size 0 lo:Nat):Int)=0:=eq_of_beq q.1.1;have q2:sIx items.size items.size hi-sIx items.size 0 lo=items.size:=eq_of_beq q.2;exact hw ⟨by omega,by omega⟩
 show wpAny _ _ (if (((sIx items.size 0 lo:Nat):Int)==0&&(1:Int)==1&&(sIx items.size items.size hi-sIx items.size 0 lo)==items.size)=true then _ else _) _ _ s;rw[if_neg hno,ala]
 first
  |exact wpAny_bind (m:=Builtin.Tuple.tupleExact _) (wpAny_newObj_type (wpAny_pure ⟨_,rfl,wpAny_pure h⟩) htake)
  |exact wpAny_bind (m:=Builtin.Tuple.tupleExact _) (wpAny_newObj_type (wpAny_bind (wpAny_pure (wpAny_pure ⟨_,rfl,wpAny_pure h⟩))) htake)
  |exact wpAny_bind (wpAny_bind (m:=Builtin.Tuple.tupleExact _) (wpAny_newObj_type (wpAny_pure (wpAny_pure ⟨_,rfl,wpAny_pure h⟩)) htake))
  |exact wpAny_bind (wpAny_bind (m:=Builtin.Tuple.tupleExact _) (wpAny_newObj_type (wpAny_pure ⟨_,rfl,wpAny_pure h⟩) htake))
end
end HT
namespace L2
open PySem PySem.Spec PyProof.Rows
noncomputable abbrev TO:=St->Hp->(Option Int->Hp->Prop)->Prop
noncomputable def PO(X:Cx)(e:Option Expr)(t:TO):Prop:=
 ∀(Kp:List (Addr×Obj)) (s:Shared) (σ:St) (H:Hp) (Q:Option Int->Hp->Prop),Inv X Kp σ H s->t σ H Q->
  wpAny (model X.prog X.w) X.A (evalPart e X.env) (fun u s'=>∃o H',Inv X Kp σ H' s'/\IsPart u o/\Q o H') X.xe s
noncomputable def anP:TO:=fun _ H Q=>Q none H
noncomputable def arC(t:TE):TO:=fun σ H Q=>t σ H fun x H1=>∃i,x= .int i/\Q (some i) H1
theorem aaG{ns:List Int}:∀{us:List Value},jM (ns.map V.int) us->IntsAre us ns:=by
 induction ns with
 |nil=>intro us r;rw[List.map_nil]at r;cases r;exact .nil
 | cons n ns ih=>
  intro us r;rw[List.map_cons]at r;cases r with
  | cons r1 r2=>
   obtain⟨t,e⟩:=r1;subst e;exact .cons n t (ih r2)
section
variable {X:Cx}{e:Expr}{te:TE}{lo hi:Option Expr}{tl th:TO}{pos p2:Pos}
theorem aiJ:PO X none anP:=by
 intro Kp s σ H Q I h;rw[evalPart_none];exact wpAny_pure ⟨none,H,I,.none,h⟩
theorem aiK(h:PE X e te):PO X (some e) (arC te):=by
 intro Kp s σ H Q I hw;rw[evalPart_some];refine thn (h Kp s σ H _ I hw) fun u s1 ⟨x,H1,I1,r1,q1⟩=>?_;obtain⟨i,rfl,q⟩:=q1;obtain⟨t,rfl⟩:=r1;exact⟨some i,H1,I1,.int i t,q⟩
noncomputable def SlR(X:Cx)(r:V->Option Int->Option Int->Hp->VK->Prop):Prop:=
 ∀(Kp:List (Addr×Obj)) (s:Shared) (σ:St) (H:Hp) (x:V) (v vl vu:Value) (lo hi:Option Int) (sl:Addr) (Q:VK),Inv X Kp σ H s->jS x v->s.heap.IsSliceOf sl vl vu .none->IsPart vl lo->IsPart vu hi->r x lo hi H Q->
  ∃T id,typeLookup (.type T) "__getitem__"=pure (some (.builtin id))/\s.TypeIs v T/\wpAny (model X.prog X.w) X.A (getItem v (.ref sl)) (EP X Kp σ Q) X.xe s
theorem SlR.or{r r':V->Option Int->Option Int->Hp->VK->Prop}(h:SlR X r)(h':SlR X r'):SlR X (fun x lo hi H Q=>r x lo hi H Q∨r' x lo hi H Q):=by
 intro Kp s σ H x v vl vu lo hi sl Q I rx hs pl pu q;rcases q with q | q
 ·exact h Kp s σ H x v vl vu lo hi sl Q I rx hs pl pu q
 ·exact h' Kp s σ H x v vl vu lo hi sl Q I rx hs pl pu q
noncomputable def tSl(r:V->Option Int->Option Int->Hp->VK->Prop)(te:TE)(tl th:TO):TE:=fun σ H Q=>te σ H fun x H1=>tl σ H1 fun l H2=>th σ H2 fun u H3=>r x l u H3 Q
theorem agi{r:V->Option Int->Option Int->Hp->VK->Prop}(hr:SlR X r)(he:PE X e te)(hl:PO X lo tl)(hu:PO X hi th):PE X (.Subscript e (.Slice lo hi none p2) pos) (tSl r te tl th):=by
 intro Kp s σ H Q I h;refine Subscript_ (thn (he Kp s σ H _ I h) fun v s1 ⟨x,H1,I1,r1,q1⟩=>?_);refine wpAny_Slice (thn (hl Kp s1 σ H1 _ I1 q1) fun vl s2 ⟨l,H2,I2,pl,q2⟩=>thn (hu Kp s2 σ H2 _ I2 q2) fun vu s3 ⟨u,H3,I3,pu,q3⟩=>?_);rw[evalPart_none];refine wpAny_pure ?_;have I4:Inv X Kp σ H3 { s3 with heap:=s3.heap.push { cls:= .type "slice",data:= .fields #[vl,vu,.none] } }:=I3.kept (t':=s3.toks) fun b ob q=>Heap.get?_push_of_some _ q;obtain⟨T,id,hT,ht,hg⟩:=hr Kp { s3 with heap:=s3.heap.push { cls:= .type "slice",data:= .fields #[vl,vu,.none] } } σ H3 x v vl vu l u s3.heap.objs.size Q I4 r1 (Heap.IsSliceOf.new ..) pl pu q3;show wpAny (model X.prog X.w) X.A (subscriptTail e (.Slice lo hi none p2) v (.ref s3.heap.objs.size)) (EP X Kp σ Q) X.xe { s3 with heap:=s3.heap.push { cls:= .type "slice",data:= .fields #[vl,vu,.none] } };exact tail_any (ops:=[.ref s3.heap.objs.size,v]) ht hT hg (by with_unfolding_all rfl)
noncomputable def ae9(xs:List V)(lo hi:Option Int):List V:=(xs.drop (HT.sIx xs.length 0 lo)).take (HT.sIx xs.length xs.length hi-HT.sIx xs.length 0 lo)
theorem agj(xs:List V)(lo hi:Option Int):(ae9 xs lo hi).length<=xs.length:=by
 unfold ae9;rw[List.length_take,List.length_drop];omega
noncomputable def arD(K:Fg):V->Option Int->Option Int->Hp->VK->Prop:=fun x lo hi H Q=>∃a xs,x= .ref a/\SqT K H a xs/\
 ¬ (HT.sIx xs.length 0 lo=0/\HT.sIx xs.length xs.length hi=xs.length)/\∀p,H p=none->Q (.ref p) (upd H p (.tup (ae9 xs lo hi)))
theorem alb:SlR X (arD X.K):=by
 intro Kp s σ H x v vl vu lo hi sl Q I rx hs pl pu h;obtain⟨a,xs,rfl,hx,hw,q⟩:=h;cases rx;obtain⟨its,r,ht,hz⟩:=I.tuple hx;have hlen:its.toArray.size=xs.length:=by rw[List.size_toArray];exact r.length.symm
 refine⟨"tuple",_,PyProof.Rows.slot_tuple_getitem.lookup,ht.typeIs,?_⟩;refine HT.getItem_tuple_cut ht hs pl pu (by rw[hlen];exact hw) ?_ (by rw[hlen];exact hz);rw[hlen];refine⟨.ref s.heap.objs.size,_,I.laid (t':=s.toks) (o:= .tup (ae9 xs lo hi)) (fun b ob q=>Heap.get?_push_of_some _ q) (Nat.le_refl _) ?_,rfl,q _ (I.hok.fresh (Nat.le_refl _))⟩;exact⟨Nat.le_trans (agj xs lo hi) hz,_,(r.drop (HT.sIx xs.length 0 lo)).take (HT.sIx xs.length xs.length hi-HT.sIx xs.length 0 lo),IsTup.new _ _⟩
noncomputable def arE(K:Fg):R2:=fun x y H Q=>∃a b xs ys,x= .ref a/\y= .ref b/\SqT K H a xs/\SqT K H b ys/\xs≠[]/\xs.length+ys.length<=sizeLine/\
 (ys=[]->Q (.ref a) H)/\(ys≠[]->∀p,H p=none->Q (.ref p) (upd H p (.tup (xs++ys))))
theorem jM.nil_iff{xs:List V}{us:List Value}(r:jM xs us):us=[]↔xs=[]:=by
 cases r with
 |nil=>simp
 |cons _ _=>simp
theorem anQ:OpR X (binaryOp .Add) (arE X.K):=by
 intro Kp s σ H x y v u Q I rx ry h;obtain⟨a,b,xs,ys,rfl,rfl,ha,hb,hx,hz,q1,q2⟩:=h;cases rx;cases ry;obtain⟨its,r1,p1,_⟩:=I.tuple ha;obtain⟨its2,r2,p2,_⟩:=I.tuple hb;refine HT.cat_tup p1 p2 (fun z=>hx (r1.nil_iff.mp z)) (fun z=>⟨.ref a,H,I,rfl,q1 (r2.nil_iff.mp z)⟩) (fun z=>?_) (by rw[←r1.length,←r2.length];exact hz);refine⟨.ref s.heap.objs.size,_,I.laid (t':=s.toks) (o:= .tup (xs++ys)) (fun b ob q=>Heap.get?_push_of_some _ q) (Nat.le_refl _) ?_,rfl,q2 (fun w=>z (r2.nil_iff.mpr w)) _ (I.hok.fresh (Nat.le_refl _))⟩;exact⟨by rw[List.length_append];exact hz,_,r1.append r2,IsTup.new _ _⟩
end
noncomputable def ixN(n:Nat)(i:Int):Option Nat:=if 0<=i then (if i<n then some i.toNat else none) else if -(n:Int)<=i then some (i+n).toNat else none
noncomputable def atI{α:Type}(xs:List α)(i:Int):Option α:=(ixN xs.length i).bind fun j=>xs[j]?
theorem aiL{n:Nat}{i:Int}{j:Nat}(h:ixN n i=some j):seqIndex? i n=some j/\j<n/\-(n:Int)<=i/\i<n:=by
 unfold ixN at h;by_cases h0:0<=i
 ·rw[if_pos h0]at h
  by_cases h1:i<n
  ·rw[if_pos h1]at h
   have e:i.toNat=j:=Option.some.inj h;exact⟨by rw[seqIndex_of h0 h1,e],by omega,by omega,h1⟩
  ·rw[if_neg h1]at h;cases h
 ·rw[if_neg h0]at h
  by_cases h1:-(n:Int)<=i
  ·rw[if_pos h1]at h
   have e:(i+n).toNat=j:=Option.some.inj h;exact⟨by rw[seqIndex_neg (by omega) h1,e],by omega,h1,by omega⟩
  ·rw[if_neg h1]at h;cases h
theorem aiM{α:Type}{xs:List α}{i:Int}{v:α}(h:atI xs i=some v):∃j,seqIndex? i xs.length=some j/\xs[j]?=some v/\j<xs.length/\-(xs.length:Int)<=i/\i<xs.length:=by
 unfold atI at h;cases e:ixN xs.length i with
 |none=>rw[e]at h;cases h
 | some j=>
  rw[e]at h;obtain⟨h1,h2,h3,h4⟩:=aiL e;exact⟨j,h1,h,h2,h3,h4⟩
noncomputable def aiN(b:Expr):Prop:=∀o i,subscripted b false o i=operate [o,i] (getItem o i)
noncomputable def IxR(X:Cx)(r:R2):Prop:=
 ∀(value slice:Expr) (Kp:List (Addr×Obj)) (s:Shared) (σ:St) (H:Hp) (x y:V) (v u:Value) (Q:VK),Inv X Kp σ H s->jS x v->jS y u->r x y H Q->
  subscripted slice false v u=operate [v,u] (getItem v u)->wpAny (model X.prog X.w) X.A (subscriptTail value slice v u) (EP X Kp σ Q) X.xe s
noncomputable def MtR(X:Cx)(id:String)(r:V->List V->Hp->VK->Prop):Prop:=
 ∀(Kp:List (Addr×Obj)) (s:Shared) (σ:St) (H:Hp) (x:V) (xs:List V) (v:Value) (us:List Value) (Q:VK),Inv X Kp σ H s->jS x v->jM xs us->r x xs H Q->
  wpAny (model X.prog X.w) X.A (call (.builtin id) (v::us)) (EP X Kp σ Q) X.xe s
section
variable {X:Cx}{a b:Expr}{ta tb:TE}{pos:Pos}
theorem IxR.or{r r':R2}(h:IxR X r)(h':IxR X r'):IxR X (fun x y H Q=>r x y H Q∨r' x y H Q):=by
 intro value slice Kp s σ H x y v u Q I rx ry q hs;rcases q with q | q
 ·exact h value slice Kp s σ H x y v u Q I rx ry q hs
 ·exact h' value slice Kp s σ H x y v u Q I rx ry q hs
theorem MtR.or{id:String}{r r':V->List V->Hp->VK->Prop}(h:MtR X id r)(h':MtR X id r'):MtR X id (fun x xs H Q=>r x xs H Q∨r' x xs H Q):=by
 intro Kp s σ H x xs v us Q I rx rs q;rcases q with q | q
 ·exact h Kp s σ H x xs v us Q I rx rs q
 ·exact h' Kp s σ H x xs v us Q I rx rs q
theorem arF{r:R2}(hr:IxR X r)(ha:PE X a ta)(hb:PE X b tb)(hs:aiN b):PE X (.Subscript a b pos) (tOp r ta tb):=by
 intro Kp s σ H Q I h;exact Subscript_ (ap9 ha hb I h fun v u s2 x y H2 I2 rx ry q=>hr a b Kp s2 σ H2 x y v u Q I2 rx ry q (hs _ _))
noncomputable def asJ(K:Fg):R2:=fun x y H Q=>∃p xs i v,x= .ref p/\y= .int i/\SqL K H p xs/\atI xs i=some v/\Q v H
noncomputable def asK(K:Fg):R2:=fun x y H Q=>∃p xs i v,x= .ref p/\y= .int i/\SqT K H p xs/\atI xs i=some v/\Q v H
theorem anR:IxR X (asJ X.K):=by
 intro value slice Kp s σ H x y v u Q I rx ry h hs;obtain⟨p,xs,i,z,rfl,rfl,hq,he,q⟩:=h;cases rx;obtain⟨t,rfl⟩:=ry;obtain⟨its,r,pl,hz⟩:=I.list hq;obtain⟨j,h1,h2,h3,h4,h5⟩:=aiM he;obtain⟨w,ew,rw'⟩:=r.get h2;have hl:=r.length;have hn:=abK;have fin:EP X Kp σ Q w s:=⟨z,H,I,rw',q⟩;by_cases h0:0<=i
 ·have hj:i.toNat=j:=by
   rw[seqIndex_of h0 h5]at h1;exact Option.some.inj h1
  exact item_listR pl.isList h0 (by omega) (by rw[hj];simpa using ew) fin hs
 ·have hj:(i+(its.toArray.size:Int)).toNat=j:=by
   rw[seqIndex_neg (by omega) h4]at h1;rw[List.size_toArray,←hl];exact Option.some.inj h1
  exact subscriptTail_builtinR (x:=w) pl.isList.typeIs slot_list_getitem.lookup
   (wpAny_getItem_list_neg (Q:=fun r s'=>r=w/\EP X Kp σ Q r s') pl.isList (by omega) (by rw[List.size_toArray]<;>omega) (by omega) (by rw[hj];simpa using ew) ⟨rfl,fin⟩) hs
theorem aqk:IxR X (asK X.K):=by
 intro value slice Kp s σ H x y v u Q I rx ry h hs;obtain⟨p,xs,i,z,rfl,rfl,hq,he,q⟩:=h;cases rx;obtain⟨t,rfl⟩:=ry;obtain⟨its,r,pl,hz⟩:=I.tuple hq;obtain⟨j,h1,h2,h3,h4,h5⟩:=aiM he;obtain⟨w,ew,rw'⟩:=r.get h2;have hl:=r.length;have hn:=abK;have fin:EP X Kp σ Q w s:=⟨z,H,I,rw',q⟩
 exact subscriptTail_builtinR (x:=w) pl.typeIs slot_tuple_getitem.lookup
  (getItem_tuple (j:=j) (Q:=fun r s'=>r=w/\EP X Kp σ Q r s') pl (by omega) (by omega) (by rw[List.size_toArray,←hl];exact h1) (by simpa using ew) ⟨rfl,fin⟩) hs
theorem ahZ(its:List Value)(n j:Nat)(u:Value):Obj.mapSeq (·.setIfInBounds j u) { cls:= .type "list",data:= .seq its.toArray n }={ cls:= .type "list",data:= .seq (its.set j u).toArray n }:=by
 simp[Obj.mapSeq]
theorem Inv.lst{Kp:List (Addr×Obj)}{σ:St}{H:Hp}{s:Shared}{p:Addr}{xs:List V}(I:Inv X Kp σ H s)(h:H p=some (.lst xs)):
  ∃(its:List Value) (n:Nat),jM xs its/\s.heap.get? p=some { cls:= .type "list",data:= .seq its.toArray n }/\xs.length<=sizeLine:=by
 obtain⟨z,its,n,r,e⟩:=I.hok p _ h;exact⟨its,n,r,e,z⟩
theorem Inv.lstUpd{Kp:List (Addr×Obj)}{σ:St}{H:Hp}{s:Shared}{p:Addr}{xs ys:List V}{its its':List Value}{n n':Nat}{f:Obj->Obj}(I:Inv X Kp σ H s)(h:H p=some (.lst xs))
  (ho:s.heap.get? p=some { cls:= .type "list",data:= .seq its.toArray n }) (hf:f { cls:= .type "list",data:= .seq its.toArray n }={ cls:= .type "list",data:= .seq its'.toArray n' }) (r:jM ys its') (hz:ys.length<=sizeLine) (t:Nat):
  Inv X Kp σ (upd H p (.lst ys)) { s with heap:=s.heap.update p f,toks:=t }:=by
 have e:(s.heap.update p f).get? p=some { cls:= .type "list",data:= .seq its'.toArray n' }:=by
  rw[Heap.get?_update_self f ho (by rw[hf]<;>rfl),hf]
 refine I.write (x:=p) (e:=p) (by rw[h];trivial) (.inl rfl) (fun b u hb q=>(Heap.get?_update_other _ _ (Ne.symm hb)).trans q) ⟨_,e⟩ ?_;exact⟨hz,its',n',r,e⟩
noncomputable def arG:V->V->V->Hp->(Hp->Prop)->Prop:=fun o i v H Q=>∃p xs k j,o= .ref p/\i= .int k/\H p=some (.lst xs)/\ixN xs.length k=some j/\Q (upd H p (.lst (xs.set j v)))
theorem alc:anF X arG:=by
 intro Kp s σ H o i v ov iv u Q I ro ri rv h;obtain⟨p,xs,k,j,rfl,rfl,hp,hj,q⟩:=h;cases ro;obtain⟨t,rfl⟩:=ri;obtain⟨its,n,r,ho,hz⟩:=I.lst hp;obtain⟨h1,h2,h3,h4⟩:=aiL hj;have hl:=r.length;have hn:=abK
 have I':Inv X Kp σ (upd H p (.lst (xs.set j v))) { s with heap:=s.heap.update p (Obj.mapSeq (·.setIfInBounds j u)) }:=
  I.lstUpd hp ho (ahZ its n j u) (r.set rv j) (by rw[List.length_set];exact hz) s.toks
 by_cases h0:0<=k
 ·have hk:k.toNat=j:=by
   rw[seqIndex_of h0 h4]at h1;exact Option.some.inj h1
  exact PySem.W.ki_setAt ho h0 (by omega) (by rw[List.size_toArray,←hl];exact h4) (by rw[hk];exact⟨_,I',q⟩)
 ·have hk:(k+(its.toArray.size:Int)).toNat=j:=by
   rw[seqIndex_neg (by omega) h3]at h1;rw[List.size_toArray,←hl];exact Option.some.inj h1
  exact PySem.W.ki_setBack ho (by omega) (by rw[List.size_toArray,←hl];exact h3) (by omega) (by rw[hk];exact⟨_,I',q⟩)
theorem afa:zS X (.builtin "len") (fun xs H Q=>∃p ys,xs=[.ref p]/\(SqL X.K H p ys∨SqT X.K H p ys)/\Q (.int ys.length) H):=by
 intro Kp s σ H xs us Q I r h;obtain⟨p,ys,rfl,hq,q⟩:=h;obtain⟨u,rfl,rx⟩:=Zs r;cases rx;have hn:=abK;rcases hq with hq | hq
 ·obtain⟨its,r',pl,hz⟩:=I.list hq
  have hlen:=r'.length;exact Calls.call_len_list pl.isList (by simp only[List.size_toArray]<;>omega) ⟨.int ys.length,H,I.tok _,⟨s.toks+1,by rw[List.size_toArray,hlen]⟩,q⟩
 ·obtain⟨its,r',pl,hz⟩:=I.tuple hq
  have hlen:=r'.length;exact len_tuple pl (by simp only[List.size_toArray]<;>omega) ⟨.int ys.length,H,I.tok _,⟨s.toks+1,by rw[List.size_toArray,hlen]⟩,q⟩
theorem zS.or{f:Value}{r r':List V->Hp->VK->Prop}(h:zS X f r)(h':zS X f r'):zS X f (fun xs H Q=>r xs H Q∨r' xs H Q):=by
 intro Kp s σ H xs us Q I rs q;rcases q with q | q
 ·exact h Kp s σ H xs us Q I rs q
 ·exact h' Kp s σ H xs us Q I rs q
noncomputable def tyV(K:Fg)(T:String)(x:V)(H:Hp):Prop:=match x with
 |.str _=>T="str"
 |.int _=>T="int"
 | .ref p=>(T="list"/\∃xs,SqL K H p xs)∨(T="tuple"/\∃o,K.lookup p=some o/\o.cls= .type "tuple"/\o.dict=none) ∨
   (T="dict"/\((∃kvs,H p=some (.dK kvs))∨∃kvs,H p=some (.dT kvs)))∨(T="set"/\∃S n,H p=some (.set S n))
 |_=>False
theorem aql{Kp:List (Addr×Obj)}{σ:St}{H:Hp}{s:Shared}{T:String}{x:V}{v:Value}(I:Inv X Kp σ H s)(r:jS x v)(ty:tyV X.K T x H):
  s.TypeIs v T/\∀a,v= .ref a->∃ob,s.heap.get? a=some ob/\ob.dict=none:=by
 cases x with
 | str z=>
  obtain⟨t,rfl⟩:=r;cases (show T="str" from ty);exact⟨typeIs_str s z t,fun _ e=>nomatch e⟩
 | int i=>
  obtain⟨t,rfl⟩:=r;cases (show T="int" from ty);exact⟨typeIs_int s i t,fun _ e=>nomatch e⟩
 | ref p=>
  cases r;rcases ty with ⟨rfl,xs,hq⟩ | ⟨rfl,o,hk,hc,hd⟩ | ⟨rfl,hk⟩ | ⟨rfl,S,n,hk⟩
  ·obtain⟨its,_,pl,_⟩:=I.list hq
   refine⟨pl.isList.typeIs,fun a e=>?_⟩;cases e;obtain⟨o,n,e,c,hd,_⟩:=pl;exact⟨o,e,hd⟩
  ·refine⟨⟨o,I.kIn p o hk,hc⟩,fun a e=>?_⟩
   cases e;exact⟨o,I.kIn _ o hk,hd⟩
  ·have z:∃o,s.heap.get? p=some o/\o.ExactDict:=by
    rcases hk with ⟨kvs,hk⟩ | ⟨kvs,hk⟩
    ·obtain⟨_,_,_,_,o,_,_,e,ex,_⟩:=I.hok p _ hk
     exact⟨o,e,ex⟩
    ·obtain⟨_,_,_,_,o,_,_,e,ex,_⟩:=I.hok p _ hk
     exact⟨o,e,ex⟩
   obtain⟨o,e,ex⟩:=z;refine⟨⟨o,e,ex.1⟩,fun a e2=>?_⟩;cases e2;exact⟨o,e,ex.2.1⟩
  ·obtain⟨o,_,_,_,e,ex,_⟩:=I.hok p _ hk
   refine⟨⟨o,e,ex.1⟩,fun a e2=>?_⟩;cases e2;exact⟨o,e,ex.2.1⟩
 |_=>exact False.elim ty
noncomputable def tBM(K:Fg)(T:String)(r:V->List V->Hp->VK->Prop)(to:TE)(t:TA):TE:=fun σ H Q=>to σ H fun x H1=>tyV K T x H1/\t σ H1 fun xs H2=>r x xs H2 Q
variable {o e:Expr}{es:List Expr}{to:TE}{t:TA}{name:Str}{apos cpos:Pos}{T id:String}{r:V->List V->Hp->VK->Prop}
theorem aiO(pa:PlainAttrs T)(slot:Slot T name id)(hty:typeOf (.builtin id)=pure (.type "method_descriptor"))(hm:MtR X id r)(ho:PE X o to)(ha:PA X (e::es) t)
  (hbase:attributeBase o name X.env (eval o X.env)=eval o X.env:=by rfl)
  (hfew:((backTo cpos (starEach (e::es) X.env)).all (fun x=>!x.1)&&(backToKw cpos (keywordEach [] X.env)).all (fun x=>x.1.isSome)
   && decide ((e::es).length+([]:List Keyword).length+(if ([]:List Keyword).isEmpty then 0 else 1)<30))=true:=by rfl)
  (hline:(apos.endLine==cpos.line)=true:=by rfl) (hs:starEach (e::es) X.env=(false,eval e X.env)::starEach es X.env:=by rfl) (hplain:(backTo cpos (starEach es X.env)).any (·.1)=false:=by rfl):
  PE X (.Call (.Attribute o name apos) (e::es) [] cpos) (tBM X.K T r to t):=by
 intro Kp s σ H Q I h;refine wpAny_Call_method_late hbase hfew hline rfl (thn (ho Kp s σ H _ I h) fun v s1 ⟨x,H1,I1,r1,ty,q1⟩=>?_);obtain⟨h1,h2⟩:=aql I1 r1 ty;refine⟨T,id,pa,slot,hty,h1,h2,?_⟩;have hA:=ha cpos Kp s1 σ H1 _ I1 q1;rw[hs]at hA ⊢;refine Calls.callWith_builtin (by show(false||(backTo cpos (starEach es X.env)).any (·.1))=false;rw[hplain]<;>rfl) (Calls.evalArgs_plain ?_);exact thn hA fun us s2 ⟨vs,H2,I2,r2,q2⟩=>hm Kp s2 σ H2 x vs v us Q I2 r1 r2 q2
end
noncomputable def MtM(X:Cx)(id:String)(r:V->List V->Hp->VK->Prop):Prop:=
 ∀(Kp:List (Addr×Obj)) (s:Shared) (σ:St) (H:Hp) (x:V) (xs:List V) (v:Value) (us:List Value) (Q:VK),Inv X Kp σ H s->jS x v->jM xs us->r x xs H Q->
  wpAny (model X.prog X.w) X.A (call (.builtin id) (v::us)) (EP X Kp σ Q) X.xe s
theorem jM.one:∀{x:V}{us:List Value},jM [x] us->∃u,us=[u]/\jS x u
 |_,_,.cons r .nil=>⟨_,rfl,r⟩
theorem jM.dropLast{xs:List V}{us:List Value}(h:jM xs us):jM xs.dropLast us.dropLast:=by
 induction h with
 |nil=>exact .nil
 | cons r t ih=>
  cases t with
  |nil=>exact .nil
  |cons q t'=>exact .cons r ih
theorem jM.rep{xs:List V}{us:List Value}(h:jM xs us):∀k:Nat,jM (List.replicate k xs).flatten (List.replicate k us).flatten
 |0=> .nil
 | k+1=>by
  rw[List.replicate_succ,List.replicate_succ,List.flatten_cons,List.flatten_cons];exact jM.append h (jM.rep h k)
theorem abM(its:List Value):∀(k:Nat) (acc:List Value),
  List.foldl (fun x1 x2=>x1++x2) acc.toArray (List.replicate k its.toArray)=(acc++(List.replicate k its).flatten).toArray
 |0,acc=>by simp
 | k+1,acc=>by
  have e:acc.toArray++its.toArray=(acc++its).toArray:=by simp
  have e2:(acc++its)++(List.replicate k its).flatten=acc++(List.replicate (k+1) its).flatten:=by
   rw[List.replicate_succ,List.flatten_cons,List.append_assoc]
  rw[←e2,←abM its k (acc++its),←e,List.replicate_succ,List.foldl_cons]
section
variable {X:Cx}{Kp:List (Addr×Obj)}{σ:St}{H:Hp}{s:Shared}{l b:Addr}{xs ys zs:List V}
theorem Inv.lset{its its':List Value}{n:Nat}{f:Array Value->Array Value}{t':Nat}(I:Inv X Kp σ H s)(hH:H l=some (.lst xs))
  (e:s.heap.get? l=some { cls:= .type "list",data:= .seq its.toArray n }) (hf:f its.toArray=its'.toArray) (hv:jM ys its') (hz:ys.length<=sizeLine):
  Inv X Kp σ (upd H l (.lst ys)) { s with heap:=s.heap.update l (Obj.mapSeq f),toks:=t' }:=by
 have q:=PySem.IsL.update e f;rw[hf]at q;refine I.write (x:=l) (e:=l) (by rw[hH];exact trivial) (.inl rfl) (fun b' u hb hu=>(Heap.get?_update_other s.heap (Obj.mapSeq f) (Ne.symm hb)).trans hu) ⟨_,q⟩ ?_;exact⟨hz,its',_,hv,q⟩
theorem Inv.lnew{its:List Value}{t':Nat}(I:Inv X Kp σ H s)(hv:jM ys its)(hz:ys.length<=sizeLine):
  Inv X Kp σ (upd H s.heap.objs.size (.lst ys)) { s with heap:=s.heap.push { cls:= .type "list",data:= .seq its.toArray },toks:=t' }:=
 I.laid (fun _ _ q=>Heap.get?_push_of_some _ q) (Nat.le_refl _) ⟨hz,its,0,hv,Heap.get?_push_size _ rfl⟩
theorem Inv.fresh(I:Inv X Kp σ H s):H s.heap.objs.size=none:=I.hok.fresh (Nat.le_refl _)
theorem Inv.lstM(I:Inv X Kp σ H s)(hH:H l=some (.lst xs)):xs.length<=sizeLine/\∃(its:List Value) (n:Nat),jM xs its/\xs.length=its.length/\s.heap.get? l=some { cls:= .type "list",data:= .seq its.toArray n }:=by
 obtain⟨z,its,n,r,e⟩:=I.hok l _ hH;exact⟨z,its,n,r,r.length,e⟩
theorem ald{n:Nat}(h:n<=sizeLine):Builtin.List.listTooLong n=false:=by
 unfold Builtin.List.listTooLong;exact decide_eq_false (by omega)
end
section
variable {X:Cx}
noncomputable def anS:V->List V->Hp->VK->Prop:=fun x vs H Q=>∃l xs y,x= .ref l/\vs=[y]/\H l=some (.lst xs)/\xs.length<sizeLine/\Q .non (upd H l (.lst (xs++[y])))
theorem aep:MtM X "list.append" anS:=by
 intro Kp s σ H x vs v us Q I rx rv h;obtain⟨l,xs,y,rfl,rfl,hH,hz,q⟩:=h;cases rx;obtain⟨u,rfl,ru⟩:=rv.one;obtain⟨z,its,n,r,hl,e⟩:=I.lstM hH;refine call_meets F.slot_list_append ⟨_,e,rfl⟩ F.entry_list_append (F.args_list_append_2 _ _) (PySem.list_append l its.toArray n u (by rw[List.size_toArray];omega)) ⟨e,?_⟩;refine⟨.non,_,I.lset (its':=its++[u]) hH e (by simp) (r.append (.cons ru .nil)) ?_,rfl,q⟩;rw[List.length_append,List.length_singleton];omega
noncomputable def asL:R2:=fun x y H Q=>∃l b xs zs,x= .ref l/\y= .ref b/\H l=some (.lst xs)/\H b=some (.lst zs)/\xs.length+zs.length<=sizeLine/\∀p,H p=none->Q (.ref p) (upd H p (.lst (xs++zs)))
theorem aqm:OpR X (binaryOp .Add) asL:=by
 intro Kp s σ H x y v u Q I rx ry h;obtain⟨l,b,xs,zs,rfl,rfl,hH,hB,hz,q⟩:=h;cases rx;cases ry;obtain⟨z,its,n,r,hl,e⟩:=I.lstM hH;obtain⟨z2,its2,n2,r2,hl2,e2⟩:=I.lstM hB;refine PySem.P.add_list e e2 ?_ (by rw[List.size_toArray,List.size_toArray];omega);have ea:its.toArray++its2.toArray=(its++its2).toArray:=by simp
 rw[ea];exact⟨.ref _,_,I.lnew (t':=s.toks) (r.append r2) (by rw[List.length_append];omega),rfl,q _ I.fresh⟩
noncomputable def asM:R2:=fun x y H Q=>∃l k xs,x= .ref l/\y= .int k/\H l=some (.lst xs)/\-(2 ^ 63)<=k/\k<2 ^ 63/\xs.length*k.toNat<=sizeLine/\
 ∀p,H p=none->Q (.ref p) (upd H p (.lst (List.replicate k.toNat xs).flatten))
theorem aiP{α:Type}(xs:List α)(k:Nat):(List.replicate k xs).flatten.length=k*xs.length:=by
 induction k with
 |zero=>simp
 |succ k ih=>rw[List.replicate_succ,List.flatten_cons,List.length_append,ih,Nat.succ_mul,Nat.add_comm]
theorem ah0:OpR X (binaryOp .Mult) asM:=by
 intro Kp s σ H x y v u Q I rx ry h;obtain⟨l,k,xs,rfl,rfl,hH,h1,h2,hz,q⟩:=h;cases rx;obtain⟨t,rfl⟩:=ry;obtain⟨z,its,n,r,hl,e⟩:=I.lstM hH;have hlen:its.toArray.size*k.toNat<=sizeLine:=by rw[List.size_toArray,←hl];exact hz
 have hcap:¬ its.toArray.size*k.toNat>(2 ^ 63-1) / 8:=by
  have:(sizeLine:Nat)<=(2 ^ 63-1) / 8:=by decide
  omega
 have hfit:¬ (!Builtin.List.listFitsIndex k)=true:=by
  rw[fitsIndex_both h1 h2];exact Bool.false_ne_true
 have hlong:¬ Builtin.List.listTooLong (its.toArray.size*k.toNat)=true:=by
  rw[ald hlen];exact Bool.false_ne_true
 have hnew:List.foldl (fun x1 x2=>x1++x2) #[] (List.replicate (if its.toArray.isEmpty=true then 0 else k.toNat) its.toArray)=(List.replicate k.toNat its).flatten.toArray:=by
  have f0:∀m:Nat,List.foldl (fun x1 x2=>x1++x2) #[] (List.replicate m its.toArray)=(List.replicate m its).flatten.toArray:=fun m=>by
   have:=abM its m [];rw[List.nil_append]at this;exact this
  rw[f0];cases its with
  |nil=>simp
  |cons a r'=>rw[if_neg (by simp)]
 refine wpAny_binaryOp_repeat_ref (T:="list") (U:="int") (by decide) ⟨_,e,rfl⟩ (fun s'=>typeIs_int s' k t) noFill_list_mul F.fills_int_mul F.slot_int_rmul repeat_list F.slot_int_index.lookup
  (call_meets F.slot_int_rmul (typeIs_int s k t) F.entry_int_rmul (F.args_int_rmul_2 _ _) (int___rmul___int_list k t l its.toArray n)
   ⟨e,rfl,⟨_,e,rfl⟩,call_meets F.slot_list_mul ⟨_,e,rfl⟩ F.entry_list_mul (F.args_list_mul_2 _ _) (AutoListH.list___mul___list_int_3 l its.toArray n k t hfit hcap hlong) ⟨e,?_⟩⟩)
 rw[hnew];exact⟨.ref _,_,I.lnew (t':=s.toks) (r.rep k.toNat) (by rw[aiP,Nat.mul_comm];exact hz),rfl,q _ I.fresh⟩
end
section
variable {prog:Program}{w:World}{A:Around}{E:Value->SP0}{s:Shared}
set_option maxRecDepth 100000 in
end
section
variable {X:Cx}
end
end L2
namespace Att
open PySem PySem.W PySem.Calls PyProof.Rows
theorem acn{P:Params}{h:Heap}:∀(ns:List Int) (vs:List Value),WellAll P h vs (ns.map WData.int)->IntsAre vs ns:=by
 intro ns
 induction ns with
 | nil=>
  intro vs w;rw[List.map_nil]at w;cases w;exact .nil
 | cons n ns ih=>
  intro vs w;rw[List.map_cons]at w;cases w with
  | cons a b=>
   cases a;exact .cons _ _ (ih _ b)
theorem ajO{l:OpenLaw}{n:Nat}(hn:l.most=some n){P:Params}{h:Heap}{args:List WData}{vals:List Value}
  (hpre:l.row.toRowW.claim.pre args=true) (hwl:WellAll P h vals args):
  ∃a vs ns,vals=[Value.ref a]/\args=[WData.list (ns.map WData.int)]/\h.get? a=some { cls:= .type "list",data:= .seq vs.toArray }/\IntsAre vs ns/\ns.length<=n:=by
 have hsh:WShape.hasAll [] args [.list .int]=true:=(pre_splitW hpre).1;have hc:l.pre.holds [] { args:=args }=true:=(pre_splitW hpre).2;obtain⟨d,r,rfl,h1,h2⟩:=hasAllW_cons hsh;obtain rfl:=hasAllW_nil h2;obtain⟨xs,rfl,h3⟩:=hasW_list h1;obtain⟨ns,rfl⟩:=items_int h3
 have hlen:ns.length<=n:=by
  unfold OpenLaw.pre at hc
  have h4:(WTm.not (.lt (.lit (.int (n:Int))) (.len (.arg 0)))).holds [] { args:=[.list (ns.map .int)] }=true:=by
   have h4:=(holds_andW hc).1;rw[hn]at h4;exact h4
  have h5:=condW_of h4 (w_not (w_lt w_lit (w_len_list (w_arg rfl))));rw[List.length_map]at h5;refine Nat.le_of_not_lt fun q=>?_;have q':(n:Int)<((ns.length:Nat):Int):=by omega
  first
   | (rw[decide_eq_true q']at h5;exact absurd h5 (by decide))
   | (simp at h5;omega)
 cases hwl with
 | cons w1 w2=>
  cases w2;cases w1 with
  |list ho hall=>exact⟨_,_,ns,rfl,rfl,ho,acn ns _ hall,hlen⟩
theorem ajP(l:OpenLaw)(args:List WData):l.row.toRowW.claim.post args (.bool true) args=true:=
 postW_of (r:=l.row.toRowW) (X:=(true==true))
  (show WShape.has [] (.bool true) .bool=true by first|rfl | decide|simp[WShape.has,WShape.arms,WShape.armsAll])
  (show(WTm.eq .res (.lit (.bool true))).value [] { args:=args,res:=some (.bool true),after:=args }=some (.bool (true==true)) from w_eq_bool (w_res rfl) w_lit) rfl
theorem attach_call{l:OpenLaw}{n:Nat}{q:Program}{loose:List Str}{XP:(SV)->Heap->Prop}{YP:World->Heap->Prop}{d:DefRec}
  (hn:l.most=some n) (hdf:d.params.defaults=[])
  (call:∀(w:World) (s₀ s₁:Shared) (mg mb:SV) (fa:Addr) (o:Obj) (pm cd doc:Value) (a:Addr) (vs:List Value) (ns:List Int),
   Ground q loose [] XP w s₀ mg mb s₁.heap->YP w s₁.heap->
   s₁.heap.get? fa=some o->o.data= .func (docDef d.name d.params d.body d.scope pm cd doc)->s₁.heap.CodeRec cd d.name->mg d.name=some (.ref fa)->
   s₁.heap.get? a=some { cls:= .type "list",data:= .seq vs.toArray }->IntsAre vs ns->ns.length<=n->s₁.gens=#[]->
   codeAny (model l.prog w) callerA (.call (.ref fa) ⟨[.ref a],[]⟩) (fun r s'=>r= .ok (.ret (.bool true))/\OldK s₁.heap s'.heap/\s'.os=s₁.os/\AllBare s'.gens) s₁):
  WalkO q loose XP YP l.row.toRowW d [] (fun f vs=>PySem.call f vs):=by
 intro w s₀ s₁ mg mb G Y fa o pm cd doc dV kV ho hd hcd hD hmg hg args vals as hpre hlay hrd hwl hlo;obtain rfl:dV= .none:=Dflts.none hD hdf;obtain rfl:kV= .none:=Dflts.noKw hD;obtain⟨a,vs,ns,rfl,rfl,hobj,hints,hlen⟩:=ajO hn hpre hwl;refine enter_call (codeAny_mono (call w s₀ s₁ mg mb fa o pm cd doc a vs ns G Y ho (fd_plain hd) hcd hmg hobj hints hlen hg) fun r s' hq=>?_);obtain⟨rfl,h2,h3,h4⟩:=hq;exact⟨.inl ⟨.bool true,.bool true,[],rfl,fun _=>rfl,.bool true,ajP l _,fun _=>⟨List.Pairwise.nil,fun _ hm=>(nomatch hm)⟩⟩,h2,h3,h4⟩
section
variable {prog:Program}{w:World}{A:Around}{E:Value->SP0}{s:Shared}{K:Frag}
noncomputable def asN(h:Heap)(L d:Addr):List (Addr×Obj):=(List.range h.objs.size).filterMap fun a=>if a=L∨a=d then none else (h.get? a).map fun o=>(a,o)
end
end Att
namespace L2
open PySem PySem.Spec PyProof.Rows
theorem Z6:∀{vs:List Value}{ns:List Int},IntsAre vs ns->jM (ns.map V.int) vs
 |_,_,.nil=> .nil
 |_,_,.cons n t h=> .cons ⟨t,rfl⟩ (Z6 h)
noncomputable def aqn(H:Hp):Prop:=∀b,H b=none∨∃o xs,H b=some (.frz o (.lst xs))
theorem ale{P:Program}{w:World}{K:Fg}{mg mb:SV}{CX:CXT}{k:Nat}{fa a:Addr}{fd:FuncData}{x:Str}{sp:Sp}{s₁:Shared}{vs:List Value}{ns:List Int}
  (KX:K.In s₁.heap) (hns:s₁.heap.Ns mainGlobals mg) (hb:s₁.heap.Ns builtinsNs mb) (hbb:∀x:Str,x≠"__name__"->mb x=bootBuiltins x) (hlim:s₁.heap.NoLimit) (hg:s₁.gens=#[])
  (ha:s₁.heap.get? a=some { cls:= .type "list",data:= .seq vs.toArray }) (hi:IntsAre vs ns) (hl:ns.length<=sizeLine) (hr:Room k callerA)
  (F:∀base:Heap,K.In base->base.Ns mainGlobals mg->FnOk P w K mg base CX k fa fd [x] sp) (hbind:∀(s:Shared) (u:Value),BindsTo s fd ⟨[u],[]⟩ [(x,u)])
  (hsp:∀H:Hp,aqn H->SqL K H a (ns.map V.int)->sp [.ref a] H (fun v _=>v= .bl true) fun _ _ _=>False)
  (hCX:∀H e s',CX [] H s₁ (fun _ _ _=>False) e s'->False):
  codeAny (model P w) callerA (.call (.ref fa) ⟨[.ref a],[]⟩) (fun r s'=>r= .ok (.ret (.bool true))/\OldK s₁.heap s'.heap/\s'.os=s₁.os/\AllBare s'.gens) s₁:=by
 have rv:=Z6 hi;have lenV:=hi.length
 have core:∀H:Hp,aqn H->SqL K H a (ns.map V.int)->HOk P w H s₁.heap->(∀b,H b≠none->b=a)->(H a≠none->K.lookup a=none)->
   codeAny (model P w) callerA (.call (.ref fa) ⟨[.ref a],[]⟩) (fun r s'=>r= .ok (.ret (.bool true))/\OldK s₁.heap s'.heap/\s'.os=s₁.os/\AllBare s'.gens) s₁:=by
  intro H hO hS hok hA hK;have base_of:∀{b:Addr} {o:Obj},s₁.heap.get? b=some o->H b=none->(ae2 s₁.heap H).get? b=some o:=fun e n=>akW e n
  have noA:∀{b:Addr} {o:Obj} {es:Array DictEntry} {ep:Nat},s₁.heap.get? b=some o->o.data= .dict es ep->H b=none:=fun {b o es ep} e d=>by
   cases q:H b with
   |none=>rfl
   | some u=>
    have e':b=a:=hA b (by rw[q];simp);subst e';rw[ha]at e;cases e;have d':Data.seq vs.toArray _=Data.dict es ep:=d;cases d'
  have nsK:∀{b:Addr} {m:SV},s₁.heap.Ns b m->(ae2 s₁.heap H).Ns b m:=fun {b m} ⟨o,es,ep,e,d,r⟩=>⟨o,es,ep,base_of e (noA e d),d,r⟩
  have hKb:K.In (ae2 s₁.heap H):=fun b o e=>base_of (KX b o e) (by
   cases q:H b with
   | none=>rfl
   | some u=>
    have e':b=a:=hA b (by rw [q]; simp);subst e';rw [hK (by rw [q]; simp)] at e; cases e)
  have hM:Mod K mg (ae2 s₁.heap H):=⟨hKb,nsK hns,⟨mb,nsK hb,hbb⟩,let ⟨mc,h1,h2⟩:=hlim;⟨mc,nsK h1,h2⟩⟩;have e0:Env0 P w K mg (ae2 s₁.heap H) callerA [] s₁ H:=⟨rfl,hM,fun b o e=>anC e,Nat.le_of_eq (ajG _ _),trivial,fun b hb=>absurd (show b∈([]:List Addr) from hb) (by simp),hok,.of_eq hg⟩;refine codeAny_mono ((F _ hKb (nsK hns)).run callerA [] s₁ H ⟨[.ref a],[]⟩ [.ref a] [.ref a] _ _ hr e0 (hbind s₁ (.ref a)) (.cons rfl .nil) (hsp H hO hS)) fun r s' h=>?_;cases r with
  |error e=>exact(hCX H e s' h).elim
  | ok fl=>
   cases fl with
   |next=>exact False.elim h
   |brk=>exact False.elim h
   |cont=>exact False.elim h
   | ret u=>
    obtain⟨v,H',os,bare,un,hok',r',q⟩:=h;have q':v= .bl true:=q;subst q';obtain rfl:u=Value.bool true:=r';refine⟨rfl,OldK.of_keep fun b o e=>?_,os,bare⟩;cases q:H b with
    |none=>exact un.keep b o e q (by intro z;exact absurd (show b∈([]:List Addr) from z) (by simp)) (by simp)
    | some u=>
     rcases hO b with z | ⟨ob,xs,z⟩
     ·rw[q]at z;cases z
     ·have z2:=un.frzs b ob _ z
      obtain⟨e1,_⟩:=hok b _ z;obtain⟨e2,_⟩:=hok' b _ z2;rw[e]at e1;cases e1;exact e2
 cases hk:K.lookup a with
 | some o=>
  have e:=KX a o hk;rw[ha]at e;cases e;refine core (fun _=>none) (fun _=> .inl rfl) (.inr ⟨_,vs.toArray,_,hk,rfl,rfl,rfl,by rw[List.size_toArray,lenV];exact hl,by simpa using rv⟩) (fun b u z=>by have z':(none:Option HO)=some u:=z;cases z') (fun b z=>absurd rfl z) fun z=>absurd rfl z
 | none=>
  refine core (fun b=>if b=a then some (.frz { cls:= .type "list",data:= .seq vs.toArray } (.lst (ns.map V.int))) else none) (fun b=>?_) (.inl (.inr ⟨{ cls:= .type "list",data:= .seq vs.toArray },if_pos rfl⟩)) (fun b u z=>?_) (fun b z=>?_) fun _=>hk
  ·by_cases hb:b=a
   ·exact .inr ⟨_,_,if_pos hb⟩
   ·exact .inl (if_neg hb)
  ·by_cases hb:b=a
   ·have z':=(if_pos hb).symm.trans z
    cases z';subst hb;exact⟨ha,by rw[List.length_map];exact hl,vs,_,rv,ha⟩
   ·have z':=(if_neg hb).symm.trans z
    cases z'
  ·by_cases hb:b=a
   ·exact hb
   ·exact absurd (if_neg hb) z
theorem anT{l:PySem.W.OpenLaw}{n k:Nat}{q:Program}{loose:List Str}{XP:(SV)->Heap->Prop}{YP:World->Heap->Prop}{d:DefRec}{K:Params->Fg}{CX:World->CXT}{sp:World->Sp}{x:Str}
  (hn:l.most=some n) (hn2:n<=sizeLine) (hdf:d.params.defaults=[]) (hr:Room k callerA)
  (hY:∀(w:World) (h:Heap),YP w h->(K w.params).In h)
  (F:∀(w:World) (mg:SV) (fa:Addr) (h:Heap),(K w.params).In h->h.Ns mainGlobals mg->mg d.name=some (.ref fa)->
   ∃ fd:FuncData,(∀ (s:Shared) (u:Value),BindsTo s fd ⟨[u],[]⟩ [(x,u)])/\
    ∀ base:Heap,(K w.params).In base->base.Ns mainGlobals mg->FnOk l.prog w (K w.params) mg base (CX w) k fa fd [x] (sp w))
  (hsp:∀(w:World) (H:Hp) (a:Addr) (ns:List Int),ns.length<=n->aqn H->SqL (K w.params) H a (ns.map V.int)->sp w [.ref a] H (fun v _=>v= .bl true) fun _ _ _=>False)
  (hCX:∀(w:World) (H:Hp) (s:Shared) (e:Value) (s':Shared),CX w [] H s (fun _ _ _=>False) e s'->False):
  PySem.W.WalkO q loose XP YP l.row.toRowW d [] (fun f vs=>PySem.call f vs):=by
 refine Att.attach_call hn hdf fun w s₀ s₁ mg mb fa o pm cd doc a vs ns G Y ho hd hcd hmg hobj hints hlen hg=>?_;have KX:=hY w _ Y;obtain⟨fd,hb,hF⟩:=F w mg fa _ KX G.T.g hmg;exact ale KX G.T.g G.T.b G.T.builtins G.T.nolimit hg hobj hints (Nat.le_trans hlen hn2) hr hF hb (fun H hO hS=>hsp w H a ns hlen hO hS) fun H e s'=>hCX w H s₁ e s'
noncomputable def Q7(s:Stmt):Arguments:=match s with
 |.FunctionDef _ a _ _ _ _ _ _ _ _=>a
 |_=>{ posonlyargs:=[],args:=[],vararg:=none,kwonlyargs:=[],kw_defaults:=[],kwarg:=none,defaults:=[] }
noncomputable def jO(s:Stmt):List Stmt:=match s with
 |.FunctionDef _ _ b _ _ _ _ _ _ _=>b
 |_=>[]
noncomputable def jj(s:Stmt):Scope:=match s with
 |.FunctionDef _ _ _ _ _ _ sc _ _ _=>sc
 |_=>{ kind:= .function,names:=[],isGenerator:=false,isCoroutine:=false }
noncomputable abbrev CX0:CXT:=fun _ _ _ _ _ _=>False
noncomputable abbrev E0:XK:=fun _ _ _=>False
theorem alf{X:Cx}:ahW CX0 X E0:=fun _ _ _ _ _ _ _ h=>h.elim
structure Fun(K:Fg)(x qual:Str)(st:Stmt)(f:Addr)(fd:FuncData):Prop where
 ex:∃(oc:Value) (od:Option Addr) (kV doc pm:Value) (an:Option Addr) (Kc ct:Value) (osl:Array (Option Value)),
  fd=PySem.W.fnOf x qual (Q7 st) (jO st) (jj st) .none kV doc pm an Kc ct/\K.lookup f=some ⟨oc,od,.func fd,osl⟩/\PySem.W.codeIn K Kc qual=true
 kp:PySem.W.keepIn K (.ref f)=true
section
variable {P:Program}{w:World}{K:Fg}{mg:SV}{base:Heap}
theorem Fun.ok{x qual:Str}{st:Stmt}{f:Addr}{fd:FuncData}{N ps:List Str}{k:Nat}{sp:Sp}(F:Fun K x qual st f fd)(S:FnScope N ps (jj st))(len:∀vs H Q E,sp vs H Q E->vs.length=ps.length)
  (hbody:∀(Kc:Value) (A:Around) (Ko:List Env) (s:Shared) (H:Hp) (vs:List V) (Q:VK) (E:XK),Room k (A.deeper (envOfC qual (jj st) s.heap.objs.size f Kc))->sp vs H Q E->
   ∃ t,PSs (JV CX0 P w K mg base N qual (jj st) f Kc A Ko s H E).nox (jO st) t/\t { nx:=fun _ H'=>Q .non H',rt:=Q } (Ji N vs) H):FnOk P w K mg base CX0 (k+1) f fd ps sp:=by
 obtain⟨oc,od,kV,doc,pm,an,Kc,ct,osl,rfl,lk,hcd⟩:=F.ex;refine arB lk hcd S len fun A Ko s H vs Q E hr hsp=>?_;obtain⟨t,h,q⟩:=hbody Kc A Ko s H vs Q E hr hsp;exact⟨t,h.nox,q⟩
theorem Fun.binds{x qual:Str}{st:Stmt}{f:Addr}{fd:FuncData}{ps:List Str}(F:Fun K x qual st f fd)
  (h:∀(kV doc pm:Value) (an:Option Addr) (Kc ct:Value) (us:List Value),us.length=ps.length->bindArgs (PySem.W.fnOf x qual (Q7 st) (jO st) (jj st) .none kV doc pm an Kc ct) ⟨us,[]⟩=pure (ps.zip us)):aaW K fd ps []:=by
 obtain⟨oc,od,kV,doc,pm,an,Kc,ct,osl,rfl,lk,hcd⟩:=F.ex;exact .all (h kV doc pm an Kc ct)
theorem afb{x qual:Str}{st:Stmt}{f:Addr}{oc:Value}{od an:Option Addr}{osl:Array (Option Value)}{kV doc pm Kc ct:Value}(l:K.lookup f=some ⟨oc,od,.func (PySem.W.fnOf x qual (Q7 st) (jO st) (jj st) .none kV doc pm an Kc ct),osl⟩)
  (c:PySem.W.codeIn K Kc qual=true) (k:PySem.W.keepIn K (.ref f)=true):Fun K x qual st f (PySem.W.fnOf x qual (Q7 st) (jO st) (jj st) .none kV doc pm an Kc ct):=⟨⟨oc,od,kV,doc,pm,an,Kc,ct,osl,rfl,l,c⟩,k⟩
end
theorem ZA{A:Around}{k:Nat}(hr:Room k A):A.units+1<cLine:=Nat.lt_of_le_of_lt (Nat.add_le_add_left (by decide:1<=64) _) hr.units
section
variable {X:Cx}
theorem pv(i:Nat){x:Str}{pos:Pos}(hN:X.N[i]?=some x:=by rfl)(hv:Vis X.env.scope x:=by first|exact Or.inl rfl|exact Or.inr (Or.inl rfl)|exact Or.inr (Or.inr rfl))(hd:(x==("__debug__":Str))=false:=by decide)
  (hcd:(x==("__classdict__":Str))=false:=by decide):PE X (.Name x pos) (arl i):=ae3 hN hv hd hcd
end
theorem arH{A B:Prop}(h:B):if false=true then A else B:=by
 rw[if_neg Bool.false_ne_true];exact h
theorem arI{A B:Prop}(h:A):if true=true then A else B:=by
 rw[if_pos rfl];exact h
noncomputable def jo(H H':Hp):Prop:=∀b o,H b=some o->H' b=some o
theorem jo.refl(H:Hp):jo H H:=fun _ _ h=>h
theorem jo.trans{H H1 H2:Hp}(a:jo H H1)(b:jo H1 H2):jo H H2:=fun c o h=>b c o (a c o h)
theorem jo.free{H H':Hp}(e:jo H H'){l:Addr}(h:H' l=Option.none):H l=Option.none:=by
 cases q:H l with
 |none=>rfl
 | some o=>
  rw[e l o q]at h;cases h
theorem jo.seq{K:Fg}{H H':Hp}{a:Addr}{xs:List V}(e:jo H H')(h:SqL K H a xs):SqL K H' a xs:=by
 rcases h with (h | ⟨o,h⟩) | h
 ·exact .inl (.inl (e _ _ h))
 ·exact .inl (.inr ⟨o,e _ _ h⟩)
 ·exact .inr h
section
variable {κ:Type}[DecidableEq κ]
noncomputable def Qz(kvs:List (κ×V))(k:κ):Option V:=(kvs.find? fun kv=>decide (kv.1=k)).map (·.2)
noncomputable def putK(kvs:List (κ×V))(k:κ)(v:V):List (κ×V):=
 if (kvs.any fun kv=>decide (kv.1=k))=true then kvs.map (fun kv=>if kv.1=k then (kv.1,v) else kv) else kvs++[(k,v)]
noncomputable def apB(kvs:List (κ×V))(k:κ):List (κ×V):=kvs.filter fun kv=>decide (kv.1≠k)
theorem ac6{p:κ×V}{r:List (κ×V)}{k:κ}(e:p.1=k):Qz (p::r) k=some p.2:=by simp[Qz,List.find?_cons,e]
theorem ac7{p:κ×V}{r:List (κ×V)}{k:κ}(e:¬ p.1=k):Qz (p::r) k=Qz r k:=by simp[Qz,List.find?_cons,e]
theorem agk(k:κ):∀kvs:List (κ×V),(kvs.any fun kv=>decide (kv.1=k))=(Qz kvs k).isSome
 | []=>rfl
 | p::r=>by
  rw[List.any_cons];by_cases e:p.1=k
  ·simp only[ac6 e,decide_eq_true e,Bool.true_or,Option.isSome_some]
  ·rw[ac7 e,decide_eq_false e,Bool.false_or];exact agk k r
theorem ZB(kvs:List (κ×V))(k:κ)(v:V):(putK kvs k v).length<=kvs.length+1:=by
 unfold putK;split
 ·rw[List.length_map];omega
 ·rw[List.length_append,List.length_cons,List.length_nil];omega
theorem acl.isSome_eq{o:Option V}{u:Option Value}(r:acl o u):o.isSome=u.isSome:=by
 cases o with
 | none=>cases u with
  |none=>rfl
  |some _=>exact(show False from r).elim
 | some _=>cases u with
  |none=>exact(show False from r).elim
  |some _=>rfl
theorem acl.getD{o:Option V}{u:Option Value}{d:V}{d':Value}(r:acl o u)(rd:jS d d'):jS (o.getD d) (u.getD d'):=by
 cases o with
 | none=>cases u with
  |none=>exact rd
  |some _=>exact(show False from r).elim
 | some _=>cases u with
  |none=>exact(show False from r).elim
  |some _=>exact r
theorem KV.val{kvs:List (κ×V)}{vs:List (κ×Value)}(r:KV kvs vs)(k:κ):acl (Qz kvs k) (valueAt vs k):=by
 unfold KV at r
 induction r with
 |nil=>exact True.intro
 | @cons p q ps qs h t ih=>
  obtain⟨h1,h2⟩:=h;by_cases e:p.1=k
  ·have e':q.1=k:=h1.symm.trans e
   have b:valueAt (q::qs) k=some q.2:=by simp[valueAt,List.find?_cons,e']
   rw[ac6 e,b];exact h2
  ·have e':¬ q.1=k:=fun z=>e (h1.trans z)
   have b:valueAt (q::qs) k=valueAt qs k:=by simp[valueAt,List.find?_cons,e']
   rw[ac7 e,b];exact ih
theorem KV.any{kvs:List (κ×V)}{vs:List (κ×Value)}(r:KV kvs vs)(k:κ):(kvs.any fun kv=>decide (kv.1=k))=vs.any fun kv=>decide (kv.1=k):=by
 unfold KV at r
 induction r with
 |nil=>rfl
 |cons h t ih=>rw[List.any_cons,List.any_cons,ih,h.1]
theorem KV.repl{kvs:List (κ×V)}{vs:List (κ×Value)}(r:KV kvs vs)(k:κ){y:V}{u:Value}(ry:jS y u):
  KV (kvs.map fun kv=>if kv.1=k then (kv.1,y) else kv) (vs.map fun kv=>if kv.1=k then (kv.1,u) else kv):=by
 unfold KV at r ⊢
 induction r with
 |nil=>exact .nil
 | @cons p q ps qs h t ih=>
  rw[List.map_cons,List.map_cons];refine .cons ?_ ih;obtain⟨h1,h2⟩:=h;by_cases e:p.1=k
  ·rw[if_pos e,if_pos (h1.symm.trans e)];exact⟨h1,ry⟩
  ·rw[if_neg e,if_neg (fun z=>e (h1.trans z))];exact⟨h1,h2⟩
theorem KV.put{kvs:List (κ×V)}{vs:List (κ×Value)}(r:KV kvs vs)(k:κ){y:V}{u:Value}(ry:jS y u):KV (putK kvs k y) (stored vs k u):=by
 unfold putK stored;rw[r.any k];by_cases e:(vs.any fun kv=>decide (kv.1=k))=true
 ·rw[if_pos e,if_pos e];exact r.repl k ry
 ·rw[if_neg e,if_neg e];exact Paired.snoc r ⟨rfl,ry⟩
theorem KV.drop{kvs:List (κ×V)}{vs:List (κ×Value)}(r:KV kvs vs)(k:κ):KV (apB kvs k) (without vs k):=by
 unfold KV at r ⊢;unfold apB without
 induction r with
 |nil=>exact .nil
 | @cons p q ps qs h t ih=>
  obtain⟨h1,h2⟩:=h;rw[List.filter_cons,List.filter_cons];by_cases e:p.1=k
  ·have a:¬ decide (p.1≠k)=true:=by simp[e]
   have b:¬ decide (q.1≠k)=true:=by simp[h1.symm.trans e]
   rw[if_neg a,if_neg b];exact ih
  ·have e':¬ q.1=k:=fun z=>e (h1.trans z)
   have a:decide (p.1≠k)=true:=by simp[e]
   have b:decide (q.1≠k)=true:=by simp[e']
   rw[if_pos a,if_pos b];exact .cons ⟨h1,h2⟩ ih
theorem KV.keys{kvs:List (κ×V)}{vs:List (κ×Value)}(r:KV kvs vs):kvs.map (·.1)=vs.map (·.1):=by
 unfold KV at r
 induction r with
 |nil=>rfl
 |cons h t ih=>rw[List.map_cons,List.map_cons,ih,h.1]
theorem KV.length{kvs:List (κ×V)}{vs:List (κ×Value)}(r:KV kvs vs):kvs.length=vs.length:=Paired.length r
end
theorem aeq{P:Program}{w:World}{k:Key}{u:Value}(r:jS (kV k) u):(jV P w).is k u=true:=by
 cases k with
 |inl i=>obtain⟨t,e⟩:=(show ∃t,u=Value.int i t from r);subst e;exact ab8 P w i t
 |inr x=>obtain⟨t,e⟩:=(show ∃t,u=Value.str x t from r);subst e;exact agc P w x t
theorem aer{P:Program}{w:World}:∀{ks:List Key}{us:List Value},jM (ks.map kV) us->ItemsAre (jV P w) ks us
 | [],_,r=>by rw[List.map_nil]at r;cases r;exact .nil
 | k::ks,_,r=>by
  rw[List.map_cons]at r;cases r with
  |cons h t=>exact .cons (aeq h) (aer t)
noncomputable abbrev KT(H:Hp):List (List Key×V)->List (List Key×Addr×Value)->Prop:=Paired fun p q=>p.1=q.1/\H q.2.1=some (.tup (p.1.map kV))/\jS p.2 q.2.2
theorem KT.val{H:Hp}{kvs:List (List Key×V)}{xs:List (List Key×Addr×Value)}(r:KT H kvs xs)(k:List Key):acl (Qz kvs k) ((atKey xs k).map (·.2)):=by
 induction r with
 |nil=>exact True.intro
 | @cons p q ps qs h t ih=>
  obtain⟨h1,_,h2⟩:=h;by_cases e:p.1=k
  ·have e':q.1=k:=h1.symm.trans e
   have b:atKey (q::qs) k=some q.2:=by simp[atKey,List.find?_cons,e']
   rw[ac6 e,b];exact h2
  ·have e':¬ q.1=k:=fun z=>e (h1.trans z)
   have b:atKey (q::qs) k=atKey qs k:=by simp[atKey,List.find?_cons,e']
   rw[ac7 e,b];exact ih
theorem KT.repl{H:Hp}{kvs:List (List Key×V)}{xs:List (List Key×Addr×Value)}(r:KT H kvs xs)(k:List Key){y:V}{u:Value}(ry:jS y u):
  KT H (kvs.map fun kv=>if kv.1=k then (kv.1,y) else kv) (xs.map (putAt k u)):=by
 induction r with
 |nil=>exact .nil
 | @cons p q ps qs h t ih=>
  rw[List.map_cons,List.map_cons];refine .cons ?_ ih;obtain⟨h1,h2,h3⟩:=h;unfold putAt;by_cases e:p.1=k
  ·rw[if_pos e,if_pos (h1.symm.trans e)];exact⟨h1,h2,ry⟩
  ·rw[if_neg e,if_neg (fun z=>e (h1.trans z))];exact⟨h1,h2,h3⟩
theorem KT.put{H:Hp}{kvs:List (List Key×V)}{xs:List (List Key×Addr×Value)}(r:KT H kvs xs)(k:List Key){b:Addr}{y:V}{u:Value}(hb:H b=some (.tup (k.map kV)))(ry:jS y u):
  KT H (putK kvs k y) (storedH xs k b u):=by
 have e:(kvs.any fun kv=>decide (kv.1=k))=(atKey xs k).isSome:=by
  rw[agk,(r.val k).isSome_eq,Option.isSome_map]
 unfold putK storedH;rw[e];by_cases q:(atKey xs k).isSome=true
 ·rw[if_pos q,if_pos q];exact r.repl k ry
 ·rw[if_neg q,if_neg q];exact Paired.snoc r ⟨rfl,hb,ry⟩
theorem KT.keeps{H H':Hp}{kvs:List (List Key×V)}{xs:List (List Key×Addr×Value)}(r:KT H kvs xs)(ht:∀b ys,H b=some (.tup ys)->H' b=some (.tup ys)):KT H' kvs xs:=
 Paired.mapP r fun _ _ z=>⟨z.1,ht _ _ z.2.1,z.2.2⟩
section
variable {P:Program}{w:World}{H:Hp}{h:Heap}{a:Addr}
theorem apC{u:HO}(ok:HOk P w H h)(e:Rd H a u):zd P w H h a u:=e.ok ok
theorem ac8{kvs:List (Key×V)}(ok:HOk P w H h)(e:Rd H a (.dK kvs)):kvs.length<=sizeLine/\(a==sysModules)=false/\∃vs,KV kvs vs/\h.DictOf (jV P w) a vs:=
 show zd P w H h a (.dK kvs) from apC ok e
theorem apD{kvs:List (Key×V)}(ok:HOk P w H h)(e:H a=some (.dK kvs)):kvs.length<=sizeLine/\(a==sysModules)=false/\∃vs,KV kvs vs/\h.DictOf (jV P w) a vs:=ac8 ok (.inl e)
theorem QA{ks:List Key}(ok:HOk P w H h)(e:H a=some (.tup (ks.map kV))):(tupleKind (jV P w)).is h ks a:=by
 obtain⟨_,its,r,o,h1,h2,n,h3⟩:=(show zd P w H h a (.tup (ks.map kV)) from ok a _ e);exact⟨o,its.toArray,n,h1,h2,h3,by simpa using aer r⟩
theorem aes{kvs:List (List Key×V)}(ok:HOk P w H h)(e:Rd H a (.dT kvs)):kvs.length<=sizeLine/\(a==sysModules)=false/\
  ∃xs,KT H kvs xs/\h.DictOfH (tupleKind (jV P w)) a xs:=by
 obtain⟨z,y,xs,r,o,es,ep,h1,h2,h3,h4,h5⟩:=(show zd P w H h a (.dT kvs) from apC ok e);refine⟨z,y,xs,r,o,es,ep,h1,h2,h3,h4,fun x hx=>?_,h5⟩
 have all:∀{l:List (List Key×V)} {m:List (List Key×Addr×Value)},KT H l m->∀x∈m,(tupleKind (jV P w)).is h x.1 x.2.1:=by
  intro l m q
  induction q with
  |nil=>intro x hx;exact nomatch hx
  | @cons p q ps qs hq t ih=>
   intro x hx;rcases List.mem_cons.mp hx with e | hx
   ·subst e
    exact QA ok (by rw[←hq.1];exact hq.2.1)
   ·exact ih x hx
 exact all r x hx
theorem arJ{kvs:List (List Key×V)}(ok:HOk P w H h)(e:H a=some (.dT kvs)):kvs.length<=sizeLine/\(a==sysModules)=false/\
  ∃xs,KT H kvs xs/\h.DictOfH (tupleKind (jV P w)) a xs:=aes ok (.inl e)
end
noncomputable def aco(H:Hp)(a:Addr)(y:V)(r:Option V):Prop:=
 (∃kvs k,Rd H a (.dK kvs)/\y=kV k/\r=Qz kvs k)∨∃kvs k b,Rd H a (.dT kvs)/\y= .ref b/\H b=some (.tup (k.map kV))/\r=Qz kvs k
noncomputable def ajQ(H:Hp)(a:Addr)(y v:V)(H':Hp):Prop:=
 (∃kvs k,H a=some (.dK kvs)/\y=kV k/\kvs.length<sizeLine/\H'=upd H a (.dK (putK kvs k v))) ∨
 ∃kvs k b,H a=some (.dT kvs)/\y= .ref b/\H b=some (.tup (k.map kV))/\kvs.length<sizeLine/\H'=upd H a (.dT (putK kvs k v))
theorem aco.k{H:Hp}{a:Addr}{kvs:List (Key×V)}{k:Key}(e:H a=some (.dK kvs)):aco H a (kV k) (Qz kvs k):= .inl ⟨kvs,k,.inl e,rfl,rfl⟩
theorem aco.t{H:Hp}{a b:Addr}{kvs:List (List Key×V)}{k:List Key}(e:H a=some (.dT kvs))(eb:H b=some (.tup (k.map kV))):aco H a (.ref b) (Qz kvs k):= .inr ⟨kvs,k,b,.inl e,rfl,eb,rfl⟩
theorem ajQ.k{H:Hp}{a:Addr}{kvs:List (Key×V)}{k:Key}{v:V}(e:H a=some (.dK kvs))(hl:kvs.length<sizeLine):ajQ H a (kV k) v (upd H a (.dK (putK kvs k v))):= .inl ⟨kvs,k,e,rfl,hl,rfl⟩
theorem ajQ.t{H:Hp}{a b:Addr}{kvs:List (List Key×V)}{k:List Key}{v:V}(e:H a=some (.dT kvs))(eb:H b=some (.tup (k.map kV)))(hl:kvs.length<sizeLine):
  ajQ H a (.ref b) v (upd H a (.dT (putK kvs k v))):= .inr ⟨kvs,k,b,e,rfl,eb,hl,rfl⟩
section
variable {X:Cx}{Kp:List (Addr×Obj)}{σ:St}{H:Hp}{s:Shared}{a:Addr}{y v:V}{u r:Value}{o:Option V}{A:Around}{E:Value->SP0}
theorem Inv.big(I:Inv X Kp σ H s):sysModules<s.heap.objs.size:=by
 have h:mainGlobals<s.heap.objs.size:=(I.mod.glob.keeps I.bk).lt;exact Nat.lt_trans (by decide) h
theorem ajR{Q:Value->SP0}(hu:A.units+1<cLine)(I:Inv X Kp σ H s)(g:aco H a y (some v))(ry:jS y u)(h:∀w' s',Inv X Kp σ H s'->jS v w'->Q w' s'):
  wpAny (model X.prog X.w) A (getItem (.ref a) u) Q E s:=by
 rcases g with ⟨kvs,k,e,ey,l⟩ | ⟨kvs,k,b,e,ey,eb,l⟩
 ·subst ey
  obtain⟨z,hd,vs,rel,dd⟩:=ac8 I.hok e;obtain⟨w',hw,rw'⟩:=acl.some_of (v:=v) (o:=valueAt vs k) (by rw[l];exact rel.val k);exact wpAny_getItem_of (aeq ry) dd.mapOf hw (h w' _ (I.tok _) rw')
 ·subst ey
  cases (show u=Value.ref b from ry);obtain⟨z,hd,xs,rel,dd⟩:=aes I.hok e;obtain⟨w',hw,rw'⟩:=acl.some_of (v:=v) (o:=(atKey xs k).map (·.2)) (by rw[l];exact rel.val k);obtain⟨p,hp,hp2⟩:=Option.map_eq_some_iff.mp hw;refine wpAny_getItem_heap (tupleKind_room_in1 hu) (QA I.hok eb) dd hp ?_;rw[hp2];exact h w' _ (I.tok _) rw'
theorem asO{Q:Value->SP0}(hu:A.units+1<cLine)(I:Inv X Kp σ H s)(g:aco H a y o)(ry:jS y u)(h:∀s',Inv X Kp σ H s'->Q (.bool o.isSome) s'):
  wpAny (model X.prog X.w) A (compareOp .In u (.ref a)) Q E s:=by
 rcases g with ⟨kvs,k,e,ey,l⟩ | ⟨kvs,k,b,e,ey,eb,l⟩
 ·subst ey
  obtain⟨z,hd,vs,rel,dd⟩:=ac8 I.hok e;refine wpAny_in_of (aeq ry) hd dd.mapOf ?_;rw[←(rel.val k).isSome_eq,←l];exact h _ (I.tok _)
 ·subst ey
  cases (show u=Value.ref b from ry);obtain⟨z,hd,xs,rel,dd⟩:=aes I.hok e;refine wpAny_in_heap (tupleKind_room_in1 hu) (QA I.hok eb) hd dd ?_;have q:=(rel.val k).isSome_eq;rw[Option.isSome_map]at q;rw[←q,←l];exact h _ (I.tok _)
theorem afc{h':Heap}{t':Nat}{ob:HO}(I:Inv X Kp σ H s)(mu:Mut (H a))(hs:Heap.SameBut a s.heap h')(he:∃q,h'.get? a=some q)(new:zd X.prog X.w (upd H a ob) h' a ob):
  Inv X Kp σ (upd H a ob) { s with heap:=h',toks:=t' }:=
 I.write (x:=a) (e:=a) mu (.inl rfl) (fun b q hb z=>(hs.2 b hb).trans z) he new
theorem alg{P:Program}{w:World}{H':Hp}{h':Heap}{kvs:List (Key×V)}{vs:List (Key×Value)}(z:kvs.length<=sizeLine)(hd:(a==sysModules)=false)(rel:KV kvs vs)(dd:h'.DictOf (jV P w) a vs):
  zd P w H' h' a (.dK kvs):=⟨z,hd,vs,rel,dd⟩
theorem ajS{H':Hp}{Q:Unit->SP0}(hu:A.units+1<cLine)(I:Inv X Kp σ H s)(g:ajQ H a y v H')(ry:jS y u)(rv:jS v r)(h:∀s',Inv X Kp σ H' s'->Q () s'):
  wpAny (model X.prog X.w) A (setItem (.ref a) u r) Q E s:=by
 rcases g with ⟨kvs,k,e,ey,l,eH⟩ | ⟨kvs,k,b,e,ey,eb,l,eH⟩
 ·subst ey eH
  obtain⟨z,hd,vs,rel,dd⟩:=apD I.hok e;have hz:vs.length<=sizeLine:=by rw[←rel.length];exact z
  have hl:(putK kvs k v).length<=sizeLine:=by have:=ZB kvs k v;omega
  refine wpAny_setItem_pairs (hsz:=hz) (aeq ry) dd fun h' dd' hs=>h _ ?_;have he:∃q,h'.get? a=some q:=let ⟨q,_,_,hq,_⟩:=dd';⟨q,hq⟩
  exact afc I (by rw[e];exact True.intro) hs he (alg hl hd (rel.put k rv) dd')
 ·subst ey eH
  cases (show u=Value.ref b from ry);obtain⟨z,hd,xs,rel,dd⟩:=arJ I.hok e;have hz:xs.length<=sizeLine:=by rw[←Paired.length rel];exact z
  have hl:(putK kvs k v).length<=sizeLine:=by have:=ZB kvs k v;omega
  refine wpAny_setItem_heap (hsz:=hz) (tupleKind_room_in1 hu) (QA I.hok eb) dd fun h' dd' hs=>h _ ?_;obtain⟨q,es,ep,hq,h2,h3,h4,_,h5⟩:=dd';refine afc I (by rw[e];exact True.intro) hs ⟨q,hq⟩ ⟨hl,hd,_,(rel.put k eb rv).keeps fun c ys ec=>?_,q,es,ep,hq,h2,h3,h4,h5⟩;rw[jp (ark ec e (fun z=>nomatch z))];exact ec
end
section
variable {X:Cx}{Kp:List (Addr×Obj)}{σ:St}{H:Hp}{s:Shared}{a:Addr}{kvs:List (Key×V)}{k:Key}{u:Value}{A:Around}{E:Value->SP0}
end
noncomputable def aqo(i:Expr):Prop:=∀ov iv,subscripted i false ov iv=operate [ov,iv] (getItem ov iv)
theorem anU{prog:Program}{w:World}{A:Around}{E:Value->SP0}{s:Shared}{env:Env}{value slice:Expr}{pos:Pos}{T id:String}{Q:Value->SP0}
  (hl:typeLookup (.type T) "__getitem__"=pure (some (.builtin id))) (hs:aqo slice)
  (h:wpAny (model prog w) A (eval value env) (fun o s₁=>wpAny (model prog w) A (eval slice env) (fun i s₂=>s₂.TypeIs o T/\wpAny (model prog w) A (getItem o i) Q E s₂) E s₁) E s):
  wpAny (model prog w) A (eval (.Subscript value slice pos) env) Q E s:=by
 refine Subscript_ (wpAny_mono h (fun o s₁ h₁=>wpAny_mono h₁ (fun i s₂ h₂=>?_) fun _ _ x=>x) fun _ _ x=>x);obtain⟨hT,h₂⟩:=h₂;unfold subscriptTail;refine wpAny_bind ?_;rw[getitemInPython_of_ne hT.not_modules];refine wpAny_bind (wpAny_specialOf hT hl ?_)
 have fin:wpAny (model prog w) A (subscripted slice false o i) (fun r s₃=>wpAny (model prog w) A (letTemporaryGo value o r >>= fun _=>pure r) Q E s₃) E s₂:=by
  rw[hs o i];exact wpAny_operating (wpAny_mono h₂ (fun r s₃ h₃=>wpAny_bind (wpAny_letTemporaryGo (wpAny_pure h₃))) fun _ _ x=>x)
 first
  |exact wpAny_pure (wpAny_bind fin)
  |exact wpAny_bind (wpAny_pure (wpAny_bind fin))
  |exact wpAny_bind fin
theorem agl{X:Cx}{Kp:List (Addr×Obj)}{σ:St}{H:Hp}{s:Shared}{a:Addr}{y:V}{o:Option V}(I:Inv X Kp σ H s)(g:aco H a y o):s.TypeIs (.ref a) "dict":=by
 rcases g with ⟨kvs,k,e,_,_⟩ | ⟨kvs,k,b,e,_,_,_⟩
 ·obtain⟨_,_,vs,_,dd⟩:=ac8 I.hok e
  exact dd.typeIs
 ·obtain⟨_,_,xs,_,dd⟩:=aes I.hok e
  exact dd.typeIs
noncomputable def arK(td ty:TE):TE:=fun σ H Q=>td σ H fun x H1=>ty σ H1 fun y H2=>∃a v,x= .ref a/\aco H2 a y (some v)/\Q v H2
noncomputable def asP(ty td:TE):TE:=fun σ H Q=>ty σ H fun y H1=>td σ H1 fun x H2=>∃a o,x= .ref a/\aco H2 a y o/\Q (.bl o.isSome) H2
section
variable {X:Cx}{o i e value:Expr}{pos pos' tpos:Pos}{td ty tv:TE}
theorem anV(hu:X.A.units+1<cLine)(ho:PE X o td)(hi:PE X i ty)(hs:aqo i):PE X (.Subscript o i pos) (arK td ty):=by
 intro Kp s σ H Q I h;refine anU PySem.F.slot_dict_getitem.lookup hs (thn (ho Kp s σ H _ I h) fun u s1 ⟨x,H1,I1,rx,q1⟩=>thn (hi Kp s1 σ H1 _ I1 q1) fun iv s2 ⟨y,H2,I2,ry,a,v,ex,g,q2⟩=>?_);subst ex;obtain rfl:u=Value.ref a:=rx;exact⟨agl I2 g,ajR hu I2 g ry fun w' s3 I3 rw'=>⟨v,H2,I3,rw',q2⟩⟩
theorem aqp(hu:X.A.units+1<cLine)(hi:PE X i ty)(ho:PE X o td):PC X .In i o (asP ty td):=by
 intro Kp s σ H Q I h;refine thn (hi Kp s σ H _ I h) fun iv s1 ⟨y,H1,I1,ry,q1⟩=>thn (ho Kp s1 σ H1 _ I1 q1) fun u s2 ⟨x,H2,I2,rx,a,ov,ex,g,q2⟩=>?_;subst ex;obtain rfl:u=Value.ref a:=rx;exact asO hu I2 g ry fun s3 I3=>⟨.bl ov.isSome,H2,I3,rfl,q2⟩
end
theorem agm{P:Program}{w:World}{H:Hp}(h:Heap)(hb:sysModules<h.objs.size):zd P w H (h.push { cls:= .type "dict",data:= .dict #[] }) h.objs.size (.dK []):=
 ⟨Nat.zero_le _,beq_eq_false_iff_ne.mpr (Ne.symm (Nat.ne_of_lt hb)),[],.nil,Heap.DictOf.new h⟩
noncomputable def aqq:TE:=fun _ H Q=>∀p,H p=none->Q (.ref p) (upd H p (.dK []))
section
variable {X:Cx}{pos:Pos}
theorem alh:PE X (.Dict [] [] pos) aqq:=fun Kp s σ H Q I h=>
 wpAny_Dict_empty ⟨.ref s.heap.objs.size,_,I.laid (a:=s.heap.objs.size) (o:= .dK []) (t':=s.toks) (fun _ _ q=>Heap.get?_push_of_some _ q) (Nat.le_refl _) (agm s.heap I.big),rfl,h _ (I.hok.fresh (Nat.le_refl _))⟩
end
noncomputable def ah1:List (TE×TE)->St->Hp->(List (V×V)->Hp->Prop)->Prop
 | [],_,H,Q=>Q [] H
 | (tk,tv)::r,σ,H,Q=>tk σ H fun x H1=>tv σ H1 fun y H2=>ah1 r σ H2 fun ps H3=>Q ((x,y)::ps) H3
noncomputable abbrev VV:List (V×V)->List (Value×Value)->Prop:=Paired fun p q=>jS p.1 q.1/\jS p.2 q.2
noncomputable def PPs(X:Cx)(pos:Pos)(keys:List (Option Expr))(values:List Expr)(trs:List (TE×TE)):Prop:=
 ∀(Kp:List (Addr×Obj)) (s:Shared) (σ:St) (H:Hp) (Q:List (V×V)->Hp->Prop),Inv X Kp σ H s->ah1 trs σ H Q->
  wpAny (model X.prog X.w) X.A (evalPairs (pairTrees keys values X.env pos)) (fun vs s'=>∃ps H',Inv X Kp σ H' s'/\VV ps vs/\Q ps H') X.xe s
theorem anW{X:Cx}{pos:Pos}:PPs X pos [] [] []:=fun Kp s σ H Q I h=>pairTrees_nil_walk ⟨[],H,I,.nil,h⟩
theorem ali{X:Cx}{pos:Pos}{k v:Expr}{ks:List (Option Expr)}{vs:List Expr}{tk tv:TE}{trs:List (TE×TE)}(hk:PE X k tk)(hv:PE X v tv)(hr:PPs X pos ks vs trs):
  PPs X pos (some k::ks) (v::vs) ((tk,tv)::trs):=fun Kp s σ H Q I h=>
 pairTrees_cons_walk (thn (hk Kp s σ H _ I h) fun u s1 ⟨x,H1,I1,rx,q1⟩=>thn (hv Kp s1 σ H1 _ I1 q1) fun w2 s2 ⟨y,H2,I2,ry,q2⟩=>
  thn (hr Kp s2 σ H2 _ I2 q2) fun ws s3 ⟨ps,H3,I3,rel,q3⟩=>⟨(x,y)::ps,H3,I3,.cons ⟨rx,ry⟩ rel,q3⟩)
noncomputable def ac9(kvs more:List (Key×V)):List (Key×V):=more.foldl (fun acc kv=>putK acc kv.1 kv.2) kvs
theorem KV.merge:∀{more:List (Key×V)}{rs:List (Key×Value)}{kvs:List (Key×V)}{vs:List (Key×Value)},KV more rs->KV kvs vs->KV (ac9 kvs more) (merged vs rs):=by
 intro more rs kvs vs r;unfold KV at r
 induction r generalizing kvs vs with
 |nil=>intro q;exact q
 | @cons p q ps qs h t ih=>
  intro r0
  have e:KV (putK kvs p.1 p.2) (stored vs q.1 q.2):=by
   have:=r0.put p.1 h.2;rw[←h.1];exact this
  exact ih e
theorem aaC:∀(more kvs:List (Key×V)),(ac9 kvs more).length<=kvs.length+more.length
 | [],kvs=>by show kvs.length<=kvs.length+0;omega
 | p::r,kvs=>by
  have h1:=aaC r (putK kvs p.1 p.2);have h2:=ZB kvs p.1 p.2;show(ac9 (putK kvs p.1 p.2) r).length<=_;rw[List.length_cons];omega
theorem ada{P:Program}{w:World}:∀{kvs:List (Key×V)}{ws:List (Value×Value)},VV (kvs.map fun kv=>(kV kv.1,kv.2)) ws->∃rs,Carries (jV P w) ws rs/\KV kvs rs
 | [],_,r=>by rw[List.map_nil]at r;cases r;exact⟨[],True.intro,.nil⟩
 | p::kvs,_,r=>by
  rw[List.map_cons]at r;cases r with
  | @cons a b as bs h t=>
   obtain⟨rs,c,q⟩:=ada (P:=P) (w:=w) t;obtain⟨b1,b2⟩:=b;exact⟨(p.1,b2)::rs,⟨aeq h.1,rfl,c⟩,.cons ⟨rfl,h.2⟩ q⟩
noncomputable def arL(trs:List (TE×TE)):TE:=fun σ H Q=>∀p,H p=none->ah1 trs σ (upd H p (.dK [])) fun ps H2=>H2 p=some (.dK [])/\∃kvs:List (Key×V),ps=kvs.map (fun kv=>(kV kv.1,kv.2))/\kvs.length<=15/\Q (.ref p) (upd H2 p (.dK (ac9 [] kvs)))
theorem anX{X:Cx}{pos:Pos}{keys:List (Option Expr)}{values:List Expr}{trs:List (TE×TE)}(h:PPs X pos keys values trs)(hall:keys.all (·.isSome)=true)(hl:keys.length=values.length)(h0:keys≠[])
  (h15:keys.length<=15):PE X (.Dict keys values pos) (arL trs):=by
 intro Kp s σ H Q I q;have hn:=I.hok.fresh (Nat.le_refl s.heap.objs.size);have I1:=I.laid (a:=s.heap.objs.size) (o:= .dK []) (h':=s.heap.push { cls:= .type "dict",data:= .dict #[] }) (t':=s.toks) (fun _ _ q=>Heap.get?_push_of_some _ q) (Nat.le_refl _) (agm s.heap I.big);refine wpAny_Dict_walk (knd:=jV X.prog X.w) hall hl h0 h15 (thn (h Kp _ σ _ _ I1 (q _ hn)) fun ws s2 ⟨ps,H2,I2,rel,e,kvs,ep,lk,q2⟩=>?_);subst ep;obtain⟨rs,c,rk⟩:=ada (P:=X.prog) (w:=X.w) rel;obtain⟨z,hd,vs0,r0,dd⟩:=apD I2.hok e;cases r0;refine⟨rs,c,dd,fun h' dd' hs=>⟨.ref s.heap.objs.size,_,?_,rfl,q2⟩⟩
 have hz:(ac9 [] kvs).length<=sizeLine:=by
  have h1:=aaC kvs [];rw[List.length_nil]at h1;rw[sizeLine_eq];omega
 have he:∃q,h'.get? s.heap.objs.size=some q:=let ⟨q,_,_,hq,_⟩:=dd';⟨q,hq⟩
 exact afc I2 (by rw[e];exact True.intro) hs he (alg hz hd (rk.merge .nil) dd')
structure M1(X:Cx)(o:Expr)(m:Str)(apos:Pos)(e:Expr)(cpos:Pos):Prop where
 base:attributeBase o m X.env (eval o X.env)=eval o X.env
 few:((backTo cpos (starEach [e] X.env)).all (fun x=>!x.1)&&(backToKw cpos (keywordEach [] X.env)).all (fun x=>x.1.isSome)
  && decide (([e]:List Expr).length+([]:List Keyword).length+(if ([]:List Keyword).isEmpty then 0 else 1)<30))=true
 line:(apos.endLine==cpos.line)=true
 trees:backTo cpos (starEach [e] X.env)=[(false,eval e X.env)]
structure M2(X:Cx)(o:Expr)(m:Str)(apos:Pos)(e f:Expr)(cpos:Pos):Prop where
 base:attributeBase o m X.env (eval o X.env)=eval o X.env
 few:((backTo cpos (starEach [e,f] X.env)).all (fun x=>!x.1)&&(backToKw cpos (keywordEach [] X.env)).all (fun x=>x.1.isSome)
  && decide (([e,f]:List Expr).length+([]:List Keyword).length+(if ([]:List Keyword).isEmpty then 0 else 1)<30))=true
 line:(apos.endLine==cpos.line)=true
 trees:backTo cpos (starEach [e,f] X.env)=[(false,eval e X.env),(false,eval f X.env)]
noncomputable def IsD(H:Hp)(a:Addr):Prop:=(∃kvs,Rd H a (.dK kvs))∨∃kvs,Rd H a (.dT kvs)
theorem aqr{X:Cx}{Kp:List (Addr×Obj)}{σ:St}{H:Hp}{s:Shared}{a:Addr}(I:Inv X Kp σ H s)(d:IsD H a):
  s.TypeIs (.ref a) "dict"/\(∀b,Value.ref a= .ref b->∃ob,s.heap.get? b=some ob/\ob.dict=none)/\(a==sysModules)=false:=by
 rcases d with ⟨kvs,e⟩ | ⟨kvs,e⟩
 ·obtain⟨_,hd,vs,_,dd⟩:=ac8 I.hok e
  refine⟨dd.typeIs,fun b q=>?_,hd⟩;cases q;obtain⟨ob,_,_,h1,h2,_⟩:=dd;exact⟨ob,h1,h2.2.1⟩
 ·obtain⟨_,hd,xs,_,dd⟩:=aes I.hok e
  refine⟨dd.typeIs,fun b q=>?_,hd⟩;cases q;obtain⟨ob,_,_,h1,h2,_⟩:=dd;exact⟨ob,h1,h2.2.1⟩
section
variable {X:Cx}{Kp:List (Addr×Obj)}{σ:St}{H:Hp}{s:Shared}{a:Addr}{y d:V}{u r:Value}{o:Option V}{A:Around}{E:Value->SP0}
theorem aqs{Q:Value->SP0}(hu:A.units+1<cLine)(I:Inv X Kp σ H s)(g:aco H a y o)(ry:jS y u)(rd:jS d r)(h:∀w' s',Inv X Kp σ H s'->jS (o.getD d) w'->Q w' s'):
  wpAny (model X.prog X.w) A (call (.builtin "dict.get") [.ref a,u,r]) Q E s:=by
 rcases g with ⟨kvs,k,e,ey,l⟩ | ⟨kvs,k,b,e,ey,eb,l⟩
 ·subst ey
  obtain⟨z,hd,vs,rel,dd⟩:=ac8 I.hok e;refine call_meetsIn PySem.F.slot_dict_get dd.typeIs PySem.F.entry_dict_get (PySem.F.args_dict_get_3 _ _ _) (meets_dict_get_default (jV X.prog X.w) a (aeq ry) hd r) ⟨_,dd.mapOf,h _ _ (I.tok _) ?_⟩;rw[l];exact(rel.val k).getD rd
 ·subst ey
  cases (show u=Value.ref b from ry);obtain⟨z,hd,xs,rel,dd⟩:=aes I.hok e;refine call_meetsIn PySem.F.slot_dict_get dd.typeIs PySem.F.entry_dict_get (PySem.F.args_dict_get_3 _ _ _) (meetsH_dict_get_default (tupleKind (jV X.prog X.w)) a b hd r) ⟨tupleKind_room_in1 hu,k,xs,QA I.hok eb,dd,h _ _ (I.tok _) ?_⟩;rw[l];exact(rel.val k).getD rd
end
noncomputable def aqt(td ty tx:TE):TE:=fun σ H Q=>td σ H fun x H1=>∃a,x= .ref a/\IsD H1 a/\ty σ H1 fun y H2=>tx σ H2 fun z H3=>∃o,aco H3 a y o/\Q (o.getD z) H3
section
variable {X:Cx}{o e f:Expr}{apos cpos:Pos}{td ty tx:TE}
theorem alj(hu:X.A.units+1<cLine)(ho:PE X o td)(he:PE X e ty)(hf:PE X f tx)(m:M2 X o "get" apos e f cpos):PE X (.Call (.Attribute o "get" apos) [e,f] [] cpos) (aqt td ty tx):=by
 intro Kp s σ H Q I h;refine wpAny_Call_method m.base m.few m.line PySem.F.plainAttrs_dict PySem.F.slot_dict_get PySem.F.type_dict_get (thn (ho Kp s σ H _ I h) fun u s1 ⟨x,H1,I1,rx,a,ex,d,q1⟩=>?_);subst ex;obtain rfl:u=Value.ref a:=rx;obtain⟨t1,t2,_⟩:=aqr I1 d;refine⟨t1,t2,?_⟩;rw[m.trees]
 refine Calls.callWith_builtin rfl (Calls.evalArgs_plain (Calls.spliced_cons (thn (he Kp s1 σ H1 _ I1 q1) fun iv s2 ⟨y,H2,I2,ry,q2⟩=>
  Calls.spliced_cons (thn (hf Kp s2 σ H2 _ I2 q2) fun fv s3 ⟨z,H3,I3,rz,ov,g,q3⟩=>Calls.spliced_nil ?_))))
 exact aqs hu I3 g ry rz fun w' s4 I4 rw'=>⟨_,H3,I4,rw',q3⟩
end
section
variable {X:Cx}{Kp:List (Addr×Obj)}{σ:St}{H:Hp}{s:Shared}{a:Addr}{kvs:List (Key×V)}{A:Around}{E:Value->SP0}
end
section
variable {X:Cx}{Kp:List (Addr×Obj)}{σ:St}{H:Hp}{s:Shared}{a:Addr}{y:V}{u:Value}{A:Around}{E:Value->SP0}
end
section
variable {X:Cx}
end
section
variable {κ:Type}[DecidableEq κ]
end
end L2
end
section
namespace BX
open PySem PySem.Spec L2
open PyProof.Rows hiding St
noncomputable abbrev NoX:Value->SP0:=fun _ _=>False
noncomputable def aiQ(ts:List Expr)(en:Env):Sem Bool:=
 forIn ts true fun c r=>if r=true then do let ok ←isTrue c en (eval c en);pure (ForInStep.yield ok) else pure (ForInStep.yield r)
section
variable {prog:Program}{w:World}{A:Around}{s:Shared}{R:Result->SP0}
theorem aet{el tg src:Expr}{ts:List Expr}{sc:Scope}{ps:Pos}{it acc:Value}{en:Env}(J:Nat->SP0)
  (turn:∀n s,J n s->wpAny (model prog w) A (pyNext it) (fun r s1=>match r with
   | none=>R (.ok .next) s1
   | some v=>wpAny (model prog w) A (letOwnedTupleGo tg it v) (fun _ sg=>wpAny (model prog w) A (assign tg en v) (fun _ s2=>
     wpAny (model prog w) A (aiQ ts en) (fun ok s3=>
      if ok=true then wpAny (model prog w) A (eval el en) (fun y s4=>
       wpAny (model prog w) A (call (.builtin "list.append") [acc,y]) (fun _ s5=>∃ m,m<n/\J m s5) NoX s4) NoX s3
      else ∃ m,m<n/\J m s3) NoX s2) NoX sg) NoX s1) NoX s)
  (n:Nat) (h:J n s):
  codeAny (model prog w) A (.compLoop (.ListComp el [⟨tg,src,ts,0⟩] sc ps) 0 it acc en) R s:=by
 refine codeAny_loop rfl J (fun n s hJ=>?_) n h
 show wpAny _ A
  ((compTurn (.ListComp el [⟨tg,src,ts,0⟩] sc ps) 0 it acc en).onRaise
   (fun x=>do noteFrame x en; theTreesLotGoes x)) _ _ s
 refine wpAny_noted ?_;rw[compTurn_list];have no:∀{E:Value->SP0} (e:Value) (s':Shared),NoX e s'->E e s':=fun _ _ z=>z.elim;refine wpAny_bind (wpAny_standAt (wpAny_bind (wpAny_mono (turn n s hJ) (fun r s1 h1=>?_) no)));cases r with
 |none=>exact wpAny_pure h1
 | some v=>
  refine wpAny_bind (wpAny_mono h1 (fun _ sg hg=>?_) no);refine wpAny_bind (wpAny_mono hg (fun _ s2 h2=>?_) no);refine wpAny_bind (wpAny_mono h2 (fun ok s3 h3=>?_) no);cases ok with
  |false=>exact wpAny_pure ⟨rfl,h3⟩
  | true=>
   refine wpAny_bind (wpAny_bind (wpAny_mono h3 (fun y s4 h4=>?_) no));exact wpAny_bind (wpAny_mono h4 (fun _ s5 h5=>wpAny_pure (wpAny_pure ⟨rfl,h5⟩)) no)
end
noncomputable def Zt(en:Env):List (Str×NameKind)->List (Str×Addr)->List (Str×Addr)
 | [],cs=>cs
 | (n,k)::r,cs=>Zt en r (if k == .free then (n,(en.cells.lookup n).getD 0)::cs else cs)
theorem aiR(sc:Scope)(en:Env)(h:∀x∈sc.names,x.2= .free->∃c,en.cells.lookup x.1=some c):closureFor sc en=pure (Zt en sc.names []):=by
 have go:∀(l:List (Str×NameKind)) (cs:List (Str×Addr)),(∀x∈l,x.2= .free->∃c,en.cells.lookup x.1=some c)->
   (forIn l cs (fun (x:Str×NameKind) (r:List (Str×Addr))=>(do
    if x.2 == .free then do
     let c ←cellOf en x.1
     pure (ForInStep.yield ((x.1,c)::r))
    else pure (ForInStep.yield r):Sem (ForInStep (List (Str × Addr))))):Sem _)=pure (Zt en l cs):=by
  intro l
  induction l with
  |nil=>intro cs _;rfl
  | cons x l ih=>
   intro cs hl;obtain⟨n,k⟩:=x;rw[List.forIn_cons];by_cases hk:(k==NameKind.free)=true
   ·obtain⟨c,e⟩:=hl (n,k) List.mem_cons_self (by simpa using hk)
    have e':en.cells.lookup n=some c:=e;simp only[hk,zzM,cellOf,e',pure_bind,Zt,Option.getD_some];exact ih _ fun y hy=>hl y (List.mem_cons_of_mem _ hy)
   ·simp only[hk,pure_bind,Zt,zzL,zzN]
    exact ih _ fun y hy=>hl y (List.mem_cons_of_mem _ hy)
 have:=go sc.names [] h;unfold closureFor;rw[←this]
 first
  | (simp only[bind_pure_comp,id_map',map_pure];done)
  | (simp only[bind_pure_comp,id_map',map_pure];exact bind_pure _)
theorem abN(en:Env):∀(l:List (Str×NameKind)) (cs:List (Str×Addr)),(∀x∈l,x.2= .free->∃c,en.cells.lookup x.1=some c)->(∀p∈cs,en.cells.lookup p.1=some p.2)->
  ∀p∈Zt en l cs,en.cells.lookup p.1=some p.2
 | [],_,_,h,p,hp=>h p hp
 | (n,k)::r,cs,hl,h,p,hp=>by
  refine abN en r _ (fun y hy=>hl y (List.mem_cons_of_mem _ hy)) (fun q hq=>?_) p hp;by_cases hk:(k==NameKind.free)=true
  ·rw[if_pos hk]at hq
   rcases List.mem_cons.mp hq with rfl | hq
   ·obtain⟨c,e⟩:=hl (n,k) List.mem_cons_self (by simpa using hk)
    have e':en.cells.lookup n=some c:=e;show en.cells.lookup n=some ((en.cells.lookup n).getD 0);rw[e'];rfl
   ·exact h q hq
  ·rw[if_neg hk]at hq
   exact h q hq
theorem ab9(en:Env):∀(l:List (Str×NameKind)) (cs:List (Str×Addr)) (x:Str),(∃c,(x,c)∈cs)->∃c,(x,c)∈Zt en l cs
 | [],_,_,h=>h
 | (n,k)::r,cs,x,⟨c,h⟩=>by
  refine ab9 en r _ x ?_;by_cases hk:(k==NameKind.free)=true
  ·rw[if_pos hk];exact⟨c,List.mem_cons_of_mem _ h⟩
  ·rw[if_neg hk];exact⟨c,h⟩
theorem QF(en:Env):∀(l:List (Str×NameKind)) (cs:List (Str×Addr)) (x:Str),(x,NameKind.free)∈l->∃c,(x,c)∈Zt en l cs
 | (n,k)::r,cs,x,h=>by
  rcases List.mem_cons.mp h with e | h
  ·obtain⟨e1,e2⟩:=Prod.mk.inj e
   subst e1;subst e2;exact ab9 en r _ _ ⟨_,by rw[if_pos (by rfl)];exact List.mem_cons_self⟩
  ·exact QF en r _ x h
theorem zF{β:Type}:∀{l:List (Str×β)}{x:Str}{c:β},(x,c)∈l->∃d,l.lookup x=some d
 | (n,k)::r,x,c,h=>by
  by_cases e:x=n
  ·subst e;exact⟨k,by simp[List.lookup_cons]⟩
  ·have eb:(x==n)=false:=by simpa using e
   rcases List.mem_cons.mp h with z | h
   ·cases z;exact absurd rfl e
   ·obtain⟨d,hd⟩:=zF h
    exact⟨d,by simp only[List.lookup_cons,eb];exact hd⟩
theorem Qn{sc:Scope}{en:Env}{x:Str}{k:NameKind}(h:(x,k)∈(relabel sc en).names)(hc:∀y∈sc.names,y.2 ≠ .cell)(hk:k= .cell∨k= .free):(x,NameKind.free)∈sc.names:=by
 obtain⟨⟨n,j⟩,hm,e⟩:=List.mem_map.mp h;by_cases q:(j==NameKind.free&&en.scope.kind == .function&&en.kindOf n==some .cell)=true
 ·have e1:(n,NameKind.cell)=(x,k):=by simpa only[q,zzM]using e
  cases e1
  have hj:j= .free:=by
   simp only[Bool.and_eq_true]at q;simpa using q.1.1
  rw[←hj];exact hm
 ·have e1:(n,j)=(x,k):=by simpa only[q,zzL,zzN]using e
  cases e1;rcases hk with rfl|rfl
  ·exact absurd rfl (hc _ hm)
  ·exact hm
theorem Q8{en:Env}:∀{l:List (Str×NameKind)}{x:Str},l.lookup x=some .free->
  (l.map fun (n,k)=>if (k==NameKind.free&&en.scope.kind == .function&&en.kindOf n==some .cell) then (n,NameKind.cell) else (n,k)).lookup x=some .cell ∨
  (l.map fun (n,k)=>if (k==NameKind.free&&en.scope.kind == .function&&en.kindOf n==some .cell) then (n,NameKind.cell) else (n,k)).lookup x=some .free
 | (n,k)::r,x,h=>by
  rw[List.map_cons];cases hx:x==n with
  | true=>
   simp only[List.lookup_cons,hx]at h;cases h;by_cases q:(NameKind.free==NameKind.free&&en.scope.kind == .function&&en.kindOf n==some .cell)=true
   ·left;simp only[q,zzM,List.lookup_cons,hx]
   ·right;simp only[q,zzL,zzN,List.lookup_cons,hx]
  | false=>
   simp only[List.lookup_cons,hx]at h;rcases Q8 (en:=en) h with g | g
   ·left
    by_cases q:(k==NameKind.free&&en.scope.kind == .function&&en.kindOf n==some .cell)=true
    ·simp only[q,zzM,List.lookup_cons,hx];exact g
    ·simp only[q,zzL,zzN,List.lookup_cons,hx];exact g
   ·right
    by_cases q:(k==NameKind.free&&en.scope.kind == .function&&en.kindOf n==some .cell)=true
    ·simp only[q,zzM,List.lookup_cons,hx];exact g
    ·simp only[q,zzL,zzN,List.lookup_cons,hx];exact g
noncomputable def blk(X:Cx)(N':List Str)(sc:Scope)(cl:List (Str×Addr))(C:Addr)(s0:Shared)(H0:Hp)(fp:List Addr)(pn:List (Addr×Obj)):Cx:=
 { X with N:=N',s₀:=s0,H₀:=H0,env:=compEnvC sc cl C X.env,Ko:=X.stack,ex:=fp,fn:=fun _=>false,pn:=pn,xe:=NoX }
noncomputable def acp(cap:List (Option Nat))(σ:St):St:=cap.map fun o=>o.bind fun i=>(σ[i]?).join
noncomputable def PTs(X:Cx)(ts:List Expr)(t:TT):Prop:=
 ∀(Kp:List (Addr×Obj)) (s:Shared) (σ:St) (H:Hp) (Q:Bool->Hp->Prop),Inv X Kp σ H s->t σ H Q->wpAny (model X.prog X.w) X.A (aiQ ts X.env) (TP X Kp σ Q) X.xe s
noncomputable def arM:TT:=fun _ H Q=>Q true H
theorem anY{X:Cx}:PTs X [] arM:=fun _ _ _ H _ I h=>wpAny_pure ⟨H,I,h⟩
theorem anZ{X:Cx}{c:Expr}{t:TT}(h:PT X c t):PTs X [c] t:=fun Kp s σ H Q I hq=>wpAny_tests_one (h Kp s σ H Q I hq)
structure CompOk(X:Cx)(sc:Scope)(N':List Str)(cap:List (Option Nat)):Prop where
 fr:∀x∈sc.names,x.2= .free->X.env.kindOf x.1=some .cell∨X.env.kindOf x.1=some .free
 nc:∀x∈sc.names,x.2 ≠ .cell
 kind:sc.kind= .function
 nm:∀x∈sc.names,x.2= .local->sc.names.lookup x.1=some .local
 len:cap.length=N'.length
 cp:∀(j i:Nat) (x:Str),N'[j]?=some x->cap[j]?=some (some i)->X.N[i]?=some x/\sc.names.lookup x=some .free
noncomputable def alm(wi:TI)(cap:List (Option Nat))(g:TG)(tt:TT)(te:TE):TE:=fun σ H Q=>wi σ H fun J H1=>
 ∃W:Nat->Nat->St->List V->Hp->Prop,(∃m,W 0 m (acp cap σ) [] H1)/\∀i m τ ys H,W i m τ ys H->ys.length<sizeLine/\
  ((J.stop i H/\∀l,H l=none->Q (.ref l) (upd H l (.lst ys))) ∨
   (J.go i H/\∀ x H',J.yld i H x H'->g x τ H' fun τ2 H2=>tt τ2 H2 fun b H3=>if b=true then te τ2 H3 fun y H4=>∃ m',m' < m/\W (i+1) m' τ2 (ys++[y]) H4 else ∃ m',m' < m/\W (i+1) m' τ2 ys H3))
theorem Inv.track{X:Cx}{Kp:List (Addr×Obj)}{σ:St}{H:Hp}{s:Shared}{D:Addr}{o:HO}(I:Inv X Kp σ H s)(hn:H D=none)(h1:X.s₀.heap.objs.size<=D)(h2:D≠X.env.locals)(h3:∀x c,X.env.cells.lookup x=some c->c≠D)
  (h4:∀p∈X.pn++Kp,p.1≠D) (new:zd X.prog X.w (upd H D o) s.heap D o):Inv X Kp σ (upd H D o) s:=by
 have nd:∀b u,H b=some u->b≠D:=fun b u e z=>by rw[z,hn]at e;cases e
 have hok:HOk X.prog X.w (upd H D o) s.heap:=fun b u e=>by
  by_cases hb:b=D
  ·subst hb;rw[jt]at e;cases e;exact new
  ·rw[jp hb]at e
   exact(I.hok b u e).stay (fun _ _ _ q=>q) (fun c q=>by rw[jp (nd c _ q)];exact q) fun c xs q=>by rw[jp (nd c _ q)];exact q
 refine I.step (h':=s.heap) (g':=s.gens) (d':=s.drawn) (t':=s.toks) (ch:=[D]) (fun b hb=>?_) (fun b o _ _ _ e _=>e) (fun b o _ _ _ e _=>⟨o.slots,e⟩) (fun b o hc _ n=>?_) (fun b o _ e=>⟨o,e⟩) (fun b xs e=>by rw[jp (nd b _ e)];exact e)
  (fun b ob u e=>by rw[jp (nd b _ e)];exact e) (fun b ps e=>⟨#[],by rw[jp (nd b _ e),e];simp⟩) (fun m hm=>hm) hok I.bare
 ·have e:b=D:=by simpa using hb
  subst e;exact⟨.inr h1,h2,h3,h4⟩
 ·have e:b≠D:=by simpa using hc
  rw[jp e];exact n
theorem an0{X : Cx}{el tg src : Expr}{ts : List Expr}{sc : Scope}{ps : Pos}{wi : TI}{g : TG}{tt : TT}{te : TE}{N' : List Str}{cap : List (Option Nat)}(hc : X.calm = true)(hi : PI X tg src wi)(ok : CompOk X sc N' cap)
    (body : ∀cl C s0 H0 fp pn, PG (blk X N' sc cl C s0 H0 fp pn) tg g /\ PTs (blk X N' sc cl C s0 H0 fp pn) ts tt /\ PE (blk X N' sc cl C s0 H0 fp pn) el te)
    (hs : ∀x, foldedSetIterable src X.env x = pure x := by intro _;rfl) : PE X (.ListComp el [⟨tg, src, ts, 0⟩] sc ps) (alm wi cap g tt te) := by
  intro Kp s σ H Q I h;have hfr : ∀x∈sc.names, x.2 = .free -> ∃c, X.env.cells.lookup x.1 = some c := fun x hx e => I.ok.has x.1 (ok.fr x hx e);have hcl := aiR sc X.env hfr
  have clm : ∀x c, (Zt X.env sc.names []).lookup x = some c -> X.env.cells.lookup x = some c := fun x c e =>
    abN X.env sc.names [] hfr (fun _ z => nomatch z) (x, c) (PySem.mem_of_lookup e)
  generalize hgl : Zt X.env sc.names [] = cl at hcl clm;rw[eval_ListComp];refine wpAny_comprehension_free (use := none) rfl hs hcl ok.kind ok.nm ?_;refine thn (hi Kp s σ H _ I h) fun v s1 h1 => thn h1 fun itv s2 h2 => ?_;obtain⟨it, fp, tn, J, H2, e, I2, T, st2, f2, W, ⟨m0, w0⟩, turn⟩ := h2;subst e;refine wpAny_newObj_type (wpAny_newFunctionEnv ok.nc (by intro y hy;simp at hy) (fun h4 hns hsb => ?_) ok.kind);dsimp only at hns hsb ⊢;generalize hH3 : s2.heap.push { cls := .type "list", dict := none, data := .seq ([] : List Value).toArray } = h3 at hns hsb ⊢;have hC : h3.objs.size = s2.heap.objs.size + 1 := by rw[← hH3, Heap.size_push]
  generalize hCC : h3.objs.size = C at hns hsb hC ⊢;generalize hDD : s2.heap.objs.size = D at hC ⊢;have hDC : D≠C := by rw[hC];exact Nat.ne_of_lt (Nat.lt_succ_self _)
  have old : ∀b o, s2.heap.get? b = some o -> h4.get? b = some o := fun b o e => hsb.extBut b o (by have := Heap.lt_size e;rw[hDD]at this;rw[hC];exact Nat.ne_of_lt (Nat.lt_succ_of_lt this)) (Heap.get?_push_of_some _ (hH3▸Heap.get?_push_of_some _ e));have accO : h4.get? D = some { cls := .type "list", data := .seq ([] : List Value).toArray 0 } := hsb.extBut _ _ hDC (Heap.get?_push_of_some _ (by rw[← hH3, ← hDD];exact Heap.get?_push_size _ rfl));have H2D : H2 D = none := I2.hok.fresh (by rw[hDD];exact Nat.le_refl _);have H2C : H2 C = none := I2.hok.fresh (by rw[hDD, hC];exact Nat.le_succ _)
  have cellsLt : ∀x c, X.env.cells.lookup x = some c -> c<D := fun x c e => by
    obtain⟨v, q⟩ := I2.cell x c e;rw[← hDD];exact q.lt
  have pinLt : ∀p∈X.pn ++ Kp, p.1<D := fun p hp => by rw[← hDD];exact Heap.lt_size (I2.pin p hp).1
  have stkLt : ∀b∈frs X.stack, b<D := fun b hb => by
    obtain⟨_, o, ho, _⟩ := I2.stack.mem hb;rw[← hDD];exact Heap.lt_size ho
  have fpLt : ∀b∈fp, b<D := fun b hb => by
    obtain⟨o, ho, _⟩ := T.obj _ _ st2 b hb;rw[← hDD];exact Heap.lt_size ho
  have ltC : ∀{b : Addr}, b<D -> b≠C := fun hb => by rw[hC];exact Nat.ne_of_lt (Nat.lt_succ_of_lt hb)
  have locLt : X.env.locals<D := by rw[← hDD];exact I2.lt
  have hDge : s2.heap.objs.size <= D := by rw[hDD];exact Nat.le_refl _
  have hCge : s2.heap.objs.size <= C := by rw[hDD, hC];exact Nat.le_succ _
  have bok : (blk X N' sc cl C s2 H2 fp (X.pn ++ Kp)).Ok := by
    refine⟨I2.ok.mod, ok.kind, I2.ok.glob, I2.ok.blt, hCge, fun x y c e1 e2 => I2.ok.inj x y c (clm x c e1) (clm y c e2), fun x hx => ?_, fun x c z _ => ?_, I2.ok.hd, I2.ok.frames, .inl rfl, fun b hb => ?_, I2.bs, Nat.le_trans I2.ok.bsz I2.sz, fun b o e hb => ?_, fun b hb z => ?_, I2.stack, I2.stkFree⟩
    · have hx' : (relabel sc X.env).names.lookup x = some .cell∨(relabel sc X.env).names.lookup x = some .free := hx
      have hm : (x, NameKind.free)∈sc.names := by
        rcases hx' with z | z
        · exact Qn (PySem.mem_of_lookup z) ok.nc (.inl rfl)
        · exact Qn (PySem.mem_of_lookup z) ok.nc (.inr rfl)
      obtain⟨c, hc⟩ := QF X.env sc.names [] x hm;rw[hgl]at hc;exact zF hc
    · exact absurd (show false = true from z) Bool.false_ne_true
    · exact⟨ltC (fpLt b hb), fun x c e => (f2 b hb).2.2.2.2.1 x c (clm x c e)⟩
    · rcases (f2 b hb).2.2.2.1 with z | z
      · exact I2.ok.noex b o e z
      · have := Heap.lt_size e
        exact absurd (Nat.lt_of_lt_of_le this (Nat.le_trans I2.ok.bsz z)) (Nat.lt_irrefl _)
    · rcases List.mem_cons.mp (I2.stkSub b z)with q | q
      · exact(f2 b hb).2.1 q
      · exact(f2 b hb).2.2.1 q
  have pinB : ∀p∈X.pn ++ Kp, p.1≠C /\ p.1∉frs X.stack := fun p hp => ⟨ltC (pinLt p hp), fun z => by
    rcases List.mem_cons.mp (I2.stkSub p.1 z) with q | q
    · exact (I2.pin p hp).2.2.1 q
    · exact (I2.pin p hp).2.2.2.1 q⟩
  have I4 : Inv (blk X N' sc cl C s2 H2 fp (X.pn ++ Kp)) [] (acp cap σ) H2 { s2 with heap := h4, toks := s2.toks + ([] : List (Str×Value)).length } := by
    refine⟨bok, rfl, I2.bare, Un.kept old, ⟨_, hns, fun j x v e1 e2 e3 => ?_⟩, fun x c e => ?_, H2C, fun x c e => I2.freeC x c (clm x c e), fun p hp => ?_, I2.hok.kept old, ?_⟩
    · unfold acp at e2
      rw[List.getElem?_map]at e2;cases e4 : cap[j]? with
      |none => rw[e4]at e2;cases e2
      | some o =>
        rw[e4]at e2;cases o with
        |none => cases e2
        | some i =>
          obtain⟨hNi, hf⟩ := ok.cp j i x e1 e4
          have e5 : (σ[i]?).join = some v := by
            have := Option.some.inj e2;simpa using this
          have e6 : σ[i]? = some (some v) := by
            cases e7 : σ[i]? with
            |none => rw[e7]at e5;cases e5
            | some z => rw[e7]at e5;cases z with
              |none => cases e5
              |some z => cases e5;rfl
          have hk := ok.fr (x, .free) (PySem.mem_of_lookup hf) rfl;obtain⟨m, hn, hl⟩ := I2.loc
          have hv : Vis X.env.scope x := by
            rcases hk with z | z
            · exact .inr (.inl z)
            · exact .inr (.inr z)
          obtain⟨u, r, lk⟩ := hl i x v hNi e6 hv
          have cellX : ∃c, X.env.cells.lookup x = some c /\ s2.heap.IsCell c (some u) := by
            rcases lk with ⟨k1, _⟩ | ⟨_, c, e, z⟩
            · rcases hk with z | z
              · have z' : X.env.kindOf x = some .cell := z
                rw[k1]at z';cases z'
              · have z' : X.env.kindOf x = some .free := z
                rw[k1]at z';cases z'
            · exact⟨c, e, z⟩
          obtain⟨c, hc1, ob, hc2, hc3⟩ := cellX;obtain⟨c', hc'⟩ := QF X.env sc.names [] x (PySem.mem_of_lookup hf);rw[hgl]at hc';obtain⟨d, hd⟩ := zF hc'
          have ed : d = c := by
            have := clm x d hd;rw[hc1]at this;cases this;rfl
          subst ed;refine⟨u, r, .inr ⟨?_, d, hd, ob, old _ _ hc2, hc3⟩⟩;exact Q8 hf
    · obtain⟨v, ob, ho, hd⟩ := I2.cell x c (clm x c e)
      exact⟨v, ob, old _ _ ho, hd⟩
    · have hp' : p∈X.pn ++ Kp := by simpa[blk]using hp
      obtain⟨e1, e2, e3, e4, e5⟩ := I2.pin p hp';exact⟨old _ _ e1, e2, (pinB p hp').1, (pinB p hp').2, e5⟩
    · show(acp cap σ).length = N'.length
      unfold acp;rw[List.length_map];exact ok.len
  have fpB : ∀{H' : Hp} {pl : List (Addr×Obj)}, (∀b∈fp, H' b = none) -> (∀p∈pl, p.1∉fp) -> ∀b∈fp, agf (blk X N' sc cl C s2 H2 fp (X.pn ++ Kp)) pl H' b := fun {H' pl} hn hpl b hb =>
    ⟨hn b hb, ltC (fpLt b hb), bok.exfs b hb, .inl hb, fun x c e => (f2 b hb).2.2.2.2.1 x c (clm x c e), fun p hp z => by
      rcases List.mem_append.mp (show p ∈ (X.pn ++ Kp) ++ pl from hp) with q | q
      · exact (f2 b hb).2.2.2.2.2 p q z
      · exact hpl p q (by rw [z]; exact hb)⟩
  have Dfp : ∀(o : Obj), ∀p∈[(D, o)], p.1∉fp := fun o p hp z => by
    have e : p = (D, o) := by simpa using hp
    subst e;exact Nat.lt_irrefl _ (fpLt D z)
  have Dfs : D∉frs X.stack := fun z => Nat.lt_irrefl _ (stkLt D z);obtain⟨bG, bT, bE⟩ := body cl C s2 H2 fp (X.pn ++ Kp)
  have loop : codeAny (model X.prog X.w) X.A (.compLoop (.ListComp el [⟨tg, src, ts, 0⟩] sc ps) 0 (.ref it) (.ref D) (compEnvC sc cl C X.env)) (compPost (model X.prog X.w) X.A X.xe none (EP X Kp σ Q) (.ref D) C)
      { s2 with heap := h4, toks := s2.toks + ([] : List (Str×Value)).length } := by
    refine aet (fun n s' => ∃i τ ys us k H', Inv (blk X N' sc cl C s2 H2 fp (X.pn ++ Kp)) [] τ H' s' /\ tn i s'.heap /\ (∀b∈fp, H' b = none) /\ jM ys us /\ s'.heap.get? D = some { cls := .type "list", data := .seq us.toArray k } /\ H' D = none /\ W i n τ ys H') ?_ m0
      ⟨0, _, [], [], 0, H2, I4, T.keep _ _ _ st2 (fun b _ o e => old b o e), fun b hb => (f2 b hb).1, .nil, accO, H2D, w0⟩
    rintro n s5 ⟨i, τ, ys, us, k, H5, I5, st5, fr5, rv5, ho5, hD5, w5⟩
    obtain⟨hsz, alt⟩ := turn i n τ ys H5 w5
    have I5p : Inv (blk X N' sc cl C s2 H2 fp (X.pn ++ Kp)) [(D, { cls := .type "list", data := .seq us.toArray k })] τ H5 s5 := I5.pins_of fun p hp => by
      have e : p = (D, { cls := .type "list", data := .seq us.toArray k }) := by simpa using hp
      subst e;exact⟨ho5, hD5, hDC, Dfs, fun v z => by cases z⟩
    rcases alt with ⟨stop, fin⟩ | ⟨go, step⟩
    · refine thn (T.done (blk X N' sc cl C s2 H2 fp (X.pn ++ Kp)) rfl rfl rfl hc i _ s5 τ H5 NoX I5p (fpB fr5 (Dfp _)) st5 stop) fun r s6 ⟨hr, I6⟩ => ?_
      subst hr;have ho6 := (I6.pin (D, _) (List.mem_append_right _ (List.mem_singleton.mpr rfl))).1;obtain⟨m6, hn6, _⟩ := I6.loc;refine⟨m6, hn6, fun h7 hs7 => ?_⟩;have J6 : Inv X Kp σ H5 s6 := I2.call' (ch := fp) I6.os I6.base I6.hok I6.bare fun b hb => ⟨(f2 b hb).2.2.2.1, (f2 b hb).2.1, (f2 b hb).2.2.2.2.1, (f2 b hb).2.2.2.2.2⟩;have H5C : H5 C = none := I6.free;have cne : ∀{b : Addr}, b<D -> b≠C := ltC;have J7 : Inv X Kp σ H5 { s6 with heap := h7, toks := s6.toks } := J6.turned (it := C) (fun b o hb e => hs7.extBut b o hb e) H5C (Ne.symm (ltC locLt)) (.inr (Nat.le_trans I2.sz hCge)) (fun x c e => ltC (cellsLt x c e)) (fun p hp => ltC (pinLt p hp));have ho7 : h7.get? D = some { cls := .type "list", data := .seq us.toArray k } := hs7.extBut D _ hDC ho6;refine⟨.ref D, upd H5 D (.lst ys), ?_, rfl, fin D hD5⟩;exact Inv.track J7 hD5 (Nat.le_trans I2.sz hDge) (Ne.symm (Nat.ne_of_lt locLt)) (fun x c e => Nat.ne_of_lt (cellsLt x c e)) (fun p hp => Nat.ne_of_lt (pinLt p hp)) ⟨Nat.le_of_lt hsz, us, k, rv5, ho7⟩
    · refine thn (T.item (blk X N' sc cl C s2 H2 fp (X.pn ++ Kp)) rfl rfl rfl hc i _ s5 τ H5 NoX I5p (fpB fr5 (Dfp _)) st5 go) fun r s6 ⟨u, hr, h6⟩ => ?_
      subst hr;refine thn h6 fun _ s7 ⟨x, H7, I7, r7, y7, st7, fr7⟩ => ?_;have I7p := I7.pinned (fpB fr7 (Dfp _)) (T.obj _ _ st7);refine thn (bG _ s7 τ H7 x u _ I7p r7 (step x H7 y7)) fun _ s8 ⟨τ8, H8, I8, q8⟩ => ?_
      have back : ∀{τ9 : St} {H9 : Hp} {s9 : Shared}, Inv (blk X N' sc cl C s2 H2 fp (X.pn ++ Kp)) ([(D, { cls := .type "list", data := .seq us.toArray k })] ++ abJ fp s7.heap) τ9 H9 s9 ->
          tn (i + 1) s9.heap /\ (∀b∈fp, H9 b = none) /\ s9.heap.get? D = some { cls := .type "list", data := .seq us.toArray k } /\ H9 D = none := fun {τ9 H9 s9} I9 => by
        have pD := I9.pin (D, { cls := .type "list", data := .seq us.toArray k }) (List.mem_append_right _ (List.mem_append_left _ (List.mem_singleton.mpr rfl)));refine⟨T.keep _ _ _ st7 fun b hb o e => (I9.pin (b, o) (List.mem_append_right _ (List.mem_append_right _ (Jj hb e)))).1, fun b hb => ?_, pD.1, pD.2.1⟩;obtain⟨o, e, _⟩ := T.obj _ _ st7 b hb;exact(I9.pin (b, o) (List.mem_append_right _ (List.mem_append_right _ (Jj hb e)))).2.1
      have drop : ∀{τ9 : St} {H9 : Hp} {s9 : Shared} {pl : List (Addr×Obj)}, Inv (blk X N' sc cl C s2 H2 fp (X.pn ++ Kp)) pl τ9 H9 s9 -> Inv (blk X N' sc cl C s2 H2 fp (X.pn ++ Kp)) [] τ9 H9 s9 := fun I9 => I9.pins_of fun p hp => nomatch hp
      refine thn (bT _ s8 τ8 H8 _ I8 q8) fun b s9 ⟨H9, I9, q9⟩ => ?_;cases b with
      | false =>
        rw[if_neg Bool.false_ne_true]at q9 ⊢;obtain⟨m', hm, w9⟩ := q9;obtain⟨t9, f9, o9, d9⟩ := back I9;exact⟨m', hm, i + 1, τ8, ys, us, k, H9, drop I9, t9, f9, rv5, o9, d9, w9⟩
      | true =>
        rw[if_pos rfl]at q9 ⊢;refine thn (bE _ s9 τ8 H9 _ I9 q9) fun y s10 ⟨z, H10, I10, r10, q10⟩ => ?_;obtain⟨m', hm, w10⟩ := q10;obtain⟨t10, f10, o10, d10⟩ := back I10;have hl := rv5.length;refine append_at (hsz := by show us.toArray.size <= sizeLine;rw[List.size_toArray, ← hl];exact Nat.le_of_lt hsz) o10 fun h11 hs11 hD11 => ?_
        have I11 : Inv (blk X N' sc cl C s2 H2 fp (X.pn ++ Kp)) [] τ8 H10 { s10 with heap := h11, toks := s10.toks } := (drop I10).turned (it := D) (fun b o hb e => hs11.extBut b o hb e) d10 hDC (.inr hDge) (fun x c e => Nat.ne_of_lt (cellsLt x c (clm x c e)))
          (fun p hp => by have hp' : p∈X.pn ++ Kp := by simpa[blk]using hp
                          exact Nat.ne_of_lt (pinLt p hp'))
        refine⟨m', hm, i + 1, τ8, ys ++ [z], us ++ [y], k + 1, H10, I11, T.keep _ _ _ t10 (fun b hb o e => hs11.extBut b o (Nat.ne_of_lt (fpLt b hb)) e), f10, rv5.append (.cons r10 .nil), ?_, d10, w10⟩;rw[hD11];simp
  refine codeAny_compStart_list loop ?_;exact T.self _ 0 _ _ _ (T.keep _ _ _ st2 (fun b _ o e => old b o e)) loop
theorem jo.tup{K:Fg}{H H':Hp}{a:Addr}{xs:List V}(e:jo H H')(h:SqT K H a xs):SqT K H' a xs:=by
 rcases h with (h | ⟨o,h⟩) | h
 ·exact .inl (.inl (e _ _ h))
 ·exact .inl (.inr ⟨o,e _ _ h⟩)
 ·exact .inr h
noncomputable def scr(ns:List Int):PyData:= .dict (ns.map fun n=>(.int n,.none))
noncomputable def agn:Key->PyData
 |.inl i=> .int i
 |.inr t=> .str t
mutual
noncomputable def Rep(K:Fg)(H:Hp):PyData->V->Prop
 |.none,v=>v= .non
 |.bool b,v=>v= .bl b
 |.int i,v=>v= .int i
 |.str x,v=>v= .str x
 |.tuple ds,v=>∃a xs,v= .ref a/\SqT K H a xs/\Reps K H ds xs
 |.list ds,v=>∃a xs,v= .ref a/\H a=some (.lst xs)/\Reps K H ds xs
 |.dict kvs,v=>∃a,v= .ref a/\((∃ns:List Int,SqL K H a (List.map V.int ns)/\kvs=ns.map (fun n=>(PyData.int n,PyData.none)))∨(∃ks ob,H a=some (.frz ob (.dK ks))/\RepD K H kvs ks)∨(∃x:Str,kvs=[(.str x,.none)]/\PySem.W.nsIn K mainGlobals x=some (some (.ref a)))∨(∃(x:Str) (C:Addr) (oe:Obj),kvs=[(.str x,.bool true)]/\H a=some (.frz oe (.own a))/\PySem.W.nsIn K mainGlobals x=some (some (.ref C))/\oe.cls= .ref C/\oe.dict=none/\∃vs,oe.data= .fields vs)∨kvs=[(.bool true,.int (a:Int))])
noncomputable def Reps(K:Fg)(H:Hp):LP->List V->Prop
 | [],xs=>xs=[]
 |d::ds,xs=>∃x r,xs=x::r/\Rep K H d x/\Reps K H ds r
noncomputable def RepD(K:Fg)(H:Hp):List (PyData×PyData)->List (Key×V)->Prop
 | [],_=>False
 | (.none,_)::r,ks=>RepM K H r ks
 |_::_,_=>False
noncomputable def RepM(K:Fg)(H:Hp):List (PyData×PyData)->List (Key×V)->Prop
 | [],ks=>ks=[]
 | (k,d)::r,ks=>∃i x s,k=agn i/\ks=(i,x)::s/\Rep K H d x/\RepM K H r s
end
noncomputable def Jv(kvs:List (PyData×PyData)):Bool:=kvs.all fun p=>match p with
 | (.int _,.none)=>true
 |_=>false
theorem aeu(ns:List Int):Jv (ns.map fun n=>(PyData.int n,PyData.none))=true:=by
 simp[Jv]
theorem RepD.out{K:Fg}{H:Hp}:∀{kvs:List (PyData×PyData)}{ks:List (Key×V)},RepD K H kvs ks->∃c r,kvs=(.none,c)::r/\RepM K H r ks
 | [],_,h=>h.elim
 | (.none,c)::r,ks,h=>⟨c,r,rfl,h⟩
 | (.bool _,_)::_,_,h=>h.elim
 | (.int _,_)::_,_,h=>h.elim
 | (.str _,_)::_,_,h=>h.elim
 | (.list _,_)::_,_,h=>h.elim
 | (.tuple _,_)::_,_,h=>h.elim
 | (.dict _,_)::_,_,h=>h.elim
theorem Rep.scrOut{K:Fg}{H:Hp}{kvs:List (PyData×PyData)}{v:V}(h:Rep K H (.dict kvs) v)(hs:Jv kvs=true):∃a ns,v= .ref a/\SqL K H a (List.map V.int ns)/\kvs=ns.map (fun n=>(PyData.int n,PyData.none)):=by
 obtain⟨a,h1,h2 | ⟨ks,ob,h2,h3⟩ | ⟨x,h2,_⟩ | ⟨x,_,_,h2,_⟩ | h2⟩:=h
 ·obtain⟨ns,q1,q2⟩:=h2;exact⟨a,ns,h1,q1,q2⟩
 ·obtain⟨c,r,rfl,_⟩:=h3.out
  simp[Jv]at hs
 ·subst h2;simp[Jv]at hs
 ·subst h2;simp[Jv]at hs
 ·subst h2;simp[Jv]at hs
noncomputable def asQ(a:Addr):PyData:= .dict [(.bool true,.int (a:Int))]
noncomputable def JG(x:Str):PyData:= .dict [(.str x,.bool true)]
noncomputable def fnD(x:Str):PyData:= .dict [(.str x,.none)]
noncomputable def j4(H H':Hp):Prop:=∀b o,H b=some o->(∀φ,o ≠ .ext φ)->H' b=some o
theorem jo.e{H H':Hp}(s:jo H H'):j4 H H':=fun b o h _=>s b o h
theorem j4.refl(H:Hp):j4 H H:=fun _ _ h _=>h
theorem j4.trans{H H1 H2:Hp}(a:j4 H H1)(b:j4 H1 H2):j4 H H2:=fun c o h n=>b c o (a c o h n) n
theorem j4.tup{K:Fg}{H H':Hp}{a:Addr}{xs:List V}(e:j4 H H')(h:SqT K H a xs):SqT K H' a xs:=by
 rcases h with (h | ⟨o,h⟩) | h
 ·exact .inl (.inl (e _ _ h fun _ z=>nomatch z))
 ·exact .inl (.inr ⟨o,e _ _ h fun _ z=>nomatch z⟩)
 ·exact .inr h
theorem j4.sql{K:Fg}{H H':Hp}{a:Addr}{xs:List V}(e:j4 H H')(h:SqL K H a xs):SqL K H' a xs:=by
 rcases h with (h | ⟨o,h⟩) | h
 ·exact .inl (.inl (e _ _ h fun _ z=>nomatch z))
 ·exact .inl (.inr ⟨o,e _ _ h fun _ z=>nomatch z⟩)
 ·exact .inr h
section
variable {K:Fg}{H H':Hp}
mutual
theorem Rep.mono(e:jo H H'):∀(d:PyData) (v:V),Rep K H d v->Rep K H' d v
 |.none,v,h=>h
 |.bool _,v,h=>h
 |.int _,v,h=>h
 |.str _,v,h=>h
 |.tuple ds,v,⟨a,xs,h1,h2,h3⟩=>⟨a,xs,h1,jo.tup e h2,Reps.mono e ds xs h3⟩
 |.list ds,v,⟨a,xs,h1,h2,h3⟩=>⟨a,xs,h1,e _ _ h2,Reps.mono e ds xs h3⟩
 |.dict kvs,v,⟨a,h1,h2⟩=>⟨a,h1,h2.imp (fun⟨ns,q1,q2⟩=>⟨ns,e.seq q1,q2⟩) fun z=>z.imp (fun⟨ks,ob,q1,q2⟩=>⟨ks,ob,e _ _ q1,RepD.mono e kvs ks q2⟩) fun y=>y.imp id fun z=>z.imp (fun⟨x,C,oe,q1,q2,q3⟩=>⟨x,C,oe,q1,e _ _ q2,q3⟩) id⟩
theorem Reps.mono(e:jo H H'):∀(ds:LP) (xs:List V),Reps K H ds xs->Reps K H' ds xs
 | [],xs,h=>h
 |d::ds,xs,⟨x,r,h1,h2,h3⟩=>⟨x,r,h1,Rep.mono e d x h2,Reps.mono e ds r h3⟩
theorem RepD.mono(e:jo H H'):∀(kvs:List (PyData×PyData)) (ks:List (Key×V)),RepD K H kvs ks->RepD K H' kvs ks
 | [],_,h=>h
 | (.none,c)::r,ks,h=>RepM.mono e r ks h
 | (.bool _,_)::_,_,h=>h
 | (.int _,_)::_,_,h=>h
 | (.str _,_)::_,_,h=>h
 | (.list _,_)::_,_,h=>h
 | (.tuple _,_)::_,_,h=>h
 | (.dict _,_)::_,_,h=>h
theorem RepM.mono(e:jo H H'):∀(kvs:List (PyData×PyData)) (ks:List (Key×V)),RepM K H kvs ks->RepM K H' kvs ks
 | [],_,h=>h
 | (k,d)::r,ks,⟨i,x,s,h1,h2,h3,h4⟩=>⟨i,x,s,h1,h2,Rep.mono e d x h3,RepM.mono e r s h4⟩
end
mutual
theorem Rep.monoE(e:j4 H H'):∀(d:PyData) (v:V),Rep K H d v->Rep K H' d v
 |.none,v,h=>h
 |.bool _,v,h=>h
 |.int _,v,h=>h
 |.str _,v,h=>h
 |.tuple ds,v,⟨a,xs,h1,h2,h3⟩=>⟨a,xs,h1,j4.tup e h2,Reps.monoE e ds xs h3⟩
 |.list ds,v,⟨a,xs,h1,h2,h3⟩=>⟨a,xs,h1,e _ _ h2 (fun _ z=>nomatch z),Reps.monoE e ds xs h3⟩
 |.dict kvs,v,⟨a,h1,h2⟩=>⟨a,h1,h2.imp (fun⟨ns,q1,q2⟩=>⟨ns,j4.sql e q1,q2⟩) fun z=>z.imp (fun⟨ks,ob,q1,q2⟩=>⟨ks,ob,e _ _ q1 (fun _ z=>nomatch z),RepD.monoE e kvs ks q2⟩) fun y=>y.imp id fun z=>z.imp (fun⟨x,C,oe,q1,q2,q3⟩=>⟨x,C,oe,q1,e _ _ q2 (fun _ z=>nomatch z),q3⟩) id⟩
theorem Reps.monoE(e:j4 H H'):∀(ds:LP) (xs:List V),Reps K H ds xs->Reps K H' ds xs
 | [],xs,h=>h
 |d::ds,xs,⟨x,r,h1,h2,h3⟩=>⟨x,r,h1,Rep.monoE e d x h2,Reps.monoE e ds r h3⟩
theorem RepD.monoE(e:j4 H H'):∀(kvs:List (PyData×PyData)) (ks:List (Key×V)),RepD K H kvs ks->RepD K H' kvs ks
 | [],_,h=>h
 | (.none,c)::r,ks,h=>RepM.monoE e r ks h
 | (.bool _,_)::_,_,h=>h
 | (.int _,_)::_,_,h=>h
 | (.str _,_)::_,_,h=>h
 | (.list _,_)::_,_,h=>h
 | (.tuple _,_)::_,_,h=>h
 | (.dict _,_)::_,_,h=>h
theorem RepM.monoE(e:j4 H H'):∀(kvs:List (PyData×PyData)) (ks:List (Key×V)),RepM K H kvs ks->RepM K H' kvs ks
 | [],_,h=>h
 | (k,d)::r,ks,⟨i,x,s,h1,h2,h3,h4⟩=>⟨i,x,s,h1,h2,Rep.monoE e d x h3,RepM.monoE e r s h4⟩
end
end
noncomputable def arN:HO->Bool
 |.lst _=>true
 |.tup _=>true
 |.frz _ _=>true
 |_=>false
noncomputable def qp(H H':Hp):Prop:=∀b o,H b=some o->arN o=true->H' b=some o
section
variable {K:Fg}{H H':Hp}
theorem qp.tup{a:Addr}{xs:List V}(e:qp H H')(h:SqT K H a xs):SqT K H' a xs:=by
 rcases h with (h | ⟨o,h⟩) | h
 ·exact .inl (.inl (e _ _ h rfl))
 ·exact .inl (.inr ⟨o,e _ _ h rfl⟩)
 ·exact .inr h
theorem qp.sql{a:Addr}{xs:List V}(e:qp H H')(h:SqL K H a xs):SqL K H' a xs:=by
 rcases h with (h | ⟨o,h⟩) | h
 ·exact .inl (.inl (e _ _ h rfl))
 ·exact .inl (.inr ⟨o,e _ _ h rfl⟩)
 ·exact .inr h
mutual
theorem Rep.monoA(e:qp H H'):∀(d:PyData) (v:V),Rep K H d v->Rep K H' d v
 |.none,v,h=>h
 |.bool _,v,h=>h
 |.int _,v,h=>h
 |.str _,v,h=>h
 |.tuple ds,v,⟨a,xs,h1,h2,h3⟩=>⟨a,xs,h1,qp.tup e h2,Reps.monoA e ds xs h3⟩
 |.list ds,v,⟨a,xs,h1,h2,h3⟩=>⟨a,xs,h1,e _ _ h2 rfl,Reps.monoA e ds xs h3⟩
 |.dict kvs,v,⟨a,h1,h2⟩=>⟨a,h1,h2.imp (fun⟨ns,q1,q2⟩=>⟨ns,qp.sql e q1,q2⟩) fun z=>z.imp (fun⟨ks,ob,q1,q2⟩=>⟨ks,ob,e _ _ q1 rfl,RepD.monoA e kvs ks q2⟩) fun y=>y.imp id fun z=>z.imp (fun⟨x,C,oe,q1,q2,q3⟩=>⟨x,C,oe,q1,e _ _ q2 rfl,q3⟩) id⟩
theorem Reps.monoA(e:qp H H'):∀(ds:LP) (xs:List V),Reps K H ds xs->Reps K H' ds xs
 | [],xs,h=>h
 |d::ds,xs,⟨x,r,h1,h2,h3⟩=>⟨x,r,h1,Rep.monoA e d x h2,Reps.monoA e ds r h3⟩
theorem RepD.monoA(e:qp H H'):∀(kvs:List (PyData×PyData)) (ks:List (Key×V)),RepD K H kvs ks->RepD K H' kvs ks
 | [],_,h=>h
 | (.none,c)::r,ks,h=>RepM.monoA e r ks h
 | (.bool _,_)::_,_,h=>h
 | (.int _,_)::_,_,h=>h
 | (.str _,_)::_,_,h=>h
 | (.list _,_)::_,_,h=>h
 | (.tuple _,_)::_,_,h=>h
 | (.dict _,_)::_,_,h=>h
theorem RepM.monoA(e:qp H H'):∀(kvs:List (PyData×PyData)) (ks:List (Key×V)),RepM K H kvs ks->RepM K H' kvs ks
 | [],_,h=>h
 | (k,d)::r,ks,⟨i,x,s,h1,h2,h3,h4⟩=>⟨i,x,s,h1,h2,Rep.monoA e d x h3,RepM.monoA e r s h4⟩
end
end
theorem jo.a{H H':Hp}(s:jo H H'):qp H H':=fun b o h _=>s b o h
theorem j4.a{H H':Hp}(s:j4 H H'):qp H H':=fun b o h q=>s b o h fun φ z=>by subst z;cases q
theorem qp.refl(H:Hp):qp H H:=fun _ _ h _=>h
theorem qp.trans{H H1 H2:Hp}(a:qp H H1)(b:qp H1 H2):qp H H2:=fun c o h n=>b c o (a c o h n) n
section
variable {K:Fg}{H H':Hp}
theorem Rep.cel(a:Addr):Rep K H (asQ a) (.ref a):=⟨a,rfl,.inr (.inr (.inr (.inr rfl)))⟩
theorem Reps.length:∀{ds:LP}{xs:List V},Reps K H ds xs->xs.length=ds.length
 | [],xs,h=>by cases h;rfl
 |d::ds,xs,⟨x,r,h1,h2,h3⟩=>by subst h1;simp[Reps.length h3]
theorem Reps.get:∀{ds:LP}{xs:List V}{i:Nat}{d:PyData},Reps K H ds xs->ds[i]?=some d->∃x,xs[i]?=some x/\Rep K H d x
 | [],xs,i,d,h,e=>by simp at e
 |c::ds,xs,0,d,⟨x,r,h1,h2,h3⟩,e=>by subst h1;simp at e;subst e;exact⟨x,rfl,h2⟩
 | c::ds,xs,i+1,d,⟨x,r,h1,h2,h3⟩,e=>by
  subst h1;obtain⟨y,e1,e2⟩:=Reps.get (i:=i) h3 (by simpa using e);exact⟨y,by simpa using e1,e2⟩
theorem Reps.append:∀{ds es:LP}{xs ys:List V},Reps K H ds xs->Reps K H es ys->Reps K H (ds++es) (xs++ys)
 | [],es,xs,ys,h,g=>by cases h;exact g
 |d::ds,es,xs,ys,⟨x,r,h1,h2,h3⟩,g=>by subst h1;exact⟨x,r++ys,rfl,h2,Reps.append h3 g⟩
theorem Reps.take:∀{ds:LP}{xs:List V} (n:Nat),Reps K H ds xs->Reps K H (ds.take n) (xs.take n)
 |ds,xs,0,h=>by simp;rfl
 | [],xs,n+1,h=>by cases h;rfl
 |d::ds,xs,n+1,⟨x,r,h1,h2,h3⟩=>by subst h1;exact⟨x,_,rfl,h2,Reps.take n h3⟩
theorem Reps.drop:∀{ds:LP}{xs:List V} (n:Nat),Reps K H ds xs->Reps K H (ds.drop n) (xs.drop n)
 |ds,xs,0,h=>by simpa using h
 | [],xs,n+1,h=>by cases h;rfl
 |d::ds,xs,n+1,⟨x,r,h1,h2,h3⟩=>by subst h1;simpa using Reps.drop n h3
theorem Reps.ints:∀{ns:List Int}{xs:List V},Reps K H (ns.map PyData.int) xs->xs=ns.map V.int
 | [],xs,h=>h
 |n::ns,xs,⟨x,r,h1,h2,h3⟩=>by subst h1;cases (show x=V.int n from h2);rw[Reps.ints h3];rfl
end
section
variable {X:Cx}{Kp:List (Addr×Obj)}{σ:St}{H:Hp}{s:Shared}
mutual
theorem zX(I:Inv X Kp σ H s):∀(d:PyData) (v:V) (u:Value),Rep X.K H d v->jS v u->d.canLay0=true->∃as,Reads s.heap u d as
 |.none,v,u,h,r,_=>by cases h;cases r;exact⟨_,.none⟩
 |.bool b,v,u,h,r,_=>by cases h;cases r;exact⟨_,.bool b⟩
 |.int i,v,u,h,r,_=>by cases h;obtain⟨t,rfl⟩:=r;exact⟨_,.int i t⟩
 |.str x,v,u,h,r,_=>by cases h;obtain⟨t,rfl⟩:=r;exact⟨_,.str x t⟩
 | .tuple ds,v,u,⟨a,xs,h1,h2,h3⟩,r,hc=>by
  subst h1;cases r;obtain⟨its,rv,⟨o,e1,e2,n,e3⟩,_⟩:=I.tuple h2;obtain⟨as,ra⟩:=readsAll_of I ds xs its h3 rv (by simpa[PyData.canLay0]using hc);exact⟨as,.tuple e1 e2 e3 (by simpa using ra)⟩
 | .list ds,v,u,⟨a,xs,h1,h2,h3⟩,r,hc=>by
  subst h1;cases r;obtain⟨its,rv,⟨o,n,e1,e2,e3,e4⟩,_⟩:=I.list (SqL.of h2);obtain⟨as,ra⟩:=readsAll_of I ds xs its h3 rv (by simpa[PyData.canLay0]using hc);exact⟨a::as,.list e1 e2 e4 (by simpa using ra)⟩
 |.dict kvs,v,u,h,r,hc=>by simp[PyData.canLay0]at hc
theorem readsAll_of(I:Inv X Kp σ H s):∀(ds:LP) (xs:List V) (us:List Value),Reps X.K H ds xs->jM xs us->PyData.canLayAll0 ds=true->∃as,ReadsAll s.heap us ds as
 | [],xs,us,h,r,_=>by cases h;cases r;exact⟨_,.nil⟩
 | d::ds,xs,us,⟨x,q,h1,h2,h3⟩,r,hc=>by
  subst h1;cases r with
  | cons r1 r2=>
   have hc':d.canLay0=true/\PyData.canLayAll0 ds=true:=by simpa[PyData.canLayAll0]using hc
   obtain⟨as,ra⟩:=zX I d x _ h2 r1 hc'.1;obtain⟨bs,rb⟩:=readsAll_of I ds q _ h3 r2 hc'.2;exact⟨_,.cons ra rb⟩
end
end
noncomputable abbrev Rho:=List (OP)
abbrev RP:=Rho->OP
structure EnvR(K:Fg)(H:Hp)(ρ:Rho)(σ:St):Prop where
 len:ρ.length=σ.length
 at':∀(i:Nat) (d:PyData),ρ[i]?=some (some d)->∃v,σ[i]?=some (some v)/\Rep K H d v
theorem EnvR.mono{K:Fg}{H H':Hp}{ρ:Rho}{σ:St}(e:EnvR K H ρ σ)(h:jo H H'):EnvR K H' ρ σ:=
 ⟨e.len,fun i d q=>let ⟨v,e1,e2⟩:=e.at' i d q;⟨v,e1,Rep.mono h d v e2⟩⟩
theorem EnvR.set{K:Fg}{H:Hp}{ρ:Rho}{σ:St}(e:EnvR K H ρ σ){i:Nat}{d:PyData}{v:V}(r:Rep K H d v):EnvR K H (ρ.set i (some d)) (σ.set i (some v)):=by
 refine⟨by simp[e.len],fun j c q=>?_⟩;by_cases hj:i=j
 ·subst hj
  rw[List.getElem?_set]at q ⊢;simp only[zzM]at q ⊢;by_cases hl:i < ρ.length
  ·rw[if_pos hl]at q
   rw[if_pos (by rw[←e.len];exact hl)];cases q;exact⟨v,rfl,r⟩
  ·rw[if_neg hl]at q;cases q
 ·rw[List.getElem?_set_ne hj]at q ⊢
  exact e.at' j c q
noncomputable def lkp(i:Nat)(ρ:Rho):OP:=(ρ[i]?).join
theorem Jw{i:Nat}{ρ:Rho}{d:PyData}(h:lkp i ρ=some d):ρ[i]?=some (some d):=by
 unfold lkp at h;cases e:ρ[i]? with
 |none=>rw[e]at h;cases h
 | some o=>rw[e]at h;cases o with
  |none=>cases h
  |some c=>cases h;rfl
noncomputable def tD(K:Fg)(f:RP):TE:=fun σ H Q=>∃ρ d,EnvR K H ρ σ/\f ρ=some d/\∀v H',jo H H'->Rep K H' d v->Q v H'
@[irreducible] noncomputable def PD(X:Cx)(e:Expr)(f:RP):Prop:=PE X e (tD X.K f)
noncomputable def tDT(K:Fg)(f:Rho->Option Bool):TT:=fun σ H Q=>∃ρ b,EnvR K H ρ σ/\f ρ=some b/\∀H',jo H H'->Q b H'
@[irreducible] noncomputable def PTD(X:Cx)(e:Expr)(f:Rho->Option Bool):Prop:=PT X e (tDT X.K f)
noncomputable def tDA(K:Fg)(f:Rho->Option (LP)):TA:=fun σ H Q=>∃ρ ds,EnvR K H ρ σ/\f ρ=some ds/\∀vs H',jo H H'->Reps K H' ds vs->Q vs H'
@[irreducible] noncomputable def PAD(X:Cx)(es:List Expr)(f:Rho->Option (LP)):Prop:=PA X es (tDA X.K f)
inductive Out where
 |nx (ρ:Rho) | rt (d:PyData) | bk (ρ:Rho) | ct (ρ:Rho)
abbrev RO:=Rho->Option Out
noncomputable def aiS(K:Fg)(D:Ends)(H:Hp):Out->Prop
 |.nx ρ=>∀σ H',jo H H'->EnvR K H' ρ σ->D.nx σ H'
 |.rt d=>∀v H',jo H H'->Rep K H' d v->D.rt v H'
 |.bk ρ=>∀σ H',jo H H'->EnvR K H' ρ σ->D.bk σ H'
 |.ct ρ=>∀σ H',jo H H'->EnvR K H' ρ σ->D.ct σ H'
theorem aiS.mono{K:Fg}{D:Ends}{H H':Hp}{o:Out}(h:aiS K D H o)(e:jo H H'):aiS K D H' o:=by
 cases o with
 |nx ρ=>exact fun σ H2 e2 r=>h σ H2 (e.trans e2) r
 |rt d=>exact fun v H2 e2 r=>h v H2 (e.trans e2) r
 |bk ρ=>exact fun σ H2 e2 r=>h σ H2 (e.trans e2) r
 |ct ρ=>exact fun σ H2 e2 r=>h σ H2 (e.trans e2) r
noncomputable def tDS(K:Fg)(F:RO):TS:=fun D σ H=>∃ρ o,EnvR K H ρ σ/\F ρ=some o/\aiS K D H o
@[irreducible] noncomputable def PSD(X:Cx)(st:Stmt)(F:RO):Prop:=PS X st (tDS X.K F)
@[irreducible] noncomputable def ZC(X:Cx)(st:List Stmt)(F:RO):Prop:=PSs X st (tDS X.K F)
noncomputable def tDG(K:Fg)(ga:PyData->Rho->Option Rho):TG:=fun v σ H Q=>∃ρ d ρ',EnvR K H ρ σ/\Rep K H d v/\ga d ρ=some ρ'/\∀σ' H',jo H H'->EnvR K H' ρ' σ'->Q σ' H'
@[irreducible] noncomputable def PGD(X:Cx)(tg:Expr)(ga:PyData->Rho->Option Rho):Prop:=PG X tg (tDG X.K ga)
section
variable {X:Cx}{e a b c:Expr}{es:List Expr}{fa fb fc:RP}{pos:Pos}
theorem PE.imp{t t':TE}(h:PE X e t)(hi:∀σ H Q,t' σ H Q->t σ H Q):PE X e t':=fun Kp s σ H Q I q=>h Kp s σ H Q I (hi σ H Q q)
theorem PT.imp{t t':TT}(h:PT X e t)(hi:∀σ H Q,t' σ H Q->t σ H Q):PT X e t':=fun Kp s σ H Q I q=>h Kp s σ H Q I (hi σ H Q q)
theorem PA.imp{t t':TA}(h:PA X es t)(hi:∀σ H Q,t' σ H Q->t σ H Q):PA X es t':=fun pos Kp s σ H Q I q=>h pos Kp s σ H Q I (hi σ H Q q)
theorem PS.imp{st:Stmt}{t t':TS}(h:PS X st t)(hi:∀D σ H,t' D σ H->t D σ H):PS X st t':=fun Kp s σ H D I q=>h Kp s σ H D I (hi D σ H q)
theorem PSs.imp{st:List Stmt}{t t':TS}(h:PSs X st t)(hi:∀D σ H,t' D σ H->t D σ H):PSs X st t':=fun Kp s σ H D I q=>h Kp s σ H D I (hi D σ H q)
theorem PG.imp{t t':TG}(h:PG X e t)(hi:∀v σ H Q,t' v σ H Q->t v σ H Q):PG X e t':=fun Kp s σ H v u Q I r q=>h Kp s σ H v u Q I r (hi v σ H Q q)
theorem jb(i:Nat){x:Str}{pos:Pos}(hN:X.N[i]?=some x:=by rfl)(hv:Vis X.env.scope x:=by first|exact Or.inl rfl|exact Or.inr (Or.inl rfl)|exact Or.inr (Or.inr rfl))(hd:(x==("__debug__":Str))=false:=by decide)
  (hcd:(x==("__classdict__":Str))=false:=by decide):PD X (.Name x pos) (lkp i):=by
 with_unfolding_all exact(PE.imp (ae3 hN hv hd hcd) fun σ H Q ⟨ρ,d,e,h,k⟩=>let ⟨v,e1,e2⟩:=e.at' i d (Jw h);⟨v,e1,k v H (jo.refl H) e2⟩)
noncomputable def cst(d:PyData)(_:Rho):OP:=some d
theorem jf{i j pos}:PD X (.Constant (.int i) j pos) (cst (.int i)):=by
 with_unfolding_all exact(PE.imp ahR fun σ H Q ⟨ρ,d,e,h,k⟩=>by cases h;exact k _ H (jo.refl H) rfl)
theorem JJ{i j pos}:PD X (.Constant (.bool i) j pos) (cst (.bool i)):=by
 with_unfolding_all exact(PE.imp arm fun σ H Q ⟨ρ,d,e,h,k⟩=>by cases h;exact k _ H (jo.refl H) rfl)
theorem adb{j pos}:PD X (.Constant .none j pos) (cst .none):=by
 with_unfolding_all exact(PE.imp akX fun σ H Q ⟨ρ,d,e,h,k⟩=>by cases h;exact k _ H (jo.refl H) rfl)
theorem ah2{i j pos}:PD X (.Constant (.str i) j pos) (cst (.str i)):=by
 with_unfolding_all exact(PE.imp akY fun σ H Q ⟨ρ,d,e,h,k⟩=>by cases h;exact k _ H (jo.refl H) rfl)
theorem an1{x:Str}{v:V}{u:Value}{d:PyData}(hg:Gl X x)(hm:X.mg x=some u)(r:jS v u)(hr:∀H,Rep X.K H d v)(hd:(x==("__debug__":Str))=false:=by decide):PD X (.Name x pos) (cst d):=by
 with_unfolding_all exact(PE.imp (ae4 hg hm r hd) fun σ H Q ⟨ρ,d',e,h,k⟩=>by cases h;exact k _ H (jo.refl H) (hr H))
noncomputable def op2(g:PyData->PyData->OP)(fa fb:RP):RP:=fun ρ=>(fa ρ).bind fun x=>(fb ρ).bind fun y=>g x y
noncomputable def OpD(X:Cx)(f:Value->Value->Sem Value)(g:PyData->PyData->OP):Prop:=
 ∃r,OpR X f r/\∀p q d x y H Q,g p q=some d->Rep X.K H p x->Rep X.K H q y->(∀v H',jo H H'->Rep X.K H' d v->Q v H')->r x y H Q
theorem an2{g:PyData->PyData->OP}{K:Fg}{r:R2}(hr:∀p q d x y H Q,g p q=some d->Rep K H p x->Rep K H q y->(∀v H',jo H H'->Rep K H' d v->Q v H')->r x y H Q)
  {σ:St} {H:Hp} {Q:VK} (h:tD K (op2 g fa fb) σ H Q):tOp r (tD K fa) (tD K fb) σ H Q:=by
 obtain⟨ρ,d,e,h,k⟩:=h;unfold op2 at h;cases ha:fa ρ with
 |none=>rw[ha]at h;cases h
 | some p=>
  rw[ha]at h;cases hb:fb ρ with
  |none=>rw[hb]at h;cases h
  | some q=>
   rw[hb]at h;refine⟨ρ,p,e,ha,fun x H1 s1 r1=>⟨ρ,q,e.mono s1,hb,fun y H2 s2 r2=>?_⟩⟩;exact hr p q d x y H2 Q h (Rep.mono s2 p x r1) r2 fun v H' s3 r3=>k v H' (s1.trans (s2.trans s3)) r3
theorem jn{op:Operator}{g:PyData->PyData->OP}(ho:OpD X (binaryOp op) g)(ha:PD X a fa)(hb:PD X b fb):PD X (.BinOp a op b pos) (op2 g fa fb):=by
 with_unfolding_all
  obtain⟨r,h1,h2⟩:=ho;exact PE.imp (apy h1 ha hb) fun σ H Q h=>an2 h2 h
theorem Jl{op:CmpOp}{g:PyData->PyData->OP}(ho:OpD X (compareOp op) g)(ha:PD X a fa)(hb:PD X b fb)(hm:behindInMarks op b=false:=by first|exact ae7 _ | with_unfolding_all rfl):PD X (.Compare a [op] [b] pos) (op2 g fa fb):=by
 with_unfolding_all
  obtain⟨r,h1,h2⟩:=ho;exact PE.imp (anJ h1 ha hb hm) fun σ H Q h=>an2 h2 h
noncomputable def asB:PyData->Option Bool
 |.bool b=>some b
 |_=>none
noncomputable def tst(f:RP):Rho->Option Bool:=fun ρ=>(f ρ).bind asB
theorem JW{d:PyData}{b:Bool}(h:asB d=some b):d= .bool b:=by
 cases d<;>simp[asB]at h
 rw[h]
theorem jK{op:CmpOp}{g:PyData->PyData->OP}(ho:OpD X (compareOp op) g)(ha:PD X a fa)(hb:PD X b fb)(hm:behindInMarks op b=false:=by first|exact ae7 _ | with_unfolding_all rfl):PTD X (.Compare a [op] [b] pos) (tst (op2 g fa fb)):=by
 with_unfolding_all
  obtain⟨r,h1,h2⟩:=ho;refine PT.imp (anK h1 ha hb hm) fun σ H Q ⟨ρ,t,e,h,k⟩=>?_;cases hd:op2 g fa fb ρ with
  |none=>simp[tst,hd]at h
  | some d=>
   have ht:d= .bool t:=JW (by simpa[tst,hd]using h);subst ht;exact an2 h2 ⟨ρ,_,e,hd,fun v H' s r=>⟨t,r,k H' s⟩⟩
theorem ze(h:PD X e fa)(he:∀whole,isTrue e X.env whole=(do let v ←whole;standAt e.pos;holding [v] (truthy v)):=by intro _;rfl):PTD X e (tst fa):=by
 with_unfolding_all
  refine PT.imp (apY h he) fun σ H Q ⟨ρ,t,e,h,k⟩=>?_;cases hd:fa ρ with
  |none=>simp[tst,hd]at h
  | some d=>
   have ht:d= .bool t:=JW (by simpa[tst,hd]using h);subst ht;exact⟨ρ,_,e,hd,fun v H' s r=>⟨t,r,k H' s⟩⟩
variable {ta tb:Rho->Option Bool}{qh:List Expr}
@[irreducible] noncomputable def PWD(X:Cx)(e:Expr)(f:Rho->Option Bool):Prop:=PW X e (tDT X.K f)
theorem PW.imp{t t':TT}(h:PW X e t)(hi:∀σ H Q,t' σ H Q->t σ H Q):PW X e t':=fun wh Kp s σ H Q I q=>h wh Kp s σ H Q I (hi σ H Q q)
noncomputable def Zw(ta tb:Rho->Option Bool):Rho->Option Bool:=fun ρ=>(ta ρ).bind fun x=>if x=true then tb ρ else some false
noncomputable def orB(ta tb:Rho->Option Bool):Rho->Option Bool:=fun ρ=>(ta ρ).bind fun x=>if x=true then some true else tb ρ
noncomputable def Ql(ta:Rho->Option Bool):Rho->Option Bool:=fun ρ=>(ta ρ).map (!·)
theorem ZD(ha:PTD X a ta):PWD X (.BoolOp .And [a] pos) ta:=by
 with_unfolding_all exact(anE ha)
theorem acx(ha:PTD X a ta):PWD X (.BoolOp .Or [a] pos) ta:=by
 with_unfolding_all exact(apZ ha)
theorem Z7(ha:PTD X a ta)(hb:PWD X (.BoolOp .And (b::qh) pos) tb):PWD X (.BoolOp .And (a::b::qh) pos) (Zw ta tb):=by
 with_unfolding_all
  refine PW.imp (ap0 ha hb) fun σ H Q ⟨ρ,t,e,h,k⟩=>?_;cases h1:ta ρ with
  |none=>simp[Zw,h1]at h
  | some x=>
   refine⟨ρ,x,e,h1,fun H' s=>?_⟩;cases x with
   |true=>rw[if_pos rfl];exact⟨ρ,t,e.mono s,by simpa[Zw,h1]using h,fun H2 s2=>k H2 (s.trans s2)⟩
   | false=>
    rw[if_neg Bool.false_ne_true];have:t=false:=by simpa[Zw,h1]using h.symm
    subst this;exact k H' s
theorem afd(ha:PTD X a ta)(hb:PWD X (.BoolOp .Or (b::qh) pos) tb):PWD X (.BoolOp .Or (a::b::qh) pos) (orB ta tb):=by
 with_unfolding_all
  refine PW.imp (arn ha hb) fun σ H Q ⟨ρ,t,e,h,k⟩=>?_;cases h1:ta ρ with
  |none=>simp[orB,h1]at h
  | some x=>
   refine⟨ρ,x,e,h1,fun H' s=>?_⟩;cases x with
   |false=>rw[if_neg Bool.false_ne_true];exact⟨ρ,t,e.mono s,by simpa[orB,h1]using h,fun H2 s2=>k H2 (s.trans s2)⟩
   | true=>
    rw[if_pos rfl];have:t=true:=by simpa[orB,h1]using h.symm
    subst this;exact k H' s
theorem zY{op:BoolOp}{l:List Expr}(h:PWD X (.BoolOp op l pos) ta):PTD X (.BoolOp op l pos) ta:=by
 with_unfolding_all exact(h.pt)
theorem zn(ha:PTD X a ta):PTD X (.UnaryOp .Not a pos) (Ql ta):=by
 with_unfolding_all
  refine PT.imp (ap1 ha) fun σ H Q ⟨ρ,t,e,h,k⟩=>?_;cases h1:ta ρ with
  |none=>simp[Ql,h1]at h
  | some x=>
   have:(!x)=t:=by simpa[Ql,h1]using h
   subst this;exact⟨ρ,x,e,h1,fun H' s=>k H' s⟩
noncomputable def ifD(tc:Rho->Option Bool)(fa fb:RP):RP:=fun ρ=>(tc ρ).bind fun x=>if x=true then fa ρ else fb ρ
theorem arO{tc:Rho->Option Bool}(hc:PTD X c tc)(ha:PD X a fa)(hb:PD X b fb):PD X (.IfExp c a b pos) (ifD tc fa fb):=by
 with_unfolding_all
  refine PE.imp (ak0 hc ha hb) fun σ H Q ⟨ρ,d,e,h,k⟩=>?_;cases h1:tc ρ with
  |none=>simp[ifD,h1]at h
  | some x=>
   refine⟨ρ,x,e,h1,fun H' s=>?_⟩;cases x with
   |true=>rw[if_pos rfl];exact⟨ρ,d,e.mono s,by simpa[ifD,h1]using h,fun v H2 s2=>k v H2 (s.trans s2)⟩
   |false=>rw[if_neg Bool.false_ne_true];exact⟨ρ,d,e.mono s,by simpa[ifD,h1]using h,fun v H2 s2=>k v H2 (s.trans s2)⟩
noncomputable def jw(_:Rho):Option (LP):=some []
noncomputable def jm(fa:RP)(fr:Rho->Option (LP)):Rho->Option (LP):=fun ρ=>(fa ρ).bind fun x=>(fr ρ).map fun r=>x::r
theorem je:PAD X [] jw:=by
 with_unfolding_all exact(PA.imp Jk fun σ H Q ⟨ρ,d,e,h,k⟩=>by cases h;exact k [] H (jo.refl H) rfl)
theorem ja{fr:Rho->Option (LP)}(ha:PD X e fa)(hr:PAD X es fr)(hs:starEach (e::es) X.env=(false,eval e X.env)::starEach es X.env:=by rfl):PAD X (e::es) (jm fa fr):=by
 with_unfolding_all
  refine PA.imp (qL ha hr hs) fun σ H Q ⟨ρ,ds,en,h,k⟩=>?_;cases h1:fa ρ with
  |none=>simp[jm,h1]at h
  | some x=>
   cases h2:fr ρ with
   |none=>simp[jm,h1,h2]at h
   | some r=>
    have:x::r=ds:=by simpa[jm,h1,h2]using h
    subst this;exact⟨ρ,x,en,h1,fun v H1 s1 r1=>⟨ρ,r,en.mono s1,h2,fun vs H2 s2 r2=>k _ H2 (s1.trans s2) ⟨v,vs,rfl,Rep.mono s2 x v r1,r2⟩⟩⟩
noncomputable def few(ds:LP):Bool:=decide (ds.length<1000000)
theorem adc{n:Nat}(h:n<1000000):n<=sizeLine:=Nat.le_of_lt (Nat.lt_of_lt_of_le h (by rw[sizeLine_eq];decide))
theorem jI{H:Hp}{p:Addr}{o:HO}(hp:H p=none):jo H (upd H p o):=fun b u h=>by rw[jp (qG h hp)];exact h
noncomputable def QG(fr:Rho->Option (LP)):RP:=fun ρ=>(fr ρ).bind fun ds=>if few ds=true then some (.tuple ds) else none
noncomputable def aaY(fr:Rho->Option (LP)):RP:=fun ρ=>(fr ρ).bind fun ds=>if few ds=true then some (.list ds) else none
theorem zi{x1}{fr:Rho->Option (LP)}(h:PAD X es fr):PD X (.Tuple es x1 pos) (QG fr):=by
 with_unfolding_all
  refine PE.imp (ak8 h) fun σ H Q ⟨ρ,d,e,h,k⟩=>?_;cases h1:fr ρ with
  |none=>simp[QG,h1]at h
  | some ds=>
   by_cases hf:few ds=true
   ·have:PyData.tuple ds=d:=by simpa[QG,h1,hf]using h
    subst this;refine⟨ρ,ds,e,h1,fun vs H1 s1 r1=>⟨adc (by rw[r1.length];simpa[few]using hf),fun p hp=>k _ _ (s1.trans (jI hp)) ⟨p,vs,rfl,SqT.of jt,Reps.mono (jI hp) _ _ r1⟩⟩⟩
   ·simp[QG,h1,hf]at h
theorem qN{fr:Rho->Option (LP)}(h:PAD X es fr):PD X (.List es pos) (aaY fr):=by
 with_unfolding_all
  refine PE.imp (ae8 h) fun σ H Q ⟨ρ,d,e,h,k⟩=>?_;cases h1:fr ρ with
  |none=>simp[aaY,h1]at h
  | some ds=>
   by_cases hf:few ds=true
   ·have:PyData.list ds=d:=by simpa[aaY,h1,hf]using h
    subst this;refine⟨ρ,ds,e,h1,fun vs H1 s1 r1=>⟨adc (by rw[r1.length];simpa[few]using hf),fun p hp=>k _ _ (s1.trans (jI hp)) ⟨p,vs,rfl,jt,Reps.mono (jI hp) _ _ r1⟩⟩⟩
   ·simp[aaY,h1,hf]at h
end
end BX
end
section
namespace BX
open PySem PySem.Spec L2
open PyProof.Rows hiding St
section
variable {X:Cx}{e a b c tg src:Expr}{es:List Expr}{st:Stmt}{sts qh:List Stmt}{fa fb fc:RP}{F G:RO}{pos:Pos}
noncomputable def qK(fa:RP):RO:=fun ρ=>(fa ρ).map Out.rt
theorem jv(h:PD X e fa):PSD X (.Return (some e) pos) (qK fa):=by
 with_unfolding_all
  refine PS.imp (ae6 h) fun D σ H ⟨ρ,o,en,q,k⟩=>?_;cases h1:fa ρ with
  |none=>simp[qK,h1]at q
  | some d=>
   have:Out.rt d=o:=by simpa[qK,h1]using q
   subst this;exact⟨ρ,d,en,h1,k⟩
noncomputable def ifS(tc:Rho->Option Bool)(F G:RO):RO:=fun ρ=>(tc ρ).bind fun x=>if x=true then F ρ else G ρ
theorem j1{l r:List Stmt}{tc:Rho->Option Bool}(hc:PTD X c tc)(hl:ZC X l F)(hr:ZC X r G):PSD X (.If c l r pos) (ifS tc F G):=by
 with_unfolding_all
  refine PS.imp (apx hc hl hr) fun D σ H ⟨ρ,o,en,q,k⟩=>?_;cases h1:tc ρ with
  |none=>simp[ifS,h1]at q
  | some x=>
   refine⟨ρ,x,en,h1,fun H1 s1=>?_⟩;cases x with
   |true=>rw[if_pos rfl];exact⟨ρ,o,en.mono s1,by simpa[ifS,h1]using q,k.mono s1⟩
   |false=>rw[if_neg Bool.false_ne_true];exact⟨ρ,o,en.mono s1,by simpa[ifS,h1]using q,k.mono s1⟩
noncomputable def qC:RO:=fun ρ=>some (.nx ρ)
noncomputable def jH(F G:RO):RO:=fun ρ=>(F ρ).bind fun o=>match o with
 |.nx ρ'=>G ρ'
 |o=>some o
theorem jh:ZC X [] qC:=by
 with_unfolding_all
  refine PSs.imp aiD fun D σ H ⟨ρ,o,en,q,k⟩=>?_;cases q;exact k σ H (jo.refl H) en
theorem jd(h1 : PSD X st F)(h2 : ZC X qh G) : ZC X (st :: qh) (jH F G) := by
  with_unfolding_all
   refine PSs.imp (Ju h1 h2) fun D σ H ⟨ρ, o, en, q, k⟩ => ?_;cases hf : F ρ with
   |none => simp[jH, hf]at q
   | some p =>
     refine⟨ρ, p, en, hf, ?_⟩;cases p with
     |nx ρ' => exact fun σ' H' s' r' => ⟨ρ', o, r', by simpa[jH, hf]using q, k.mono s'⟩
     | rt d => have : Out.rt d = o := by simpa[jH, hf]using q
               subst this;exact k
     | bk d => have : Out.bk d = o := by simpa[jH, hf]using q
               subst this;exact k
     | ct d => have : Out.ct d = o := by simpa[jH, hf]using q
               subst this;exact k
noncomputable def ah3:RO:=fun _=>none
theorem JX:ZC X sts ah3:=by
 with_unfolding_all exact(PSs.imp ajH fun D σ H ⟨ρ,o,en,q,k⟩=>by cases q)
noncomputable def zg(fa:RP):RO:=fun ρ=>(fa ρ).map fun _=> .nx ρ
theorem j9(h:PD X e fa)(hs:swapsWith e none pos.line X.env=pure false:=by rfl):PSD X (.Expr e pos) (zg fa):=by
 with_unfolding_all
  refine PS.imp (ae5 h hs) fun D σ H ⟨ρ,o,en,q,k⟩=>?_;cases h1:fa ρ with
  |none=>simp[zg,h1]at q
  | some d=>
   have:Out.nx ρ=o:=by simpa[zg,h1]using q
   subst this;exact⟨ρ,d,en,h1,fun v H' s r=>k σ H' s (en.mono s)⟩
noncomputable def jB(i:Nat)(d:PyData)(ρ:Rho):Option Rho:=some (ρ.set i (some d))
theorem jG(i:Nat){x:Str}(hN:X.N.Nodup)(hi:X.N[i]?=some x:=by rfl)(hx:Loc X.env.scope x:=by first|exact Or.inl rfl|exact Or.inr rfl)
  (hf:X.fn x=true∨X.env.scope.names.lookup x=some .local:=by first|exact .inl rfl|exact .inr rfl|assumption):PGD X (.Name x pos) (jB i):=by
 with_unfolding_all
  refine PG.imp (Z5 hN hi hx hf) fun v σ H Q ⟨ρ,d,ρ',en,r,q,k⟩=>?_;cases q;exact k _ H (jo.refl H) (en.set r)
@[irreducible] noncomputable def an3(X:Cx)(ts:List Expr)(ga:LP->Rho->Option Rho):Prop:=PGs X ts fun vs σ H Q=>∃ρ ds ρ',EnvR X.K H ρ σ/\Reps X.K H ds vs/\ga ds ρ=some ρ'/\∀σ' H',jo H H'->EnvR X.K H' ρ' σ'->Q σ' H'
noncomputable def Q9(ds:LP)(ρ:Rho):Option Rho:=match ds with
 | []=>some ρ
 |_=>none
noncomputable def qB(ga:PyData->Rho->Option Rho)(gr:LP->Rho->Option Rho)(ds:LP)(ρ:Rho):Option Rho:=match ds with
 |d::r=>(ga d ρ).bind fun ρ1=>gr r ρ1
 | []=>none
theorem PGs.imp{ts:List Expr}{t t':TGs}(h:PGs X ts t)(hi:∀v σ H Q,t' v σ H Q->t v σ H Q):PGs X ts t':=fun Kp s σ H v u Q I r q=>h Kp s σ H v u Q I r (hi v σ H Q q)
theorem add:an3 X [] Q9:=by
 with_unfolding_all
  refine PGs.imp aiE fun vs σ H Q ⟨ρ,ds,ρ',en,r,q,k⟩=>?_;cases ds with
  |nil=>cases r;cases q;exact⟨rfl,k σ H (jo.refl H) en⟩
  |cons d ds=>cases q
theorem zo{ga:PyData->Rho->Option Rho}{gr:LP->Rho->Option Rho}(h1:PGD X e ga)(h2:an3 X es gr)
  (hs:(assignEach (e::es) X.env).map (·.2)=assign e X.env::(assignEach es X.env).map (·.2):=by rfl):an3 X (e::es) (qB ga gr):=by
 with_unfolding_all
  refine PGs.imp (age h1 h2 hs) fun vs σ H Q ⟨ρ,ds,ρ',en,r,q,k⟩=>?_;cases ds with
  |nil=>cases q
  | cons d ds=>
   obtain⟨x,rr,e1,r1,r2⟩:=r;subst e1;cases h3:ga d ρ with
   |none=>simp[qB,h3]at q
   | some ρ1=>
    refine⟨x,rr,rfl,ρ,d,ρ1,en,r1,h3,fun σ1 H1 s1 e1=>⟨ρ1,ds,ρ',e1,Reps.mono s1 ds rr r2,by simpa[qB,h3]using q,fun σ2 H2 s2 e2=>k σ2 H2 (s1.trans s2) e2⟩⟩
noncomputable def aaH(n:Nat)(gr:LP->Rho->Option Rho)(d:PyData)(ρ:Rho):Option Rho:=match d with
 |.tuple ds=>if ds.length=n then gr ds ρ else none
 |_=>none
theorem afe{k n:Nat}{gr:LP->Rho->Option Rho}(hc:X.calm=true)(h:an3 X es gr)(hn:(assignEach es X.env).length=n:=by rfl)(hst:(assignEach es X.env).findIdx? (·.1)=none:=by rfl):
  PGD X (.Tuple es k pos) (aaH n gr):=by
 with_unfolding_all
  refine PG.imp (ak3 hc h hn hst) fun v σ H Q ⟨ρ,d,ρ',en,r,q,k⟩=>?_;cases d with
  | tuple ds=>
   obtain⟨a,xs,e1,e2,e3⟩:=r;by_cases hl:ds.length=n
   ·exact⟨a,xs,e1,e2,by rw[e3.length];exact hl,ρ,ds,ρ',en,e3,by simpa[aaH,hl]using q,k⟩
   ·simp[aaH,hl]at q
  |_=>simp[aaH]at q
noncomputable def qV(fa:RP)(ga:PyData->Rho->Option Rho):RO:=fun ρ=>(fa ρ).bind fun d=>(ga d ρ).map Out.nx
theorem an4{ga:PyData->Rho->Option Rho}(he:PD X e fa)(hg:PGD X tg ga)(hs:swapsWithSole [tg] e pos.line X.env=pure false:=by rfl)(hw:swappedStores [tg] e X.env=pure none:=by rfl)
  (h1:(assignEach [tg] X.env).map (·.2)=[assign tg X.env]:=by rfl):PSD X (.Assign [tg] e pos) (qV fa ga):=by
 with_unfolding_all
  refine PS.imp (ahS he hg hs hw h1) fun D σ H ⟨ρ,o,en,q,k⟩=>?_;cases h1:fa ρ with
  |none=>simp[qV,h1]at q
  | some d=>
   cases h2:ga d ρ with
   |none=>simp[qV,h1,h2]at q
   | some ρ'=>
    have:Out.nx ρ'=o:=by simpa[qV,h1,h2]using q
    subst this;exact⟨ρ,d,en,h1,fun v H1 s1 r1=>⟨ρ,d,ρ',en.mono s1,r1,h2,fun σ' H' s' e'=>k σ' H' (s1.trans s') e'⟩⟩
theorem jy(i:Nat){x:Str}{pos':Pos}(hN:X.N.Nodup)(he:PD X e fa)(hi:X.N[i]?=some x:=by rfl)(hx:Loc X.env.scope x:=by first|exact Or.inl rfl|exact Or.inr rfl)(hs:swapsWith e (some (.Name x pos')) pos.line X.env=pure false:=by rfl)
  (hf:X.fn x=true∨X.env.scope.names.lookup x=some .local:=by first|exact .inl rfl|exact .inr rfl|assumption):PSD X (.Assign [.Name x pos'] e pos) (qV fa (jB i)):=by
 with_unfolding_all
  refine PS.imp (ac3 hN hi hx he hs hf) fun D σ H ⟨ρ,o,en,q,k⟩=>?_;cases h1:fa ρ with
  |none=>simp[qV,h1]at q
  | some d=>
   have:Out.nx (ρ.set i (some d))=o:=by simpa[qV,h1,jB]using q
   subst this;exact⟨ρ,d,en,h1,fun v H1 s1 r1=>k _ H1 s1 ((en.mono s1).set r1)⟩
noncomputable def aln(K:Fg)(J:It)(ds:LP)(H0:Hp):Prop:=∀i H,qp H0 H->(i<ds.length->J.go i H)/\(ds.length<=i->J.stop i H)/\∀x H',J.yld i H x H'->jo H H'/\∀d,ds[i]?=some d->Rep K H' d x
noncomputable def tDI(K:Fg)(fi:Rho->Option (LP)):TI:=fun σ H R=>∃ρ ds,EnvR K H ρ σ/\fi ρ=some ds/\∀J H',jo H H'->aln K J ds H'->R J H'
@[irreducible] noncomputable def PID(X:Cx)(tg src:Expr)(fi:Rho->Option (LP)):Prop:=PI X tg src (tDI X.K fi)
theorem PI.imp{t t':TI}(h:PI X tg src t)(hi:∀σ H R,t' σ H R->t σ H R):PI X tg src t':=fun Kp s σ H R I q=>h Kp s σ H R I (hi σ H R q)
noncomputable def Za:PyData->Option (LP)
 |.list ds=>some ds
 |_=>none
noncomputable def aff:PyData->Option (LP)
 |.tuple ds=>some ds
 |_=>none
noncomputable def itL(fa:RP):Rho->Option (LP):=fun ρ=>(fa ρ).bind Za
noncomputable def itT(fa:RP):Rho->Option (LP):=fun ρ=>(fa ρ).bind aff
theorem QH(h:PD X e fa):PID X tg e (itL fa):=by
 with_unfolding_all
  refine PI.imp (aiF h) fun σ H R ⟨ρ,ds,en,q,k⟩=>?_;cases h1:fa ρ with
  |none=>simp[itL,h1]at q
  | some d=>
   cases d with
   | list es=>
    have:es=ds:=by simpa[itL,h1,Za]using q
    subst this;refine⟨ρ,_,en,h1,fun v H1 s1 r1=>?_⟩;obtain⟨a,xs,e1,e2,e3⟩:=r1;refine⟨a,e1,⟨xs,SqL.of e2⟩,k _ H1 s1 fun i H2 s2=>⟨fun hi=>?_,fun hi=>?_,fun x H' y=>?_⟩⟩
    ·exact⟨xs,xs[i]'(by rw[e3.length];exact hi),SqL.of (s2 _ _ e2 rfl),by simp[e3.length,hi]⟩
    ·exact⟨xs,SqL.of (s2 _ _ e2 rfl),by rw[e3.length];exact hi⟩
    ·obtain⟨z1,z2⟩:=y
     subst z1;refine⟨jo.refl _,fun d hd=>?_⟩;obtain⟨y,e4,e5⟩:=(Reps.monoA s2 _ _ e3).get hd;have:=z2 xs (SqL.of (s2 _ _ e2 rfl));rw[e4]at this;cases this;exact e5
   |_=>simp[itL,h1,Za]at q
theorem aiT(h:PD X e fa):PID X tg e (itT fa):=by
 with_unfolding_all
  refine PI.imp (ap8 h) fun σ H R ⟨ρ,ds,en,q,k⟩=>?_;cases h1:fa ρ with
  |none=>simp[itT,h1]at q
  | some d=>
   cases d with
   | tuple es=>
    have:es=ds:=by simpa[itT,h1,aff]using q
    subst this;refine⟨ρ,_,en,h1,fun v H1 s1 r1=>?_⟩;obtain⟨a,xs,e1,e2,e3⟩:=r1;refine⟨a,e1,⟨xs,e2⟩,k _ H1 s1 fun i H2 s2=>⟨fun hi=>?_,fun hi=>?_,fun x H' y=>?_⟩⟩
    ·exact⟨xs,xs[i]'(by rw[e3.length];exact hi),qp.tup s2 e2,by simp[e3.length,hi]⟩
    ·exact⟨xs,qp.tup s2 e2,by rw[e3.length];exact hi⟩
    ·obtain⟨z1,z2⟩:=y
     subst z1;refine⟨jo.refl _,fun d hd=>?_⟩;obtain⟨y,e4,e5⟩:=(Reps.monoA s2 _ _ e3).get hd;have:=z2 xs (qp.tup s2 e2);rw[e4]at this;cases this;exact e5
   |_=>simp[itT,h1,aff]at q
noncomputable def zj(lo:Int)(n:Nat):LP:=(List.range n).map fun (k:Nat)=>PyData.int (lo+(k:Int))
noncomputable def Zx(ds:LP):Option (LP):=match ds with
 | [.int j]=>if -(2 ^ 62)<=j/\j<2 ^ 62 then some (zj 0 j.toNat) else none
 |_=>none
theorem afg{K:Fg}{H:Hp}(lo:Int)(n:Nat):aln K (Itr lo n) (zj lo n) H:=fun i H2 s2=>by
 have hl:(zj lo n).length=n:=by simp[zj]
 refine⟨fun hi=>by rw[hl]at hi;exact hi,fun hi=>by rw[hl]at hi;exact hi,fun x H' y=>?_⟩;obtain⟨z1,z2⟩:=y;subst z1;refine⟨jo.refl _,fun d hd=>?_⟩
 have hi:i<n:=by
  have:=(List.getElem?_eq_some_iff.mp hd).1;rw[hl]at this;exact this
 have:d= .int (lo+i):=by
  simp[zj,hi]at hd;exact hd.symm
 subst this;exact z2
theorem qH{p pos:Pos}{fr:Rho->Option (LP)}(hg:Gl X "range")(hm:X.mg "range"=none)(ha:PAD X [a] fr)(hs:starEach [a] X.env=[(false,eval a X.env)]:=by rfl):PID X tg (.Call (.Name "range" p) [a] [] pos) (fun ρ=>(fr ρ).bind Zx):=by
 with_unfolding_all
  refine PI.imp (abI hg hm ha hs) fun σ H R ⟨ρ,ds,en,q,k⟩=>?_;cases h1:fr ρ with
  |none=>simp[h1]at q
  | some as=>
   have q':Zx as=some ds:=by simpa[h1]using q
   refine⟨ρ,as,en,h1,fun vs H1 s1 r1=>?_⟩;unfold Zx at q';split at q'
   ·rename_i j
    split at q'
    ·rename_i hj
     cases q';obtain⟨x,r,e1,e2,e3⟩:=r1;cases (show x=V.int j from e2);cases (show r=[] from e3);exact⟨j,e1,hj.1,hj.2,k _ H1 s1 (afg 0 j.toNat)⟩
    ·cases q'
   ·cases q'
noncomputable def jC(ga:PyData->Rho->Option Rho)(F:RO):LP->RO
 | [],ρ=>some (.nx ρ)
 | d::r,ρ=>(ga d ρ).bind fun ρ1=>(F ρ1).bind fun o=>match o with
  |.nx ρ2=>jC ga F r ρ2
  |.ct ρ2=>jC ga F r ρ2
  |.bk ρ2=>some (.nx ρ2)
  |.rt d=>some (.rt d)
noncomputable def Jm(fi:Rho->Option (LP))(ga:PyData->Rho->Option Rho)(F:RO):RO:=fun ρ=>(fi ρ).bind fun ds=>jC ga F ds ρ
theorem zM{body:List Stmt}{fi:Rho->Option (LP)}{ga:PyData->Rho->Option Rho}(hp:PassesOwn (model X.prog X.w) X.A X.env X.xe)(hc:X.calm=true)(hi:PID X tg src fi)(hg:PGD X tg ga)(hb:ZC X body F)
  (hs:∀x,foldedSetIterable src X.env x=pure x:=by intro _;rfl):PSD X (.For tg src body [] pos) (Jm fi ga F):=by
 with_unfolding_all
  refine PS.imp (ac4 hp hc hi hg hb hs) fun D σ H ⟨ρ,o,en,q,k⟩=>?_;cases h1:fi ρ with
  |none=>simp[Jm,h1]at q
  | some ds=>
   have q':jC ga F ds ρ=some o:=by simpa[Jm,h1]using q
   refine⟨ρ,ds,en,h1,fun J H1 s1 Y=>?_⟩;refine⟨fun i m σ H2=>m=ds.length-i/\i<=ds.length/\jo H1 H2/\∃ρ2,EnvR X.K H2 ρ2 σ/\jC ga F (ds.drop i) ρ2=some o,⟨ds.length,by simp,Nat.zero_le _,jo.refl _,ρ,en.mono s1,by simpa using q'⟩,?_⟩
   rintro i m σ2 H2 ⟨rfl,hi,s2,ρ2,en2,q2⟩
   obtain⟨g1,g2,g3⟩:=Y i H2 (jo.a s2);by_cases hlt:i<ds.length
   ·right
    have hd:ds.drop i=ds[i]::ds.drop (i+1):=List.drop_eq_getElem_cons hlt;rw[hd]at q2;refine⟨g1 hlt,fun σ3 H3=>jo H1 H3/\∃ρ3,EnvR X.K H3 ρ3 σ3/\jC ga F (ds.drop (i+1)) ρ3=some o,fun σ3 H3 ⟨a1,ρ3,a2,a3⟩=>⟨ds.length-(i+1),by omega,rfl,hlt,a1,ρ3,a2,a3⟩,fun x H3 y=>?_⟩;obtain⟨s3,r3⟩:=g3 x H3 y;have r3':=r3 ds[i] (by simp[hlt]);cases h4:ga ds[i] ρ2 with
    |none=>simp[jC,h4]at q2
    | some ρ4=>
     refine⟨ρ2,ds[i],ρ4,en2.mono s3,r3',h4,fun σ5 H5 s5 en5=>?_⟩;cases h5:F ρ4 with
     |none=>simp[jC,h4,h5]at q2
     | some p=>
      refine⟨ρ4,p,en5,h5,?_⟩;have s15:=s2.trans (s3.trans s5);cases p with
      |nx ρ6=>exact fun σ6 H6 s6 en6=>⟨s15.trans s6,ρ6,en6,by simpa[jC,h4,h5]using q2⟩
      |ct ρ6=>exact fun σ6 H6 s6 en6=>⟨s15.trans s6,ρ6,en6,by simpa[jC,h4,h5]using q2⟩
      | bk ρ6=>
       have:Out.nx ρ6=o:=by simpa[jC,h4,h5]using q2
       subst this;exact fun σ6 H6 s6 en6=>k σ6 H6 (s1.trans (s15.trans s6)) en6
      | rt d=>
       have:Out.rt d=o:=by simpa[jC,h4,h5]using q2
       subst this;exact fun v H6 s6 r6=>k v H6 (s1.trans (s15.trans s6)) r6
   ·left
    have he:i=ds.length:=by omega
    have hn:ds.drop i=[]:=by rw[he];simp
    rw[hn]at q2;have:Out.nx ρ2=o:=by simpa[jC]using q2
    subst this;exact⟨g2 (by omega),k σ2 H2 (s1.trans s2) en2⟩
noncomputable def abO(cap:List (Option Nat))(ρ:Rho):Rho:=cap.map fun o=>o.bind fun i=>(ρ[i]?).join
theorem EnvR.cap{K:Fg}{H:Hp}{ρ:Rho}{σ:St}(e:EnvR K H ρ σ)(cap:List (Option Nat)):EnvR K H (abO cap ρ) (acp cap σ):=by
 refine⟨by simp[abO,acp],fun j d q=>?_⟩;unfold abO at q;unfold acp;rw[List.getElem?_map]at q ⊢;cases h1:cap[j]? with
 |none=>rw[h1]at q;cases q
 | some o=>
  rw[h1]at q;cases o with
  |none=>cases q
  | some i=>
   have q':lkp i ρ=some d:=by simpa[lkp]using q
   obtain⟨v,e1,e2⟩:=e.at' i d (Jw q');exact⟨v,by simp[e1],e2⟩
noncomputable def jU(ga:PyData->Rho->Option Rho)(ft:Rho->Option Bool)(fe:RP):LP->Rho->Option (LP)
 | [],_=>some []
 |d::r,τ=>(ga d τ).bind fun τ2=>(ft τ2).bind fun b=>if b=true then (fe τ2).bind fun y=>(jU ga ft fe r τ2).map fun ys=>y::ys else jU ga ft fe r τ2
noncomputable def zG(fi:Rho->Option (LP))(cap:List (Option Nat))(ga:PyData->Rho->Option Rho)(ft:Rho->Option Bool)(fe:RP):RP:=fun ρ=>(fi ρ).bind fun ds=>
 if few ds=true then (jU ga ft fe ds (abO cap ρ)).map PyData.list else none
@[irreducible] noncomputable def an5(X:Cx)(ts:List Expr)(f:Rho->Option Bool):Prop:=PTs X ts (tDT X.K f)
noncomputable def Zy(_:Rho):Option Bool:=some true
theorem zZ:an5 X [] Zy:=by
 with_unfolding_all exact(fun Kp s σ H Q I ⟨ρ,b,en,q,k⟩=>by cases q;exact anY Kp s σ H Q I (k H (jo.refl H)))
theorem aaZ{ft:Rho->Option Bool}(h:PTD X c ft):an5 X [c] ft:=by
 with_unfolding_all exact(anZ h)
theorem Jq{el:Expr}{ts:List Expr}{sc:Scope}{ps:Pos}{fi:Rho->Option (LP)}{ga:PyData->Rho->Option Rho}{ft:Rho->Option Bool}{fe:RP}(N':List Str)(cap:List (Option Nat))(hc:X.calm=true)(hi:PID X tg src fi)(ok:CompOk X sc N' cap)
  (body:∀cl C s0 H0 fp pn,PGD (blk X N' sc cl C s0 H0 fp pn) tg ga/\an5 (blk X N' sc cl C s0 H0 fp pn) ts ft/\PD (blk X N' sc cl C s0 H0 fp pn) el fe)
  (hs:∀x,foldedSetIterable src X.env x=pure x:=by intro _;rfl):PD X (.ListComp el [⟨tg,src,ts,0⟩] sc ps) (zG fi cap ga ft fe):=by
 with_unfolding_all
  refine PE.imp (an0 (g:=tDG X.K ga) (tt:=tDT X.K ft) (te:=tD X.K fe) hc hi ok (fun cl C s0 H0 fp pn=>body cl C s0 H0 fp pn) hs) fun σ H Q ⟨ρ,d,en,q,k⟩=>?_;cases h1:fi ρ with
  |none=>simp[zG,h1]at q
  | some ds=>
   by_cases hf:few ds=true
   ·cases h2:jU ga ft fe ds (abO cap ρ)with
    |none=>simp[zG,h1,hf,h2]at q
    | some ys=>
     have:PyData.list ys=d:=by simpa[zG,h1,hf,h2]using q
     subst this;refine⟨ρ,ds,en,h1,fun J H1 s1 Y=>?_⟩
     refine⟨fun i m τ us H2=>m=ds.length-i/\i<=ds.length/\jo H1 H2/\us.length<=i/\∃ρ2 zs ws,EnvR X.K H2 ρ2 τ/\Reps X.K H2 zs us/\jU ga ft fe (ds.drop i) ρ2=some ws/\ys=zs++ws,
      ⟨ds.length,by simp,Nat.zero_le _,jo.refl _,Nat.le_refl _,abO cap ρ,[],ys,(en.mono s1).cap cap,rfl,by simpa using h2,rfl⟩,?_⟩
     rintro i m τ us H2 ⟨rfl,hi',s2,hu,ρ2,zs,ws,en2,r2,q2,ey⟩
     have hsm:us.length<sizeLine:=Nat.lt_of_le_of_lt (Nat.le_trans hu hi') (Nat.lt_of_lt_of_le (by simpa[few]using hf) (by rw[sizeLine_eq];decide:1000000<=sizeLine));obtain⟨g1,g2,g3⟩:=Y i H2 (jo.a s2);refine⟨hsm,?_⟩;by_cases hlt:i<ds.length
     ·right
      have hd:ds.drop i=ds[i]::ds.drop (i+1):=List.drop_eq_getElem_cons hlt;rw[hd]at q2;refine⟨g1 hlt,fun x H3 y=>?_⟩;obtain⟨s3,r3⟩:=g3 x H3 y;have r3':=r3 ds[i] (by simp[hlt]);cases h4:ga ds[i] ρ2 with
      |none=>simp[jU,h4]at q2
      | some ρ4=>
       refine⟨ρ2,ds[i],ρ4,en2.mono s3,r3',h4,fun σ5 H5 s5 en5=>?_⟩;cases h5:ft ρ4 with
       |none=>simp[jU,h4,h5]at q2
       | some b=>
        refine⟨ρ4,b,en5,h5,fun H6 s6=>?_⟩;have s26:=s3.trans (s5.trans s6);cases b with
        | false=>
         refine arH ?_;exact⟨ds.length-(i+1),by omega,rfl,hlt,s2.trans s26,by omega,ρ4,zs,ws,en5.mono s6,Reps.mono s26 _ _ r2,by simpa[jU,h4,h5]using q2,ey⟩
        | true=>
         refine arI ?_;cases h6:fe ρ4 with
         |none=>simp[jU,h4,h5,h6]at q2
         | some y=>
          cases h7:jU ga ft fe (ds.drop (i+1)) ρ4 with
          |none=>simp[jU,h4,h5,h6,h7]at q2
          | some ws'=>
           have hw:y::ws'=ws:=by simpa[jU,h4,h5,h6,h7]using q2
           refine⟨ρ4,y,en5.mono s6,h6,fun v H7 s7 r7=>?_⟩;refine⟨ds.length-(i+1),by omega,rfl,hlt,s2.trans (s26.trans s7),by rw[List.length_append];simp;omega,ρ4,zs++[y],ws',(en5.mono s6).mono s7,(Reps.mono (s26.trans s7) _ _ r2).append ⟨v,[],rfl,r7,rfl⟩,h7,?_⟩;rw[ey,←hw];simp
     ·left
      have he:i=ds.length:=by omega
      have hn:ds.drop i=[]:=by rw[he];simp
      rw[hn]at q2;have hw:[]=ws:=by simpa[jU]using q2
      subst hw;have ey':ys=zs:=by simpa using ey
      subst ey';exact⟨g2 (by omega),fun l hl=>k _ _ (s1.trans (s2.trans (jI hl))) ⟨l,us,rfl,jt,Reps.mono (jI hl) _ _ r2⟩⟩
   ·simp[zG,h1,hf]at q
noncomputable def Pur(K:Fg)(n:Nat)(g:LP->OP):Sp:=fun vs H Q _=>∃ds d,ds.length=n/\Reps K H ds vs/\g ds=some d/\∀v H',jo H H'->Rep K H' d v->Q v H'
noncomputable def jA(g:LP->OP)(fr:Rho->Option (LP)):RP:=fun ρ=>(fr ρ).bind g
theorem an6{k n:Nat}{f:Addr}{fd:FuncData}{ps:List Str}{g:LP->OP}{x:Str}{p:Pos}{fr:Rho->Option (LP)}(FO:FnOk X.prog X.w X.K X.mg X.base CX0 k f fd ps (Pur X.K n g))(hr:Room k X.A)(hm:X.mg x=some (.ref f))(hk:PySem.W.keepIn X.K (.ref f)=true)
  (hb:aaW X.K fd ps []) (hn:(e::es).length=n) (ha:PAD X (e::es) fr) (hl:∀ρ ds,fr ρ=some ds->ds.length=(e::es).length) (hg:Gl X x:=by rfl) (hdb:(x==("__debug__":Str))=false:=by decide) (he:starEach (e::es) X.env=(false,eval e X.env)::starEach es X.env:=by rfl)
  (hpl:(backTo pos (starEach es X.env)).any (·.1)=false:=by rfl):PD X (.Call (.Name x p) (e::es) [] pos) (jA g fr):=by
 with_unfolding_all
  refine PE.imp (anN FO hr hg hm hk hb .nil alf ha hdb he hpl) fun σ H Q ⟨ρ,d,en,q,k⟩=>?_;cases h1:fr ρ with
  |none=>simp[jA,h1]at q
  | some ds=>
   refine⟨ρ,ds,en,h1,fun vs H1 s1 r1=>?_⟩;refine⟨ds,d,by rw[hl ρ ds h1,hn],by rw[List.append_nil];exact r1,by simpa[jA,h1]using q,fun v H' s r=>k v H' (s1.trans s) r⟩
noncomputable def QI(X:Cx)(f:Value)(g:LP->OP):Prop:=∃r,zS X f r/\∀ds d xs H Q,g ds=some d->Reps X.K H ds xs->(∀v H',jo H H'->Rep X.K H' d v->Q v H')->r xs H Q
theorem jY{id:String}{g:LP->OP}{x:Str}{p:Pos}{fr:Rho->Option (LP)}(hc:QI X (.builtin id) g)(hm:X.mg x=none)(hv:bootBuiltins x=some (.builtin id))(ha:PAD X (e::es) fr)(hg:Gl X x:=by rfl)(hn:x≠"__name__":=by decide)(hdb:(x==("__debug__":Str))=false:=by decide)
  (he:starEach (e::es) X.env=(false,eval e X.env)::starEach es X.env:=by rfl) (hpl:(backTo pos (starEach es X.env)).any (·.1)=false:=by rfl):PD X (.Call (.Name x p) (e::es) [] pos) (jA g fr):=by
 with_unfolding_all
  obtain⟨r,h1,h2⟩:=hc;refine PE.imp (aaX h1 hg hm hv ha hn hdb he hpl) fun σ H Q ⟨ρ,d,en,q,k⟩=>?_;cases h3:fr ρ with
  |none=>simp[jA,h3]at q
  |some ds=>exact⟨ρ,ds,en,h3,fun vs H1 s1 r1=>h2 ds d vs H1 Q (by simpa[jA,h3]using q) r1 fun v H' s r=>k v H' (s1.trans s) r⟩
theorem Z8{T:String}{g:LP->OP}{x:Str}{p:Pos}{fr:Rho->Option (LP)}(hc:QI X (.type T) g)(hm:X.mg x=none)(hv:bootBuiltins x=some (.type T))(ha:PAD X (e::es) fr)(hg:Gl X x:=by rfl)(hn:x≠"__name__":=by decide)(hdb:(x==("__debug__":Str))=false:=by decide)
  (he:starEach (e::es) X.env=(false,eval e X.env)::starEach es X.env:=by rfl) (hpl:(backTo pos (starEach es X.env)).any (·.1)=false:=by rfl):PD X (.Call (.Name x p) (e::es) [] pos) (jA g fr):=by
 with_unfolding_all
  obtain⟨r,h1,h2⟩:=hc;refine PE.imp (ajN h1 hg hm hv ha hn hdb he hpl) fun σ H Q ⟨ρ,d,en,q,k⟩=>?_;cases h3:fr ρ with
  |none=>simp[jA,h3]at q
  |some ds=>exact⟨ρ,ds,en,h3,fun vs H1 s1 r1=>h2 ds d vs H1 Q (by simpa[jA,h3]using q) r1 fun v H' s r=>k v H' (s1.trans s) r⟩
end
noncomputable def jE(N:List Str)(ds:LP):Rho:=ds.map some++List.replicate (N.length-ds.length) none
theorem Z9{K:Fg}{H:Hp}{N:List Str}{ds:LP}{vs:List V}(r:Reps K H ds vs):EnvR K H (jE N ds) (L2.Ji N vs):=by
 have hl:=r.length;refine⟨by simp[jE,L2.Ji,hl],fun i d q=>?_⟩;unfold jE at q;by_cases hi:i<ds.length
 ·rw[List.getElem?_append_left (by simpa using hi),List.getElem?_map]at q
  cases e:ds[i]? with
  |none=>rw[e]at q;cases q
  | some c=>
   rw[e]at q;cases q;obtain⟨x,e1,e2⟩:=r.get e;refine⟨x,?_,e2⟩;unfold L2.Ji;rw[List.getElem?_append_left (by simp;omega),List.getElem?_map,e1];rfl
 ·rw[List.getElem?_append_right (by simpa using hi),List.getElem?_replicate]at q
  split at q<;>cases q
noncomputable def jx(N:List Str)(n:Nat)(B:RO)(ds:LP):OP:=if ds.length=n then match B (jE N ds)with
 |some (.rt d)=>some d
 |some (.nx _)=>some .none
 |_=>none else none
section
variable {P:Program}{w:World}{K:Fg}{mg:SV}{base:Heap}
theorem jL{x qual:Str}{st:Stmt}{f:Addr}{fd:FuncData}{N ps:List Str}{k:Nat}{B:RO}(F:Fun K x qual st f fd)(S:FnScope N ps (jj st))
  (body:∀(Kc:Value) (A:Around) (Ko:List Env) (s:Shared) (H:Hp) (E:XK),Room k (A.deeper (envOfC qual (jj st) s.heap.objs.size f Kc))->
   ZC (JV CX0 P w K mg base N qual (jj st) f Kc A Ko s H E).nox (jO st) B):FnOk P w K mg base CX0 (k+1) f fd ps (Pur K ps.length (jx N ps.length B)):=by
 with_unfolding_all
  refine F.ok S (fun vs H Q E h=>?_) (fun Kc A Ko s H vs Q E hr h=>?_)
  ·obtain⟨ds,d,h1,h2,_⟩:=h
   rw[h2.length];exact h1
  ·obtain⟨ds,d,h1,h2,h3,h4⟩:=h
   refine⟨_,body Kc A Ko s H E hr,?_⟩;unfold jx at h3;rw[if_pos h1]at h3;cases hB:B (jE N ds)with
   |none=>rw[hB]at h3;cases h3
   | some o=>
    refine⟨jE N ds,o,Z9 h2,hB,?_⟩;rw[hB]at h3;cases o with
    |rt c=>cases h3;exact fun v H' s r=>h4 v H' s r
    |nx ρ=>cases h3;exact fun σ H' s r=>h4 .non H' s rfl
    |bk ρ=>cases h3
    |ct ρ=>cases h3
theorem arP{k n:Nat}{f:Addr}{fd:FuncData}{ps:List Str}{g g':LP->OP}(F:FnOk P w K mg base CX0 k f fd ps (Pur K n g))(h:∀ds d,ds.length=n->g' ds=some d->g ds=some d):FnOk P w K mg base CX0 k f fd ps (Pur K n g'):=
 F.imp fun vs H Q E ⟨ds,d,h1,h2,h3,h4⟩=>⟨ds,d,h1,h2,h ds d h1 h3,h4⟩
end
section
variable {X:Cx}
noncomputable def arQ(K:Fg):R2:=fun x y H Q=>∃a b ys,x= .ref a/\y= .ref b/\SqT K H a []/\SqT K H b ys/\Q (.ref b) H
theorem an7:OpR X (binaryOp .Add) (arQ X.K):=by
 intro Kp s σ H x y v u Q I rx ry h;obtain⟨a,b,ys,rfl,rfl,ha,hb,q⟩:=h;cases rx;cases ry;obtain⟨its,r1,p1,_⟩:=I.tuple ha;obtain⟨its2,r2,p2,_⟩:=I.tuple hb;cases r1;obtain⟨⟨c1,d1,t1,l1⟩,ho,hc,n,hd⟩:=id p1;obtain⟨⟨c2,d2,t2,l2⟩,ho2,hc2,n2,hd2⟩:=id p2;simp only at hc hd hc2 hd2;subst hc hd hc2 hd2
 exact concat_meets ⟨_,ho,rfl⟩ ⟨_,ho2,rfl⟩ noFill_tuple_add seq_tuple_add PySem.F.slot_tuple_add PySem.F.entry_tuple_add (PySem.F.args_tuple_add_2 _ _)
  (tuple_addW0 a b _ _ n n2 d1 d2 l1 l2 (by simp)) ⟨ho,ho2,⟨.ref b,H,I,rfl,q⟩⟩
noncomputable def qD:PyData->PyData->OP
 |.int i,.int j=>some (.int (i+j))
 |.list xs,.list ys=>if few (xs++ys)=true then some (.list (xs++ys)) else none
 |.tuple [],.tuple ys=>some (.tuple ys)
 |.tuple (x::xs),.tuple ys=>if few ((x::xs)++ys)=true then some (.tuple ((x::xs)++ys)) else none
 |_,_=>none
theorem jz:OpD X (binaryOp .Add) qD:=by
 refine⟨_,aqc.or (aqm.or (an7.or anQ)),fun p q d x y H Q h rx ry k=>?_⟩;unfold qD at h;split at h
 ·cases h
  cases (show x=_ from rx);cases (show y=_ from ry);exact .inl ⟨_,_,rfl,rfl,k _ H (jo.refl H) rfl⟩
 ·rename_i xs ys
  split at h
  ·rename_i hf
   cases h;obtain⟨a,us,e1,e2,e3⟩:=rx;obtain⟨b,ws,e4,e5,e6⟩:=ry
   have hl:us.length+ws.length<1000000:=by
    rw[e3.length,e6.length];simp[few]at hf
    try simp only[List.length_cons]
    omega
   exact .inr (.inl ⟨a,b,us,ws,e1,e4,e2,e5,adc hl,fun p hp=>k _ _ (jI hp) ⟨p,_,rfl,jt,Reps.mono (jI hp) _ _ (e3.append e6)⟩⟩)
  ·cases h
 ·rename_i ys
  cases h;obtain⟨a,us,e1,e2,e3⟩:=rx;cases (show us=[] from e3);obtain⟨b,ws,e4,e5,e6⟩:=ry;exact .inr (.inr (.inl ⟨a,b,ws,e1,e4,e2,e5,k _ H (jo.refl H) ⟨b,ws,rfl,e5,e6⟩⟩))
 ·rename_i z xs ys
  split at h
  ·rename_i hf
   cases h;obtain⟨a,us,e1,e2,e3⟩:=rx;obtain⟨b,ws,e4,e5,e6⟩:=ry
   have hl:us.length+ws.length<1000000:=by
    rw[e3.length,e6.length];simp[few]at hf
    try simp only[List.length_cons]
    omega
   refine .inr (.inr (.inr ⟨a,b,us,ws,e1,e4,e2,e5,fun z=>?_,adc hl,fun z=>?_,fun _ p hp=>?_⟩))
   ·have:=e3.length;rw[z]at this;simp at this
   ·subst z
    have:=e6.length;have hy:ys=[]:=List.length_eq_zero_iff.mp (by simpa using this.symm);subst hy;exact k _ H (jo.refl H) ⟨a,us,rfl,e2,by simpa using e3⟩
   ·exact k _ _ (jI hp) ⟨p,_,rfl,SqT.of jt,Reps.mono (jI hp) _ _ (e3.append e6)⟩
  ·cases h
 ·cases h
noncomputable def QJ:PyData->PyData->OP
 |.int i,.int j=>some (.int (i-j))
 |_,_=>none
theorem Qo:OpD X (binaryOp .Sub) QJ:=by
 refine⟨_,aqd,fun p q d x y H Q h rx ry k=>?_⟩;unfold QJ at h;split at h
 ·cases h;cases (show x=_ from rx);cases (show y=_ from ry);exact⟨_,_,rfl,rfl,k _ H (jo.refl H) rfl⟩
 ·cases h
theorem Reps.rep{K:Fg}{H:Hp}{ds:LP}{xs:List V}(h:Reps K H ds xs):∀(n:Nat),Reps K H (List.replicate n ds).flatten (List.replicate n xs).flatten
 |0=>rfl
 |n+1=>by rw[List.replicate_succ,List.replicate_succ,List.flatten_cons,List.flatten_cons];exact h.append (Reps.rep h n)
noncomputable def JL:PyData->PyData->OP
 |.int i,.int j=>if (-(2 ^ 64)<i/\i<2 ^ 64)∨(-(2 ^ 64)<j/\j<2 ^ 64) then some (.int (i*j)) else none
 |.list xs,.int k=>if k<1000/\xs.length<1000/\-1000<k then some (.list (List.replicate k.toNat xs).flatten) else none
 |_,_=>none
theorem qS:OpD X (binaryOp .Mult) JL:=by
 refine⟨_,aqe.or ah0,fun p q d x y H Q h rx ry k=>?_⟩;unfold JL at h;split at h
 ·split at h
  ·rename_i hc
   cases h;cases (show x=_ from rx);cases (show y=_ from ry);exact .inl ⟨_,_,rfl,rfl,hc,k _ H (jo.refl H) rfl⟩
  ·cases h
 ·rename_i xs n
  split at h
  ·rename_i hc
   cases h;obtain⟨a,us,e1,e2,e3⟩:=rx;cases (show y=_ from ry);have hl:=e3.length
   have hs:us.length*n.toNat<=sizeLine:=by
    rw[sizeLine_eq];have h1:us.length<=1000:=by omega
    have h2:n.toNat<=1000:=by omega
    exact Nat.le_trans (Nat.mul_le_mul h1 h2) (by decide)
   exact .inr ⟨a,n,us,e1,rfl,e2,by omega,by omega,hs,fun p hp=>k _ _ (jI hp) ⟨p,_,rfl,jt,Reps.mono (jI hp) _ _ (Reps.rep e3 n.toNat)⟩⟩
  ·cases h
 ·cases h
noncomputable def aa0:PyData->PyData->OP
 |.int i,.int j=>if 0<j/\j<1073741824 then some (.int (i / j)) else none
 |_,_=>none
theorem JY:OpD X (binaryOp .FloorDiv) aa0:=by
 refine⟨_,anH,fun p q d x y H Q h rx ry k=>?_⟩;unfold aa0 at h;split at h
 ·split at h
  ·rename_i hc
   cases h;cases (show x=_ from rx);cases (show y=_ from ry);exact⟨_,_,rfl,rfl,hc,k _ H (jo.refl H) rfl⟩
  ·cases h
 ·cases h
noncomputable def alo:PyData->PyData->OP
 |.int i,.int j=>if 0<j then some (.int (i % j)) else none
 |_,_=>none
theorem Zb:OpD X (binaryOp .Mod) alo:=by
 refine⟨_,aqf,fun p q d x y H Q h rx ry k=>?_⟩;unfold alo at h;split at h
 ·split at h
  ·rename_i hc
   cases h;cases (show x=_ from rx);cases (show y=_ from ry);exact⟨_,_,rfl,rfl,hc,k _ H (jo.refl H) rfl⟩
  ·cases h
 ·cases h
noncomputable def okD(d:PyData):Bool:=d.canLay0&&decide (d.depth<30)
noncomputable def arR(K:Fg)(neg:Bool):R2:=fun x y H Q=>∃p q,Rep K H p x/\Rep K H q y/\okD p=true/\okD q=true/\Q (.bl (if neg then !PyData.eqv p q else PyData.eqv p q)) H
theorem zp{d:PyData}(h:okD d=true):d.canLay0=true:=by simp[okD]at h;exact h.1
theorem afh{d:PyData}(h:okD d=true):d.depth<30:=by simp[okD]at h;exact h.2
theorem aqu(hu:X.A.units+64<cLine):OpR X (compareOp .Eq) (arR X.K false):=by
 intro Kp s σ H x y v u Q I rx ry ⟨p,q,h1,h2,h3,h4,k⟩;obtain⟨as,ra⟩:=zX I p x v h1 rx (zp h3);obtain⟨bs,rb⟩:=zX I q y u h2 ry (zp h4);have d1:=afh h3;exact SeqAt.compareEq_reads ra rb (zp h3) (zp h4) (by omega) ⟨.bl _,H,I,rfl,k⟩
theorem aqv(hu:X.A.units+64<cLine):OpR X (compareOp .NotEq) (arR X.K true):=by
 intro Kp s σ H x y v u Q I rx ry ⟨p,q,h1,h2,h3,h4,k⟩;obtain⟨as,ra⟩:=zX I p x v h1 rx (zp h3);obtain⟨bs,rb⟩:=zX I q y u h2 ry (zp h4);have d1:=afh h3;exact SeqAt.compareNe_reads ra rb (zp h3) (zp h4) (by omega) ⟨.bl _,H,I,rfl,k⟩
noncomputable def arS(K:Fg):R2:=fun x y H Q=>∃a b ns,x= .ref a/\y= .ref b/\SqL K H a (List.map V.int ns)/\H b=some (.lst [])/\Q (.bl ns.isEmpty) H
theorem aaD(h:Heap):∀(ns:List Int) (us:List Value),jM (List.map V.int ns) us->∃as,ReadsAll h us (ns.map PyData.int) as
 | [],us,r=>by cases r;exact⟨_,.nil⟩
 | n::ns,us,r=>by
  cases r with
  | cons r1 r2=>
   obtain⟨t,rfl⟩:=r1;obtain⟨as,ra⟩:=aaD h ns _ r2;exact⟨_,.cons (.int n t) ra⟩
theorem ago:∀ns:List Int,PyData.canLayAll0 (ns.map PyData.int)=true
 | []=>rfl
 |n::ns=>by simp[PyData.canLayAll0,PyData.canLay0,ago ns]
theorem an8(hu:X.A.units+64<cLine):OpR X (compareOp .Eq) (arS X.K):=by
 intro Kp s σ H x y v u Q I rx ry ⟨a,b,ns,e1,e2,h1,h2,k⟩;subst e1;subst e2;cases rx;cases ry;obtain⟨its,rv,⟨o,n,g1,g2,g3,g4⟩,_⟩:=I.list h1;obtain⟨as,ra⟩:=aaD s.heap ns its rv;obtain⟨bs,rb⟩:=zX I (.list []) (.ref b) (.ref b) ⟨b,[],rfl,h2,rfl⟩ rfl rfl;have ra':Reads s.heap (.ref a) (.list (ns.map PyData.int)) (a::as):= .list g1 g2 g4 (by simpa using ra);refine SeqAt.compareEq_reads ra' rb (by simpa[PyData.canLay0]using ago ns) rfl ?_ ⟨.bl _,H,I,rfl,?_⟩
 ·have:(PyData.list []).depth=1:=rfl
  rw[this];omega
 ·have:PyData.eqv (.list (ns.map PyData.int)) (.list [])=ns.isEmpty:=by cases ns<;>simp[PyData.eqv,PyData.eqvAll]
  rw[this];exact k
noncomputable def dEq:PyData->PyData->OP
 |.dict kvs,.list []=>if Jv kvs=true then some (.bool kvs.isEmpty) else none
 |p,q=>if okD p=true/\okD q=true then some (.bool (PyData.eqv p q)) else none
theorem zc(hu:X.A.units+64<cLine):OpD X (compareOp .Eq) dEq:=by
 refine⟨_,(an8 hu).or (aqu hu),fun p q d x y H Q h rx ry k=>?_⟩;unfold dEq at h;split at h
 ·split at h
  ·rename_i hs
   cases h;obtain⟨a,ns,e1,e2,e3⟩:=rx.scrOut hs;obtain⟨b,ws,e4,e5,e6⟩:=ry;cases (show ws=[] from e6);refine .inl ⟨a,b,ns,e1,e4,e2,e5,?_⟩;have:ns.isEmpty=(ns.map fun n=>(PyData.int n,PyData.none)).isEmpty:=by simp
   subst e3;rw[this];exact k _ H (jo.refl H) rfl
  ·cases h
 ·split at h
  ·rename_i hc
   cases h;exact .inr ⟨p,q,rx,ry,hc.1,hc.2,k _ H (jo.refl H) rfl⟩
  ·cases h
noncomputable def dNe:PyData->PyData->OP:=fun p q=>if okD p=true/\okD q=true then some (.bool (!PyData.eqv p q)) else none
theorem zA(hu:X.A.units+64<cLine):OpD X (compareOp .NotEq) dNe:=by
 refine⟨_,aqv hu,fun p q d x y H Q h rx ry k=>?_⟩;unfold dNe at h;split at h
 ·rename_i hc
  cases h;exact⟨p,q,rx,ry,hc.1,hc.2,k _ H (jo.refl H) rfl⟩
 ·cases h
noncomputable def arT(K:Fg)(neg:Bool):R2:=fun x y H Q=>∃p ds,Rep K H p x/\(Rep K H (.list ds) y∨Rep K H (.tuple ds) y)/\okD p=true/\okD (.list ds)=true/\Q (.bl (if neg then !(ds.any fun z=>PyData.eqv z p) else ds.any fun z=>PyData.eqv z p)) H
theorem aqw(hu:X.A.units+64<cLine):OpR X (compareOp .In) (arT X.K false):=by
 intro Kp s σ H x y v u Q I rx ry ⟨p,ds,h1,h2,h3,h4,k⟩;obtain⟨as,ra⟩:=zX I p x v h1 rx (zp h3);have d1:=afh h3;have hc:PyData.canLayAll0 ds=true:=by simpa[PyData.canLay0]using zp h4
 rcases h2 with h2 | h2
 ·obtain⟨bs,rb⟩:=zX I (.list ds) y u h2 ry (zp h4)
  exact SeqAt.in_list_reads rb ra hc (zp h3) (by omega) ⟨.bl _,H,I,rfl,k⟩
 ·obtain⟨bs,rb⟩:=zX I (.tuple ds) y u h2 ry (by simpa[PyData.canLay0]using hc)
  exact SeqAt.in_tuple_reads rb ra hc (zp h3) (by omega) ⟨.bl _,H,I,rfl,k⟩
noncomputable def dIn(neg:Bool):PyData->PyData->OP:=fun p q=>match q with
 |.list ds=>if okD p=true/\okD (.list ds)=true then some (.bool (if neg then !(ds.any fun z=>PyData.eqv z p) else ds.any fun z=>PyData.eqv z p)) else none
 |.tuple ds=>if okD p=true/\okD (.list ds)=true then some (.bool (if neg then !(ds.any fun z=>PyData.eqv z p) else ds.any fun z=>PyData.eqv z p)) else none
 |_=>none
theorem arU{neg:Bool}{p q d:PyData}{x y:V}{H:Hp}{Q:VK}{K:Fg}(h:dIn neg p q=some d)(rx:Rep K H p x)(ry:Rep K H q y)(k:∀v H',jo H H'->Rep K H' d v->Q v H'):arT K neg x y H Q:=by
 unfold dIn at h;split at h
 ·split at h
  ·rename_i ds hc
   cases h;exact⟨p,ds,rx,.inl ry,hc.1,hc.2,k _ H (jo.refl H) rfl⟩
  ·cases h
 ·split at h
  ·rename_i ds hc
   cases h;exact⟨p,ds,rx,.inr ry,hc.1,hc.2,k _ H (jo.refl H) rfl⟩
  ·cases h
 ·cases h
theorem aqx(hu:X.A.units+64<cLine):OpD X (compareOp .In) (dIn false):=⟨_,aqw hu,fun p q d x y H Q h rx ry k=>arU h rx ry k⟩
noncomputable def qR(f:Int->Int->Bool):PyData->PyData->OP
 |.int i,.int j=>some (.bool (f i j))
 |_,_=>none
theorem ah4{f:Int->Int->Bool}{p q d:PyData}{x y:V}{H:Hp}{Q:VK}{K:Fg}(h:qR f p q=some d)(rx:Rep K H p x)(ry:Rep K H q y)(k:∀v H',jo H H'->Rep K H' d v->Q v H'):rI0 (fun i j=> .bl (f i j)) x y H Q:=by
 unfold qR at h;split at h
 ·cases h;cases (show x=_ from rx);cases (show y=_ from ry);exact⟨_,_,rfl,rfl,k _ H (jo.refl H) rfl⟩
 ·cases h
theorem Zc:OpD X (compareOp .Lt) (qR fun i j=>decide (i<j)):=⟨_,ary,fun p q d x y H Q h rx ry k=>ah4 h rx ry k⟩
theorem abP:OpD X (compareOp .LtE) (qR fun i j=>decide (i<=j)):=⟨_,arz,fun p q d x y H Q h rx ry k=>ah4 h rx ry k⟩
theorem alp:OpD X (compareOp .Gt) (qR fun i j=>decide (j<i)):=⟨_,arA,fun p q d x y H Q h rx ry k=>ah4 h rx ry k⟩
noncomputable def chn(g g':PyData->PyData->OP)(fa fb fc:RP):RP:=fun ρ=>(fa ρ).bind fun x=>(fb ρ).bind fun y=>(g x y).bind fun z=>(asB z).bind fun t=>if t=true then (fc ρ).bind fun w=>g' y w else some (.bool false)
variable {a b c e:Expr}{fa fb fc:RP}{pos:Pos}
theorem apE{g g':PyData->PyData->OP}{K:Fg}{r r':R2}(hr:∀p q d x y H Q,g p q=some d->Rep K H p x->Rep K H q y->(∀v H',jo H H'->Rep K H' d v->Q v H')->r x y H Q)
  (hr':∀p q d x y H Q,g' p q=some d->Rep K H p x->Rep K H q y->(∀v H',jo H H'->Rep K H' d v->Q v H')->r' x y H Q) {σ:St} {H:Hp} {Q:VK} (h:tD K (chn g g' fa fb fc) σ H Q):ahV r r' (tD K fa) (tD K fb) (tD K fc) σ H Q:=by
 obtain⟨ρ,d,en,h,k⟩:=h;unfold chn at h;cases ha:fa ρ with
 |none=>rw[ha]at h;cases h
 | some p=>
  cases hb:fb ρ with
  |none=>rw[ha,hb]at h;cases h
  | some q=>
   rw[ha,hb]at h;cases hg:g p q with
   |none=>simp[hg]at h
   | some z=>
    cases ht:asB z with
    |none=>simp[hg,ht]at h
    | some t=>
     have hz:=JW ht;subst hz;refine⟨ρ,p,en,ha,fun x H1 s1 r1=>⟨ρ,q,en.mono s1,hb,fun y H2 s2 r2=>?_⟩⟩;refine hr p q _ x y H2 _ hg (Rep.mono s2 p x r1) r2 fun v H3 s3 r3=>⟨t,r3,?_⟩;have s13:=s1.trans (s2.trans s3);cases t with
     | false=>
      rw[if_neg Bool.false_ne_true];have hd:PyData.bool false=d:=by simpa[hg,asB]using h
      subst hd;exact k _ H3 s13 rfl
     | true=>
      rw[if_pos rfl];cases hc:fc ρ with
      |none=>simp[hg,asB,hc]at h
      | some w=>
       refine⟨ρ,w,en.mono s13,hc,fun z H4 s4 r4=>?_⟩;exact hr' q w d y z H4 Q (by simpa[hg,asB,hc]using h) (Rep.mono (s3.trans s4) q y r2) r4 fun v H5 s5 r5=>k v H5 (s13.trans (s4.trans s5)) r5
theorem alq{op op':CmpOp}{g g':PyData->PyData->OP}(ho:OpD X (compareOp op) g)(ho':OpD X (compareOp op') g')(ha:PD X a fa)(hb:PD X b fb)(hc:PD X c fc)
  (hm:lastMarks [op,op'] [b,c]=false:=by with_unfolding_all rfl):PD X (.Compare a [op,op'] [b,c] pos) (chn g g' fa fb fc):=by
 with_unfolding_all
  obtain⟨r,h1,h2⟩:=ho;obtain⟨r',h3,h4⟩:=ho';exact PE.imp (ak6 h1 h3 ha hb hc hm) fun σ H Q h=>apE h2 h4 h
theorem ajT{op op':CmpOp}{g g':PyData->PyData->OP}(ho:OpD X (compareOp op) g)(ho':OpD X (compareOp op') g')(ha:PD X a fa)(hb:PD X b fb)(hc:PD X c fc)
  (hm:lastMarks [op,op'] [b,c]=false:=by with_unfolding_all rfl):PTD X (.Compare a [op,op'] [b,c] pos) (tst (chn g g' fa fb fc)):=by
 with_unfolding_all
  obtain⟨r,h1,h2⟩:=ho;obtain⟨r',h3,h4⟩:=ho';refine PT.imp (ak7 h1 h3 ha hb hc hm) fun σ H Q ⟨ρ,t,en,h,k⟩=>?_;cases hd:chn g g' fa fb fc ρ with
  |none=>simp[tst,hd]at h
  | some d=>
   have ht:d= .bool t:=JW (by simpa[tst,hd]using h);subst ht;exact apE h2 h4 ⟨ρ,_,en,hd,fun v H' s r=>⟨t,r,k H' s⟩⟩
noncomputable def dIx:PyData->PyData->OP
 |.list ds,.int i=>if ds.length<1000000 then atI ds i else none
 |.tuple ds,.int i=>if ds.length<1000000 then atI ds i else none
 |.dict kvs,.int i=>if kvs.length<1000000/\Jv kvs=true then (atI kvs i).map (·.1) else none
 |_,_=>none
theorem aiU{K:Fg}{H:Hp}{ds:LP}{xs:List V}{i:Int}{d:PyData}(r:Reps K H ds xs)(h:atI ds i=some d):∃x,atI xs i=some x/\Rep K H d x:=by
 have hl:=r.length;unfold atI at h ⊢;rw[hl];cases e:ixN ds.length i with
 |none=>rw[e]at h;cases h
 | some j=>
  rw[e]at h;obtain⟨x,e1,e2⟩:=r.get (show ds[j]?=some d from h);exact⟨x,e1,e2⟩
noncomputable def IxD(X:Cx)(g:PyData->PyData->OP):Prop:=∃r,IxR X r/\∀p q d x y H Q,g p q=some d->Rep X.K H p x->Rep X.K H q y->(∀v H',jo H H'->Rep X.K H' d v->Q v H')->r x y H Q
theorem ixd:IxD X dIx:=by
 refine⟨_,anR.or aqk,fun p q d x y H Q h rx ry k=>?_⟩;unfold dIx at h;split at h
 ·split at h
  ·obtain⟨a,us,e1,e2,e3⟩:=rx
   cases (show y=_ from ry);obtain⟨z,g1,g2⟩:=aiU e3 h;exact .inl ⟨a,us,_,z,e1,rfl,SqL.of e2,g1,k z H (jo.refl H) g2⟩
  ·cases h
 ·split at h
  ·obtain⟨a,us,e1,e2,e3⟩:=rx
   cases (show y=_ from ry);obtain⟨z,g1,g2⟩:=aiU e3 h;exact .inr ⟨a,us,_,z,e1,rfl,e2,g1,k z H (jo.refl H) g2⟩
  ·cases h
 ·split at h
  ·rename_i hs
   obtain⟨a,ns,e1,e2,e3⟩:=rx.scrOut hs.2;cases (show y=_ from ry);subst e3;rename_i i;unfold atI at h;rw[List.length_map]at h;cases e:ixN ns.length i with
   |none=>rw[e]at h;cases h
   | some j=>
    rw[e]at h;have h':((ns.map fun n=>(PyData.int n,PyData.none))[j]?).map (·.1)=some d:=h;rw[List.getElem?_map]at h';cases e4:ns[j]? with
    |none=>rw[e4]at h';cases h'
    | some n=>
     rw[e4]at h';cases h';refine .inl ⟨a,List.map V.int ns,i,.int n,e1,rfl,e2,?_,k _ H (jo.refl H) rfl⟩;unfold atI;rw[List.length_map,e];show(List.map V.int ns)[j]?=_;rw[List.getElem?_map,e4];rfl
  ·cases h
 ·cases h
theorem jR(ha:PD X a fa)(hb:PD X b fb)(hs:aiN b:=by intro _ _;rfl):PD X (.Subscript a b pos) (op2 dIx fa fb):=by
 with_unfolding_all
  obtain⟨r,h1,h2⟩:=ixd (X:=X);exact PE.imp (arF h1 ha hb hs) fun σ H Q h=>an2 h2 h
noncomputable def afi(ds:LP):OP:=match ds with
 | [.list xs]=>some (.int xs.length)
 | [.tuple xs]=>some (.int xs.length)
 | [.dict xs]=>if Jv xs=true then some (.int xs.length) else none
 |_=>none
theorem ZE:QI X (.builtin "len") afi:=by
 refine⟨_,afa,fun ds d xs H Q h r k=>?_⟩;unfold afi at h;split at h
 ·cases h
  obtain⟨x,q,e1,e2,e3⟩:=r;cases (show q=[] from e3);obtain⟨a,us,g1,g2,g3⟩:=e2;subst g1;exact⟨a,us,e1,.inl (SqL.of g2),k _ H (jo.refl H) (by show _=_;rw[g3.length])⟩
 ·cases h
  obtain⟨x,q,e1,e2,e3⟩:=r;cases (show q=[] from e3);obtain⟨a,us,g1,g2,g3⟩:=e2;subst g1;exact⟨a,us,e1,.inr g2,k _ H (jo.refl H) (by show _=_;rw[g3.length])⟩
 ·split at h
  ·rename_i hs
   cases h;obtain⟨x,q,e1,e2,e3⟩:=r;cases (show q=[] from e3);obtain⟨a,ns,g1,g2,g3⟩:=e2.scrOut hs;subst g1;subst g3;exact⟨a,_,e1,.inl g2,k _ H (jo.refl H) (by show _=_;simp)⟩
  ·cases h
 ·cases h
noncomputable def aa1(ds:LP):OP:=match ds with
 | [.int i,.int j]=>some (.int (if j>i then j else i))
 |_=>none
noncomputable def aca(ds:LP):OP:=match ds with
 | [.int i,.int j]=>some (.int (if j<i then j else i))
 |_=>none
theorem acy(hc:X.calm=true):QI X (.builtin "max") aa1:=by
 refine⟨_,ajK hc,fun ds d xs H Q h r k=>?_⟩;unfold aa1 at h;split at h
 ·cases h
  obtain⟨x,q,e1,e2,y,q',e3,e4,e5⟩:=r;cases (show x=_ from e2);cases (show y=_ from e4);cases (show q'=[] from e5);subst e3;exact⟨_,_,e1,k _ H (jo.refl H) rfl⟩
 ·cases h
theorem afj(hc:X.calm=true):QI X (.builtin "min") aca:=by
 refine⟨_,ajL hc,fun ds d xs H Q h r k=>?_⟩;unfold aca at h;split at h
 ·cases h
  obtain⟨x,q,e1,e2,y,q',e3,e4,e5⟩:=r;cases (show x=_ from e2);cases (show y=_ from e4);cases (show q'=[] from e5);subst e3;exact⟨_,_,e1,k _ H (jo.refl H) rfl⟩
 ·cases h
end
section
variable {X:Cx}{Kp:List (Addr×Obj)}{σ:St}{H:Hp}{s:Shared}
theorem abQ{prog:Program}{w:World}{A:Around}{E:Value->SP0}{l:Addr}{its:Array Value}{Q:Value->SP0}(hl:s.heap.IsList l its)
  (h:∀(h2:Heap) (it:Addr),(h2.IsListIter it l 0/\h2.IsList l its)->(∀b∈[it,l],b<h2.objs.size)->l≠it->(∀b o,s.heap.get? b=some o->h2.get? b=some o)->s.heap.get? it=none->Q (.ref it) { s with heap:=h2 }):
  wpAny (model prog w) A (pyIter (.ref l)) Q E s:=by
 have hlt:l<s.heap.objs.size:=by
  obtain⟨_,e,_⟩:=hl;exact Heap.lt_size e
 refine wpAny_pyIter_list hl (h _ _ ⟨⟨_,Heap.get?_push_size _ rfl,rfl,rfl⟩,hl.push _⟩ (fun b hb=>?_) (Nat.ne_of_lt hlt) (fun b o e=>Heap.get?_push_of_some _ e) (Heap.get?_none_of_le (Nat.le_refl _)));rw[Heap.size_push];rcases List.mem_cons.mp hb with e | hb
 ·rw[e];exact Nat.lt_succ_self _
 ·have e:b=l:=by simpa using hb
  rw[e];exact Nat.lt_succ_of_lt hlt
theorem aev{prog:Program}{w:World}{A:Around}{E:Value->SP0}{l:Addr}{its:Array Value}{Q:Value->SP0}(hl:s.heap.IsTuple l its)
  (h:∀(h2:Heap) (it:Addr),(h2.IsTupleIter it l 0/\h2.IsTuple l its)->(∀b∈[it,l],b<h2.objs.size)->l≠it->(∀b o,s.heap.get? b=some o->h2.get? b=some o)->s.heap.get? it=none->Q (.ref it) { s with heap:=h2 }):
  wpAny (model prog w) A (pyIter (.ref l)) Q E s:=by
 have hlt:l<s.heap.objs.size:=by
  obtain⟨_,e,_⟩:=hl;exact Heap.lt_size e
 have hl2:∀o,(s.heap.push o).IsTuple l its:=fun o=>by
  obtain⟨ob,e,r⟩:=hl;exact⟨ob,Heap.get?_push_of_some _ e,r⟩
 refine wpAny_pyIter_tuple hl (h _ _ ⟨⟨_,Heap.get?_push_size _ rfl,rfl,rfl⟩,hl2 _⟩ (fun b hb=>?_) (Nat.ne_of_lt hlt) (fun b o e=>Heap.get?_push_of_some _ e) (Heap.get?_none_of_le (Nat.le_refl _)));rw[Heap.size_push];rcases List.mem_cons.mp hb with e | hb
 ·rw[e];exact Nat.lt_succ_self _
 ·have e:b=l:=by simpa using hb
  rw[e];exact Nat.lt_succ_of_lt hlt
theorem aa2{h h2 h3 : Heap}{it : Addr}(k1 : ∀b o, h.get? b = some o -> h2.get? b = some o)(hn : h.get? it = none)(k2 : ∀b o, b∉[it] -> h2.get? b = some o -> h3.get? b = some o) : ∀b o, h.get? b = some o -> h3.get? b = some o := fun b o e =>
  k2 b o (fun z => by have e1 : b = it := by simpa using z
                      rw [e1, hn] at e; cases e) (k1 b o e)
theorem aiV:∀{bs:List Bool}{us:List Value},jM (bs.map V.bl) us->us=bs.map Value.bool
 | [],us,r=>by cases r;rfl
 | b::bs,us,r=>by
  cases r with
  |cons r1 r2=>cases (show _=_ from r1);rw[aiV r2];rfl
theorem ajU(bs:List Bool):(List.range bs.length).all (fun i=>bs.getD i false)=bs.all id:=by
 have:bs=(List.range bs.length).map (fun i=>bs.getD i false):=by
  apply List.ext_getElem?;intro i;rw[List.getElem?_map];by_cases h:i<bs.length
  ·rw[List.getElem?_range h];simp[List.getD,h]
  ·simp[h]
 conv=>rhs;rw[this]
 rw[List.all_map];rfl
noncomputable def asR(K:Fg):List V->Hp->VK->Prop:=fun xs H Q=>∃a bs,xs=[.ref a]/\SqL K H a (List.map V.bl bs)/\Q (.bl (bs.all id)) H
theorem ajV(hc:X.calm=true):zS X (.builtin "all") (asR X.K):=by
 intro Kp s σ H xs us Q I r ⟨a,bs,e,hq,q⟩;subst e;obtain⟨u,rfl,rx⟩:=Zs r;cases rx;obtain⟨its,rv,pl,hz⟩:=I.list hq;have ei:=aiV rv;have hh:=I.ok.hd hc;refine call_all_walk (abQ pl.isList fun h2 it st hlt hne k1 hn=>?_);refine⟨it,[it,a],[it],its.toArray.size,(fun i v=>its.toArray[i]?=some v),_,fun i=>bs.getD i false,rfl,Walks.list (A:=X.A.in1) hh it a hne its.toArray,st,?_,fun h3 tk k2=>?_⟩
 ·intro i v s' Q' E' hP hq'
  have:v= .bool (bs.getD i false):=by
   have hP':its[i]?=some v:=by simpa using hP
   rw[ei,List.getElem?_map]at hP';cases hb:bs[i]? with
   |none=>rw[hb]at hP';cases hP'
   |some b=>rw[hb]at hP';cases hP';simp[List.getD,hb]
  subst this;exact wpAny_truthy_bool hq'
 ·have I3:=I.kept (t':=tk) (aa2 k1 hn k2)
  have hl:its.toArray.size=bs.length:=by rw[ei];simp
  refine⟨.bl (bs.all id),H,I3,?_,q⟩;show _=_;rw[hl,ajU]
noncomputable def bls:LP->Option (List Bool)
 | []=>some []
 |d::r=>(asB d).bind fun b=>(bls r).map fun q=>b::q
theorem Reps.bls{K:Fg}{H:Hp}:∀{ds:LP}{bs:List Bool}{xs:List V},BX.bls ds=some bs->Reps K H ds xs->xs=bs.map V.bl
 | [],bs,xs,h,r=>by simp[BX.bls]at h;subst h;exact r
 | d::ds,bs,xs,h,⟨x,q,e1,e2,e3⟩=>by
  subst e1;cases h1:asB d with
  |none=>simp[BX.bls,h1]at h
  | some b=>
   cases h2:BX.bls ds with
   |none=>simp[BX.bls,h1,h2]at h
   | some r=>
    have:b::r=bs:=by simpa[BX.bls,h1,h2]using h
    subst this;have hd:=JW h1;subst hd;cases (show x=_ from e2);rw[Reps.bls h2 e3];rfl
noncomputable def aqy(ds:LP):OP:=match ds with
 | [.list xs]=>(bls xs).map fun bs=> .bool (bs.all id)
 |_=>none
theorem aqz(hc:X.calm=true):QI X (.builtin "all") aqy:=by
 refine⟨_,ajV hc,fun ds d xs H Q h r k=>?_⟩;unfold aqy at h;split at h
 ·rename_i ys
  cases hb:bls ys with
  |none=>simp[hb]at h
  | some bs=>
   have:PyData.bool (bs.all id)=d:=by simpa[hb]using h
   subst this;obtain⟨x,q,e1,e2,e3⟩:=r;cases (show q=[] from e3);obtain⟨a,us,g1,g2,g3⟩:=e2;subst g1;have:=Reps.bls hb g3;subst this;exact⟨a,bs,e1,SqL.of g2,k _ H (jo.refl H) rfl⟩
 ·cases h
noncomputable def ad9:PyData->Option Int
 |.int i=>some i
 |_=>none
noncomputable def j5:LP->Option (List Int)
 | []=>some []
 |d::r=>(ad9 d).bind fun b=>(j5 r).map fun q=>b::q
theorem zT:∀{ds:LP}{ns:List Int},j5 ds=some ns->ds=ns.map PyData.int
 | [],ns,h=>by simp[j5]at h;subst h;rfl
 | d::ds,ns,h=>by
  cases d with
  | int i=>
   cases h2:j5 ds with
   |none=>simp[j5,ad9,h2]at h
   | some r=>
    have:i::r=ns:=by simpa[j5,ad9,h2]using h
    subst this;rw[zT h2];rfl
  |_=>simp[j5,ad9]at h
theorem zU{ns:List Int}{us:List Value}{i:Nat}{v:Value}(r:jM (ns.map V.int) us)(h:us.toArray[i]?=some v):∃t,v= .int (ns.getD i 0) t:=by
 have h':us[i]?=some v:=by simpa using h
 have hi:i<us.length:=(List.getElem?_eq_some_iff.mp h').1;have hl:=r.length;rw[List.length_map]at hl
 obtain⟨u,e1,e2⟩:=r.get (show(ns.map V.int)[i]?=some (V.int (ns.getD i 0)) by
  rw [List.getElem?_map];have:i<ns.length:=by omega
  simp [List.getD,this])
 rw[h']at e1;cases e1;exact e2
theorem acb(ns:List Int):preSum (fun i=>ns.getD i 0) ns.length=ns.sum:=by
 have go:∀k,k<=ns.length->preSum (fun i=>ns.getD i 0) k=(ns.take k).sum:=by
  intro k
  induction k with
  |zero=>intro _;simp[preSum]
  | succ k ih=>
   intro hk;have hlt:k<ns.length:=by omega
   have h1:ns.take (k+1)=ns.take k++[ns[k]]:=by rw[List.take_succ];simp[hlt]
   rw[h1];simp only[preSum,ih (by omega),List.sum_append,List.sum_cons,List.sum_nil,Int.add_zero];simp[List.getD,hlt]
 have:=go ns.length (Nat.le_refl _);simpa using this
noncomputable def asS(K:Fg):List V->Hp->VK->Prop:=fun xs H Q=>∃a ns,xs=[.ref a]/\(SqL K H a (List.map V.int ns)∨SqT K H a (List.map V.int ns))/\Q (.int ns.sum) H
theorem ajW(hc:X.calm=true):zS X (.builtin "sum") (asS X.K):=by
 intro Kp s σ H xs us Q I r ⟨a,ns,e,hq,q⟩;subst e;obtain⟨u,rfl,rx⟩:=Zs r;cases rx;have hh:=I.ok.hd hc;rcases hq with hq | hq
 ·obtain⟨its,rv,pl,hz⟩:=I.list hq
  have hl:its.toArray.size=ns.length:=by have:=rv.length;simp at this ⊢;omega
  refine call_sum_walkG (abQ pl.isList fun h2 it st hlt hne k1 hn=>?_);refine⟨it,[it,a],[it],its.toArray.size,(fun i v=>its.toArray[i]?=some v),_,fun i=>ns.getD i 0,rfl,Walks.list (A:=X.A.in1) hh it a hne its.toArray,st,hlt,fun i v hP=>zU rv hP,fun h3 tk t' k2=>?_⟩;exact⟨.int ns.sum,H,I.kept (t':=tk) (aa2 k1 hn k2),⟨t',by rw[hl,acb]⟩,q⟩
 ·obtain⟨its,rv,pl,hz⟩:=I.tuple hq
  have hl:its.toArray.size=ns.length:=by have:=rv.length;simp at this ⊢;omega
  refine call_sum_walkG (aev (show s.heap.IsTuple a its.toArray from pl) fun h2 it st hlt hne k1 hn=>?_);refine⟨it,[it,a],[it],its.toArray.size,(fun i v=>its.toArray[i]?=some v),_,fun i=>ns.getD i 0,rfl,Walks.tuple (A:=X.A.in1) hh it a hne its.toArray,st,hlt,fun i v hP=>zU rv hP,fun h3 tk t' k2=>?_⟩;exact⟨.int ns.sum,H,I.kept (t':=tk) (aa2 k1 hn k2),⟨t',by rw[hl,acb]⟩,q⟩
noncomputable def aea(ds:LP):OP:=match ds with
 | [.list xs]=>(j5 xs).map fun ns=> .int ns.sum
 | [.tuple xs]=>(j5 xs).map fun ns=> .int ns.sum
 |_=>none
theorem alr(hc:X.calm=true):QI X (.builtin "sum") aea:=by
 refine⟨_,ajW hc,fun ds d xs H Q h r k=>?_⟩;unfold aea at h;split at h
 ·rename_i ys
  cases hb:j5 ys with
  |none=>simp[hb]at h
  | some ns=>
   have:PyData.int ns.sum=d:=by simpa[hb]using h
   subst this;obtain⟨x,q,e1,e2,e3⟩:=r;cases (show q=[] from e3);obtain⟨a,us,g1,g2,g3⟩:=e2;subst g1;rw[zT hb]at g3;have:=Reps.ints g3;subst this;exact⟨a,ns,e1,.inl (SqL.of g2),k _ H (jo.refl H) rfl⟩
 ·rename_i ys
  cases hb:j5 ys with
  |none=>simp[hb]at h
  | some ns=>
   have:PyData.int ns.sum=d:=by simpa[hb]using h
   subst this;obtain⟨x,q,e1,e2,e3⟩:=r;cases (show q=[] from e3);obtain⟨a,us,g1,g2,g3⟩:=e2;subst g1;rw[zT hb]at g3;have:=Reps.ints g3;subst this;exact⟨a,ns,e1,.inr g2,k _ H (jo.refl H) rfl⟩
 ·cases h
end
section
variable {prog:Program}{w:World}{A:Around}{E:Value->SP0}{s:Shared}
theorem aaI{it t:Addr}{i:Nat}{ys:Array Value}{x:Value}{Q:Value->SP0}(hit:s.heap.IsTupleIter it t i)(ht:s.heap.IsTuple t ys)(hx:ys[i]?=some x)
  (hQ:∀h',h'.IsTupleIter it t (i+1)->Heap.SameBut it s.heap h'->Q x { s with heap:=h' }):wpAny (model prog w) A (Builtin.SmallTypes.nextOf (.ref it)) Q E s:=by
 obtain⟨o,ho,hc,hd⟩:=id hit;obtain⟨ot,hot,_,nt,hdt⟩:=ht;unfold Builtin.SmallTypes.nextOf
 refine wpAny_bind (wpAny_callSpecial?_slot (name:=Str.ofString "__next__") hit.typeIs F.slot_tuple_iterator_next
  (wpAny_call_entry F.slot_tuple_iterator_next hit.typeIs F.entry_tuple_iterator_next ?_
   (F.args_tuple_iterator_next_1 _)))
 refine wpAny_bind (m:=field (.ref it) 0) (wpAny_field ho hd (x:= .ref t) rfl ?_);have no:¬ ((Value.ref t==Value.none)=true):=Bool.false_ne_true
 show wpAny _ _ (if (Value.ref t==Value.none)=true then _ else
  _) _ _ s
 rw[if_neg no];refine wpAny_bind (m:=field (.ref it) 1) (wpAny_field ho hd (x:= .int i 0) rfl ?_);refine wpAny_bind (m:=seqItems? (.ref t)) (wpAny_seqItems hot hdt ?_);simp only[Int.toNat_natCast,hx];refine wpAny_bind (wpAny_setField ho hd (by simp) (wpAny_pure ⟨x,rfl,wpAny_pure (hQ _ ?_ (Heap.SameBut.update ..))⟩));refine⟨_,Heap.get?_update_self _ ho (Obj.isFreed_of_fields (Obj.data_mapFields hd _)),(Obj.cls_mapFields ..).trans hc,?_⟩;rw[Obj.data_mapFields hd];simp[rawInt]
theorem ajX{it t:Addr}{i:Nat}{ys:Array Value}{Q:Value->SP0}(hh:A.handled=none)(hit:s.heap.IsTupleIter it t i)(ht:s.heap.IsTuple t ys)(hx:ys[i]?=none)
  (hE:∀h' e,Heap.ExtBut it s.heap h'->(∃o,h'.get? e=some o/\o.cls= .type "StopIteration")->E (.ref e) { s with heap:=h' }):wpAny (model prog w) A (Builtin.SmallTypes.nextOf (.ref it)) Q E s:=by
 obtain⟨o,ho,hc,hd⟩:=id hit;obtain⟨ot,hot,_,nt,hdt⟩:=ht;unfold Builtin.SmallTypes.nextOf
 refine wpAny_bind (wpAny_callSpecial?_slot (name:=Str.ofString "__next__") hit.typeIs F.slot_tuple_iterator_next
  (wpAny_call_entry F.slot_tuple_iterator_next hit.typeIs F.entry_tuple_iterator_next ?_
   (F.args_tuple_iterator_next_1 _)))
 refine wpAny_bind (m:=field (.ref it) 0) (wpAny_field ho hd (x:= .ref t) rfl ?_);have no:¬ ((Value.ref t==Value.none)=true):=Bool.false_ne_true
 show wpAny _ _ (if (Value.ref t==Value.none)=true then _ else
  _) _ _ s
 rw[if_neg no];refine wpAny_bind (m:=field (.ref it) 1) (wpAny_field ho hd (x:= .int i 0) rfl ?_);refine wpAny_bind (m:=seqItems? (.ref t)) (wpAny_seqItems hot hdt ?_);simp only[Int.toNat_natCast,hx];refine wpAny_bind (wpAny_rule (wpAny_bind (wpAny_setField ho hd (by simp) ?_)));refine wpAny_bind (m:=newExc (.type "StopIteration") []) ?_;simp only[newExc,newTuple];refine wpAny_bind (wpAny_newObj_type ?_ (by size_fits))
 refine wpAny_bind (m:=firstArgMember _ _) (wpAny_of_eq (a:=Value.none)
  (by first | rfl | (simp only [firstArgMember]; rfl)) ?_)
 refine wpAny_newObj_type ?_ (by size_fits);simp only[raiseNew];refine wpAny_bind (wpAny_handled ?_);rw[show A.in1.handled=none from hh];refine wpAny_bind (wpAny_pure (wpAny_throw ?_));exact hE _ _ (((Heap.SameBut.update ..).extBut.push _).push _) ⟨_,Heap.get?_push_size _ rfl,rfl⟩
noncomputable abbrev aa3(h:Heap)(T:Addr)(a b c:Value):Prop:=h.get? T=some { cls:= .type "tuple",data:= .seq #[a,b,c] }
theorem ade{T:Addr}{a b c x:Value}{k:Nat}{Q:Unit->SP0}(hT:aa3 s.heap T a b c)
  (h:∀h',h'.get? T=some { cls:= .type "tuple",data:= .seq ((#[a,b,c]:Array Value).setIfInBounds k x) }->Heap.SameBut T s.heap h'->Q () { s with heap:=h' }):
  wpAny (model prog w) A (updateSeq T (·.setIfInBounds k x)) Q E s:=by
 refine wpAny_updateSeq hT rfl (h _ ?_ (Heap.SameBut.update ..));rw[Heap.get?_update_self _ hT rfl];simp[Obj.mapSeq]
structure Apart3(z TI TO i1 i2 i3 t1 t2 t3:Addr):Prop where
 nd:[z,TO,i1,i2,i3].Nodup
 ti:TI∉[z,TO,i1,i2,i3]
 s1:t1∉[z,TO,i1,i2,i3]
 s2:t2∉[z,TO,i1,i2,i3]
 s3:t3∉[z,TO,i1,i2,i3]
structure Zip3(h:Heap)(z TI TO i1 i2 i3 t1 t2 t3:Addr)(xs ys zs:Array Value)(f0:Value)(k:Nat):Prop where
 hz:IsZip h z TI TO f0
 hTI:aa3 h TI (.ref i1) (.ref i2) (.ref i3)
 hTO:∃a b c,aa3 h TO a b c
 g1:h.IsTupleIter i1 t1 k
 g2:h.IsTupleIter i2 t2 k
 g3:h.IsTupleIter i3 t3 k
 a1:h.IsTuple t1 xs
 a2:h.IsTuple t2 ys
 a3:h.IsTuple t3 zs
theorem Zip3.keep{h h':Heap}{z TI TO i1 i2 i3 t1 t2 t3:Addr}{xs ys zs:Array Value}{f0:Value}{k:Nat}(S:Zip3 h z TI TO i1 i2 i3 t1 t2 t3 xs ys zs f0 k)
  (kp:∀b∈[z,TI,TO,i1,i2,i3,t1,t2,t3],∀o,h.get? b=some o->h'.get? b=some o):Zip3 h' z TI TO i1 i2 i3 t1 t2 t3 xs ys zs f0 k:=by
 obtain⟨hz,hTI,⟨a,b,c,hTO⟩,⟨o1,e1,r1⟩,⟨o2,e2,r2⟩,⟨o3,e3,r3⟩,⟨p1,f1,q1⟩,⟨p2,f2,q2⟩,⟨p3,f3,q3⟩⟩:=S;exact⟨kp z (by simp) _ hz,kp TI (by simp) _ hTI,⟨a,b,c,kp TO (by simp) _ hTO⟩,⟨o1,kp i1 (by simp) _ e1,r1⟩,⟨o2,kp i2 (by simp) _ e2,r2⟩,⟨o3,kp i3 (by simp) _ e3,r3⟩,⟨p1,kp t1 (by simp) _ f1,q1⟩,⟨p2,kp t2 (by simp) _ f2,q2⟩,⟨p3,kp t3 (by simp) _ f3,q3⟩⟩
noncomputable def But(l:List Addr)(h h':Heap):Prop:=∀b o,b∉l->h.get? b=some o->h'.get? b=some o
theorem But.of{b:Addr}{l:List Addr}{h h':Heap}(x:Heap.ExtBut b h h')(hb:b∈l):But l h h':=fun c o hc e=>x c o (fun z=>hc (by rw[z];exact hb)) e
theorem But.trans{l:List Addr}{h h1 h2:Heap}(a:But l h h1)(b:But l h1 h2):But l h h2:=fun c o hc e=>b c o hc (a c o hc e)
theorem ajY{z TI TO i1 i2 i3 t1 t2 t3:Addr}{xs ys zs:Array Value}{k:Nat}{x y v:Value}{Q:Value->SP0}(D:Apart3 z TI TO i1 i2 i3 t1 t2 t3)(S:Zip3 s.heap z TI TO i1 i2 i3 t1 t2 t3 xs ys zs .none k)
  (hx:xs[k]?=some x) (hy:ys[k]?=some y) (hv:zs[k]?=some v)
  (hQ:∀h',Zip3 h' z TI TO i1 i2 i3 t1 t2 t3 xs ys zs (rawInt s.heap.objs.size) (k+1)->aa3 h' s.heap.objs.size x y v->But [z,TO,i1,i2,i3] s.heap h'->Q (.ref s.heap.objs.size) { s with heap:=h' }):
  wpAny (model prog w) A (Builtin.«zip.__next__» ⟨[.ref z],[]⟩) (fun fin s'=>∃v,fin= .done (.ret v)/\Q v s') E s:=by
 obtain⟨hz,hTI,⟨a,b,c,hTO⟩,g1,g2,g3,a1,a2,a3⟩:=S;obtain⟨nd,ti,s1,s2,s3⟩:=D;simp only[List.nodup_cons,List.mem_cons,List.not_mem_nil,or_false,not_or]at nd ti s1 s2 s3;obtain⟨⟨n1,n2,n3,n4⟩,⟨n5,n6,n7⟩,⟨n8,n9⟩,n10,_⟩:=nd;obtain⟨t1z,t1o,t11,t12,t13⟩:=s1;obtain⟨t2z,t2o,t21,t22,t23⟩:=s2;obtain⟨t3z,t3o,t31,t32,t33⟩:=s3;obtain⟨tiz,tio,ti1,ti2,ti3⟩:=ti;refine wpAny_bind (m:=field (.ref z) 2) (wpAny_field hz rfl (x:= .bool false) rfl ?_);refine wpAny_bind (m:=field (.ref z) 3) (wpAny_field hz rfl (x:= .ref TI) rfl ?_);refine wpAny_bind (wpAny_seqItems hTI rfl ?_);refine wpAny_bind (m:=Builtin.SmallTypes.ownedTupleIsFree (.ref z)) ?_;unfold Builtin.SmallTypes.ownedTupleIsFree;refine wpAny_bind (wpAny_field hz rfl (x:= .none) rfl (wpAny_pure ?_));simp only[zzM];refine wpAny_bind (wpAny_rule ?_);refine wpAny_bind (wpAny_field hz rfl (x:= .ref TO) rfl ?_);refine wpAny_bind (wpAny_setField_rec hz (by simp) fun h1 hz1 b1=>?_)
 replace hz1:IsZip h1 z TI TO .ellipsis:=hz1
 refine wpAny_bind ?_;simp only[List.zipIdx_cons,List.zipIdx_nil,List.forIn_cons,List.forIn_nil];refine wpAny_bind (wpAny_bind (wpAny_onRaise ?_));refine wpAny_bind (m:=Builtin.SmallTypes.nextOf (.ref i1)) ?_;refine aaI (g1.extBut b1.extBut (Ne.symm n2)) (a1.extBut b1.extBut t1z) hx fun h2 g1' b2=>wpAny_pure ?_;have o2:aa3 h2 TO a b c:=b2.extBut _ _ n5 (b1.extBut _ _ (Ne.symm n1) hTO);refine wpAny_bind (wpAny_seqItems o2 rfl ?_);refine wpAny_bind (ade o2 fun h3 o3 b3=>?_)
 replace o3:aa3 h3 TO x b c:=o3
 refine wpAny_bind (wpAny_letGo (wpAny_pure ?_));refine wpAny_bind (wpAny_bind (wpAny_onRaise ?_));refine wpAny_bind (m:=Builtin.SmallTypes.nextOf (.ref i2)) ?_;refine aaI (((g2.extBut b1.extBut (Ne.symm n3)).extBut b2.extBut (Ne.symm n8)).extBut b3.extBut (Ne.symm n6)) (((a2.extBut b1.extBut t2z).extBut b2.extBut t21).extBut b3.extBut t2o) hy fun h4 g2' b4=>wpAny_pure ?_;have o4:aa3 h4 TO x b c:=b4.extBut _ _ n6 o3;refine wpAny_bind (wpAny_seqItems o4 rfl ?_);refine wpAny_bind (ade o4 fun h5 o5 b5=>?_)
 replace o5:aa3 h5 TO x y c:=o5
 refine wpAny_bind (wpAny_letGo (wpAny_pure ?_));refine wpAny_bind (wpAny_bind (wpAny_onRaise ?_));refine wpAny_bind (m:=Builtin.SmallTypes.nextOf (.ref i3)) ?_
 refine aaI (((((g3.extBut b1.extBut (Ne.symm n4)).extBut b2.extBut (Ne.symm n9)).extBut b3.extBut (Ne.symm n7)).extBut b4.extBut (Ne.symm n10)).extBut b5.extBut (Ne.symm n7))
  (((((a3.extBut b1.extBut t3z).extBut b2.extBut t31).extBut b3.extBut t3o).extBut b4.extBut t32).extBut b5.extBut t3o) hv fun h6 g3' b6=>wpAny_pure ?_
 have o6:aa3 h6 TO x y c:=b6.extBut _ _ n7 o5;refine wpAny_bind (wpAny_seqItems o6 rfl ?_);refine wpAny_bind (ade o6 fun h7 o7 b7=>?_)
 replace o7:aa3 h7 TO x y v:=o7
 refine wpAny_bind (wpAny_letGo (wpAny_pure (wpAny_pure ?_)));refine wpAny_bind (wpAny_seqItems o7 rfl ?_);refine wpAny_bind (wpAny_newTuple ?_);have sz:h7.objs.size=s.heap.objs.size:=by rw[b7.1,b6.1,b5.1,b4.1,b3.1,b2.1,b1.1]
 have B:But [z,TO,i1,i2,i3] s.heap h7:=
  ((((((But.of b1.extBut (by simp)).trans (But.of b2.extBut (by simp))).trans (But.of b3.extBut (by simp))).trans (But.of b4.extBut (by simp))).trans (But.of b5.extBut (by simp))).trans (But.of b6.extBut (by simp))).trans (But.of b7.extBut (by simp))
 have z7:IsZip h7 z TI TO .ellipsis:=b7.extBut _ _ n1 (b6.extBut _ _ n4 (b5.extBut _ _ n1 (b4.extBut _ _ n3 (b3.extBut _ _ n1 (b2.extBut _ _ n2 hz1)))));have i17:h7.IsTupleIter i1 t1 (k+1):=((((g1'.extBut b3.extBut (Ne.symm n5)).extBut b4.extBut n8).extBut b5.extBut (Ne.symm n5)).extBut b6.extBut n9).extBut b7.extBut (Ne.symm n5);have i27:h7.IsTupleIter i2 t2 (k+1):=((g2'.extBut b5.extBut (Ne.symm n6)).extBut b6.extBut n10).extBut b7.extBut (Ne.symm n6);have i37:h7.IsTupleIter i3 t3 (k+1):=g3'.extBut b7.extBut (Ne.symm n7);refine wpAny_bind (m:=Builtin.SmallTypes.ownedTupleHandOut (.ref z) (.ref h7.objs.size)) ?_;unfold Builtin.SmallTypes.ownedTupleHandOut;have z8:IsZip (h7.push { cls:= .type "tuple",data:= .seq #[x,y,v] }) z TI TO .ellipsis:=Heap.get?_push_of_some _ z7;refine wpAny_bind (wpAny_setField_rec z8 (by simp) fun h9 z9 b9=>?_)
 replace z9:IsZip h9 z TI TO (rawInt h7.objs.size):=z9
 refine wpAny_setField_rec z9 (by simp) fun h10 z10 b10=>?_
 replace z10:IsZip h10 z TI TO (rawInt h7.objs.size):=z10
 have up:∀c o,c≠z->h7.get? c=some o->h10.get? c=some o:=fun c o c1 e=>b10.extBut _ _ c1 (b9.extBut _ _ c1 (Heap.get?_push_of_some _ e));have zlt:z<h7.objs.size:=Heap.lt_size z7;have T10:aa3 h10 h7.objs.size x y v:=b10.extBut _ _ (Nat.ne_of_gt zlt) (b9.extBut _ _ (Nat.ne_of_gt zlt) (Heap.get?_push_size _ rfl));rw[sz]at z10 T10;refine wpAny_pure ⟨_,rfl,?_⟩;show Q (.ref h7.objs.size) _;rw[sz];have itk:∀{i t:Addr} {m:Nat},i≠z->h7.IsTupleIter i t m->h10.IsTupleIter i t m:=fun ne ⟨o,e,r⟩=>⟨o,up _ o ne e,r⟩;have tuk:∀{t:Addr} {us:Array Value},t∉[z,TO,i1,i2,i3]->s.heap.IsTuple t us->h10.IsTuple t us:=fun ne ⟨o,e,r⟩=>⟨o,up _ o (fun q=>ne (by simp[q])) (B _ o ne e),r⟩
 refine hQ h10 ⟨z10,up _ _ tiz (B _ _ (by simp[tiz,tio,ti1,ti2,ti3]) hTI),⟨x,y,v,up _ _ (Ne.symm n1) o7⟩,itk (Ne.symm n2) i17,itk (Ne.symm n3) i27,itk (Ne.symm n4) i37,
  tuk (by simp [t1z,t1o,t11,t12,t13]) a1,tuk (by simp [t2z,t2o,t21,t22,t23]) a2,tuk (by simp [t3z,t3o,t31,t32,t33]) a3⟩ T10 fun c o hc e=>up c o (fun q=>hc (by simp [q])) (B c o hc e)
theorem als{z TI TO i1 i2 i3 t1 t2 t3:Addr}{xs ys zs:Array Value}{k:Nat}{Q:Fin->SP0}(hh:A.handled=none)(D:Apart3 z TI TO i1 i2 i3 t1 t2 t3)(S:Zip3 s.heap z TI TO i1 i2 i3 t1 t2 t3 xs ys zs .none k)(hx:xs[k]?=none)
  (hE:∀h' e,But [z,TO,i1,i2,i3] s.heap h'->(∃o,h'.get? e=some o/\o.cls= .type "StopIteration")->E (.ref e) { s with heap:=h' }):
  wpAny (model prog w) A (Builtin.«zip.__next__» ⟨[.ref z],[]⟩) Q E s:=by
 obtain⟨hz,hTI,⟨a,b,c,hTO⟩,g1,g2,g3,a1,a2,a3⟩:=S;obtain⟨nd,ti,s1,s2,s3⟩:=D;simp only[List.nodup_cons,List.mem_cons,List.not_mem_nil,or_false,not_or]at nd ti s1 s2 s3;obtain⟨⟨n1,n2,n3,n4⟩,⟨n5,n6,n7⟩,⟨n8,n9⟩,n10,_⟩:=nd;refine wpAny_bind (m:=field (.ref z) 2) (wpAny_field hz rfl (x:= .bool false) rfl ?_);refine wpAny_bind (m:=field (.ref z) 3) (wpAny_field hz rfl (x:= .ref TI) rfl ?_);refine wpAny_bind (wpAny_seqItems hTI rfl ?_);refine wpAny_bind (m:=Builtin.SmallTypes.ownedTupleIsFree (.ref z)) ?_;unfold Builtin.SmallTypes.ownedTupleIsFree;refine wpAny_bind (wpAny_field hz rfl (x:= .none) rfl (wpAny_pure ?_));simp only[zzM];refine wpAny_bind (wpAny_rule ?_);refine wpAny_bind (wpAny_field hz rfl (x:= .ref TO) rfl ?_);refine wpAny_bind (wpAny_setField_rec hz (by simp) fun h1 hz1 b1=>?_)
 replace hz1:IsZip h1 z TI TO .ellipsis:=hz1
 refine wpAny_bind ?_;simp only[List.zipIdx_cons,List.zipIdx_nil,List.forIn_cons,List.forIn_nil];refine wpAny_bind (wpAny_bind (wpAny_onRaise ?_));refine wpAny_bind (m:=Builtin.SmallTypes.nextOf (.ref i1)) ?_;refine ajX hh (g1.extBut b1.extBut (Ne.symm n2)) (a1.extBut b1.extBut s1.1) hx fun h2 e b2 he=>?_;obtain⟨oe,ho,hc⟩:=he;have z2:IsZip h2 z TI TO .ellipsis:=b2 _ _ n2 hz1;have ez:e≠z:=fun q=>by subst q;rw[z2]at ho;cases ho;simp at hc
 refine wpAny_setField_rec z2 (by simp) fun h3 _ b3=>?_;exact hE h3 e (((But.of b1.extBut (by simp)).trans (But.of b2 (by simp))).trans (But.of b3.extBut (by simp))) ⟨oe,b3.extBut _ _ ez ho,hc⟩
end
structure ZipC(h:Heap)(z TI TO i1 i2 i3 t1 t2 t3:Addr)(f0:Value)(k:Nat):Prop where
 hz:IsZip h z TI TO f0
 hTI:aa3 h TI (.ref i1) (.ref i2) (.ref i3)
 hTO:∃a b c,aa3 h TO a b c
 g1:h.IsTupleIter i1 t1 k
 g2:h.IsTupleIter i2 t2 k
 g3:h.IsTupleIter i3 t3 k
theorem ZipC.all{h:Heap}{z TI TO i1 i2 i3 t1 t2 t3:Addr}{f0:Value}{k:Nat}(S:ZipC h z TI TO i1 i2 i3 t1 t2 t3 f0 k){xs ys zs:Array Value}(a1:h.IsTuple t1 xs)(a2:h.IsTuple t2 ys)(a3:h.IsTuple t3 zs):
  Zip3 h z TI TO i1 i2 i3 t1 t2 t3 xs ys zs f0 k:=⟨S.hz,S.hTI,S.hTO,S.g1,S.g2,S.g3,a1,a2,a3⟩
theorem Zip3.c{h:Heap}{z TI TO i1 i2 i3 t1 t2 t3:Addr}{xs ys zs:Array Value}{f0:Value}{k:Nat}(S:Zip3 h z TI TO i1 i2 i3 t1 t2 t3 xs ys zs f0 k):ZipC h z TI TO i1 i2 i3 t1 t2 t3 f0 k:=⟨S.hz,S.hTI,S.hTO,S.g1,S.g2,S.g3⟩
theorem ZipC.keep{h h':Heap}{z TI TO i1 i2 i3 t1 t2 t3:Addr}{f0:Value}{k:Nat}(S:ZipC h z TI TO i1 i2 i3 t1 t2 t3 f0 k)(kp:∀b∈[z,TI,TO,i1,i2,i3],∀o,h.get? b=some o->h'.get? b=some o):
  ZipC h' z TI TO i1 i2 i3 t1 t2 t3 f0 k:=by
 obtain⟨hz,hTI,⟨a,b,c,hTO⟩,⟨o1,e1,r1⟩,⟨o2,e2,r2⟩,⟨o3,e3,r3⟩⟩:=S;exact⟨kp z (by simp) _ hz,kp TI (by simp) _ hTI,⟨a,b,c,kp TO (by simp) _ hTO⟩,⟨o1,kp i1 (by simp) _ e1,r1⟩,⟨o2,kp i2 (by simp) _ e2,r2⟩,⟨o3,kp i3 (by simp) _ e3,r3⟩⟩
noncomputable def Itz(K:Fg)(t1 t2 t3:Addr):It:=
 ⟨fun i H=>∃xs ys zs x y v,SqT K H t1 xs/\SqT K H t2 ys/\SqT K H t3 zs/\xs[i]?=some x/\ys[i]?=some y/\zs[i]?=some v,
  fun i H u H'=>∃ p x y v,u= .ref p/\H p=none/\H'=upd H p (.tup [x,y,v])/\∀ xs ys zs,SqT K H t1 xs->SqT K H t2 ys->SqT K H t3 zs->xs[i]?=some x/\ys[i]?=some y/\zs[i]?=some v,
  fun i H=>∃ xs ys zs,SqT K H t1 xs/\SqT K H t2 ys/\SqT K H t3 zs/\xs.length<=i⟩
theorem alu{P:Program}{w:World}{K:Fg}{elts:List Expr}{x1:Nat}{pos:Pos}{z TI TO i1 i2 i3 t1 t2 t3:Addr}(nd:[z,TO,i1,i2,i3].Nodup)(ti:TI∉[z,TO,i1,i2,i3]):
  Turn P w K (.Tuple elts x1 pos) (Itz K t1 t2 t3) [z,TI,TO,i1,i2,i3] z (fun i h=>ZipC h z TI TO i1 i2 i3 t1 t2 t3 .none i) where
 mem:=by simp
 obj:=fun i h st b hb=>by
  obtain⟨hz,hTI,⟨a,b',c,hTO⟩,⟨o1,e1,_,d1⟩,⟨o2,e2,_,d2⟩,⟨o3,e3,_,d3⟩⟩:=st;simp only[List.mem_cons,List.not_mem_nil,or_false]at hb;rcases hb with rfl|rfl|rfl|rfl|rfl|rfl
  ·exact⟨_,hz,fun v q=>by cases q⟩
  ·exact⟨_,hTI,fun v q=>by cases q⟩
  ·exact⟨_,hTO,fun v q=>by cases q⟩
  ·exact⟨o1,e1,fun v q=>by rw[d1]at q;cases q⟩
  ·exact⟨o2,e2,fun v q=>by rw[d2]at q;cases q⟩
  ·exact⟨o3,e3,fun v q=>by rw[d3]at q;cases q⟩
 keep:=fun i h h' st k=>st.keep k
 item:=by
  intro X hP hw hK hc i Kp s σ H E I hf st hg;subst hP hw hK;obtain⟨xs,ys,zs,x,y,v,q1,q2,q3,ex,ey,ev⟩:=hg;obtain⟨us1,r1,p1,z1⟩:=I.tuple q1;obtain⟨us2,r2,p2,z2⟩:=I.tuple q2;obtain⟨us3,r3,p3,z3⟩:=I.tuple q3;obtain⟨u1,m1,l1⟩:=r1.get ex;obtain⟨u2,m2,l2⟩:=r2.get ey;obtain⟨u3,m3,l3⟩:=r3.get ev
  have trk:∀{t:Addr} {ws:List V},SqT X.K H t ws->t∉[z,TO,i1,i2,i3]:=fun {t ws} hq hb=>by
   have hb':t∈[z,TI,TO,i1,i2,i3]:=by
    simp only[List.mem_cons,List.not_mem_nil,or_false]at hb ⊢;rcases hb with e | e | e | e | e<;>simp[e]
   rcases hq with (e | ⟨o,e⟩) | ⟨o,its,n,hk,hcl,hs,_,_⟩
   ·have:=(hf t hb').1;rw[e]at this;cases this
   ·have:=(hf t hb').1;rw[e]at this;cases this
   ·-- an object of the module is no iterator of ours
    obtain⟨f0,f1,f2,f3,f4,f5⟩:=hf t hb';have hbase:=I.mod.kin t o hk;rcases f3 with q | q
    ·exact I.ok.noex t o hbase q
    ·exact absurd (Nat.lt_of_lt_of_le (Heap.lt_size hbase) (Nat.le_trans I.ok.bsz q)) (Nat.lt_irrefl _)
  have D:Apart3 z TI TO i1 i2 i3 t1 t2 t3:=⟨nd,ti,trk q1,trk q2,trk q3⟩;have S:=st.all (xs:=us1.toArray) (ys:=us2.toArray) (zs:=us3.toArray) p1 p2 p3;have hT:s.TypeIs (.ref z) "zip":=⟨_,st.hz,rfl⟩;unfold pyNext
  refine wpAny_bind (wpAny_attempt (wpAny_callSpecial?_slot (name:=Str.ofString "__next__") hT F.slot_zip_next
   (wpAny_call_entry F.slot_zip_next hT F.entry_zip_next (ajY D S (by simpa using m1) (by simpa using m2) (by simpa using m3) fun h1 S1 T1 B1=>wpAny_pure ?_)
    (F.args_zip_next_1 _))))
  refine⟨_,rfl,?_⟩;refine wpAny_letOwnedTupleGo_zip (s:={ s with heap:=h1 }) S1.hz fun h2 z2' b2=>?_;have nT:H s.heap.objs.size=none:=I.hok.fresh (Nat.le_refl _);have zlt:z<s.heap.objs.size:=Heap.lt_size st.hz;have T2:aa3 h2 s.heap.objs.size u1 u2 u3:=b2.extBut _ _ (Nat.ne_of_gt zlt) T1;have B2:But [z,TO,i1,i2,i3] s.heap h2:=B1.trans (But.of b2.extBut (by simp))
  have inF:∀b∈[z,TO,i1,i2,i3],b∈[z,TI,TO,i1,i2,i3]:=fun b hb=>by
   simp only[List.mem_cons,List.not_mem_nil,or_false]at hb ⊢;rcases hb with e | e | e | e | e<;>simp[e]
  have ntr:∀b u,H b=some u->b∉[z,TO,i1,i2,i3]:=fun b u e hb=>by
   have:=(hf b (inF b hb)).1;rw[e]at this;cases this
  have neT:∀b u,H b=some u->b≠s.heap.objs.size:=fun b u e q=>by rw[q,nT]at e;cases e
  have hok2:HOk X.prog X.w (upd H s.heap.objs.size (.tup [x,y,v])) h2:=fun b u e=>by
   by_cases hb:b=s.heap.objs.size
   ·subst hb
    rw[jt]at e;cases e;exact⟨by show 3<=sizeLine;rw[sizeLine_eq];decide,[u1,u2,u3],.cons l1 (.cons l2 (.cons l3 .nil)),⟨_,T2,rfl,_,rfl⟩⟩
   ·rw[jp hb]at e
    refine(I.hok b u e).stay (fun c o hc' q=>B2 c o ?_ q) (fun c q=>by rw[jp (neT c _ q)];exact q) fun c ws q=>by rw[jp (neT c _ q)];exact q
    rcases hc' with q' | q'
    ·rw[q'];exact ntr b u e
    ·exact ntr c _ q'
  have I2:Inv X Kp σ (upd H s.heap.objs.size (.tup [x,y,v])) { s with heap:=h2,toks:=s.toks }:=by
   refine I.step (g':=s.gens) (d':=s.drawn) (ch:=[z,TO,i1,i2,i3]) (fun b hb=>?_) (fun b o _ _ hb e _=>B2 b o hb e) (fun b o _ _ hb e _=>⟨o.slots,B2 b o hb e⟩) (fun b o hb e n=>?_) (fun b o hb e=>⟨o,B2 b o hb e⟩)
    (fun b ws e=>by rw[jp (neT b _ e)];exact e) (fun b ob ws e=>by rw[jp (neT b _ e)];exact e) (fun b ps e=>⟨#[],by rw[jp (neT b _ e),e];simp⟩) (fun m hm=>?_) hok2 I.bare
   ·obtain⟨f0,f1,f2,f3,f4,f5⟩:=hf b (inF b hb)
    exact⟨f3,f1,f4,f5⟩
   ·rw[jp (Nat.ne_of_lt (Heap.lt_size e))];exact n
   ·obtain⟨o,es,ep,ho,r⟩:=hm
    refine⟨o,es,ep,B2 _ o (fun hb=>?_) ho,r⟩;exact(hf _ (inF _ hb)).2.1 rfl
  refine⟨.ref s.heap.objs.size,_,I2,rfl,⟨_,x,y,v,rfl,nT,rfl,fun as bs cs g1 g2 g3=>?_⟩,?_,fun b hb=>?_⟩
  ·rw[I.tuple_inj g1 q1,I.tuple_inj g2 q2,I.tuple_inj g3 q3]
   exact⟨ex,ey,ev⟩
  ·have c1:=S1.c
   obtain⟨_,hTI,⟨a,b,c,hTO⟩,⟨o1,e1,w1⟩,⟨o2,e2,w2⟩,⟨o3,e3,w3⟩⟩:=c1;simp only[List.nodup_cons,List.mem_cons,List.not_mem_nil,or_false,not_or]at nd ti;obtain⟨⟨n1,n2,n3,n4⟩,_⟩:=nd;exact⟨z2',b2.extBut _ _ ti.1 hTI,⟨a,b,c,b2.extBut _ _ (Ne.symm n1) hTO⟩,⟨o1,b2.extBut _ _ (Ne.symm n2) e1,w1⟩,⟨o2,b2.extBut _ _ (Ne.symm n3) e2,w2⟩,⟨o3,b2.extBut _ _ (Ne.symm n4) e3,w3⟩⟩
  ·obtain⟨o,ho,_⟩:∃o,s.heap.get? b=some o/\True:=by
    obtain⟨hz,hTI,⟨a,b',c,hTO⟩,⟨o1,e1,_⟩,⟨o2,e2,_⟩,⟨o3,e3,_⟩⟩:=st;simp only[List.mem_cons,List.not_mem_nil,or_false]at hb;rcases hb with rfl|rfl|rfl|rfl|rfl|rfl
    ·exact⟨_,hz,trivial⟩
    ·exact⟨_,hTI,trivial⟩
    ·exact⟨_,hTO,trivial⟩
    ·exact⟨_,e1,trivial⟩
    ·exact⟨_,e2,trivial⟩
    ·exact⟨_,e3,trivial⟩
   rw[jp (Nat.ne_of_lt (Heap.lt_size ho))];exact(hf b hb).1
 done:=by
  intro X hP hw hK hc i Kp s σ H E I hf st hg;subst hP hw hK;obtain⟨xs,ys,zs,q1,q2,q3,hl⟩:=hg;obtain⟨us1,r1,p1,z1⟩:=I.tuple q1;obtain⟨us2,r2,p2,z2⟩:=I.tuple q2;obtain⟨us3,r3,p3,z3⟩:=I.tuple q3
  have trk:∀{t:Addr} {ws:List V},SqT X.K H t ws->t∉[z,TO,i1,i2,i3]:=fun {t ws} hq hb=>by
   have hb':t∈[z,TI,TO,i1,i2,i3]:=by
    simp only[List.mem_cons,List.not_mem_nil,or_false]at hb ⊢;rcases hb with e | e | e | e | e<;>simp[e]
   rcases hq with (e | ⟨o,e⟩) | ⟨o,its,n,hk,hcl,hs,_,_⟩
   ·have:=(hf t hb').1;rw[e]at this;cases this
   ·have:=(hf t hb').1;rw[e]at this;cases this
   ·obtain⟨f0,f1,f2,f3,f4,f5⟩:=hf t hb'
    have hbase:=I.mod.kin t o hk;rcases f3 with q | q
    ·exact I.ok.noex t o hbase q
    ·exact absurd (Nat.lt_of_lt_of_le (Heap.lt_size hbase) (Nat.le_trans I.ok.bsz q)) (Nat.lt_irrefl _)
  have D:Apart3 z TI TO i1 i2 i3 t1 t2 t3:=⟨nd,ti,trk q1,trk q2,trk q3⟩;have S:=st.all (xs:=us1.toArray) (ys:=us2.toArray) (zs:=us3.toArray) p1 p2 p3;have hT:s.TypeIs (.ref z) "zip":=⟨_,st.hz,rfl⟩;have hlen:=r1.length;unfold pyNext
  refine wpAny_bind (wpAny_attempt (wpAny_callSpecial?_slot (name:=Str.ofString "__next__") hT F.slot_zip_next
   (wpAny_call_entry F.slot_zip_next hT F.entry_zip_next (als (I.ok.hd hc) D S (by simp; omega) fun h1 e B1 he=>?_)
    (F.args_zip_next_1 _))))
  obtain⟨o,ho,hcl⟩:=he;refine wpAny_bind (wpAny_isInstance (T:="StopIteration") (b:=true) ⟨o,ho,hcl⟩ isSubtype_stop ?_);refine wpAny_pure ⟨rfl,?_⟩
  have inF:∀b∈[z,TO,i1,i2,i3],b∈[z,TI,TO,i1,i2,i3]:=fun b hb=>by
   simp only[List.mem_cons,List.not_mem_nil,or_false]at hb ⊢;rcases hb with e | e | e | e | e<;>simp[e]
  have ntr:∀b u,H b=some u->b∉[z,TO,i1,i2,i3]:=fun b u e hb=>by
   have:=(hf b (inF b hb)).1;rw[e]at this;cases this
  refine I.step (t':=s.toks) (g':=s.gens) (d':=s.drawn) (ch:=[z,TO,i1,i2,i3]) (fun b hb=>?_) (fun b o _ _ hb e _=>B1 b o hb e) (fun b o _ _ hb e _=>⟨o.slots,B1 b o hb e⟩) (fun b o hb e n=>n) (fun b o hb e=>⟨o,B1 b o hb e⟩)
   (fun b ws e=>e) (fun b ob ws e=>e) (fun b ps e=>⟨#[],by rw[e];simp⟩) (fun m hm=>?_) (fun b u e=>?_) I.bare
  ·obtain⟨f0,f1,f2,f3,f4,f5⟩:=hf b (inF b hb)
   exact⟨f3,f1,f4,f5⟩
  ·obtain⟨o,es,ep,ho,r⟩:=hm
   refine⟨o,es,ep,B1 _ o (fun hb=>?_) ho,r⟩;exact(hf _ (inF _ hb)).2.1 rfl
  ·refine(I.hok b u e).stay (fun c o hc' q=>B1 c o ?_ q) (fun c q=>q) fun c ws q=>q
   rcases hc' with q' | q'
   ·rw[q'];exact ntr b u e
   ·exact ntr c _ q'
 self:=fun _ _ _ _ _ st h=>wpAny_pyIter_zip st.hz h
theorem aeb(a b c:Value):checkTypeCall "zip" ⟨[a,b,c],[]⟩=pure ():=by kernel_rfl
theorem afk(a b c:Value):checkBuiltinCall "zip.__new__" ⟨[.type "zip",a,b,c],[]⟩=pure ():=by kernel_rfl
theorem ah5(a b c d:Value):argsOk "object.__init__" ⟨[a,b,c,d],[]⟩:=by
 unfold argsOk
 rw[signature?_of (id:="object.__init__") (n:=['_','_','t','i','n','i','_','_'])
  (o:=['t','c','e','j','b','o']) (by kernel_rfl) F.owner_object]
 kernel_rfl
noncomputable abbrev aqA(t:Addr):Obj:={ cls:= .type "tuple_iterator",data:= .fields #[.ref t,.int 0 0] }
noncomputable abbrev zh1(h:Heap)(a:Addr):Heap:=h.push (aqA a)
noncomputable abbrev zh2(h:Heap)(a b:Addr):Heap:=(zh1 h a).push (aqA b)
noncomputable abbrev zh3(h:Heap)(a b c:Addr):Heap:=(zh2 h a b).push (aqA c)
noncomputable abbrev zh4(h:Heap)(a b c:Addr):Heap:=(zh3 h a b c).push { cls:= .type "tuple",data:= .seq #[.ref h.objs.size,.ref (zh1 h a).objs.size,.ref (zh2 h a b).objs.size] }
noncomputable abbrev zh5(h:Heap)(a b c:Addr):Heap:=(zh4 h a b c).push { cls:= .type "tuple",data:= .seq #[.none,.none,.none] }
noncomputable abbrev zh6(h:Heap)(a b c:Addr):Heap:=(zh5 h a b c).push { cls:= .type "zip",data:= .fields #[.none,.bool false,.bool false,.ref (zh3 h a b c).objs.size,.ref (zh4 h a b c).objs.size] }
theorem alv(a b c:Addr)(xs ys zs:Array Value):
  Meets (Builtin.«zip.__new__» ⟨[.type "zip",.ref a,.ref b,.ref c],[]⟩) (fun _ R s=>s.heap.IsTuple a xs/\s.heap.IsTuple b ys/\s.heap.IsTuple c zs/\
   R (.ok (.ret (.ref (zh5 s.heap a b c).objs.size))) { s with heap:=zh6 s.heap a b c }):=
 .of_wp fun prog w A R s h=>by
  obtain⟨hp,g,d,tk,os⟩:=s;obtain⟨h1,h2,h3,h⟩:=h;have hsub:=sub_zip;have k1:Heap.IsTuple (Shared.heap ⟨hp,g,d,tk,os⟩) a xs:=h1;have k2:Heap.IsTuple (Shared.heap ⟨zh1 hp a,g,d,tk,os⟩) b ys:=Heap.IsTuple.push h2 _;have k3:Heap.IsTuple (Shared.heap ⟨zh2 hp a b,g,d,tk,os⟩) c zs:=Heap.IsTuple.push (Heap.IsTuple.push h3 _) _
  wp_walk using wpAny_pyIter_tuple k1,wpAny_pyIter_tuple k2,wpAny_pyIter_tuple k3
  exact⟨_,rfl,h⟩
section
variable {X:Cx}
noncomputable def arV(K:Fg)(ta:TA):TI:=fun σ H R=>ta σ H fun vs H1=>∃a b c xs ys zs,vs=[.ref a,.ref b,.ref c]/\SqT K H1 a xs/\SqT K H1 b ys/\SqT K H1 c zs/\R (Itz K a b c) H1
theorem an9{ea eb ec:Expr}{elts:List Expr}{x1:Nat}{tp:Pos}{ta:TA}{p pos:Pos}(hg:Gl X "zip")(hm:X.mg "zip"=none)(ha:PA X [ea,eb,ec] ta)
  (hs:starEach [ea,eb,ec] X.env=[(false,eval ea X.env),(false,eval eb X.env),(false,eval ec X.env)]:=by rfl) (hs2:starEach [eb,ec] X.env=[(false,eval eb X.env),(false,eval ec X.env)]:=by rfl):
  PI X (.Tuple elts x1 tp) (.Call (.Name "zip" p) [ea,eb,ec] [] pos) (arV X.K ta):=by
 intro Kp s σ H R I h;refine Call_ (Zz I hg hm boot_zip (PyProof.Rows.callWith_type1 (thn (ha pos Kp s σ H _ I h) fun us s1 ⟨vs,H1,I1,r1,q1⟩=>?_) (by rw[hs,hs2]) (by rw[hs2];rfl)));obtain⟨a,b,c,xs,ys,zs,e,q1,q2,q3,q⟩:=q1;subst e;cases r1 with
 | cons r1 rr=>
  cases rr with
  | cons r2 rr=>
   cases rr with
   | cons r3 rr=>
    cases rr;cases r1;cases r2;cases r3;obtain⟨us1,v1,p1,z1⟩:=I1.tuple q1;obtain⟨us2,v2,p2,z2⟩:=I1.tuple q2;obtain⟨us3,v3,p3,z3⟩:=I1.tuple q3
    refine callType_new F.called_zip (by decide) (aeb _ _ _) (afk _ _ _) (fun obj=>ah5 obj _ _ _) F.entry_zip_new
     (alv a b c us1.toArray us2.toArray us3.toArray) ⟨p1,p2,p3,?_⟩
    have n1:(zh1 s1.heap a).objs.size=s1.heap.objs.size+1:=Heap.size_push ..;have n2:(zh2 s1.heap a b).objs.size=s1.heap.objs.size+2:=by rw[Heap.size_push,n1]
    have n3:(zh3 s1.heap a b c).objs.size=s1.heap.objs.size+3:=by rw[Heap.size_push,n2]
    have n4:(zh4 s1.heap a b c).objs.size=s1.heap.objs.size+4:=by rw[Heap.size_push,n3]
    have n5:(zh5 s1.heap a b c).objs.size=s1.heap.objs.size+5:=by rw[Heap.size_push,n4]
    have g6:(zh6 s1.heap a b c).get? (zh5 s1.heap a b c).objs.size=some _:=Heap.get?_push_size _ rfl;have g5:(zh6 s1.heap a b c).get? (zh4 s1.heap a b c).objs.size=some _:=Heap.get?_push_of_some _ (Heap.get?_push_size _ rfl);have g4:(zh6 s1.heap a b c).get? (zh3 s1.heap a b c).objs.size=some _:=Heap.get?_push_of_some _ (Heap.get?_push_of_some _ (Heap.get?_push_size _ rfl));have up3:∀x o,(zh3 s1.heap a b c).get? x=some o->(zh6 s1.heap a b c).get? x=some o:=fun x o e=>Heap.get?_push_of_some _ (Heap.get?_push_of_some _ (Heap.get?_push_of_some _ e));have g3:(zh6 s1.heap a b c).get? (zh2 s1.heap a b).objs.size=some _:=up3 _ _ (Heap.get?_push_size _ rfl);have g2:(zh6 s1.heap a b c).get? (zh1 s1.heap a).objs.size=some _:=up3 _ _ (Heap.get?_push_of_some _ (Heap.get?_push_size _ rfl));have g1:(zh6 s1.heap a b c).get? s1.heap.objs.size=some _:=up3 _ _ (Heap.get?_push_of_some _ (Heap.get?_push_of_some _ (Heap.get?_push_size _ rfl)));have kp:∀x o,s1.heap.get? x=some o->(zh6 s1.heap a b c).get? x=some o:=fun x o e=>up3 _ _ (Heap.get?_push_of_some _ (Heap.get?_push_of_some _ (Heap.get?_push_of_some _ e)));show _/\_;refine⟨⟨_,g6,rfl⟩,?_⟩;refine wpAny_pyIter_zip g6 ?_;have I2:Inv X Kp σ H1 { s1 with heap:=zh6 s1.heap a b c }:=I1.kept (t':=s1.toks) kp
    refine⟨_,[(zh5 s1.heap a b c).objs.size,(zh3 s1.heap a b c).objs.size,(zh4 s1.heap a b c).objs.size,s1.heap.objs.size,(zh1 s1.heap a).objs.size,(zh2 s1.heap a b).objs.size],
     _,_,H1,rfl,I2,alu (z:=(zh5 s1.heap a b c).objs.size) (TI:=(zh3 s1.heap a b c).objs.size) (TO:=(zh4 s1.heap a b c).objs.size) (i1:=s1.heap.objs.size) (i2:=(zh1 s1.heap a).objs.size) (i3:=(zh2 s1.heap a b).objs.size) (t1:=a) (t2:=b) (t3:=c) ?_ ?_,
     ⟨g6,g4,⟨_,_,_,g5⟩,⟨_,g1,rfl,rfl⟩,⟨_,g2,rfl,rfl⟩,⟨_,g3,rfl,rfl⟩⟩,fun x hx=>?_,q⟩
    ·rw[n5,n4,n1,n2]
     simp[List.nodup_cons]
    ·rw[n3,n5,n4,n1,n2]
     simp
    ·have hle:s1.heap.objs.size<=x:=by
      rw[n5,n3,n4,n1,n2]at hx;simp only[List.mem_cons,List.not_mem_nil,or_false]at hx;rcases hx with e | e | e | e | e | e<;>rw[e]<;>first|exact Nat.le_refl _|exact Nat.le_add_right _ _
     exact I1.fpOk hle (I1.hok.fresh hle)
noncomputable def ZF:LP->LP->LP->LP
 |x::xs,y::ys,z::zs=> .tuple [x,y,z]::ZF xs ys zs
 |_,_,_=>[]
noncomputable def aiW(ds:LP):Option (LP):=match ds with
 | [.tuple xs,.tuple ys,.tuple zs]=>if xs.length=ys.length/\ys.length=zs.length then some (ZF xs ys zs) else none
 |_=>none
theorem aew:∀(xs ys zs:LP),xs.length=ys.length->ys.length=zs.length->(ZF xs ys zs).length=xs.length
 | [],_,_,_,_=>by simp[ZF]
 |x::xs,[],_,h,_=>by simp at h
 |x::xs,y::ys,[],_,h=>by simp at h
 |x::xs,y::ys,z::zs,h,g=>by simp[ZF,aew xs ys zs (by simpa using h) (by simpa using g)]
theorem aex:∀(xs ys zs:LP) (i:Nat) (d:PyData),(ZF xs ys zs)[i]?=some d->∃x y z,xs[i]?=some x/\ys[i]?=some y/\zs[i]?=some z/\d= .tuple [x,y,z]
 | [],_,_,i,d,h=>by simp[ZF]at h
 |x::xs,[],_,i,d,h=>by simp[ZF]at h
 |x::xs,y::ys,[],i,d,h=>by simp[ZF]at h
 |x::xs,y::ys,z::zs,0,d,h=>by simp[ZF]at h;exact⟨x,y,z,rfl,rfl,rfl,h.symm⟩
 | x::xs,y::ys,z::zs,i+1,d,h=>by
  obtain⟨a,b,c,e1,e2,e3,e4⟩:=aex xs ys zs i d (by simpa[ZF]using h);exact⟨a,b,c,by simpa using e1,by simpa using e2,by simpa using e3,e4⟩
theorem alw{ea eb ec:Expr}{elts:List Expr}{x1:Nat}{tp:Pos}{p pos:Pos}{fr:Rho->Option (LP)}(hm:X.mg "zip"=none)(ha:PAD X [ea,eb,ec] fr)(hg:Gl X "zip":=by rfl)
  (hs:starEach [ea,eb,ec] X.env=[(false,eval ea X.env),(false,eval eb X.env),(false,eval ec X.env)]:=by rfl) (hs2:starEach [eb,ec] X.env=[(false,eval eb X.env),(false,eval ec X.env)]:=by rfl):
  PID X (.Tuple elts x1 tp) (.Call (.Name "zip" p) [ea,eb,ec] [] pos) (fun ρ=>(fr ρ).bind aiW):=by
 with_unfolding_all
  refine PI.imp (an9 hg hm ha hs hs2) fun σ H R ⟨ρ,ds,en,q,k⟩=>?_;cases h1:fr ρ with
  |none=>simp[h1]at q
  | some as=>
   have q':aiW as=some ds:=by simpa[h1]using q
   refine⟨ρ,as,en,h1,fun vs H1 s1 r1=>?_⟩;unfold aiW at q';split at q'
   ·rename_i xs ys zs
    split at q'
    ·rename_i hl
     cases q';obtain⟨v1,w1,e1,⟨a,us1,ea',qa,ra⟩,v2,w2,e2,⟨b,us2,eb',qb,rb⟩,v3,w3,e3,⟨c,us3,ec',qc,rc⟩,e4⟩:=r1;cases (show w3=[] from e4);subst ea';subst eb';subst ec';subst e3;subst e2;have l1:=ra.length;have l2:=rb.length;have l3:=rc.length;have lz:=aew xs ys zs hl.1 hl.2;refine⟨a,b,c,us1,us2,us3,e1,qa,qb,qc,k _ H1 s1 fun i H2 s2=>⟨fun hi=>?_,fun hi=>?_,fun u H3 y=>?_⟩⟩
     ·rw[lz]at hi
      exact⟨us1,us2,us3,us1[i]'(by omega),us2[i]'(by omega),us3[i]'(by omega),qp.tup s2 qa,qp.tup s2 qb,qp.tup s2 qc,by simp<;>omega,by simp<;>omega,by simp<;>omega⟩
     ·rw[lz]at hi
      exact⟨us1,us2,us3,qp.tup s2 qa,qp.tup s2 qb,qp.tup s2 qc,by omega⟩
     ·obtain⟨pp,x,y,v,e5,e6,e7,e8⟩:=y
      subst e5;subst e7;refine⟨jI e6,fun d hd=>?_⟩;obtain⟨dx,dy,dz,g1,g2,g3,g4⟩:=aex xs ys zs i d hd;subst g4;obtain⟨f1,f2,f3⟩:=e8 us1 us2 us3 (qp.tup s2 qa) (qp.tup s2 qb) (qp.tup s2 qc);have m:=s2.trans (jo.a (jI (o:= .tup [x,y,v]) e6));obtain⟨x',a1,a2⟩:=(Reps.monoA m _ _ ra).get g1;obtain⟨y',b1,b2⟩:=(Reps.monoA m _ _ rb).get g2;obtain⟨z',c1,c2⟩:=(Reps.monoA m _ _ rc).get g3;rw[f1]at a1;cases a1;rw[f2]at b1;cases b1;rw[f3]at c1;cases c1;exact⟨pp,[x,y,v],rfl,SqT.of jt,x,_,rfl,a2,y,_,rfl,b2,v,_,rfl,c2,rfl⟩
    ·cases q'
   ·cases q'
noncomputable def tyn:PyData->String
 |.none=>"NoneType"
 |.bool _=>"bool"
 |.int _=>"int"
 |.str _=>"str"
 |.tuple _=>"tuple"
 |.list _=>"list"
 |.dict kvs=>if Jv kvs then "list" else "dict"
noncomputable def isFn:PyData->Bool
 |.dict [(.str _,_)]=>true
 |.dict [(.bool _,_)]=>true
 |_=>false
noncomputable def aec(T:String)(d:PyData):OP:=if isFn d=true then none else some (.bool (tyn d==T||(T=="int" && tyn d=="bool")))
theorem alx{Kp:List (Addr×Obj)}{σ:St}{H:Hp}{s:Shared}{E:Value->SP0}{Q:Value->SP0}{d:PyData}{v:V}{u c:Value}{b:Bool}(I:Inv X Kp σ H s)(r:Rep X.K H d v)(hF:isFn d=false)(rv:jS v u)
  (e:PySem.W.kitOne X.K (.type (tyn d)) c=some b) (h:∀tk,Q (.bool b) { s with toks:=tk }):wpAny (model X.prog X.w) X.A (call (.builtin "isinstance") [u,c]) Q E s:=by
 cases d with
 |none=>cases r;cases rv;exact PySem.W.kia_one PySem.W.kitx_none I.kIn True.intro e (fun z=>nomatch z) h
 |bool y=>cases r;cases rv;exact PySem.W.kia_one PySem.W.kitx_bool I.kIn True.intro e (fun z=>nomatch z) h
 |int i=>cases r;obtain⟨t,rfl⟩:=rv;exact PySem.W.kia_one PySem.W.kitx_int I.kIn True.intro e (fun z=>nomatch z) h
 |str y=>cases r;obtain⟨t,rfl⟩:=rv;exact PySem.W.kia_one PySem.W.kitx_str I.kIn True.intro e (fun z=>nomatch z) h
 | tuple ds=>
  obtain⟨a,xs,e1,e2,e3⟩:=r;subst e1;cases rv;obtain⟨its,_,⟨o,h1,h2,_⟩,_⟩:=I.tuple e2;exact PySem.W.kia_one PySem.W.kitx_tuple I.kIn ⟨o,h1,h2⟩ e (fun z=>nomatch z) h
 | list ds=>
  obtain⟨a,xs,e1,e2,e3⟩:=r;subst e1;cases rv;obtain⟨its,_,⟨o,n,h1,h2,_⟩,_⟩:=I.list (SqL.of e2);exact PySem.W.kia_one PySem.W.kitx_list I.kIn ⟨o,h1,h2⟩ e (fun z=>nomatch z) h
 | dict ds=>
  obtain⟨a,e1,⟨ns,e2,e3⟩ | ⟨ks,ob,e2,e3⟩ | ⟨x,e2,_⟩ | ⟨x,_,_,e2,_⟩ | e2⟩:=r
  ·subst e1;cases rv
   subst e3;have e:PySem.W.kitOne X.K (.type "list") c=some b:=by simpa[tyn,aeu]using e
   obtain⟨its,_,⟨o,n,h1,h2,_⟩,_⟩:=I.list e2;exact PySem.W.kia_one PySem.W.kitx_list I.kIn ⟨o,h1,h2⟩ e (fun z=>nomatch z) h
  ·subst e1;cases rv
   obtain⟨cc,rr,rfl,e4⟩:=e3.out;have e:PySem.W.kitOne X.K (.type "dict") c=some b:=by simpa[tyn,Jv]using e
   obtain⟨_,_,vs,_,dd⟩:=ac8 I.hok (.inr ⟨ob,e2⟩);obtain⟨o,es,ep,h1,h2,_⟩:=dd;exact PySem.W.kia_one PySem.W.kitx_dict I.kIn ⟨o,h1,h2.1⟩ e (fun z=>nomatch z) h
  ·subst e2;simp[isFn]at hF
  ·subst e2;simp[isFn]at hF
  ·subst e2;simp[isFn]at hF
noncomputable def asT(K:Fg)(T:String):List V->Hp->VK->Prop:=fun xs H Q=>∃x d b,xs=[x,.ty T]/\Rep K H d x/\isFn d=false/\PySem.W.kitOne K (.type (tyn d)) (.type T)=some b/\Q (.bl b) H
theorem aly{T:String}:zS X (.builtin "isinstance") (asT X.K T):=by
 intro Kp s σ H xs us Q I r ⟨x,d,b,e,h1,hF,h2,q⟩;subst e;obtain⟨u,w',rfl,r1,r2⟩:=aiG r;cases (show w'=_ from r2);exact alx I h1 hF r1 h2 fun tk=>⟨.bl b,H,I.tok tk,rfl,q⟩
noncomputable def acq(T:String)(d:PyData):Bool:=tyn d==T||(T=="int" && tyn d=="bool")
@[simp] theorem arf(T:String):aec T .none=some (.bool (acq T .none)):=rfl
@[simp] theorem arh(T:String)(b:Bool):aec T (.bool b)=some (.bool (acq T (.bool b))):=rfl
@[simp] theorem arW(T:String)(i:Int):aec T (.int i)=some (.bool (acq T (.int i))):=rfl
@[simp] theorem arX(T:String)(x:Str):aec T (.str x)=some (.bool (acq T (.str x))):=rfl
@[simp] theorem aqB(T:String)(ds:LP):aec T (.tuple ds)=some (.bool (acq T (.tuple ds))):=rfl
@[simp] theorem ari(T:String)(ds:LP):aec T (.list ds)=some (.bool (acq T (.list ds))):=rfl
theorem alz{T:String}{d e:PyData}(h:aec T d=some e):isFn d=false/\e= .bool (acq T d):=by
 unfold aec at h;split at h
 ·cases h
 ·rename_i hf;cases h;exact⟨by simpa using hf,rfl⟩
theorem aoa{K:Fg}{T:String}(hT:T="bool" ∨ T="int" ∨ T="tuple")(d:PyData):PySem.W.kitOne K (.type (tyn d)) (.type T)=some (acq T d):=by
 rcases hT with rfl|rfl|rfl<;>cases d<;>first|rfl | (rename_i kvs;by_cases h:Jv kvs=true<;>simp only[tyn,acq,h]<;>rfl)
theorem ah6{a:Expr}{fa:RP}{T:Str}{Tn:String}{p p2 pos:Pos}(hT:Tn="bool" ∨ Tn="int" ∨ Tn="tuple")(hm1:X.mg "isinstance"=none)(hm2:X.mg T=none)(hv:bootBuiltins T=some (.type Tn))(ha:PD X a fa)
  (hg1:Gl X "isinstance":=by rfl) (hg2:Gl X T:=by rfl) (hn:T≠"__name__":=by decide) (hd:(T==("__debug__":Str))=false:=by decide)
  (he:starEach [a,.Name T p2] X.env=[(false,eval a X.env),(false,eval (.Name T p2) X.env)]:=by rfl) (he2:starEach [.Name T p2] X.env=[(false,eval (.Name T p2) X.env)]:=by rfl) (hpl:(backTo pos (starEach [.Name T p2] X.env)).any (·.1)=false:=by rfl):
  PD X (.Call (.Name "isinstance" p) [a,.Name T p2] [] pos) (fun ρ=>(fa ρ).bind fun d=>aec Tn d):=by
 with_unfolding_all
  have hT2:PE X (.Name T p2) (tC (.ty Tn)):=aiC hg2 hm2 hv rfl hn hd;refine PE.imp (aaX (aly (T:=Tn)) hg1 hm1 (by decide +kernel) (qL ha (qL hT2 Jk (by rw[he2];rfl)) (by rw[he,he2])) (by decide) (by decide) (by rw[he,he2]) hpl) fun σ H Q ⟨ρ,d,en,q,k⟩=>?_;cases h1:fa ρ with
  |none=>simp[h1]at q
  | some c=>
   obtain⟨hF,rfl⟩:=alz (show aec Tn c=some d by simpa[h1]using q);exact⟨ρ,c,en,h1,fun v H1 s1 r1=>⟨v,c,_,rfl,r1,hF,aoa hT c,k _ H1 s1 rfl⟩⟩
end
noncomputable def Ja(H H':Hp):Prop:=∀b o,H b=some o->(∀xs,o ≠ .lst xs)->H' b=some o
theorem jo.n{H H':Hp}(e:jo H H'):Ja H H':=fun b o h _=>e b o h
theorem Ja.refl(H:Hp):Ja H H:=fun _ _ h _=>h
theorem Ja.trans{H H1 H2:Hp}(a:Ja H H1)(b:Ja H1 H2):Ja H H2:=fun c o h n=>b c o (a c o h n) n
theorem Ja.upd{H:Hp}{p:Addr}{xs ys:List V}(hp:H p=some (.lst xs)):Ja H (upd H p (.lst ys)):=fun b o h n=>by
 have:b≠p:=fun e=>by subst e;rw[hp]at h;cases h;exact n _ rfl
 rw[jp this];exact h
mutual
noncomputable def noL:PyData->Bool
 |.none=>true
 |.bool _=>true
 |.int _=>true
 |.str _=>true
 |.tuple ds=>noLs ds
 |.list _=>false
 |.dict _=>false
noncomputable def noLs:LP->Bool
 | []=>true
 |d::ds=>noL d&&noLs ds
end
section
variable {K:Fg}{H H':Hp}
theorem Ja.tup{a:Addr}{xs:List V}(e:Ja H H')(h:SqT K H a xs):SqT K H' a xs:=by
 rcases h with (h | ⟨o,h⟩) | h
 ·exact .inl (.inl (e _ _ h fun _ z=>nomatch z))
 ·exact .inl (.inr ⟨o,e _ _ h fun _ z=>nomatch z⟩)
 ·exact .inr h
mutual
theorem Rep.monoN(e:Ja H H'):∀(d:PyData) (v:V),noL d=true->Rep K H d v->Rep K H' d v
 |.none,v,_,h=>h
 |.bool _,v,_,h=>h
 |.int _,v,_,h=>h
 |.str _,v,_,h=>h
 |.tuple ds,v,n,⟨a,xs,h1,h2,h3⟩=>⟨a,xs,h1,Ja.tup e h2,Reps.monoN e ds xs (by simpa[noL]using n) h3⟩
 |.list ds,v,n,h=>by simp[noL]at n
 |.dict ds,v,n,h=>by simp[noL]at n
theorem Reps.monoN(e:Ja H H'):∀(ds:LP) (xs:List V),noLs ds=true->Reps K H ds xs->Reps K H' ds xs
 | [],xs,_,h=>h
 | d::ds,xs,n,⟨x,r,h1,h2,h3⟩=>by
  have n':noL d=true/\noLs ds=true:=by simpa[noLs]using n
  exact⟨x,r,h1,Rep.monoN e d x n'.1 h2,Reps.monoN e ds r n'.2 h3⟩
end
theorem ZG:∀(ds es:LP),noLs (ds++es)=(noLs ds&&noLs es)
 | [],es=>by simp[noLs]
 |d::ds,es=>by simp[noLs,ZG ds es,Bool.and_assoc]
theorem agp:∀{ds:LP},(∀d∈ds,noL d=true)->noLs ds=true
 | [],_=>rfl
 |d::ds,h=>by simp[noLs,h d List.mem_cons_self,agp fun x hx=>h x (List.mem_cons_of_mem _ hx)]
end
end BX
end
section
namespace BX
open PySem PySem.Spec L2
open PyProof.Rows hiding St
noncomputable def jl(P:Program)(w:World)(K:Fg)(mg:SV)(base:Heap)(x:Str)(ps:List Str)(k n:Nat)(g:LP->OP):Prop:=
 ∃(f:Addr) (fd:FuncData),FnOk P w K mg base CX0 k f fd ps (Pur K n g)/\mg x=some (.ref f)/\PySem.W.keepIn K (.ref f)=true/\aaW K fd ps []
theorem jg:∀(ρ:Rho) (ds:LP),jw ρ=some ds->ds.length=0:=fun ρ ds h=>by cases h;rfl
theorem jc{fa:RP}{fr:Rho->Option (LP)}{n:Nat}(h:∀(ρ:Rho) (ds:LP),fr ρ=some ds->ds.length=n):∀(ρ:Rho) (ds:LP),jm fa fr ρ=some ds->ds.length=n+1:=fun ρ ds q=>by
 cases h1:fa ρ with
 |none=>simp[jm,h1]at q
 | some x=>
  cases h2:fr ρ with
  |none=>simp[jm,h1,h2]at q
  | some r=>
   have:x::r=ds:=by simpa[jm,h1,h2]using q
   subst this;simp[h ρ r h2]
section
variable {X:Cx}{e:Expr}{es:List Expr}{pos:Pos}
theorem ji{k j n:Nat}{ps:List Str}{g:LP->OP}{x:Str}{p:Pos}{fr:Rho->Option (LP)}(c:jl X.prog X.w X.K X.mg X.base x ps k n g)(hr:Room j X.A)(hkj:k<=j)(ha:PAD X (e::es) fr)
  (hl:∀(ρ:Rho) (ds:LP),fr ρ=some ds->ds.length=n) (hn:(e::es).length=n:=by rfl) (hg:Gl X x:=by rfl) (hdb:(x==("__debug__":Str))=false:=by decide) (he:starEach (e::es) X.env=(false,eval e X.env)::starEach es X.env:=by rfl)
  (hpl:(backTo pos (starEach es X.env)).any (·.1)=false:=by rfl):PD X (.Call (.Name x p) (e::es) [] pos) (jA g fr):=by
 with_unfolding_all
  obtain⟨f,fd,h1,h2,h3,h4⟩:=c;exact an6 h1 (hr.mono hkj) h2 h3 h4 hn ha (fun ρ ds q=>by rw[hl ρ ds q,hn]) hg hdb he hpl
end
theorem agq{ft:Rho->Option Bool}{fe:RP}{i:Nat}(p:PyData->Bool)(h:PyData->PyData):∀(ds:LP) (τ:Rho),(∀d∈ds,ft (τ.set i (some d))=some (p d))->(∀d∈ds,p d=true->fe (τ.set i (some d))=some (h d))->
  jU (jB i) ft fe ds τ=some ((ds.filter p).map h)
 | [],τ,_,_=>rfl
 | d::ds,τ,h1,h2=>by
  have ih:=agq p h ds (τ.set i (some d)) (fun c hc=>by rw[List.set_set];exact h1 c (List.mem_cons_of_mem _ hc)) (fun c hc hp=>by rw[List.set_set];exact h2 c (List.mem_cons_of_mem _ hc) hp);simp only[jU,jB,zzD,h1 d List.mem_cons_self];by_cases hp:p d=true
  ·simp[hp,h2 d List.mem_cons_self hp,ih,List.filter_cons]
  ·simp[hp,ih,List.filter_cons]
theorem aaa{fe:RP}{i:Nat}(h:PyData->PyData)(ds:LP)(τ:Rho)(h2:∀d∈ds,fe (τ.set i (some d))=some (h d)):jU (jB i) Zy fe ds τ=some (ds.map h):=by
 rw[agq (fun _=>true) h ds τ (fun _ _=>rfl) (fun d hd _=>h2 d hd),List.filter_eq_self.mpr (fun _ _=>rfl)]
noncomputable def aiX(st:Scope)(N:List Str)(sc:Scope)(N':List Str)(cap:List (Option Nat)):Bool:=
 sc.names.all (fun x=>!decide (x.2= .free)||decide (st.names.lookup x.1=some .cell)||decide (st.names.lookup x.1=some .free))&&sc.names.all (fun x=>!decide (x.2= .cell))&&decide (sc.kind= .function) &&
 sc.names.all (fun x=>!decide (x.2= .local)||decide (sc.names.lookup x.1=some .local))&&decide (cap.length=N'.length) &&
 (List.range N'.length).all (fun j=>match N'[j]?,cap[j]? with
  | some x,some (some i)=>decide (N[i]?=some x) && decide (sc.names.lookup x=some .free)
  | _,_=>true)
theorem zq{X:Cx}{sc:Scope}{N':List Str}{cap:List (Option Nat)}(st:Scope)(N:List Str)(h:aiX st N sc N' cap=true)(hst:X.env.scope=st:=by rfl)(hN:X.N=N:=by rfl):CompOk X sc N' cap:=by
 simp only[aiX,Bool.and_eq_true,List.all_eq_true,Bool.or_eq_true,Bool.not_eq_true',decide_eq_true_eq,decide_eq_false_iff_not]at h;obtain⟨⟨⟨⟨⟨h1,h2⟩,h3⟩,h4⟩,h5⟩,h6⟩:=h;subst hst;subst hN;refine⟨fun x hx e=>?_,h2,h3,fun x hx e=>?_,h5,fun j i x e1 e2=>?_⟩
 ·rcases h1 x hx with (z | z) | z
  ·exact absurd e z
  ·exact .inl z
  ·exact .inr z
 ·rcases h4 x hx with z | z
  ·exact absurd e z
  ·exact z
 ·have hj:j<N'.length:=(List.getElem?_eq_some_iff.mp e1).1
  have:=h6 j (List.mem_range.mpr hj);rw[e1,e2]at this;simpa using this
noncomputable def Cx.inB(X:Cx):Cx:={ X with A:=X.A.in1,xe:=NoX }
theorem Cx.Ok.inB{X:Cx}(ok:X.Ok):(Cx.inB X).Ok:=
 ⟨ok.mod,ok.kind,ok.glob,ok.blt,ok.above,ok.inj,ok.has,ok.cab,fun h=>ok.hd h,ok.frames,ok.stk,ok.exf,ok.bs,ok.bsz,ok.noex,ok.exfs,ok.funs,ok.frf⟩
theorem Cx.Ok.outB{X:Cx}(ok:(Cx.inB X).Ok):X.Ok:=
 ⟨ok.mod,ok.kind,ok.glob,ok.blt,ok.above,ok.inj,ok.has,ok.cab,fun h=>ok.hd h,ok.frames,ok.stk,ok.exf,ok.bs,ok.bsz,ok.noex,ok.exfs,ok.funs,ok.frf⟩
section
variable {X:Cx}{Kp:List (Addr×Obj)}{σ:St}{H:Hp}{s:Shared}
theorem Inv.inB(I:Inv X Kp σ H s):Inv (Cx.inB X) Kp σ H s:=⟨Cx.Ok.inB I.ok,I.os,I.bare,I.base,I.loc,I.cell,I.free,I.freeC,I.pin,I.hok,I.len⟩
theorem Inv.outB(I:Inv (Cx.inB X) Kp σ H s):Inv X Kp σ H s:=⟨Cx.Ok.outB I.ok,I.os,I.bare,I.base,I.loc,I.cell,I.free,I.freeC,I.pin,I.hok,I.len⟩
end
theorem arY{prog:Program}{w:World}{A:Around}{E:Value->SP0}{s:Shared}{a b:Int}{t u:Tok}{Q:Value->SP0}(h:Q (.bool (decide (a>b))) s):wpAny (model prog w) A (richCompare .Gt (.int a t) (.int b u)) Q E s:=
 CmpOf.ints_gt (prog:=prog) (w:=w) (A:=A) (P:=fun (i:Nat) v=>∃t,v= .int (if i=0 then a else b) t) (fun i=>if i=0 then a else b) (fun _ _ q=>q) 0 1 _ _ _ _ _ ⟨t,rfl⟩ ⟨u,rfl⟩ h
noncomputable def lob(us:Array Value)(c:Nat):Obj:={ cls:= .type "list",data:= .seq us c }
structure Own1(X:Cx)(Kp:List (Addr×Obj))(b:Addr):Prop where
 h1:b≠X.env.locals
 h2:b∉X.fs
 h3:X.s₀.heap.objs.size<=b
 h4:∀x c,X.env.cells.lookup x=some c->c≠b
 h5:∀p∈X.pn++Kp,p.1≠b
theorem aob{h:Heap}{S:Addr}{us ws:Array Value}{c:Nat}(ho:h.get? S=some (lob us c)):∃c2,(h.update S (Obj.mapSeq fun _=>ws)).get? S=some (lob ws c2):=by
 have e:=Heap.get?_update_self (Obj.mapSeq fun _=>ws) ho rfl;exact⟨_,e⟩
theorem ajZ(a d:Value):argsOk "max" ⟨[a],[("default",d)]⟩:=by unfold argsOk;kernel_rfl
theorem agr{X:Cx}{Kp:List (Addr×Obj)}{σ:St}{H:Hp}{s:Shared}(I:Inv X Kp σ H s){b:Addr}(hb:s.heap.objs.size<=b):Own1 X Kp b:=by
 obtain⟨_,h1,h2,h3,h4,h5⟩:=I.fpOk (H':=fun _=>none) hb rfl;exact⟨h1,h2,Nat.le_trans I.sz hb,h4,h5⟩
theorem afl:bootBuiltins "min"=some (.builtin "min"):=by decide +kernel
theorem QB:bootBuiltins "max"=some (.builtin "max"):=by decide +kernel
section
variable {X:Cx}{a:Expr}{fa:RP}{pos p p2 p3 kp kp2:Pos}{j3:Nat}
end
noncomputable def aey:Int->List Int->Int
 |b,[]=>b
 |b,d::r=>if d>b then aey d r else aey b r
noncomputable def acr:Option Int->List Int->PyData
 |none,[]=> .none
 |none,d::r=> .int (aey d r)
 |some b,r=> .int (aey b r)
theorem aa4:(toString "max"++toString ".loop":String)="max.loop":=by decide
noncomputable def alA(h:Heap)(S:Addr):Option Int->Prop
 |none=>∃c,h.get? S=some (lob #[] c)
 |some b=>∃t c,h.get? S=some (lob #[.int b t,.int b t] c)
theorem alB{X:Cx}{ns:List Int}{l it S:Addr}{Kp:List (Addr×Obj)}{σ:St}{R:Result->SP0}(hc:X.calm=true)(oI:Own1 X Kp it)(oS:Own1 X Kp S)(nIS:it≠S):
  ∀(r:List Int) (i:Nat) (bo:Option Int) (s:Shared) (H:Hp),ns.drop i=r->Inv (Cx.inB X) Kp σ H s->H l=some (.lst (ns.map V.int))->H it=none->H S=none->s.heap.IsListIter it l i->alA s.heap S bo->
   (∀v u s',Inv (Cx.inB X) Kp σ H s'->jS v u->Rep X.K H (acr bo r) v->R (.ok (.ret u)) s')->
   codeAny (model X.prog X.w) X.A (.builtin "max.loop" ⟨[.ref it,.none,.ref S],[("default",.none)]⟩) R s:=by
 intro r
 induction r with
 | nil=>
  intro i bo s H hd I hl hI hS st hB fin;obtain⟨its,rv,p,hz⟩:=I.list (SqL.of (K:=X.K) hl)
  have hle:ns.length<=i:=by
   have:=congrArg List.length hd;simp at this;omega
  have hvl:=rv.length;simp at hvl;refine codeAny_builtin PySem.F.entry_max_loop ?_;rw[Around.under_plainId PySem.F.plain_max_loop _];cases bo with
  | none=>
   obtain⟨c,hSo⟩:=hB;refine wpAny_bind (m:=seqItems? (.ref S)) (wpAny_seqItems hSo rfl ?_);refine wpAny_bind (m:=tryCatch (pyNext (.ref it)) _) (wpAny_tryCatch (wpAny_pyNext_list_end (I.ok.hd hc) st p.isList (by simp;omega) fun h' eb=>?_));have I1:Inv (Cx.inB X) Kp σ H { s with heap:=h' }:=I.turned (t':=s.toks) (it:=it) (fun b o hb e=>eb b o hb e) hI oI.h1 (.inr oI.h3) oI.h4 oI.h5;refine wpAny_bind (m:=rule _) (wpAny_rule ?_);exact wpAny_pure (fin .non _ _ I1 rfl rfl)
  | some b=>
   obtain⟨t,c,hSo⟩:=hB;refine wpAny_bind (m:=seqItems? (.ref S)) (wpAny_seqItems hSo rfl ?_);refine wpAny_bind (m:=tryCatch (pyNext (.ref it)) _) (wpAny_tryCatch (wpAny_pyNext_list_end (I.ok.hd hc) st p.isList (by simp;omega) fun h' eb=>?_));have I1:Inv (Cx.inB X) Kp σ H { s with heap:=h' }:=I.turned (t':=s.toks) (it:=it) (fun b o hb e=>eb b o hb e) hI oI.h1 (.inr oI.h3) oI.h4 oI.h5;have hS1:h'.get? S=some (lob #[.int b t,.int b t] c):=eb S _ (Ne.symm nIS) hSo;refine wpAny_bind (m:=updateSeq S fun _=>#[]) ?_;refine wpAny_updateSeq hS1 rfl (wpAny_bind (wpAny_letGo (wpAny_pure ?_)));have I2:Inv (Cx.inB X) Kp σ H { s with heap:=h'.update S (Obj.mapSeq fun _=>(#[]:Array Value)) }:=Inv.turned (s:={ s with heap:=h' }) I1 (t':=s.toks) (it:=S) (fun b o hb e=>((Heap.SameBut.update h' S _).2 b hb).trans e) hS oS.h1 (.inr oS.h3) oS.h4 oS.h5;exact fin (.int b) _ _ I2 ⟨t,rfl⟩ rfl
 | cons d r ih=>
  intro i bo s H hd I hl hI hS st hB fin;obtain⟨its,rv,p,hz⟩:=I.list (SqL.of (K:=X.K) hl)
  have hi:ns[i]?=some d:=by
   have:(ns.drop i)[0]?=some d:=by rw[hd];rfl
   simpa using this
  have hd':ns.drop (i+1)=r:=by
   have:(ns.drop i).drop 1=r:=by rw[hd];rfl
   simpa[List.drop_drop,Nat.add_comm]using this
  obtain⟨u,hu,t,rfl⟩:=rv.get (show(ns.map V.int)[i]?=some (V.int d) by rw[List.getElem?_map,hi];rfl);refine codeAny_builtin PySem.F.entry_max_loop ?_;rw[Around.under_plainId PySem.F.plain_max_loop _]
  have nxt:∀{Q2:Option Value->SP0} {E2:Value->SP0},(∀h',Inv (Cx.inB X) Kp σ H { s with heap:=h' }->h'.IsListIter it l (i+1)->(∀o,s.heap.get? S=some o->h'.get? S=some o)->Q2 (some (.int d t)) { s with heap:=h' })->
    wpAny (model X.prog X.w) X.A.in1 (pyNext (.ref it)) Q2 E2 s:=by
   intro Q2 E2 go;refine wpAny_pyNext_list_item st p.isList (x:= .int d t) (by simpa using hu) fun h' st' sb=>?_;exact go h' (I.turned (t':=s.toks) (it:=it) (fun b o hb e=>(sb.2 b hb).trans e) hI oI.h1 (.inr oI.h3) oI.h4 oI.h5) st' fun o e=>(sb.2 S (Ne.symm nIS)).trans e
  have back:∀{b2:Int} {h2:Heap},Inv (Cx.inB X) Kp σ H { s with heap:=h2 }->h2.IsListIter it l (i+1)->alA h2 S (some b2)->acr bo (d::r)=acr (some b2) r->
    codeAny (model X.prog X.w) X.A (.builtin "max.loop" ⟨[.ref it,.none,.ref S],[("default",.none)]⟩) R { s with heap:=h2 }:=fun {b2 h2} I2 st2 hB2 em=>
   ih (i+1) (some b2) _ H hd' I2 hl hI hS st2 hB2 fun v u s' I' r' q'=>fin v u _ I' r' (by rw[em];exact q')
  have store:∀{h1:Heap} {us:Array Value} {c:Nat},Inv (Cx.inB X) Kp σ H { s with heap:=h1 }->h1.IsListIter it l (i+1)->h1.get? S=some (lob us c)->Inv (Cx.inB X) Kp σ H { s with heap:=h1.update S (Obj.mapSeq fun _=>#[.int d t,.int d t]) }/\
    (h1.update S (Obj.mapSeq fun _=>#[.int d t,.int d t])).IsListIter it l (i+1)/\alA (h1.update S (Obj.mapSeq fun _=>#[.int d t,.int d t])) S (some d):=fun {h1 us c} I1 st1 hS1=>by
   have sb:=Heap.SameBut.update h1 S (Obj.mapSeq fun _=>#[.int d t,.int d t]);obtain⟨oi,e1,e2⟩:=st1;obtain⟨c2,hc2⟩:=aob (ws:=#[.int d t,.int d t]) hS1;exact⟨Inv.turned (s:={ s with heap:=h1 }) I1 (t':=s.toks) (it:=S) (fun b o hb e=>(sb.2 b hb).trans e) hS oS.h1 (.inr oS.h3) oS.h4 oS.h5,⟨oi,(sb.2 it nIS).trans e1,e2⟩,t,c2,hc2⟩
  cases bo with
  | none=>
   obtain⟨c,hSo⟩:=hB;refine wpAny_bind (m:=seqItems? (.ref S)) (wpAny_seqItems hSo rfl ?_);refine wpAny_bind (m:=tryCatch (pyNext (.ref it)) _) (wpAny_tryCatch (nxt fun h1 I1 st1 k1=>?_));obtain⟨I2,st2,b2⟩:=store I1 st1 (k1 _ hSo);refine wpAny_bind (m:=updateSeq S fun _=>#[.int d t,.int d t]) ?_;refine wpAny_updateSeq (s:={ s with heap:=h1 }) (k1 _ hSo) rfl ?_;rw[aa4];exact wpAny_pure ⟨plainId_quiet PySem.F.plain_max_loop _,back I2 st2 b2 rfl⟩
  | some b=>
   obtain⟨tb,c,hSo⟩:=hB;refine wpAny_bind (m:=seqItems? (.ref S)) (wpAny_seqItems hSo rfl ?_);refine wpAny_bind (m:=tryCatch (pyNext (.ref it)) _) (wpAny_tryCatch (nxt fun h1 I1 st1 k1=>?_));refine wpAny_bind (m:=tryCatch (holding [.int d t,.int d t] (richCompare .Gt (.int d t) (.int b tb) >>= _)) _) (wpAny_tryCatch (wpAny_holding (wpAny_bind (arY ?_))));refine wpAny_bind (wpAny_holding (wpAny_truthy_bool ?_));refine wpAny_bind (wpAny_letGo (wpAny_pure ?_));by_cases hgt:d>b
   ·simp only[hgt,decide_true,zzM]
    obtain⟨I2,st2,b2⟩:=store I1 st1 (k1 _ hSo);refine wpAny_bind (m:=updateSeq S fun _=>#[.int d t,.int d t]) ?_;refine wpAny_updateSeq (s:={ s with heap:=h1 }) (k1 _ hSo) rfl (wpAny_bind (wpAny_letGo ?_));rw[aa4];exact wpAny_pure ⟨plainId_quiet PySem.F.plain_max_loop _,back I2 st2 b2 (by simp[acr,aey,hgt])⟩
   ·simp only[hgt,decide_false,zzL,zzN]
    refine wpAny_bind (wpAny_letGo ?_);rw[aa4];exact wpAny_pure ⟨plainId_quiet PySem.F.plain_max_loop _,back I1 st1 ⟨tb,c,k1 _ hSo⟩ (by simp[acr,aey,hgt])⟩
theorem aj0{X:Cx}{ns:List Int}{l:Addr}{Kp:List (Addr×Obj)}{σ:St}{H:Hp}{s:Shared}{Q:VK}(hc:X.calm=true)(I:Inv X Kp σ H s)(hl:H l=some (.lst (ns.map V.int)))(q:∀v,Rep X.K H (acr none ns) v->Q v H):
  wpAny (model X.prog X.w) X.A (call (.builtin "max") [.ref l] [("default",.none)]) (EP X Kp σ Q) X.xe s:=by
 obtain⟨its,rv,p,hz⟩:=I.list (SqL.of (K:=X.K) hl);refine PyProof.Rows.kmk_tree PySem.F.kind_max PySem.F.plain_max PySem.F.entry_max (ajZ _ _) ?_
 refine wpAny_bind (m:=Builtin.Builtins.bindParams "max" ["key","default"] 0 ⟨[],[("default",.none)]⟩)
  (wpAny_of_eq (show _=pure [none,some .none] from rfl) ?_)
 refine wpAny_bind (wpAny_pure ?_);refine wpAny_bind (wpAny_pyIter_list p.isList ?_);refine wpAny_bind (wpAny_newList ?_ (Nat.zero_le _));rw[aa4];refine wpAny_pure ⟨plainId_quiet PySem.F.plain_max_loop _,?_⟩;generalize hh1:s.heap.push { cls:= .type "list_iterator",data:= .fields #[.ref l,.int 0 0] }=h1;have n1:h1.objs.size=s.heap.objs.size+1:=by rw[←hh1];exact Heap.size_push ..
 have k2:∀b o,s.heap.get? b=some o->(h1.push { cls:= .type "list",data:= .seq ([]:List Value).toArray }).get? b=some o:=fun b o e=>Heap.get?_push_of_some _ (by rw[←hh1];exact Heap.get?_push_of_some _ e);have I2:Inv X Kp σ H { s with heap:=h1.push { cls:= .type "list",data:= .seq ([]:List Value).toArray } }:=I.kept (t':=s.toks) k2
 refine alB hc (agr I (Nat.le_refl _)) (agr I (b:=h1.objs.size) (by rw[n1];exact Nat.le_succ _)) (by rw[n1];exact Nat.ne_of_lt (Nat.lt_succ_self _))
  ns 0 none _ H rfl (Inv.inB I2) hl (I.hok.fresh (Nat.le_refl _)) (I.hok.fresh (by rw[n1];exact Nat.le_succ _)) ⟨_,Heap.get?_push_of_some _ (by rw[←hh1];exact Heap.get?_push_size _ rfl),rfl,rfl⟩ ⟨0,Heap.get?_push_size _ rfl⟩ fun v u s' I' r' q'=>?_
 exact⟨v,H,Inv.outB I',r',q v q'⟩
noncomputable def aez:PyData->OP
 |.list ds=>(j5 ds).map fun ns=>acr none ns
 |_=>none
section
variable {X:Cx}{a:Expr}{fa:RP}{pos p p3 kp2:Pos}{j3:Nat}
theorem aoc(hc:X.calm=true)(hm:X.mg "max"=none)(ha:PD X a fa)(hg:Gl X "max":=by rfl)(hs:starEach [a] X.env=[(false,eval a X.env)]:=by rfl):
  PD X (.Call (.Name "max" p) [a] [⟨some "default",.Constant .none j3 p3,kp2⟩] pos) (fun ρ=>(fa ρ).bind aez):=by
 with_unfolding_all
  intro Kp s σ H Q I h;obtain⟨ρ,d,en,q,kq⟩:=h;cases h1:fa ρ with
  |none=>simp[h1]at q
  | some y=>
   have q':aez y=some d:=by simpa[h1]using q
   refine wpAny_Call_Name_kw (Zz I hg hm QB ?_);have hA:PA X [a] (aiH (tD X.K fa) anL):=qL ha Jk (by rw[hs];rfl);have hK:PK X [⟨some "default",.Constant .none j3 p3,kp2⟩] (aiH (tC .non) anL):=anO akX aqi;refine callWith_kw (thn (hA pos Kp s σ H (fun vs H1=>∃v,vs=[v]/\jo H H1/\Rep X.K H1 y v) I ⟨ρ,y,en,h1,fun v H1 s1 r1=>⟨v,rfl,s1,r1⟩⟩) fun us s1 ⟨vs,H1,I1,r1,v,e1,s1',rv⟩=>?_) (by rw[hs];rfl) (by rw[hs];rfl);subst e1;obtain⟨u,rfl,ru⟩:=Zs r1;refine thn (hK pos Kp s1 σ H1 (fun zs H2=>zs=[.non]/\H2=H1) I1 ⟨rfl,rfl⟩) fun ws s2 ⟨zs,H2,I2,r2,e2,e3⟩=>?_;subst e2;subst e3;obtain⟨w1,rfl,a1⟩:=Zs r2;cases (show w1=_ from a1);cases y with
   | list ds=>
    cases hi:j5 ds with
    |none=>simp[aez,hi]at q'
    | some ns=>
     have:acr none ns=d:=by simpa[aez,hi]using q'
     subst this;obtain⟨l,xs,e4,e5,e6⟩:=rv;subst e4;cases (show u=_ from ru);rw[zT hi]at e6;have:=Reps.ints e6;subst this;exact aj0 hc I2 e5 fun v r'=>kq v _ s1' r'
   |_=>simp[aez]at q'
end
end BX
end
section
namespace BX.Srt
open PySem PySem.W
open PyProof.Rows (mirror bubble mirror_size mirror_perm bubble_size bubble_perm getElem?_mirror_all getElem?_bubble)
section
variable (rk:Nat->Int)(n:Nat)
noncomputable def val(p:Array Nat)(k:Nat):Int:=rk (p.getD k 0)
noncomputable def OKp(p:Array Nat):Prop:=p.Perm (List.range n).toArray
end
section
variable {rk:Nat->Int}{n:Nat}{p p':Array Nat}
theorem OKp.size(h:OKp n p):p.size=n:=by
 have:=h.size_eq;simpa using this
theorem OKp.lt(h:OKp n p){k:Nat}(hk:k<n):p.getD k 0<n:=by
 have hs:=h.size;have e:p.getD k 0=p[k]'(by omega):=by simp[Array.getD,hs,hk]
 have:p[k]'(by omega)∈(List.range n).toArray:=h.mem_iff.mp (Array.getElem_mem _);rw[e];simpa using this
end
variable {rk:Nat->Int}{n:Nat}{cmp:Nat->Nat->(Bool->SP0)->SP0}
section
variable {s:Shared}(hc:∀i j (C:Bool->SP0),i<n->j<n->C (decide (rk i<rk j)) s->cmp i j C s)
include hc
end
end BX.Srt
end
section
namespace BX
open PySem PySem.Spec L2
open PyProof.Rows hiding St
section
variable {prog:Program}{w:World}{A:Around}{E:Value->SP0}{s:Shared}
end
theorem zd.there{P:Program}{w:World}{H:Hp}{h:Heap}{a:Addr}{o:HO}(x:zd P w H h a o):∃u,h.get? a=some u:=by
 cases o with
 |lst xs=>obtain⟨_,_,_,_,e⟩:=x;exact⟨_,e⟩
 |tup xs=>obtain⟨_,_,_,u,e,_⟩:=x;exact⟨_,e⟩
 |dK kvs=>obtain⟨_,_,_,_,o,_,_,e,_⟩:=x;exact⟨_,e⟩
 |dT kvs=>obtain⟨_,_,_,_,o,_,_,e,_⟩:=x;exact⟨_,e⟩
 |set S n=>obtain⟨o,_,_,_,e,_⟩:=x;exact⟨_,e⟩
 |ins C dx fs=>obtain⟨_,_,_,e,_⟩:=x;exact⟨_,e⟩
 |own y=>obtain⟨_,e⟩:=x;exact⟨_,e⟩
 |xd fs=>obtain⟨_,⟨_,_,_,e,_⟩,_⟩:=x;exact⟨_,e⟩
 |rng lo hi=>obtain⟨_,_,_,e⟩:=x;exact⟨_,e⟩
 |frz ob u=>obtain⟨e,_⟩:=x;exact⟨_,e⟩
 |tbl ps=>exact⟨_,(show h.get? a=some _ from x)⟩
 |met f y=>exact⟨_,(show h.get? a=some _ from x)⟩
 |ext φ=>obtain⟨_,⟨_,e⟩,_⟩:=x;exact⟨_,e⟩
noncomputable def alC(p:Int×Int):PyData:= .tuple [.int p.1,.int p.2]
noncomputable def inB(p:Int×Int):Bool:=decide (0<=p.2)&&decide (p.2<1000000)
structure PairAt(h:Heap)(u:Value)(p:Int×Int):Prop where
 ex:∃a o k t t',u= .ref a/\h.get? a=some o/\o.cls= .type "tuple"/\o.data= .seq #[.int p.1 t,.int p.2 t'] k
section
variable {X:Cx}
variable {a b:Expr}{fa fb:RP}{pos p2:Pos}
noncomputable def aod:PyData->OP
 |.int i=>some (.int (-i))
 |_=>none
theorem afm(h:PD X a fa):PD X (.UnaryOp .USub a pos) (fun ρ=>(fa ρ).bind aod):=by
 with_unfolding_all
  refine PE.imp (arw aqg h) fun σ H Q ⟨ρ,d,en,q,k⟩=>?_;cases h1:fa ρ with
  |none=>simp[h1]at q
  | some y=>
   refine⟨ρ,y,en,h1,fun v H1 s1 r1=>?_⟩;have q':aod y=some d:=by simpa[h1]using q
   cases y with
   |int i=>cases q';cases (show v=_ from r1);exact⟨i,rfl,k _ H1 s1 rfl⟩
   |_=>cases q'
end
noncomputable def zV(bt:Int->Int->Bool):List Int->Option Int
 | []=>none
 |n::ns=>some (ns.foldl (fun a b=>if bt b a then b else a) n)
theorem ah7(bt:Int->Int->Bool)(ns:List Int)(x m:Int)(h:zV bt ns=some m):zV bt (ns++[x])=some (if bt x m then x else m):=by
 cases ns with
 |nil=>cases h
 | cons n ns=>
  have:ns.foldl (fun a b=>if bt b a then b else a) n=m:=by simpa[zV]using h
  subst this;simp[zV,List.foldl_append]
theorem aeA(bt:Int->Int->Bool)(ns:List Int):∀k,k<ns.length->zV bt (ns.take (k+1))=some (ns.getD (argBest (fun i j=>bt (ns.getD i 0) (ns.getD j 0)) k) 0)
 | 0,h=>by
  cases ns with
  |nil=>simp at h
  |cons n ns=>simp[zV,argBest]
 | k+1,h=>by
  have ih:=aeA bt ns k (by omega);have h1:ns.take (k+1+1)=ns.take (k+1)++[ns.getD (k+1) 0]:=by rw[List.take_succ];simp[h,List.getD]
  rw[h1,ah7 bt _ _ _ ih];simp only[argBest];by_cases hb:bt (ns.getD (k+1) 0) (ns.getD (argBest (fun i j=>bt (ns.getD i 0) (ns.getD j 0)) k) 0)=true
  ·rw[if_pos hb,if_pos hb]
  ·rw[if_neg hb,if_neg hb]
theorem ags(bt:Int->Int->Bool)(ns:List Int)(h:0<ns.length):zV bt ns=some (ns.getD (argBest (fun i j=>bt (ns.getD i 0) (ns.getD j 0)) (ns.length-1)) 0):=by
 have:=aeA bt ns (ns.length-1) (by omega);rwa[Nat.sub_add_cancel h,List.take_length]at this
variable {X:Cx}
noncomputable def apF(K:Fg)(bt:Int->Int->Bool):List V->Hp->VK->Prop:=fun xs H Q=>∃a ns m,xs=[.ref a]/\(SqL K H a (List.map V.int ns)∨SqT K H a (List.map V.int ns))/\zV bt ns=some m/\Q (.int m) H
theorem aj1(hc:X.calm=true):zS X (.builtin "max") (apF X.K fun i j=>decide (i>j)):=by
 intro Kp s σ H xs us Q I r ⟨a,ns,m,e,hq,hm,q⟩;subst e;obtain⟨u,rfl,rx⟩:=Zs r;cases rx;have hh:=I.ok.hd hc
 have h0:0<ns.length:=by cases ns with
  |nil=>cases hm
  |cons n ns=>simp
 have hb:=ags (fun i j=>decide (i>j)) ns h0;rw[hm]at hb;have hb:=Option.some.inj hb;rcases hq with hq | hq
 ·obtain⟨its,rv,pl,hz⟩:=I.list hq
  have hl:its.toArray.size=ns.length:=by have:=rv.length;simp at this ⊢;omega
  refine call_max_walk (abQ pl.isList fun h2 it st hlt hne k1 hn=>?_);refine⟨it,[it,a],[it],its.toArray.size,(fun i v=>its.toArray[i]?=some v),_,_,rfl,Walks.list (A:=X.A.in1) hh it a hne its.toArray,st,hlt,by rw[hl];exact h0,CmpOf.ints_gt (fun i=>ns.getD i 0) fun i v hP=>zU rv hP,fun v h3 tk hP k2=>?_⟩;obtain⟨t,rfl⟩:=zU rv hP;exact⟨.int m,H,I.kept (t':=tk) (aa2 k1 hn k2),⟨t,by rw[hl];rw[hb]⟩,q⟩
 ·obtain⟨its,rv,pl,hz⟩:=I.tuple hq
  have hl:its.toArray.size=ns.length:=by have:=rv.length;simp at this ⊢;omega
  refine call_max_walk (aev (show s.heap.IsTuple a its.toArray from pl) fun h2 it st hlt hne k1 hn=>?_);refine⟨it,[it,a],[it],its.toArray.size,(fun i v=>its.toArray[i]?=some v),_,_,rfl,Walks.tuple (A:=X.A.in1) hh it a hne its.toArray,st,hlt,by rw[hl];exact h0,CmpOf.ints_gt (fun i=>ns.getD i 0) fun i v hP=>zU rv hP,fun v h3 tk hP k2=>?_⟩;obtain⟨t,rfl⟩:=zU rv hP;exact⟨.int m,H,I.kept (t':=tk) (aa2 k1 hn k2),⟨t,by rw[hl];rw[hb]⟩,q⟩
noncomputable def adf(bt:Int->Int->Bool)(ds:LP):OP:=match ds with
 | [.list xs]=>(j5 xs).bind fun ns=>(zV bt ns).map .int
 | [.tuple xs]=>(j5 xs).bind fun ns=>(zV bt ns).map .int
 |_=>none
theorem aoe{K:Fg}{bt:Int->Int->Bool}{ds:LP}{d:PyData}{xs:List V}{H:Hp}{Q:VK}(h:adf bt ds=some d)(r:Reps K H ds xs)(k:∀v H',jo H H'->Rep K H' d v->Q v H'):apF K bt xs H Q:=by
 unfold adf at h;split at h
 ·rename_i ys
  cases hb:j5 ys with
  |none=>simp[hb]at h
  | some ns=>
   cases hf:zV bt ns with
   |none=>simp[hb,hf]at h
   | some m=>
    have:PyData.int m=d:=by simpa[hb,hf]using h
    subst this;obtain⟨x,q,e1,e2,e3⟩:=r;cases (show q=[] from e3);obtain⟨a,us,g1,g2,g3⟩:=e2;subst g1;rw[zT hb]at g3;have:=Reps.ints g3;subst this;exact⟨a,ns,m,e1,.inl (SqL.of g2),hf,k _ H (jo.refl H) rfl⟩
 ·rename_i ys
  cases hb:j5 ys with
  |none=>simp[hb]at h
  | some ns=>
   cases hf:zV bt ns with
   |none=>simp[hb,hf]at h
   | some m=>
    have:PyData.int m=d:=by simpa[hb,hf]using h
    subst this;obtain⟨x,q,e1,e2,e3⟩:=r;cases (show q=[] from e3);obtain⟨a,us,g1,g2,g3⟩:=e2;subst g1;rw[zT hb]at g3;have:=Reps.ints g3;subst this;exact⟨a,ns,m,e1,.inr g2,hf,k _ H (jo.refl H) rfl⟩
 ·cases h
theorem aiY(hc:X.calm=true):QI X (.builtin "max") (adf fun i j=>decide (i>j)):=⟨_,aj1 hc,fun ds d xs H Q h r k=>aoe h r k⟩
end BX
end
section
namespace BX
open PySem PySem.Spec L2
open PyProof.Rows hiding St
variable {X:Cx}
noncomputable def aed(f:Expr->OP):List Expr->Option (LP)
 | []=>some []
 |e::es=>(f e).bind fun d=>(aed f es).map fun ds=>d::ds
noncomputable def lit:Nat->Expr->OP
 |0,_=>none
 | n+1,e=>match e with
  |.Constant (.int i) _ _=>some (.int i)
  |.Constant (.bool b) _ _=>some (.bool b)
  |.Constant .none _ _=>some .none
  |.Constant (.str x) _ _=>some (.str x)
  |.Tuple es _ _=>(aed (lit n) es).bind fun ds=>if few ds=true then some (.tuple ds) else none
  |.List es _=>(aed (lit n) es).bind fun ds=>if few ds=true then some (.list ds) else none
  |_=>none
theorem PD.as{e:Expr}{F G:RP}(h:PD X e F)(hi:∀ρ d,G ρ=some d->F ρ=some d):PD X e G:=by
 with_unfolding_all exact(PE.imp h fun σ H Q ⟨ρ,d,en,q,k⟩=>⟨ρ,d,en,hi ρ d q,k⟩)
theorem PAD.as{es:List Expr}{F G:Rho->Option (LP)}(h:PAD X es F)(hi:∀ρ d,G ρ=some d->F ρ=some d):PAD X es G:=by
 with_unfolding_all exact(PA.imp h fun σ H Q ⟨ρ,d,en,q,k⟩=>⟨ρ,d,en,hi ρ d q,k⟩)
noncomputable def alD(e:Expr):Prop:=∀(es:List Expr) (env:Env),starEach (e::es) env=(false,eval e env)::starEach es env
theorem afn{f:Expr->OP}(hf:∀e d,f e=some d->PD X e (cst d)/\alD e):∀(es:List Expr) (ds:LP),aed f es=some ds->PAD X es (fun _=>some ds)
 | [],ds,h=>by cases h;exact je
 | e::es,ds,h=>by
  cases h1:f e with
  |none=>simp[aed,h1]at h
  | some d=>
   cases h2:aed f es with
   |none=>simp[aed,h1,h2]at h
   | some r=>
    have:d::r=ds:=by with_unfolding_all simpa[aed,h1,h2]using h
    subst this;obtain⟨p,st⟩:=hf e d h1;exact(ja p (afn hf es r h2) (st es X.env)).as fun ρ d' q=>by cases q;simp[jm,cst]
theorem ah8:∀(n:Nat) (e:Expr) (d:PyData),lit n e=some d->PD X e (cst d)/\alD e
 |0,e,d,h=>by cases h
 | n+1,e,d,h=>by
  unfold lit at h;split at h
  ·cases h;exact⟨jf,fun _ _=>rfl⟩
  ·cases h;exact⟨JJ,fun _ _=>rfl⟩
  ·cases h;exact⟨adb,fun _ _=>rfl⟩
  ·cases h;exact⟨ah2,fun _ _=>rfl⟩
  ·rename_i es x1 pos
   cases h1:aed (lit n) es with
   |none=>simp[h1]at h
   | some ds=>
    by_cases hf:few ds=true
    ·have:PyData.tuple ds=d:=by with_unfolding_all simpa[h1,hf]using h
     subst this;exact⟨(zi (afn (ah8 n) es ds h1)).as fun ρ d' q=>by cases q;simp[QG,hf],fun _ _=>rfl⟩
    ·simp[h1,hf]at h
  ·rename_i es pos
   cases h1:aed (lit n) es with
   |none=>simp[h1]at h
   | some ds=>
    by_cases hf:few ds=true
    ·have:PyData.list ds=d:=by simpa[h1,hf]using h
     subst this;exact⟨(qN (afn (ah8 n) es ds h1)).as fun ρ d' q=>by cases q;simp[aaY,hf],fun _ _=>rfl⟩
    ·simp[h1,hf]at h
  ·cases h
theorem zN(n:Nat){e:Expr}(d:PyData)(h:lit n e=some d):PD X e (cst d):=by
 with_unfolding_all exact((ah8 n e d h).1)
end BX
end
section
namespace BX
open PySem L2
open PyProof.Rows hiding St
noncomputable def jW(K:Fg)(x:Str)(st:Stmt):Prop:=
 ∃(f:Addr) (oc:Value) (od an:Option Addr) (kV doc pm Kc ct:Value) (osl:Array (Option Value)),PySem.W.nsIn K mainGlobals x=some (some (.ref f))/\
  K.lookup f=some ⟨oc,od,.func (PySem.W.fnOf x x (Q7 st) (jO st) (jj st) .none kV doc pm an Kc ct),osl⟩/\PySem.W.codeIn K Kc x=true/\PySem.W.keepIn K (.ref f)=true
theorem alE{K:Fg}{x:Str}{st:Stmt}{f:Addr}{oc:Value}{od an:Option Addr}{kV doc pm Kc ct:Value}{osl:Array (Option Value)}(a:PySem.W.nsIn K mainGlobals x=some (some (.ref f)))
  (l:K.lookup f=some ⟨oc,od,.func (PySem.W.fnOf x x (Q7 st) (jO st) (jj st) .none kV doc pm an Kc ct),osl⟩) (c:PySem.W.codeIn K Kc x=true) (k:PySem.W.keepIn K (.ref f)=true):jW K x st:=
 ⟨f,oc,od,an,kV,doc,pm,Kc,ct,osl,a,l,c,k⟩
noncomputable abbrev ju(x:Str)(st:Stmt)(ps:List Str):Prop:=∀(kV doc pm:Value) (an:Option Addr) (Kc ct:Value) (us:List Value),us.length=ps.length->bindArgs (PySem.W.fnOf x x (Q7 st) (jO st) (jj st) .none kV doc pm an Kc ct) ⟨us,[]⟩=pure (ps.zip us)
theorem jW.callee{P:Program}{w:World}{K:Fg}{mg:SV}{base h:Heap}{x:Str}{st:Stmt}{ps:List Str}{k n:Nat}{g:LP->OP}(T:jW K x st)(X:K.In h)(G:h.Ns mainGlobals mg)
  (hb:ju x st ps) (F:∀(f:Addr) (fd:FuncData),Fun K x x st f fd->FnOk P w K mg base CX0 k f fd ps (Pur K n g)):jl P w K mg base x ps k n g:=by
 obtain⟨f,oc,od,an,kV,doc,pm,Kc,ct,osl,a,l,c,kp⟩:=T;have F1:=afb (st:=st) l c kp;exact⟨f,_,F f _ F1,PySem.W.mg_of X G a,kp,F1.binds hb⟩
theorem jl.as{P:Program}{w:World}{K:Fg}{mg:SV}{base:Heap}{x:Str}{ps:List Str}{k n:Nat}{g g':LP->OP}(C:jl P w K mg base x ps k n g)(h:∀ds d,g' ds=some d->g ds=some d):jl P w K mg base x ps k n g':=by
 obtain⟨f,fd,F,a,b,c⟩:=C;exact⟨f,fd,arP F fun ds d _ q=>h ds d q,a,b,c⟩
theorem alF{K:Fg}{mg:SV}{h:Heap}{x:Str}{a:Addr}{ob:Obj}{ds:LP}(X:K.In h)(G:h.Ns mainGlobals mg)(e:PySem.W.nsIn K mainGlobals x=some (some (.ref a)))(l:K.lookup a=some ob)
  (hc:ob.cls= .type "tuple") (hi:∃(its:Array Value) (n:Nat) (xs:List V),ob.data= .seq its n/\its.size<=sizeLine/\jM xs its.toList/\∀H,Reps K H ds xs):∃v u,mg x=some u/\jS v u/\∀H,Rep K H (.tuple ds) v:=by
 obtain⟨its,n,xs,h1,h2,h3,h4⟩:=hi;exact⟨.ref a,.ref a,PySem.W.mg_of X G e,rfl,fun H=>⟨a,xs,rfl,.inr ⟨ob,its,n,l,hc,h1,h2,h3⟩,h4 H⟩⟩
end BX
end
section
namespace BX
open PySem PySem.Spec L2
open PyProof.Rows hiding St
noncomputable def aa5(a:Addr)(xs:List V):HO:= .ext fun h=>xs.length<=sizeLine/\∃(its:List Value) (n:Nat),jM xs its/\h.get? a=some { cls:= .type "list",data:= .seq its.toArray n }
noncomputable def acd(P:Program)(w:World)(a:Addr)(ob:Obj)(ks:List (Key×V)):HO:= .ext fun h=>h.get? a=some ob/\ks.length<=sizeLine/\(a==sysModules)=false/\∃vs,KV ks vs/\h.DictOf (jV P w) a vs
inductive Seal (P:Program) (w:World) (a:Addr):HO->HO->Prop where
 |l (xs:List V):Seal P w a (aa5 a xs) (.lst xs)
 |d (ob:Obj) (ks:List (Key×V)):Seal P w a (acd P w a ob ks) (.frz ob (.dK ks))
theorem Seal.ext{P:Program}{w:World}{a:Addr}{c o:HO}(S:Seal P w a c o):∃φ,c= .ext φ:=by cases S<;>exact⟨_,rfl⟩
section
variable {X:Cx}{Kp:List (Addr×Obj)}{σ:St}{H:Hp}{s:Shared}{a:Addr}{c o:HO}
theorem Inv.opened(I:Inv X Kp σ H s)(S:Seal X.prog X.w a c o)(e:H a=some c):Inv X Kp σ (upd H a o) s:=by
 have q:=I.hok a c e;have mu:Mut (H a):=by rw[e];obtain⟨φ,rfl⟩:=S.ext;trivial
 cases S with
 | l xs=>
  obtain⟨h1,h2,_⟩:=q;exact I.write (x:=a) (e:=a) (h':=s.heap) (t':=s.toks) mu (.inl rfl) (fun _ _ _ z=>z) h2 h1
 | d ob ks=>
  obtain⟨h1,h2,_⟩:=q;exact I.write (x:=a) (e:=a) (h':=s.heap) (t':=s.toks) mu (.inl rfl) (fun _ _ _ z=>z) h2 ⟨h1.1,h1.2⟩
theorem Inv.redesc{o1 o2:HO}(I:Inv X Kp σ H s)(h1:H a=some o1)(n1:∀y,o1 ≠ .own y)(n2:∀xs,o1 ≠ .tup xs)(n3:∀ps,o1 ≠ .tbl ps)(nf:∀ob u,X.H₀ a≠some (.frz ob u))(new:zd X.prog X.w (upd H a o2) s.heap a o2):Inv X Kp σ (upd H a o2) s:=by
 have na:∀b,H b=none->upd H a o2 b=none:=fun b z=>by
  have:b≠a:=fun q=>by subst q;rw[h1]at z;cases z
  rw[jp this];exact z
 refine⟨I.ok,I.os,I.bare,⟨I.base.keep,I.base.slot,fun b u q n hx=>na b (I.base.free b u q n hx),I.base.there,fun b xs q=>?_,fun b ob u q=>?_,fun b ps q=>?_⟩,I.loc,I.cell,na _ I.free,fun x c' q=>na _ (I.freeC x c' q),fun p hp=>?_,fun b u q=>?_,I.len⟩
 ·have q':=I.base.tups b xs q
  have:b≠a:=fun z=>by subst z;rw[h1]at q';cases q';exact n2 _ rfl
  rw[jp this];exact q'
 ·have:b≠a:=fun z=>by subst z;exact nf _ _ q
  rw[jp this];exact I.base.frzs b ob u q
 ·obtain⟨more,q'⟩:=I.base.tbls b ps q
  have:b≠a:=fun z=>by subst z;rw[h1]at q';cases q';exact n3 _ rfl
  exact⟨more,by rw[jp this];exact q'⟩
 ·obtain⟨g1,g2,g3⟩:=I.pin p hp
  exact⟨g1,na _ g2,g3⟩
 ·by_cases hb:b=a
  ·subst hb
   rw[jt]at q;cases q;exact new
  ·rw[jp hb]at q
   refine(I.hok b u q).stay (fun c' v _ z=>z) (fun c' z=>?_) fun c' xs z=>?_
   ·have:c'≠a:=fun m=>by subst m;rw[h1]at z;cases z;exact n1 _ rfl
    rw[jp this];exact z
   ·have:c'≠a:=fun m=>by subst m;rw[h1]at z;cases z;exact n2 _ rfl
    rw[jp this];exact z
theorem Inv.nofrz{φ:Heap->Prop}(I:Inv X Kp σ H s)(e:H a=some (.ext φ)):∀ob u,X.H₀ a≠some (.frz ob u):=fun ob u z=>by
 have:=I.base.frzs _ _ _ z;rw[e]at this;cases this
theorem Inv.closed(I:Inv X Kp σ H s)(S:Seal X.prog X.w a c o)(e:H a=some o)(nf:∀ob u,X.H₀ a≠some (.frz ob u)):Inv X Kp σ (upd H a c) s:=by
 have q:=I.hok a o e;cases S with
 | l xs=>
  obtain⟨h1,its,n,h2,h3⟩:=q;refine I.write (x:=a) (e:=a) (h':=s.heap) (t':=s.toks) (by rw[e];trivial) (.inl rfl) (fun _ _ _ z=>z) ⟨_,h3⟩ ⟨⟨h1,its,n,h2,h3⟩,⟨_,h3⟩,?_⟩
  rintro g1 g2 ⟨z1,its,n,z2,z3⟩ k
  exact⟨z1,its,n,z2,k _ z3⟩
 | d ob ks=>
  obtain⟨h0,h1,h2,vs,h3,ob',es,ep,h4,h5⟩:=q;refine Inv.redesc I e (fun _ z=>nomatch z) (fun _ z=>nomatch z) (fun _ z=>nomatch z) nf ⟨⟨h0,h1,h2,vs,h3,ob',es,ep,h4,h5⟩,⟨_,h4⟩,?_⟩
  rintro g1 g2 ⟨z0,z1,z2,vs,z3,ob',es,ep,z4,z5⟩ k
  exact⟨k _ z0,z1,z2,vs,z3,ob',es,ep,k _ z4,z5⟩
theorem Inv.sealedD{ks:List (Key×V)}(I:Inv X Kp σ H s)(e:H a=some (.dK ks)):∃ob,Inv X Kp σ (upd H a (acd X.prog X.w a ob ks)) s:=by
 obtain⟨h1,h2,vs,h3,ob,es,ep,h4,h5⟩:=I.hok a _ e;refine⟨ob,I.write (x:=a) (e:=a) (h':=s.heap) (t':=s.toks) (by rw[e];trivial) (.inl rfl) (fun _ _ _ z=>z) ⟨_,h4⟩ ⟨⟨h4,h1,h2,vs,h3,ob,es,ep,h4,h5⟩,⟨_,h4⟩,?_⟩⟩
 rintro g1 g2 ⟨z0,z1,z2,vs,z3,ob',es,ep,z4,z5⟩ k
 exact⟨k _ z0,z1,z2,vs,z3,ob',es,ep,k _ z4,z5⟩
theorem Inv.openD{ob:Obj}{ks:List (Key×V)}(I:Inv X Kp σ H s)(e:H a=some (acd X.prog X.w a ob ks)):Inv X Kp σ (upd H a (.dK ks)) s:=by
 obtain⟨h1,h2,_⟩:=I.hok a _ e;exact I.write (x:=a) (e:=a) (h':=s.heap) (t':=s.toks) (by rw[e];trivial) (.inl rfl) (fun _ _ _ z=>z) h2 h1.2
end
mutual
noncomputable def noD:PyData->Bool
 |.tuple ds=>noDs ds
 |.list ds=>noDs ds
 |.dict _=>false
 |_=>true
noncomputable def noDs:LP->Bool
 | []=>true
 |d::ds=>noD d&&noDs ds
end
noncomputable def agt(H H':Hp):Prop:=∀b o,H b=some o->(∀ob ks,o ≠ .frz ob (.dK ks))->H' b=some o
section
variable {K:Fg}{H H':Hp}
theorem agt.tup{a:Addr}{xs:List V}(e:agt H H')(h:SqT K H a xs):SqT K H' a xs:=by
 rcases h with (h | ⟨o,h⟩) | h
 ·exact .inl (.inl (e _ _ h fun _ _ z=>nomatch z))
 ·exact .inl (.inr ⟨o,e _ _ h fun _ _ z=>nomatch z⟩)
 ·exact .inr h
mutual
theorem Rep.monoM(e:agt H H'):∀(d:PyData) (v:V),noD d=true->Rep K H d v->Rep K H' d v
 |.none,v,_,h=>h
 |.bool _,v,_,h=>h
 |.int _,v,_,h=>h
 |.str _,v,_,h=>h
 |.tuple ds,v,n,⟨a,xs,h1,h2,h3⟩=>⟨a,xs,h1,agt.tup e h2,Reps.monoM e ds xs (by simpa[noD]using n) h3⟩
 |.list ds,v,n,⟨a,xs,h1,h2,h3⟩=>⟨a,xs,h1,e _ _ h2 (fun _ _ z=>nomatch z),Reps.monoM e ds xs (by simpa[noD]using n) h3⟩
 |.dict ds,v,n,h=>by simp[noD]at n
theorem Reps.monoM(e:agt H H'):∀(ds:LP) (xs:List V),noDs ds=true->Reps K H ds xs->Reps K H' ds xs
 | [],xs,_,h=>h
 | d::ds,xs,n,⟨x,r,h1,h2,h3⟩=>by
  have n':noD d=true/\noDs ds=true:=by simpa[noDs]using n
  exact⟨x,r,h1,Rep.monoM e d x n'.1 h2,Reps.monoM e ds r n'.2 h3⟩
end
end
noncomputable def okB(c d:PyData):Bool:=match c with
 |.list _=>noL d
 |.dict _=>noD d
 |_=>false
noncomputable def aa6(P:Program)(w:World)(K:Fg)(H:Hp)(a:Addr):PyData->Prop
 |.list ds=>∃xs,H a=some (aa5 a xs)/\Reps K H ds xs
 |.dict kvs=>∃ks r ob,kvs=(.none,.none)::r/\H a=some (acd P w a ob ks)/\RepM K H r ks
 |_=>False
theorem aa6.out{P:Program}{w:World}{K:Fg}{H:Hp}{a:Addr}{d:PyData}(h:aa6 P w K H a d):∃c o,Seal P w a c o/\H a=some c/\
  (∀H',j4 H H'->H' a=some o->Rep K H' d (.ref a))/\(∀H',j4 H H'->H' a=some c->aa6 P w K H' a d)/\
  ∀x H3 v,okB d x=true->H3 a=some o->Rep K H3 x v->Rep K (upd H3 a c) x v:=by
 cases d with
 | list ds=>
  obtain⟨xs,h1,h2⟩:=h
  exact⟨_,_,.l xs,h1,fun H' e q=>⟨a,xs,rfl,q,Reps.monoE e _ _ h2⟩,fun H' e q=>⟨xs,q,Reps.monoE e _ _ h2⟩,fun x H3 v n q r=>Rep.monoN (fun b u hb m=>by
   have:b ≠ a:=fun z=>by subst z; rw [q] at hb; cases hb; exact m _ rfl
   rw [jp this]; exact hb) x v n r⟩
 | dict kvs=>
  obtain⟨ks,r,ob,rfl,h1,h2⟩:=h
  exact⟨_,_,.d ob ks,h1,fun H' e q=>⟨a,rfl,.inr (.inl ⟨ks,ob,q,show RepM K H' r ks from RepM.monoE e _ _ h2⟩)⟩,fun H' e q=>⟨ks,r,ob,rfl,q,RepM.monoE e _ _ h2⟩,fun x H3 v n q r=>Rep.monoM (fun b u hb m=>by
   have:b ≠ a:=fun z=>by subst z; rw [q] at hb; cases hb; exact m _ _ rfl
   rw [jp this]; exact hb) x v n r⟩
 |none=>exact h.elim
 |bool _=>exact h.elim
 |int _=>exact h.elim
 |str _=>exact h.elim
 |tuple _=>exact h.elim
theorem j4.upd{H:Hp}{a:Addr}{φ:Heap->Prop}{o:HO}(e:H a=some (.ext φ)):j4 H (upd H a o):=fun b u h n=>by
 have:b≠a:=fun z=>by subst z;rw[e]at h;cases h;exact n _ rfl
 rw[jp this];exact h
structure EnvO(P:Program)(w:World)(K:Fg)(Hs H:Hp)(own:Option Nat)(ρ:Rho)(σ:St):Prop where
 len:ρ.length=σ.length
 sm:jo Hs H
 pl:∀i d,ρ[i]?=some (some d)->own≠some i->∃v,σ[i]?=some (some v)/\Rep K H d v
 ow:∀i,own=some i->∃d a,ρ[i]?=some (some d)/\σ[i]?=some (some (.ref a))/\Hs a=none/\aa6 P w K H a d
noncomputable def hid(own:Option Nat)(ρ:Rho):Rho:=match own with
 |none=>ρ
 |some i=>ρ.set i none
section
variable {P:Program}{w:World}{K:Fg}{Hs H H':Hp}{own:Option Nat}{ρ:Rho}{σ:St}
theorem EnvO.of(e:EnvR K H ρ σ)(s:jo Hs H):EnvO P w K Hs H none ρ σ:=⟨e.len,s,fun i d h _=>e.at' i d h,fun i z=>nomatch z⟩
theorem EnvO.to(e:EnvO P w K Hs H none ρ σ):EnvR K H ρ σ:=⟨e.len,fun i d h=>e.pl i d h (fun z=>nomatch z)⟩
theorem EnvO.hid(e:EnvO P w K Hs H own ρ σ):EnvR K H (hid own ρ) σ:=by
 cases own with
 |none=>exact e.to
 | some i=>
  refine⟨by simp[BX.hid,e.len],fun j d h=>?_⟩;by_cases hj:i=j
  ·subst hj
   simp only[BX.hid]at h;rw[List.getElem?_set]at h;simp at h
  ·simp only[BX.hid]at h
   rw[List.getElem?_set_ne hj]at h;exact e.pl j d h (fun z=>hj (Option.some.inj z))
theorem aa6.mono{a:Addr}{d:PyData}(h:aa6 P w K H a d)(s:jo H H'):aa6 P w K H' a d:=by
 obtain⟨c,o,_,h1,_,h2,_⟩:=h.out;exact h2 H' (jo.e s) (s _ _ h1)
theorem EnvO.mono(e:EnvO P w K Hs H own ρ σ)(s:jo H H'):EnvO P w K Hs H' own ρ σ:=
 ⟨e.len,e.sm.trans s,fun i d h n=>let ⟨v,h1,h2⟩:=e.pl i d h n;⟨v,h1,Rep.mono s d v h2⟩,fun i n=>let ⟨d,a,h1,h2,h3,h4⟩:=e.ow i n;⟨d,a,h1,h2,h3,h4.mono s⟩⟩
theorem EnvO.opn{i:Nat}(e:EnvO P w K Hs H (some i) ρ σ):∃d a c o,ρ[i]?=some (some d)/\σ[i]?=some (some (.ref a))/\Hs a=none/\Seal P w a c o/\H a=some c/\EnvR K (upd H a o) ρ σ/\jo Hs (upd H a o)/\
  (∀H3,jo (upd H a o) H3->j4 H (upd H3 a c)/\EnvO P w K Hs (upd H3 a c) (some i) ρ σ)/\∀x H3 v,okB d x=true->H3 a=some o->Rep K H3 x v->Rep K (upd H3 a c) x v:=by
 obtain⟨d,a,h1,h2,h3,h4⟩:=e.ow i rfl;obtain⟨c,o,S,h5,h6,h7,h8⟩:=h4.out;obtain⟨φ,rfl⟩:=S.ext;have s1:j4 H (upd H a o):=j4.upd h5;have sH:∀{H2:Hp},(∀b u,b≠a->H b=some u->H2 b=some u)->jo Hs H2:=fun {H2} k b u q=>k b u (fun z=>by subst z;rw[h3]at q;cases q) (e.sm b u q);refine⟨d,a,_,o,h1,h2,h3,S,h5,⟨e.len,fun j x q=>?_⟩,sH fun b u n q=>by rw[jp n];exact q,fun H3 s3=>⟨fun b u q m=>?_,e.len,sH fun b u n q=>by rw[jp n];exact s3 b u (by rw[jp n];exact q),fun j x q n=>?_,fun j n=>?_⟩,h8⟩
 ·by_cases hj:i=j
  ·subst hj
   rw[h1]at q;cases q;exact⟨.ref a,h2,h6 _ s1 jt⟩
  ·obtain⟨v,g1,g2⟩:=e.pl j x q (fun z=>hj (Option.some.inj z))
   exact⟨v,g1,Rep.monoE s1 _ _ g2⟩
 ·have:b≠a:=fun z=>by subst z;rw[h5]at q;cases q;exact m _ rfl
  rw[jp this];exact s3 b u (by rw[jp this];exact q)
 ·have s4:j4 H (upd H3 a (.ext φ)):=fun b u q m=>by
   have:b≠a:=fun z=>by subst z;rw[h5]at q;cases q;exact m _ rfl
   rw[jp this];exact s3 b u (by rw[jp this];exact q)
  obtain⟨v,g1,g2⟩:=e.pl j x q n;exact⟨v,g1,Rep.monoE s4 _ _ g2⟩
 ·cases n
  have s4:j4 H (upd H3 a (.ext φ)):=fun b u q m=>by
   have:b≠a:=fun z=>by subst z;rw[h5]at q;cases q;exact m _ rfl
   rw[jp this];exact s3 b u (by rw[jp this];exact q)
  exact⟨d,a,h1,h2,h3,h7 _ s4 jt⟩
end
end BX
end
section
namespace BX
open PySem PySem.Spec L2
open PyProof.Rows hiding St
noncomputable def brw(own:Option Nat)(f:RP):RP:=fun ρ=>match f (hid own ρ)with
 |some d=>some d
 | none=>match own with
  |none=>none
  | some i=>match f ρ,lkp i ρ with
   |some d,some c=>if okB c d=true then some d else none
   |_,_=>none
theorem aof{own:Option Nat}{f:RP}{ρ:Rho}{d:PyData}(h:brw own f ρ=some d):f (hid own ρ)=some d∨∃i c,own=some i/\f ρ=some d/\ρ[i]?=some (some c)/\okB c d=true:=by
 unfold brw at h;cases h1:f (hid own ρ)with
 |some x=>rw[h1]at h;exact .inl h
 | none=>
  rw[h1]at h;cases own with
  |none=>cases h
  | some i=>
   simp only at h;cases h2:f ρ with
   |none=>rw[h2]at h;cases h
   | some x=>
    rw[h2]at h;cases h3:lkp i ρ with
    |none=>rw[h3]at h;cases h
    | some c=>
     rw[h3]at h;simp only at h;split at h
     ·rename_i ok
      cases h;exact .inr ⟨i,c,rfl,rfl,Jw h3,ok⟩
     ·cases h
section
variable {X:Cx}{e a b c tg src:Expr}{es:List Expr}{st:Stmt}{sts qh:List Stmt}{fa fb fc:RP}{F G:RO}{pos:Pos}{own:Option Nat}
noncomputable def tE(P:Program)(w:World)(K:Fg)(own:Option Nat)(f:RP):TE:=fun σ H Q=>∃Hs ρ d,EnvO P w K Hs H own ρ σ/\brw own f ρ=some d/\∀v H',j4 H H'->EnvO P w K Hs H' own ρ σ->Rep K H' d v->Q v H'
theorem afo(h:PD X e fa):PE X e (tE X.prog X.w X.K own fa):=by
 with_unfolding_all
  intro Kp s σ H Q I ⟨Hs,ρ,d,E,hb,k⟩;rcases aof hb with h1 | ⟨i,c,ho,h1,h2,ok⟩
  ·exact h Kp s σ H Q I ⟨hid own ρ,d,E.hid,h1,fun v H' s r=>k v H' (jo.e s) (E.mono s) r⟩
  ·subst ho
   obtain⟨d0,a,cl,o,g1,g2,g3,S,g4,env,sm,back,keep⟩:=E.opn;rw[h2]at g1;cases g1;refine thn (h Kp s σ (upd H a o) (fun v H3=>jo (upd H a o) H3/\Rep X.K H3 d v) (Inv.opened I S g4) ⟨ρ,d,env,h1,fun v H3 s3 r3=>⟨s3,r3⟩⟩) fun u s1 ⟨v,H3,I3,r,s3,r3⟩=>?_;have e3:H3 a=some o:=s3 _ _ jt;exact⟨v,upd H3 a cl,Inv.closed I3 S e3 (by obtain⟨φ,rfl⟩:=S.ext;exact Inv.nofrz I g4),r,k v _ (back H3 s3).1 (back H3 s3).2 (keep d H3 v ok e3 r3)⟩
noncomputable def tT(P:Program)(w:World)(K:Fg)(own:Option Nat)(f:Rho->Option Bool):TT:=fun σ H Q=>∃Hs ρ d,EnvO P w K Hs H own ρ σ/\f ρ=some d/\∀H',j4 H H'->EnvO P w K Hs H' own ρ σ->Q d H'
theorem aqC{tc:Rho->Option Bool}(h:PTD X e tc):PT X e (tT X.prog X.w X.K own tc):=by
 with_unfolding_all
  intro Kp s σ H Q I ⟨Hs,ρ,d,E,h1,k⟩;cases own with
  |none=>exact h Kp s σ H Q I ⟨ρ,d,E.to,h1,fun H' s=>k H' (jo.e s) (E.mono s)⟩
  | some i=>
   obtain⟨d0,a,cl,o,g1,g2,g3,S,g4,env,sm,back,keep⟩:=E.opn;refine thn (h Kp s σ (upd H a o) (fun b H3=>b=d/\jo (upd H a o) H3) (Inv.opened I S g4) ⟨ρ,d,env,h1,fun H3 s3=>⟨rfl,s3⟩⟩) fun b s1 ⟨H3,I3,hb,s3⟩=>?_;subst hb;exact⟨upd H3 a cl,Inv.closed I3 S (s3 _ _ jt) (by obtain⟨φ,rfl⟩:=S.ext;exact Inv.nofrz I g4),k _ (back H3 s3).1 (back H3 s3).2⟩
noncomputable def tF(P:Program)(w:World)(K:Fg)(own:Option Nat)(f:RP):TE:=fun σ H Q=>∃Hs ρ d,EnvO P w K Hs H own ρ σ/\f ρ=some d/\∀v H',jo Hs H'->Rep K H' d v->Q v H'
theorem aqD(h:PD X e fa):PE X e (tF X.prog X.w X.K own fa):=by
 with_unfolding_all
  intro Kp s σ H Q I ⟨Hs,ρ,d,E,h1,k⟩;cases own with
  |none=>exact h Kp s σ H Q I ⟨ρ,d,E.to,h1,fun v H' s r=>k v H' (E.sm.trans s) r⟩
  | some i=>
   obtain⟨d0,a,cl,o,g1,g2,g3,S,g4,env,sm,back,keep⟩:=E.opn;exact h Kp s σ (upd H a o) Q (Inv.opened I S g4) ⟨ρ,d,env,h1,fun v H3 s3 r3=>k v H3 (sm.trans s3) r3⟩
noncomputable def arZ(P:Program)(w:World)(K:Fg)(Hs:Hp)(own:Option Nat)(D:Ends):Out->Prop
 |.nx ρ=>∀σ H,EnvO P w K Hs H own ρ σ->D.nx σ H
 |.rt d=>∀v H,jo Hs H->Rep K H d v->D.rt v H
 |.bk ρ=>∀σ H,EnvO P w K Hs H own ρ σ->D.bk σ H
 |.ct ρ=>∀σ H,EnvO P w K Hs H own ρ σ->D.ct σ H
noncomputable def tOS(P:Program)(w:World)(K:Fg)(own:Option Nat)(F:RO):TS:=fun D σ H=>∃Hs ρ o,EnvO P w K Hs H own ρ σ/\F ρ=some o/\arZ P w K Hs own D o
@[irreducible] noncomputable def PSO(X:Cx)(own:Option Nat)(st:Stmt)(F:RO):Prop:=PS X st (tOS X.prog X.w X.K own F)
@[irreducible] noncomputable def adg(X:Cx)(own:Option Nat)(sts:List Stmt)(F:RO):Prop:=PSs X sts (tOS X.prog X.w X.K own F)
theorem aeB(h:PSD X st F):PSO X none st F:=by
 with_unfolding_all
  refine PS.imp h fun D σ H ⟨Hs,ρ,o,E,q,k⟩=>⟨ρ,o,E.to,q,?_⟩;cases o with
  |nx ρ'=>exact fun σ' H' s r=>k σ' H' (EnvO.of r (E.sm.trans s))
  |rt d=>exact fun v H' s r=>k v H' (E.sm.trans s) r
  |bk ρ'=>exact fun σ' H' s r=>k σ' H' (EnvO.of r (E.sm.trans s))
  |ct ρ'=>exact fun σ' H' s r=>k σ' H' (EnvO.of r (E.sm.trans s))
theorem ZH(h:adg X none sts F):ZC X sts F:=by
 with_unfolding_all
  refine PSs.imp h fun D σ H ⟨ρ,o,en,q,k⟩=>⟨H,ρ,o,EnvO.of en (jo.refl H),q,?_⟩;cases o with
  |nx ρ'=>exact fun σ' H' E=>k σ' H' E.sm E.to
  |rt d=>exact fun v H' s r=>k v H' s r
  |bk ρ'=>exact fun σ' H' E=>k σ' H' E.sm E.to
  |ct ρ'=>exact fun σ' H' E=>k σ' H' E.sm E.to
theorem qy:adg X own [] qC:=by
 with_unfolding_all
  refine PSs.imp aiD fun D σ H ⟨Hs,ρ,o,E,q,k⟩=>?_;cases q;exact k σ H E
theorem jJ(h1 : PSO X own st F)(h2 : adg X own qh G) : adg X own (st :: qh) (jH F G) := by
  with_unfolding_all
   refine PSs.imp (Ju h1 h2) fun D σ H ⟨Hs, ρ, o, E, q, k⟩ => ?_;cases hf : F ρ with
   |none => simp[jH, hf]at q
   | some p =>
     refine⟨Hs, ρ, p, E, hf, ?_⟩;cases p with
     |nx ρ' => exact fun σ' H' E' => ⟨Hs, ρ', o, E', by simpa[jH, hf]using q, k⟩
     | rt d => have : Out.rt d = o := by simpa[jH, hf]using q
               subst this;exact k
     | bk d => have : Out.bk d = o := by simpa[jH, hf]using q
               subst this;exact k
     | ct d => have : Out.ct d = o := by simpa[jH, hf]using q
               subst this;exact k
theorem acz(h:PD X e fa):PSO X own (.Return (some e) pos) (qK fa):=by
 with_unfolding_all
  refine PS.imp (ae6 (aqD (own:=own) h)) fun D σ H ⟨Hs,ρ,o,E,q,k⟩=>?_;cases h1:fa ρ with
  |none=>simp[qK,h1]at q
  | some d=>
   have:Out.rt d=o:=by simpa[qK,h1]using q
   subst this;exact⟨Hs,ρ,d,E,h1,k⟩
theorem alG{l r:List Stmt}{tc:Rho->Option Bool}(hc:PTD X c tc)(hl:adg X own l F)(hr:adg X own r G):PSO X own (.If c l r pos) (ifS tc F G):=by
 with_unfolding_all
  refine PS.imp (apx (aqC (own:=own) hc) hl hr) fun D σ H ⟨Hs,ρ,o,E,q,k⟩=>?_;cases h1:tc ρ with
  |none=>simp[ifS,h1]at q
  | some x=>
   refine⟨Hs,ρ,x,E,h1,fun H1 _ E1=>?_⟩;cases x with
   |true=>rw[if_pos rfl];exact⟨Hs,ρ,o,E1,by simpa[ifS,h1]using q,k⟩
   |false=>rw[if_neg Bool.false_ne_true];exact⟨Hs,ρ,o,E1,by simpa[ifS,h1]using q,k⟩
theorem EnvO.set{P:Program}{w:World}{K:Fg}{Hs H:Hp}{ρ:Rho}{σ:St}{i:Nat}{d:PyData}{v:V}(E:EnvO P w K Hs H own ρ σ)(hi:own≠some i)(r:Rep K H d v):EnvO P w K Hs H own (ρ.set i (some d)) (σ.set i (some v)):=by
 refine⟨by simp[E.len],E.sm,fun j x q n=>?_,fun j n=>?_⟩
 ·by_cases hj:i=j
  ·subst hj
   rw[List.getElem?_set]at q ⊢;simp only[zzM]at q ⊢;by_cases hl:i < ρ.length
   ·rw[if_pos hl]at q
    rw[if_pos (by rw[←E.len];exact hl)];cases q;exact⟨v,rfl,r⟩
   ·rw[if_neg hl]at q;cases q
  ·rw[List.getElem?_set_ne hj]at q ⊢
   exact E.pl j x q n
 ·have hj:i≠j:=fun z=>by subst z;exact hi n
  rw[List.getElem?_set_ne hj,List.getElem?_set_ne hj];exact E.ow j n
theorem aa7(i:Nat){x:Str}{pos':Pos}(hN:X.N.Nodup)(he:PD X e fa)(ho:own≠some i:=by decide)(hi:X.N[i]?=some x:=by rfl)(hx:Loc X.env.scope x:=by first|exact Or.inl rfl|exact Or.inr rfl)(hs:swapsWith e (some (.Name x pos')) pos.line X.env=pure false:=by rfl)
  (hf:X.fn x=true∨X.env.scope.names.lookup x=some .local:=by first|exact .inl rfl|exact .inr rfl|assumption):PSO X own (.Assign [.Name x pos'] e pos) (qV (brw own fa) (jB i)):=by
 with_unfolding_all
  refine PS.imp (ac3 hN hi hx (afo (own:=own) he) hs hf) fun D σ H ⟨Hs,ρ,o,E,q,k⟩=>?_;cases h1:brw own fa ρ with
  |none=>simp[qV,h1]at q
  | some d=>
   have:Out.nx (ρ.set i (some d))=o:=by simpa[qV,h1,jB]using q
   subst this;exact⟨Hs,ρ,d,E,h1,fun v H1 _ E1 r1=>k _ H1 (E1.set ho r1)⟩
end
section
variable {X:Cx}{e a b c tg src:Expr}{es:List Expr}{st:Stmt}{sts qh body:List Stmt}{fa fb fc:RP}{F G:RO}{pos:Pos}{own:Option Nat}
@[irreducible] noncomputable def PGO(X:Cx)(own:Option Nat)(tg:Expr)(ga:PyData->Rho->Option Rho):Prop:=
 PG X tg fun v σ H Q=>∃Hs ρ d ρ',EnvO X.prog X.w X.K Hs H own ρ σ/\Rep X.K H d v/\ga d ρ=some ρ'/\∀σ' H',EnvO X.prog X.w X.K Hs H' own ρ' σ'->Q σ' H'
@[irreducible] noncomputable def aog(X:Cx)(own:Option Nat)(ts:List Expr)(ga:LP->Rho->Option Rho):Prop:=
 PGs X ts fun vs σ H Q=>∃Hs ρ ds ρ',EnvO X.prog X.w X.K Hs H own ρ σ/\Reps X.K H ds vs/\ga ds ρ=some ρ'/\∀σ',EnvO X.prog X.w X.K Hs H own ρ' σ'->Q σ' H
theorem ZI(i:Nat){x:Str}(hN:X.N.Nodup)(ho:own≠some i:=by decide)(hi:X.N[i]?=some x:=by rfl)(hx:Loc X.env.scope x:=by first|exact Or.inl rfl|exact Or.inr rfl)
  (hf:X.fn x=true∨X.env.scope.names.lookup x=some .local:=by first|exact .inl rfl|exact .inr rfl|assumption):PGO X own (.Name x pos) (jB i):=by
 with_unfolding_all
  refine PG.imp (Z5 hN hi hx hf) fun v σ H Q ⟨Hs,ρ,d,ρ',E,r,q,k⟩=>?_;cases q;exact k _ H (E.set ho r)
theorem adh:aog X own [] Q9:=by
 with_unfolding_all
  refine PGs.imp aiE fun vs σ H Q ⟨Hs,ρ,ds,ρ',E,r,q,k⟩=>?_;cases ds with
  |nil=>cases r;cases q;exact⟨rfl,k σ E⟩
  |cons d ds=>cases q
theorem JO(i:Nat){x:Str}{gr:LP->Rho->Option Rho}(hN:X.N.Nodup)(h2:aog X own es gr)(ho:own≠some i:=by decide)(hi:X.N[i]?=some x:=by rfl)(hx:Loc X.env.scope x:=by first|exact Or.inl rfl|exact Or.inr rfl)
  (hf:X.fn x=true∨X.env.scope.names.lookup x=some .local:=by first|exact .inl rfl|exact .inr rfl|assumption)
  (hs:(assignEach (.Name x pos::es) X.env).map (·.2)=assign (.Name x pos) X.env::(assignEach es X.env).map (·.2):=by rfl):aog X own (.Name x pos::es) (qB (jB i) gr):=by
 with_unfolding_all
  refine PGs.imp (age (Z5 hN hi hx hf) h2 hs) fun vs σ H Q ⟨Hs,ρ,ds,ρ',E,r,q,k⟩=>?_;cases ds with
  |nil=>cases q
  | cons d ds=>
   obtain⟨y,rr,e1,r1,r2⟩:=r;subst e1;exact⟨y,rr,rfl,Hs,_,ds,ρ',E.set ho r1,r2,by simpa[qB,jB]using q,k⟩
theorem afp{k n:Nat}{gr:LP->Rho->Option Rho}(hc:X.calm=true)(h:aog X own es gr)(hn:(assignEach es X.env).length=n:=by rfl)(hst:(assignEach es X.env).findIdx? (·.1)=none:=by rfl):
  PGO X own (.Tuple es k pos) (aaH n gr):=by
 with_unfolding_all
  refine PG.imp (ak3 hc h hn hst) fun v σ H Q ⟨Hs,ρ,d,ρ',E,r,q,k⟩=>?_;cases d with
  | tuple ds=>
   obtain⟨a,xs,e1,e2,e3⟩:=r;by_cases hl:ds.length=n
   ·exact⟨a,xs,e1,e2,by rw[e3.length];exact hl,Hs,ρ,ds,ρ',E,e3,by simpa[aaH,hl]using q,fun σ' E'=>k σ' H E'⟩
   ·simp[aaH,hl]at q
  |_=>simp[aaH]at q
theorem aoh{ga:PyData->Rho->Option Rho}(he:PD X e fa)(hg:PGO X own tg ga)(hs:swapsWithSole [tg] e pos.line X.env=pure false:=by rfl)(hw:swappedStores [tg] e X.env=pure none:=by rfl)
  (h1:(assignEach [tg] X.env).map (·.2)=[assign tg X.env]:=by rfl):PSO X own (.Assign [tg] e pos) (qV (brw own fa) ga):=by
 with_unfolding_all
  refine PS.imp (ahS (afo (own:=own) he) hg hs hw h1) fun D σ H ⟨Hs,ρ,o,E,q,k⟩=>?_;cases h1:brw own fa ρ with
  |none=>simp[qV,h1]at q
  | some d=>
   cases h2:ga d ρ with
   |none=>simp[qV,h1,h2]at q
   | some ρ'=>
    have:Out.nx ρ'=o:=by simpa[qV,h1,h2]using q
    subst this;exact⟨Hs,ρ,d,E,h1,fun v H1 _ E1 r1=>⟨Hs,ρ,d,ρ',E1,r1,h2,k⟩⟩
theorem EnvO.rebase{P:Program}{w:World}{K:Fg}{Hs H:Hp}{ρ:Rho}{σ:St}(E:EnvO P w K Hs H own ρ σ):∃Hb,EnvO P w K Hb H own ρ σ/\(∀H3,jo Hb H3->j4 H H3)/\
  (∀H3 ρ3 σ3,EnvO P w K Hb H3 own ρ3 σ3->EnvO P w K Hs H3 own ρ3 σ3)/\∀H3,jo Hb H3->jo Hs H3:=by
 cases own with
 |none=>exact⟨H,⟨E.len,jo.refl H,E.pl,fun i z=>nomatch z⟩,fun _ s=>jo.e s,fun H3 ρ3 σ3 E3=>⟨E3.len,E.sm.trans E3.sm,E3.pl,fun i z=>nomatch z⟩,fun _ s=>E.sm.trans s⟩
 | some i=>
  obtain⟨d,a,h1,h2,h3,h4⟩:=E.ow i rfl;obtain⟨c,o,S,h5,_⟩:=h4.out;obtain⟨φ,rfl⟩:=S.ext;let Hb:Hp:=fun b=>if b=a then none else H b
  have ha:Hb a=none:=if_pos rfl;have hb:∀b,b≠a->Hb b=H b:=fun b n=>if_neg n
  have sH:∀H3,jo Hb H3->jo Hs H3:=fun H3 s b u q=>by
   have n:b≠a:=fun z=>by subst z;rw[h3]at q;cases q
   exact s b u (by rw[hb b n];exact E.sm b u q)
  refine⟨Hb,⟨E.len,fun b u q=>?_,E.pl,fun j n=>?_⟩,fun H3 s b u q m=>?_,fun H3 ρ3 σ3 E3=>⟨E3.len,sH H3 E3.sm,E3.pl,fun j n=>?_⟩,sH⟩
  ·by_cases n:b=a
   ·subst n;rw[ha]at q;cases q
   ·rw[hb b n]at q;exact q
  ·cases n
   exact⟨d,a,h1,h2,ha,h4⟩
  ·have n:b≠a:=fun z=>by subst z;rw[h5]at q;cases q;exact m _ rfl
   exact s b u (by rw[hb b n];exact q)
  ·obtain⟨d3,a3,g1,g2,g3,g4⟩:=E3.ow j n
   refine⟨d3,a3,g1,g2,?_,g4⟩;by_cases z:a3=a
   ·rw[z];exact h3
   ·rw[hb a3 z]at g3
    cases q:Hs a3 with
    |none=>rfl
    |some u=>have:=E.sm _ _ q;rw[g3]at this;cases this
theorem Zd{fi:Rho->Option (LP)}{ga:PyData->Rho->Option Rho}(hp:PassesOwn (model X.prog X.w) X.A X.env X.xe)(hc:X.calm=true)(hi:PID X tg src fi)(hg:PGO X own tg ga)(hb:adg X own body F)
  (hs:∀x,foldedSetIterable src X.env x=pure x:=by intro _;rfl):PSO X own (.For tg src body [] pos) (Jm (fun ρ=>fi (hid own ρ)) ga F):=by
 with_unfolding_all
  refine PS.imp (ac4 hp hc hi hg hb hs) fun D σ H ⟨Hs,ρ,o,E,q,k⟩=>?_;cases h1:fi (hid own ρ)with
  |none=>simp[Jm,h1]at q
  | some ds=>
   have q':jC ga F ds ρ=some o:=by simpa[Jm,h1]using q
   refine⟨hid own ρ,ds,E.hid,h1,fun J H1 s1 Y=>?_⟩;obtain⟨Hb,Eb,sE,back,sb⟩:=(E.mono s1).rebase;refine⟨fun i m σ H2=>m=ds.length-i/\i<=ds.length/\∃ρ2,EnvO X.prog X.w X.K Hb H2 own ρ2 σ/\jC ga F (ds.drop i) ρ2=some o,⟨ds.length,by simp,Nat.zero_le _,ρ,Eb,by simpa using q'⟩,?_⟩
   rintro i m σ2 H2 ⟨rfl,hi,ρ2,en2,q2⟩
   obtain⟨g1,g2,g3⟩:=Y i H2 (j4.a (sE H2 en2.sm));by_cases hlt:i<ds.length
   ·right
    have hd:ds.drop i=ds[i]::ds.drop (i+1):=List.drop_eq_getElem_cons hlt;rw[hd]at q2;refine⟨g1 hlt,fun σ3 H3=>∃ρ3,EnvO X.prog X.w X.K Hb H3 own ρ3 σ3/\jC ga F (ds.drop (i+1)) ρ3=some o,fun σ3 H3 ⟨ρ3,a2,a3⟩=>⟨ds.length-(i+1),by omega,rfl,hlt,ρ3,a2,a3⟩,fun x H3 y=>?_⟩;obtain⟨s3,r3⟩:=g3 x H3 y;have r3':=r3 ds[i] (by simp[hlt]);cases h4:ga ds[i] ρ2 with
    |none=>simp[jC,h4]at q2
    | some ρ4=>
     refine⟨Hb,ρ2,ds[i],ρ4,en2.mono s3,r3',h4,fun σ5 H5 en5=>?_⟩;cases h5:F ρ4 with
     |none=>simp[jC,h4,h5]at q2
     | some p=>
      refine⟨Hb,ρ4,p,en5,h5,?_⟩;cases p with
      |nx ρ6=>exact fun σ6 H6 en6=>⟨ρ6,en6,by simpa[jC,h4,h5]using q2⟩
      |ct ρ6=>exact fun σ6 H6 en6=>⟨ρ6,en6,by simpa[jC,h4,h5]using q2⟩
      | bk ρ6=>
       have:Out.nx ρ6=o:=by simpa[jC,h4,h5]using q2
       subst this;exact fun σ6 H6 en6=>k σ6 H6 (back _ _ _ en6)
      | rt d=>
       have:Out.rt d=o:=by simpa[jC,h4,h5]using q2
       subst this;exact fun v H6 s6 r6=>k v H6 (sb _ s6) r6
   ·left
    have he:i=ds.length:=by omega
    have hn:ds.drop i=[]:=by rw[he];simp
    rw[hn]at q2;have:Out.nx ρ2=o:=by simpa[jC]using q2
    subst this;exact⟨g2 (by omega),k σ2 H2 (back _ _ _ en2)⟩
end
theorem Z4{H:Hp}{a:Addr}{o o':HO}:upd (upd H a o) a o'=upd H a o':=by
 funext b;by_cases h:b=a
 ·subst h;rw[jt,jt]
 ·rw[jp h,jp h,jp h]
section
variable {P:Program}{w:World}{K:Fg}{Hs H:Hp}{ρ:Rho}{σ:St}{i:Nat}
theorem EnvO.put{a:Addr}{d d':PyData}{φ:Heap->Prop}{H3:Hp}{c:HO}(E:EnvO P w K Hs H (some i) ρ σ)(h0:ρ[i]?=some (some d))(h2:σ[i]?=some (some (.ref a)))(h3:Hs a=none)(h5:H a=some (.ext φ))
  (s3:∀b u,b≠a->H b=some u->H3 b=some u) (ow:aa6 P w K (upd H3 a c) a d'):EnvO P w K Hs (upd H3 a c) (some i) (ρ.set i (some d')) σ:=by
 have hi:i < ρ.length:=(List.getElem?_eq_some_iff.mp h0).1
 have s4:j4 H (upd H3 a c):=fun b u q m=>by
  have:b≠a:=fun z=>by subst z;rw[h5]at q;cases q;exact m _ rfl
  rw[jp this];exact s3 b u this q
 refine⟨by simp[E.len],fun b u q=>?_,fun j x q n=>?_,fun j n=>?_⟩
 ·have:b≠a:=fun z=>by subst z;rw[h3]at q;cases q
  rw[jp this];exact s3 b u this (E.sm b u q)
 ·have hj:i≠j:=fun z=>n (by rw[z])
  rw[List.getElem?_set_ne hj]at q;obtain⟨v,g1,g2⟩:=E.pl j x q n;exact⟨v,g1,Rep.monoE s4 _ _ g2⟩
 ·cases n
  exact⟨d',a,by rw[List.getElem?_set_self hi],h2,h3,ow⟩
theorem EnvO.opnL{ds:LP}(E:EnvO P w K Hs H (some i) ρ σ)(h:ρ[i]?=some (some (.list ds))):∃a xs,σ[i]?=some (some (.ref a))/\Hs a=none/\H a=some (aa5 a xs)/\Reps K H ds xs/\EnvR K (upd H a (.lst xs)) ρ σ:=by
 obtain⟨d,a,h1,h2,h3,h4⟩:=E.ow i rfl;rw[h]at h1;cases h1;obtain⟨xs,h5,h6⟩:=h4;have s1:j4 H (upd H a (.lst xs)):=j4.upd h5;refine⟨a,xs,h2,h3,h5,h6,E.len,fun j x q=>?_⟩;by_cases hj:i=j
 ·subst hj
  rw[h]at q;cases q;exact⟨.ref a,h2,a,xs,rfl,jt,Reps.monoE s1 _ _ h6⟩
 ·obtain⟨v,g1,g2⟩:=E.pl j x q (fun z=>hj (Option.some.inj z))
  exact⟨v,g1,Rep.monoE s1 _ _ g2⟩
end
section
variable {X:Cx}{e a b c tg src:Expr}{es:List Expr}{st:Stmt}{sts qh body:List Stmt}{fa fb fc:RP}{F G:RO}{pos:Pos}
noncomputable def ar0(P:Program)(w:World)(K:Fg)(i:Nat)(g:RP):TE:=fun σ H Q=>∃Hs ρ d',EnvO P w K Hs H (some i) ρ σ/\g ρ=some d'/\∀H',EnvO P w K Hs H' (some i) (ρ.set i (some d')) σ->Q .non H'
noncomputable def acs(i:Nat)(g:RP):RO:=fun ρ=>(g ρ).map fun d=> .nx (ρ.set i (some d))
theorem aoi{i:Nat}{g:RP}(h:PE X e (ar0 X.prog X.w X.K i g))(hs:swapsWith e none pos.line X.env=pure false:=by rfl):PSO X (some i) (.Expr e pos) (acs i g):=by
 with_unfolding_all
  refine PS.imp (ae5 h hs) fun D σ H ⟨Hs,ρ,o,E,q,k⟩=>?_;cases h1:g ρ with
  |none=>simp[acs,h1]at q
  | some d=>
   have:Out.nx (ρ.set i (some d))=o:=by simpa[acs,h1]using q
   subst this;exact⟨Hs,ρ,d,E,h1,fun H' E'=>k σ H' E'⟩
noncomputable def aoj(c d:OP):OP:=match c,d with
 |some (.list ds),some d=>if noL d=true/\ds.length<1000000 then some (.list (ds++[d])) else none
 |_,_=>none
noncomputable def aee(i:Nat)(fa:RP):RP:=fun ρ=>aoj (lkp i ρ) (fa ρ)
theorem alH{c d:OP}{r:PyData}(h:aoj c d=some r):∃ds x,c=some (.list ds)/\d=some x/\noL x=true/\ds.length<1000000/\r= .list (ds++[x]):=by
 unfold aoj at h;split at h
 ·split at h
  ·rename_i hc
   cases h;exact⟨_,_,rfl,rfl,hc.1,hc.2,rfl⟩
  ·cases h
 ·cases h
theorem adi{n:Nat}(h:n<1000000):n<sizeLine:=Nat.lt_of_lt_of_le h (by rw[sizeLine_eq];decide)
theorem aj2(i:Nat){x:Str}{p1 apos cpos:Pos}(h:PD X e fa)(hN:X.N[i]?=some x:=by rfl)(hv:Vis X.env.scope x:=by first|exact Or.inl rfl|exact Or.inr (Or.inl rfl)|exact Or.inr (Or.inr rfl))(hd:(x==("__debug__":Str))=false:=by decide)
  (hcd:(x==("__classdict__":Str))=false:=by decide) (hbase:attributeBase (.Name x p1) "append" X.env (eval (.Name x p1) X.env)=eval (.Name x p1) X.env:=by rfl)
  (hfew:((backTo cpos (starEach [e] X.env)).all (fun x=>!x.1)&&(backToKw cpos (keywordEach [] X.env)).all (fun x=>x.1.isSome)&&decide ([e].length+([]:List Keyword).length+(if ([]:List Keyword).isEmpty then 0 else 1)<30))=true:=by rfl)
  (hline:(apos.endLine==cpos.line)=true:=by rfl) (hs:starEach [e] X.env=(false,eval e X.env)::starEach [] X.env:=by rfl) (hplain:(backTo cpos (starEach [] X.env)).any (·.1)=false:=by rfl):
  PE X (.Call (.Attribute (.Name x p1) "append" apos) [e] [] cpos) (ar0 X.prog X.w X.K i (aee i fa)):=by
 with_unfolding_all
  intro Kp s σ H Q I ⟨Hs,ρ,d',E,hg,k⟩;obtain⟨ds,d,q1,q2,hn,hl,rfl⟩:=alH hg;obtain⟨a,xs,g2,g3,g4,g5,env⟩:=E.opnL (Jw q1);have hlen:=g5.length;have W:=aiO (X:=X) (cpos:=cpos) (apos:=apos) PySem.F.plainAttrs_list PySem.F.slot_list_append PySem.F.type_list_append aep (ae3 hN hv hd hcd) (qL h Jk hs) hbase hfew hline hs hplain
  refine thn (W Kp s σ (upd H a (.lst xs)) (fun v H4=>∃H3 y,v= .non/\H4=upd H3 a (.lst (xs++[y]))/\jo (upd H a (.lst xs)) H3/\Rep X.K H3 d y) (Inv.opened I (.l xs) g4)
   ⟨.ref a,g2,.inl ⟨rfl,_,SqL.of jt⟩,ρ,d,env,q2,fun y H3 s3 r3=>⟨a,xs,y,rfl,rfl,s3 _ _ jt,by rw [hlen]; exact adi hl,H3,y,rfl,rfl,s3,r3⟩⟩) fun u s1 ⟨v,H4,I4,r,H3,y,e1,e2,s3,r3⟩=>?_
  subst e1;have e4:H4 a=some (.lst (xs++[y])):=by rw[e2];exact jt
  have sb:∀b u,b≠a->H b=some u->H4 b=some u:=fun b u n q=>by rw[e2,jp n];exact s3 b u (by rw[jp n];exact q)
  refine⟨.non,upd H4 a (aa5 a (xs++[y])),Inv.closed I4 (.l _) e4 (Inv.nofrz I g4),r,k _ (E.put (Jw q1) g2 g3 g4 sb ⟨xs++[y],jt,?_⟩)⟩
  have s5:j4 H (upd H4 a (aa5 a (xs++[y]))):=fun b u q m=>by
   have:b≠a:=fun z=>by subst z;rw[g4]at q;cases q;exact m _ rfl
   rw[jp this];exact sb b u this q
  have s6:Ja H3 (upd H4 a (aa5 a (xs++[y]))):=fun b u q m=>by
   have e3:H3 a=some (.lst xs):=s3 _ _ jt;have:b≠a:=fun z=>by subst z;rw[e3]at q;cases q;exact m _ rfl
   rw[jp this,e2,jp this];exact q
  exact(Reps.monoE s5 _ _ g5).append ⟨y,[],rfl,Rep.monoN s6 _ _ hn r3,rfl⟩
end
section
variable {X:Cx}{e a b c tg src:Expr}{es:List Expr}{st:Stmt}{sts qh body:List Stmt}{fa fb fc:RP}{F G:RO}{pos:Pos}
@[irreducible] noncomputable def PN(X:Cx)(e:Expr)(f:RP):Prop:=
 PE X e fun σ H Q=>∃ρ d,EnvR X.K H ρ σ/\f ρ=some d/\∀a H',jo H H'->H a=none->aa6 X.prog X.w X.K H' a d->Q (.ref a) H'
theorem aqE{fr:Rho->Option (LP)}(h:PAD X es fr):PN X (.List es pos) (aaY fr):=by
 with_unfolding_all
  intro Kp s σ H Q I ⟨ρ,d,en,hf,k⟩;cases h1:fr ρ with
  |none=>simp[aaY,h1]at hf
  | some ds=>
   by_cases hfew:few ds=true
   ·have:PyData.list ds=d:=by simpa[aaY,h1,hfew]using hf
    subst this;refine thn (ae8 h Kp s σ H (fun v H2=>∃a xs H1,v= .ref a/\H1 a=none/\jo H H1/\H2=upd H1 a (.lst xs)/\Reps X.K H1 ds xs) I ⟨ρ,ds,en,h1,fun vs H1 s1 r1=>⟨by rw[r1.length];exact adc (by simpa[few]using hfew),fun l hl=>⟨l,vs,H1,rfl,hl,s1,rfl,r1⟩⟩⟩) fun u s1 ⟨v,H2,I2,r,a,xs,H1,e1,e2,s1',e3,r1⟩=>?_;subst e1;have e4:H2 a=some (.lst xs):=by rw[e3];exact jt
    have e5:upd H2 a (aa5 a xs)=upd H1 a (aa5 a xs):=by rw[e3,Z4]
    have s2:jo H1 (upd H2 a (aa5 a xs)):=by rw[e5];exact jI e2
    exact⟨.ref a,_,Inv.closed I2 (.l xs) e4 (fun ob u z=>by have:=I.base.frzs _ _ _ z;rw[s1'.free e2]at this;cases this),r,k a _ (s1'.trans s2) (s1'.free e2) ⟨xs,jt,Reps.mono s2 _ _ r1⟩⟩
   ·simp[aaY,h1,hfew]at hf
theorem aa8:PN X (.Dict [] [] pos) (cst (.dict [(.none,.none)])):=by
 with_unfolding_all
  intro Kp s σ H Q I ⟨ρ,d,en,hf,k⟩;cases hf;refine thn (alh Kp s σ H (fun v H2=>∃a,v= .ref a/\H a=none/\H2=upd H a (.dK [])) I (fun l hl=>⟨l,rfl,hl,rfl⟩)) fun u s1 ⟨v,H2,I2,r,a,e1,e2,e3⟩=>?_;subst e1;have e4:H2 a=some (.dK []):=by rw[e3];exact jt
  obtain⟨ob,I3⟩:=Inv.sealedD I2 e4;have s2:jo H (upd H2 a (acd X.prog X.w a ob [])):=by rw[e3,Z4];exact jI e2
  exact⟨.ref a,_,I3,r,k a _ s2 e2 ⟨[],[],ob,rfl,jt,rfl⟩⟩
noncomputable def act(i:Nat)(f:RP)(G:RO):RO:=fun ρ=>(f ρ).bind fun d=>if i < ρ.length then (G (ρ.set i (some d))).bind fun o=>match o with
  |.rt c=>some (.rt c)
  |_=>none
 else none
theorem ZJ(i:Nat){x:Str}{pos':Pos}(hN:X.N.Nodup)(he:PN X e fa)(h:adg X (some i) qh G)(hi:X.N[i]?=some x:=by rfl)(hx:Loc X.env.scope x:=by first|exact Or.inl rfl|exact Or.inr rfl)(hs:swapsWith e (some (.Name x pos')) pos.line X.env=pure false:=by rfl)
  (hf:X.fn x=true∨X.env.scope.names.lookup x=some .local:=by first|exact .inl rfl|exact .inr rfl|assumption):adg X none (.Assign [.Name x pos'] e pos::qh) (act i fa G):=by
 with_unfolding_all
  refine PSs.imp (Ju (ac3 hN hi hx he hs hf) h) fun D σ H ⟨Hs,ρ,o,E,q,k⟩=>?_;cases h1:fa ρ with
  |none=>simp[act,h1]at q
  | some d=>
   by_cases hl:i < ρ.length
   ·cases h2:G (ρ.set i (some d))with
    |none=>simp[act,h1,h2]at q
    | some p=>
     cases p with
     | rt c=>
      have:Out.rt c=o:=by simpa[act,h1,h2,hl]using q
      subst this;refine⟨ρ,d,E.to,h1,fun a H' s hn ow=>⟨Hs,ρ.set i (some d),.rt c,⟨by simp[E.len],E.sm.trans s,fun j y q n=>?_,fun j n=>?_⟩,h2,k⟩⟩
      ·have hj:i≠j:=fun z=>n (by rw[z])
       rw[List.getElem?_set_ne hj]at q ⊢;obtain⟨v,g1,g2⟩:=E.pl j y q (fun z=>nomatch z);exact⟨v,g1,Rep.mono s _ _ g2⟩
      ·cases n
       refine⟨d,a,by rw[List.getElem?_set_self hl],by rw[List.getElem?_set_self (by rw[←E.len];exact hl)],E.sm.free hn,ow⟩
     |nx _=>simp[act,h1,h2,hl]at q
     |bk _=>simp[act,h1,h2,hl]at q
     |ct _=>simp[act,h1,h2,hl]at q
   ·simp[act,h1,hl]at q
noncomputable def isI(n:Int):PyData->Bool
 |.int m=>decide (m=n)
 |_=>false
noncomputable def isS(t:Str):PyData->Bool
 |.str m=>decide (m=t)
 |_=>false
noncomputable def afq(κ:Key)(d:PyData):Bool:=match κ with
 |.inl n=>isI n d
 |.inr t=>isS t d
theorem ZK(κ κ':Key):afq κ (agn κ')=decide (κ'=κ):=by
 cases κ<;>cases κ'<;>simp[afq,isI,isS,agn]
noncomputable def aeC(r:List (PyData×PyData))(κ:Key):OP:=(r.find? fun p=>afq κ p.1).map (·.2)
noncomputable def apG(r:List (PyData×PyData))(κ:Key)(d:PyData):List (PyData×PyData):=if r.any (fun p=>afq κ p.1)=true then r.map (fun p=>if afq κ p.1=true then (p.1,d) else p) else r++[(agn κ,d)]
noncomputable def zO(r:List (PyData×PyData))(n:Int):OP:=(r.find? fun p=>isI n p.1).map (·.2)
noncomputable def aef(r:List (PyData×PyData))(n:Int)(d:PyData):List (PyData×PyData):=if r.any (fun p=>isI n p.1)=true then r.map (fun p=>if isI n p.1=true then (p.1,d) else p) else r++[(.int n,d)]
theorem aeD{K:Fg}{H:Hp}(n:Key):∀{r:List (PyData×PyData)}{ks:List (Key×V)},RepM K H r ks->(aeC r n=none/\Qz ks n=none)∨∃d x,aeC r n=some d/\Qz ks n=some x/\Rep K H d x
 | [],ks,h=>by cases (show ks=[] from h);exact .inl ⟨rfl,rfl⟩
 | (k,d)::r,ks,⟨i,x,s,h1,h2,h3,h4⟩=>by
  subst h1;subst h2;by_cases hn:i=n
  ·subst hn
   exact .inr ⟨d,x,by simp[aeC,ZK],by simp[Qz],h3⟩
  ·have e1:aeC ((agn i,d)::r) n=aeC r n:=by simp[aeC,ZK,hn,List.find?_cons]
   have e2:Qz ((i,x)::s) n=Qz s n:=by simp[Qz,List.find?_cons,hn]
   rw[e1,e2];exact aeD n h4
theorem adj{K:Fg}{H:Hp}(n:Int){r:List (PyData×PyData)}{ks:List (Key×V)}(h:RepM K H r ks):(zO r n=none/\Qz ks (Sum.inl n:Key)=none)∨∃d x,zO r n=some d/\Qz ks (Sum.inl n:Key)=some x/\Rep K H d x:=aeD (.inl n) h
theorem RepM.anyK{K:Fg}{H:Hp}(n:Key):∀{r:List (PyData×PyData)}{ks:List (Key×V)},RepM K H r ks->r.any (fun p=>afq n p.1)=ks.any fun kv=>decide (kv.1=n)
 | [],ks,h=>by cases (show ks=[] from h);rfl
 | (k,d)::r,ks,⟨i,x,s,h1,h2,h3,h4⟩=>by
  subst h1;subst h2;rw[List.any_cons,List.any_cons,RepM.anyK n h4,ZK]
theorem RepM.any{K:Fg}{H:Hp}(n:Int){r:List (PyData×PyData)}{ks:List (Key×V)}(h:RepM K H r ks):r.any (fun p=>isI n p.1)=ks.any fun kv=>decide (kv.1=(Sum.inl n:Key)):=RepM.anyK (.inl n) h
theorem RepM.replK{K:Fg}{H:Hp}(n:Key){d':PyData}{x':V}(hr:Rep K H d' x'):∀{r:List (PyData×PyData)}{ks:List (Key×V)},RepM K H r ks->
  RepM K H (r.map fun p=>if afq n p.1=true then (p.1,d') else p) (ks.map fun kv=>if kv.1=n then (kv.1,x') else kv)
 | [],ks,h=>by cases (show ks=[] from h);exact rfl
 | (k,d)::r,ks,⟨i,x,s,h1,h2,h3,h4⟩=>by
  subst h1;subst h2;by_cases hn:i=n
  ·subst hn
   have c1:afq i ((agn i,d):PyData×PyData).1=true:=by simp[ZK]
   rw[List.map_cons,List.map_cons,if_pos c1,if_pos rfl];exact⟨i,x',_,rfl,rfl,hr,RepM.replK i hr h4⟩
  ·have c1:¬ afq n ((agn i,d):PyData×PyData).1=true:=by simp[ZK,hn]
   rw[List.map_cons,List.map_cons,if_neg c1,if_neg hn];exact⟨i,x,_,rfl,rfl,h3,RepM.replK n hr h4⟩
theorem RepM.snocK{K:Fg}{H:Hp}(n:Key){d':PyData}{x':V}(hr:Rep K H d' x'):∀{r:List (PyData×PyData)}{ks:List (Key×V)},RepM K H r ks->RepM K H (r++[(agn n,d')]) (ks++[(n,x')])
 | [],ks,h=>by cases (show ks=[] from h);exact⟨n,x',[],rfl,rfl,hr,rfl⟩
 | (k,d)::r,ks,⟨i,x,s,h1,h2,h3,h4⟩=>by
  subst h2;exact⟨i,x,_,h1,rfl,h3,RepM.snocK n hr h4⟩
theorem RepM.putK{K:Fg}{H:Hp}(n:Key){d':PyData}{x':V}(hr:Rep K H d' x'){r:List (PyData×PyData)}{ks:List (Key×V)}(h:RepM K H r ks):RepM K H (apG r n d') (_root_.L2.putK ks n x'):=by
 unfold apG _root_.L2.putK;rw[h.anyK n];by_cases c:(ks.any fun kv=>decide (kv.1=n))=true
 ·rw[if_pos c,if_pos c];exact h.replK n hr
 ·rw[if_neg c,if_neg c];exact h.snocK n hr
theorem RepM.put{K:Fg}{H:Hp}(n:Int){d':PyData}{x':V}(hr:Rep K H d' x'){r:List (PyData×PyData)}{ks:List (Key×V)}(h:RepM K H r ks):RepM K H (aef r n d') (_root_.L2.putK ks (Sum.inl n) x'):=RepM.putK (.inl n) hr h
theorem RepM.length{K:Fg}{H:Hp}:∀{r:List (PyData×PyData)}{ks:List (Key×V)},RepM K H r ks->ks.length=r.length
 | [],ks,h=>by cases (show ks=[] from h);rfl
 | (k,d)::r,ks,⟨i,x,s,h1,h2,h3,h4⟩=>by subst h2;simp[RepM.length h4]
noncomputable def ar1(P:Program)(w:World):V->V->V->Hp->(Hp->Prop)->Prop:=fun o k v H Q=>∃a ks ob n,o= .ref a/\k= .int n/\H a=some (acd P w a ob ks)/\ks.length<sizeLine/\∀ob',Q (upd H a (acd P w a ob' (putK ks (Sum.inl n) v)))
theorem alI(hu:X.A.units+1<cLine):anF X (ar1 X.prog X.w):=by
 intro Kp s σ H o k v ov iv u Q I ro rk rv ⟨a,ks,ob,n,e1,e2,h1,h2,q⟩;subst e1;subst e2;cases ro;obtain⟨t,rfl⟩:=rk;refine ajS hu (Inv.openD I h1) (ajQ.k (k:=Sum.inl n) jt h2) ⟨t,rfl⟩ rv fun s' I'=>?_;obtain⟨ob',I2⟩:=Inv.sealedD I' jt;rw[Z4,Z4]at I2;exact⟨_,I2,q ob'⟩
noncomputable def adk(c v k:OP):OP:=match c,v,k with
 |some (.dict ((.none,.none)::r)),some d,some (.int n)=>if r.length<1000000 then some (.dict ((.none,.none)::aef r n d)) else none
 |_,_,_=>none
theorem alJ{c v k:OP}{o:PyData}(h:adk c v k=some o):∃r d n,c=some (.dict ((.none,.none)::r))/\v=some d/\k=some (.int n)/\r.length<1000000/\o= .dict ((.none,.none)::aef r n d):=by
 unfold adk at h;split at h
 ·split at h
  ·rename_i hc
   cases h;exact⟨_,_,_,rfl,rfl,rfl,hc,rfl⟩
  ·cases h
 ·cases h
noncomputable def aj3(i:Nat)(fk fv:RP):RO:=fun ρ=>(adk (lkp i ρ) (brw (some i) fv ρ) (brw (some i) fk ρ)).map fun d=> .nx (ρ.set i (some d))
theorem acA(i:Nat){x:Str}{p1 p2:Pos}{fk fv:RP}(hu:X.A.units+1<cLine)(hk:PD X b fk)(he:PD X e fv)(hN:X.N[i]?=some x:=by rfl)(hv:Vis X.env.scope x:=by first|exact Or.inl rfl|exact Or.inr (Or.inl rfl)|exact Or.inr (Or.inr rfl))
  (hd:(x==("__debug__":Str))=false:=by decide) (hcd:(x==("__classdict__":Str))=false:=by decide)
  (ha:∀v,assign (.Subscript (.Name x p1) b p2) X.env v=(do
   let ov ←holding [v] (eval (.Name x p1) X.env)
   let iv ←holding [v,ov] (eval b X.env)
   standAt p2
   holding [v,ov,iv] (setItem ov iv v)
   release [v,ov,iv] []):=by intro _; rfl)
  (hs:swapsWithSole [.Subscript (.Name x p1) b p2] e pos.line X.env=pure false:=by rfl) (hw:swappedStores [.Subscript (.Name x p1) b p2] e X.env=pure none:=by rfl)
  (h1:(assignEach [.Subscript (.Name x p1) b p2] X.env).map (·.2)=[assign (.Subscript (.Name x p1) b p2) X.env]:=by rfl):PSO X (some i) (.Assign [.Subscript (.Name x p1) b p2] e pos) (aj3 i fk fv):=by
 with_unfolding_all
  refine PS.imp (ahS (afo (own:=some i) he) (ap5 (ae3 hN hv hd hcd) (afo (own:=some i) hk) (alI hu) ha) hs hw h1) fun D σ H ⟨Hs,ρ,o,E,q,k⟩=>?_;cases hp:adk (lkp i ρ) (brw (some i) fv ρ) (brw (some i) fk ρ)with
  |none=>simp[aj3,hp]at q
  | some nw=>
   have:Out.nx (ρ.set i (some nw))=o:=by simpa[aj3,hp]using q
   subst this;obtain⟨r,d,n,q1,q2,q3,hl,rfl⟩:=alJ hp;refine⟨Hs,ρ,d,E,q2,fun v H1 s1 E1 r1=>?_⟩;obtain⟨d0,a,g1,g2,g3,g4⟩:=E1.ow i rfl;rw[Jw q1]at g1;cases g1;refine⟨.ref a,g2,Hs,ρ,.int n,E1,q3,fun kv H2 s2 E2 r2=>?_⟩;cases (show kv=V.int n from r2);obtain⟨d1,a1,f1,f2,f3,f4⟩:=E2.ow i rfl;rw[Jw q1]at f1;cases f1;rw[g2]at f2;cases f2;obtain⟨ks,r',ob,e1,e2,e3⟩:=f4;cases e1;refine⟨a,ks,ob,n,rfl,rfl,e2,by rw[e3.length];exact adi hl,fun ob'=>k _ _ (E2.put (Jw q1) g2 f3 e2 (fun _ _ _ z=>z) ⟨_,_,ob',rfl,jt,?_⟩)⟩;have s5:j4 H2 (upd H2 a (acd X.prog X.w a ob' (putK ks (Sum.inl n) v))):=j4.upd e2;exact RepM.put n (Rep.monoE (s2.trans s5) _ _ r1) (RepM.monoE s5 _ _ e3)
end
noncomputable def qM:PyData->Option (List (PyData×PyData))
 |.dict ((.none,_)::r)=>some r
 |_=>none
theorem zW{K:Fg}{H:Hp}{d:PyData}{r:List (PyData×PyData)}{v:V}(h:qM d=some r)(q:Rep K H d v):∃a ks ob,v= .ref a/\H a=some (.frz ob (.dK ks))/\RepM K H r ks:=by
 unfold qM at h;split at h
 ·cases h
  obtain⟨a,h1,⟨ns,h2,h3⟩ | ⟨ks,ob,h2,h3⟩ | ⟨x,h2,_⟩ | ⟨x,_,_,h2,_⟩ | h2⟩:=q
  ·cases ns with
   |nil=>cases h3
   |cons n ns=>cases h3
  ·exact⟨a,ks,ob,h1,h2,h3⟩
  ·cases h2
  ·cases h2
  ·cases h2
 ·cases h
theorem adl{H:Hp}{a:Addr}{ob:Obj}{ks:List (Key×V)}(h:H a=some (.frz ob (.dK ks)))(n:Int):aco H a (.int n) (Qz ks (Sum.inl n:Key)):= .inl ⟨ks,Sum.inl n,.inr ⟨ob,h⟩,rfl,rfl⟩
section
variable {X:Cx}{e a b c tg src:Expr}{es:List Expr}{fa fb fc:RP}{pos:Pos}
noncomputable def QC(p q:PyData):OP:=match qM p,q with
 |some r,.int n=>zO r n
 |_,_=>none
theorem ZL(hu:X.A.units+1<cLine)(ha:PD X a fa)(hb:PD X b fb)(hs:aqo b:=by intro _ _;rfl):PD X (.Subscript a b pos) (op2 QC fa fb):=by
 with_unfolding_all
  refine PE.imp (anV hu ha hb hs) fun σ H Q ⟨ρ,d,en,h,k⟩=>?_;cases h1:fa ρ with
  |none=>simp[op2,h1]at h
  | some p=>
   cases h2:fb ρ with
   |none=>simp[op2,h1,h2]at h
   | some q=>
    have h':QC p q=some d:=by simpa[op2,h1,h2]using h
    unfold QC at h';split at h'
    ·rename_i r n hp
     refine⟨ρ,p,en,h1,fun v H1 s1 r1=>⟨ρ,.int n,en.mono s1,h2,fun y H2 s2 r2=>?_⟩⟩;cases (show y=V.int n from r2);obtain⟨ad,ks,ob,e1,e2,e3⟩:=zW hp (Rep.mono s2 _ _ r1);rcases adj n e3 with ⟨z,_⟩ | ⟨d',x,z1,z2,z3⟩
     ·rw[z]at h';cases h'
     ·rw[z1]at h';cases h'
      exact⟨ad,x,e1,by rw[←z2];exact adl e2 n,k x H2 (s1.trans s2) z3⟩
    ·cases h'
noncomputable def JZ(p q z:PyData):OP:=match qM p,q with
 |some r,.int n=>some ((zO r n).getD z)
 |_,_=>none
noncomputable def zk(fa fb fc:RP):RP:=fun ρ=>(fa ρ).bind fun p=>(fb ρ).bind fun q=>(fc ρ).bind fun z=>JZ p q z
theorem Jb{apos cpos:Pos}(hu:X.A.units+1<cLine)(ha:PD X a fa)(hb:PD X b fb)(hc:PD X c fc)(m:M2 X a "get" apos b c cpos:=by exact⟨rfl,rfl,rfl,rfl⟩):PD X (.Call (.Attribute a "get" apos) [b,c] [] cpos) (zk fa fb fc):=by
 with_unfolding_all
  refine PE.imp (alj hu ha hb hc m) fun σ H Q ⟨ρ,d,en,h,k⟩=>?_;cases h1:fa ρ with
  |none=>simp[zk,h1]at h
  | some p=>
   cases h2:fb ρ with
   |none=>simp[zk,h1,h2]at h
   | some q=>
    cases h3:fc ρ with
    |none=>simp[zk,h1,h2,h3]at h
    | some z=>
     have h':JZ p q z=some d:=by simpa[zk,h1,h2,h3]using h
     unfold JZ at h';split at h'
     ·rename_i r n hp
      cases h';refine⟨ρ,p,en,h1,fun v H1 s1 r1=>?_⟩;obtain⟨ad,ks,ob,e1,e2,e3⟩:=zW hp r1;refine⟨ad,e1,.inl ⟨ks,.inr ⟨ob,e2⟩⟩,ρ,.int n,en.mono s1,h2,fun y H2 s2 r2=>⟨ρ,z,(en.mono s1).mono s2,h3,fun y3 H3 s3 r3=>?_⟩⟩;cases (show y=V.int n from r2);refine⟨_,adl (s3 _ _ (s2 _ _ e2)) n,?_⟩;rcases adj n (RepM.mono (s2.trans s3) _ _ e3)with ⟨z1,z2⟩ | ⟨d',x,z1,z2,z3⟩
      ·rw[z2];exact k _ H3 (s1.trans (s2.trans s3)) (by rw[z1];exact r3)
      ·rw[z2];exact k _ H3 (s1.trans (s2.trans s3)) (by rw[z1];exact z3)
     ·cases h'
noncomputable def adm(neg:Bool)(q p:PyData):OP:=match qM p,q with
 |some r,.int n=>some (.bool (if neg then !(zO r n).isSome else (zO r n).isSome))
 |_,_=>none
theorem afr(hu:X.A.units+1<cLine)(ha:PD X a fa)(hb:PD X b fb):PC X .In a b (tD X.K (op2 (adm false) fa fb)):=by
 with_unfolding_all
  intro Kp s σ H Q I ⟨ρ,d,en,h,k⟩;cases h1:fa ρ with
  |none=>simp[op2,h1]at h
  | some q=>
   cases h2:fb ρ with
   |none=>simp[op2,h1,h2]at h
   | some p=>
    have h':adm false q p=some d:=by simpa[op2,h1,h2]using h
    unfold adm at h';split at h'
    ·rename_i r n hp
     cases h';refine aqp hu ha hb Kp s σ H Q I ⟨ρ,.int n,en,h1,fun v H1 s1 r1=>⟨ρ,p,en.mono s1,h2,fun y H2 s2 r2=>?_⟩⟩;cases (show v=V.int n from r1);obtain⟨ad,ks,ob,e1,e2,e3⟩:=zW hp r2;refine⟨ad,_,e1,adl e2 n,k _ H2 (s1.trans s2) ?_⟩;rcases adj n e3 with ⟨z1,z2⟩ | ⟨d',x,z1,z2,z3⟩
     ·rw[z1,z2];rfl
     ·rw[z1,z2];rfl
    ·cases h'
theorem aab{op:CmpOp}{f:RP}(h:PC X op a b (tD X.K f))(hm:behindInMarks op b=false:=by first|exact ae7 _ | with_unfolding_all rfl):PTD X (.Compare a [op] [b] pos) (tst f):=by
 with_unfolding_all
  refine PT.imp (apX h hm) fun σ H Q ⟨ρ,t,en,h,k⟩=>?_;cases hd:f ρ with
  |none=>simp[tst,hd]at h
  | some d=>
   have ht:d= .bool t:=JW (by simpa[tst,hd]using h);subst ht;exact⟨ρ,_,en,hd,fun v H' s r=>⟨t,r,k H' s⟩⟩
noncomputable def Itd(d:Addr)(ob:Obj)(ks:List (Key×V)):It:=
 ⟨fun i H=>H d=some (.frz ob (.dK ks))/\i<ks.length,fun i H x H'=>H'=H/\∃kv,ks[i]?=some kv/\x=kV kv.1,fun i H=>H d=some (.frz ob (.dK ks))/\ks.length<=i⟩
theorem aj4{k:Key}{v:Value}(h:ab7 k v=true):jS (kV k) v:=by
 rcases qf h with ⟨i,t,rfl,rfl⟩ | ⟨x,t,rfl,rfl⟩
 ·exact⟨t,rfl⟩
 ·exact⟨t,rfl⟩
theorem alK{P:Program}{w:World}{H:Hp}{h:Heap}{d:Addr}{ob:Obj}{ks:List (Key×V)}{es:Array DictEntry}{ep:Nat}(ok:HOk P w H h)(e:H d=some (.frz ob (.dK ks)))(hd:ob.data= .dict es ep):∃vs,KV ks vs/\h.DictAt (jV P w) d vs ep:=by
 obtain⟨h0,z,nm,vs,rel,ob',es',ep',h4,h5,h6,h7⟩:=ok d _ e;rw[h0]at h4;cases h4;rw[hd]at h6;cases h6;exact⟨vs,rel,ob,es,h0,h5,hd,h7⟩
theorem aj5{P:Program}{w:World}{K:Fg}{tg:Expr}(d it:Addr)(hne:d≠it)(ob:Obj)(ks:List (Key×V))(es:Array DictEntry)(ep:Nat)(hd:ob.data= .dict es ep):Turn P w K tg (Itd d ob ks) [it] it (fun i h=>h.IsKeyIter it d i ks.length ep) where
 mem:=by simp
 obj:=fun i h st b hb=>by
  have e:b=it:=by simpa using hb
  subst e;obtain⟨o,e,c,d⟩:=st;exact⟨o,e,fun v z=>by rw[d]at z;cases z⟩
 keep:=fun i h h' st k=>st.at fun o e=>k it (by simp) o e
 item:=by
  intro X hP hw hK hc i Kp s σ H E I hf st hg;subst hP hw hK;obtain⟨hH,hi⟩:=hg;obtain⟨vs,rel,dat⟩:=alK I.hok hH hd;have hl:=rel.length;obtain⟨f0,f1,f2,f3,f4,f5⟩:=hf it (by simp);have hi':i<vs.length:=by omega
  obtain⟨⟨k,x⟩,hx⟩:∃p,vs[i]?=some p:=⟨vs[i],by simp[hi']⟩;rw[hl]at st;refine wpAny_pyNext_dict_item st dat hx fun key h' hkey st' sb=>?_;have I1:Inv X Kp σ H { s with heap:=h' }:=I.turned (t':=s.toks) (fun b o hb e=>(sb.2 b hb).trans e) f0 f1 f3 f4 f5;obtain⟨o,e,c,dd⟩:=id st';rw[←hl]at st';have hk:(ks.map (·.1))[i]?=some k:=by rw[rel.keys,List.getElem?_map,hx];rfl
  rw[List.getElem?_map]at hk;cases hq:ks[i]? with
  |none=>rw[hq]at hk;cases hk
  | some kv=>
   rw[hq]at hk;have hk':kv.1=k:=by simpa using hk
   exact⟨key,rfl,agg (s:={ s with heap:=h' }) e c dd (by decide) ⟨kV k,H,I1,aj4 hkey,⟨rfl,kv,hq,by rw[hk']⟩,st',fun b hb=>(hf b hb).1⟩⟩
 done:=by
  intro X hP hw hK hc i Kp s σ H E I hf st hg;subst hP hw hK;obtain⟨hH,hi⟩:=hg;obtain⟨vs,rel,dat⟩:=alK I.hok hH hd;have hl:=rel.length;obtain⟨f0,f1,f2,f3,f4,f5⟩:=hf it (by simp);rw[hl]at st;exact wpAny_pyNext_dict_end (I.ok.hd hc) st dat (by simp;omega) fun h' eb=>⟨rfl,I.turned (t':=s.toks) (fun b o hb e=>eb b o hb e) f0 f1 f3 f4 f5⟩
 self:=fun _ _ _ _ _ st h=>wpAny_pyIter_keyiter st h
end
section
variable {X:Cx}{e a b c tg src:Expr}{es:List Expr}{fa fb fc:RP}{pos:Pos}
noncomputable def asU(K:Fg)(tl:TE):TI:=fun σ H R=>tl σ H fun x H1=>∃d ob ks,x= .ref d/\H1 d=some (.frz ob (.dK ks))/\R (Itd d ob ks) H1
theorem aok{l:Expr}{tl:TE}(hl:PE X l tl):PI X tg l (asU X.K tl):=by
 intro Kp s σ H R I h;refine thn (hl Kp s σ H _ I h) fun v s1 ⟨x,H1,I1,r1,q1⟩=>?_;obtain⟨d,ob,ks,e,hq,q⟩:=q1;subst e;cases r1;obtain⟨h0,z,nm,vs,rel,ob',es,ep,h4,h5,h6,h7⟩:=I1.hok d _ hq;rw[h0]at h4;cases h4;have hl:=rel.length;refine wpAny_pyIter_dict nm (show s1.heap.DictAt (jV X.prog X.w) d vs ep from⟨ob,es,h0,h5,h6,h7⟩) ?_;rw[←hl];refine⟨s1.heap.objs.size,[s1.heap.objs.size],_,_,H1,rfl,I1.kept (t':=s1.toks) fun b o e=>Heap.get?_push_of_some _ e,aj5 d _ (Nat.ne_of_lt (Heap.lt_size h0)) ob ks es ep h6,⟨_,Heap.get?_push_size _ rfl,rfl,rfl⟩,fun b hb=>?_,q⟩;have e:b=s1.heap.objs.size:=by simpa using hb
 subst e;exact I1.fpOk (Nat.le_refl _) (I1.hok.fresh (Nat.le_refl _))
theorem RepM.keys{K:Fg}{H:Hp}:∀{r:List (PyData×PyData)}{ks:List (Key×V)}{i:Nat}{d:PyData}{kv:Key×V},RepM K H r ks->(r.map (·.1))[i]?=some d->ks[i]?=some kv->Rep K H d (kV kv.1)
 | [],ks,i,d,kv,h,e,q=>by simp at e
 | (k,c)::r,ks,0,d,kv,⟨i,x,s,h1,h2,h3,h4⟩,e,q=>by
  subst h1;subst h2;simp at e q;subst e;subst q;cases i<;>exact rfl
 | (k,c)::r,ks,j+1,d,kv,⟨i,x,s,h1,h2,h3,h4⟩,e,q=>by
  subst h2;exact RepM.keys (i:=j) h4 (by simpa using e) (by simpa using q)
noncomputable def itD(fa:RP):Rho->Option (LP):=fun ρ=>(fa ρ).bind fun d=>(qM d).map fun r=>r.map (·.1)
theorem aa9(h:PD X e fa):PID X tg e (itD fa):=by
 with_unfolding_all
  refine PI.imp (aok h) fun σ H R ⟨ρ,ds,en,q,k⟩=>?_;cases h1:fa ρ with
  |none=>simp[itD,h1]at q
  | some d=>
   cases h2:qM d with
   |none=>simp[itD,h1,h2]at q
   | some r=>
    have:r.map (·.1)=ds:=by simpa[itD,h1,h2]using q
    subst this;refine⟨ρ,_,en,h1,fun v H1 s1 r1=>?_⟩;obtain⟨a,ks,ob,e1,e2,e3⟩:=zW h2 r1;have hl:=e3.length;refine⟨a,ob,ks,e1,e2,k _ H1 s1 fun i H2 s2=>⟨fun hi=>?_,fun hi=>?_,fun x H' y=>?_⟩⟩
    ·exact⟨s2 _ _ e2 rfl,by rw[hl];simpa using hi⟩
    ·exact⟨s2 _ _ e2 rfl,by rw[hl];simpa using hi⟩
    ·obtain⟨z1,kv,z2,z3⟩:=y
     subst z1;subst z3;exact⟨jo.refl _,fun d hd=>RepM.keys (RepM.monoA s2 _ _ e3) hd z2⟩
noncomputable def alL(fa fb:RP):RP:=fun ρ=>(fa ρ).bind fun k=>(fb ρ).bind fun d=>match k with
 |.int n=>some (.dict [(.none,.none),(.int n,d)])
 |_=>none
theorem agu(ha:PD X a fa)(hb:PD X b fb):PD X (.Dict [some a] [b] pos) (alL fa fb):=by
 with_unfolding_all
  intro Kp s σ H Q I ⟨ρ,d,en,hf,k⟩;cases h1:fa ρ with
  |none=>simp[alL,h1]at hf
  | some p=>
   cases h2:fb ρ with
   |none=>simp[alL,h1,h2]at hf
   | some q=>
    cases p with
    | int n=>
     have:PyData.dict [(.none,.none),(.int n,q)]=d:=by simpa[alL,h1,h2]using hf
     subst this;have W:=anX (X:=X) (pos:=pos) (ali ha hb anW) rfl rfl (by simp) (by simp);refine thn (W Kp s σ H (fun v H4=>∃l y H3,v= .ref l/\H l=none/\H3 l=some (.dK [])/\jo (upd H l (.dK [])) H3/\Rep X.K H3 q y/\H4=upd H3 l (.dK [(Sum.inl n,y)])) I fun l hl=>?_) fun u s1 ⟨v,H4,I4,r,l,y,H3,e1,e2,e3,e4,e5,e6⟩=>?_
     ·have s0:jo H (upd H l (.dK [])):=jI hl
      refine⟨ρ,.int n,en.mono s0,h1,fun x H1 s1 r1=>⟨ρ,q,(en.mono s0).mono s1,h2,fun y H2 s2 r2=>?_⟩⟩;cases (show x=V.int n from r1);have el:H2 l=some (.dK []):=s2 _ _ (s1 _ _ jt);exact⟨el,[(Sum.inl n,y)],rfl,by simp,l,y,H2,rfl,hl,el,s1.trans s2,r2,rfl⟩
     ·subst e1
      have e7:H4 l=some (.dK [(Sum.inl n,y)]):=by rw[e6];exact jt
      obtain⟨ob,I5⟩:=Inv.sealedD I4 e7;have I6:=Inv.opened I5 (.d ob _) jt;rw[Z4]at I6
      have sA:qp H3 (upd H4 l (.frz ob (.dK [(Sum.inl n,y)]))):=fun b o z dt=>by
       have:b≠l:=fun m=>by subst m;rw[e3]at z;cases z;cases dt
       rw[jp this,e6,jp this];exact z
      have sH:jo H (upd H4 l (.frz ob (.dK [(Sum.inl n,y)]))):=fun b o z=>by
       have:b≠l:=fun m=>by subst m;rw[e2]at z;cases z
       rw[jp this,e6,jp this];exact e4 b o (by rw[jp this];exact z)
      exact⟨.ref l,_,I6,r,k _ _ sH ⟨l,rfl,.inr (.inl ⟨_,ob,jt,show RepM X.K _ [(.int n,q)] _ from⟨.inl n,y,[],rfl,rfl,Rep.monoA sA _ _ e5,rfl⟩⟩)⟩⟩
    |_=>simp[alL,h1,h2]at hf
end
end BX
end
section
namespace BX
open PySem PySem.Spec L2
theorem agv(l:Addr)(items:Array Value)(n:Nat)(u:Tok)(dd:Option Addr)(sl:Array (Option Value)):
  Meets (Builtin.«tuple.__mul__» ⟨[.ref l,.int 1 u],[]⟩) (fun _ R s=>s.heap.get? l=some { cls:= .type "tuple",dict:=dd,data:= .seq items n,slots:=sl }/\R (.ok (.ret (.ref l))) s):=
 .of_wp fun prog w A R s h=>by
  obtain⟨hp,g,d,tk,os⟩:=s;obtain⟨hl,h⟩:=h;have e1:(items.isEmpty||(1:Int)==1)=true:=by simp
  wp_walk
  exact⟨_,rfl,h⟩
theorem agw(l:Addr)(items:Array Value)(n:Nat)(x:Int)(u:Tok)(dd:Option Addr)(sl:Array (Option Value))(hx:x<=0)(hx2:-(2 ^ 63)<=x)(hi:items.isEmpty=false):
  Meets (Builtin.«tuple.__mul__» ⟨[.ref l,.int x u],[]⟩) (fun _ R s=>s.heap.get? l=some { cls:= .type "tuple",dict:=dd,data:= .seq items n,slots:=sl }/\R (.ok (.ret (.ref s.heap.objs.size))) { s with heap:=s.heap.push { cls:= .type "tuple",data:= .seq #[] } }):=
 .of_wp fun prog w A R s h=>by
  obtain⟨hp,g,d,tk,os⟩:=s;obtain⟨hl,h⟩:=h;have e0:(decide (x < -(2 ^ 63))||decide (x >= 2 ^ 63))=false:=by simp;omega
  have e1:(items.isEmpty||x==1)=false:=by rw[hi];simp;omega
  have e2:(decide (x<=0)||items.isEmpty)=true:=by simp[hx]
  wp_walk
  refine wpAny_ite_false (by rw[e0];rfl) ?_
  wp_walk
  refine wpAny_ite_false (by rw[e1];rfl) ?_
  wp_walk
  exact⟨_,rfl,h⟩
theorem agx(l:Addr)(items:Array Value)(n:Nat)(x:Int)(u:Tok)(dd:Option Addr)(sl:Array (Option Value))(hx:2<=x)(hx2:x<2 ^ 63)(hi:items.isEmpty=false)(hz:(items.size:Int)*x<=sizeLine)(hsz:(List.foldl (fun x1 x2=>x1++x2) #[] (List.replicate x.toNat items)).size<=sizeLine):
  Meets (Builtin.«tuple.__mul__» ⟨[.ref l,.int x u],[]⟩) (fun _ R s=>s.heap.get? l=some { cls:= .type "tuple",dict:=dd,data:= .seq items n,slots:=sl }/\R (.ok (.ret (.ref s.heap.objs.size))) { s with heap:=s.heap.push { cls:= .type "tuple",data:= .seq (List.foldl (fun x1 x2=>x1++x2) #[] (List.replicate x.toNat items)) } }):=
 .of_wp fun prog w A R s h=>by
  obtain⟨hp,g,d,tk,os⟩:=s;obtain⟨hl,h⟩:=h;have hs:((2 ^ 63-1) / 8:Int) >= (sizeLine:Int):=by rw[sizeLine_eq];decide
  have e0:(decide (x < -(2 ^ 63))||decide (x >= 2 ^ 63))=false:=by simp;omega
  have e1:(items.isEmpty||x==1)=false:=by rw[hi];simp;omega
  have e2:(decide (x<=0)||items.isEmpty)=false:=by rw[hi];simp;omega
  have e3:¬ (items.size:Int)*x>(2 ^ 63-1) / 8:=by omega
  have e4:Builtin.Tuple.tupleTooMany ((items.size:Int)*x)=false:=by simp[Builtin.Tuple.tupleTooMany];omega
  wp_walk
  refine wpAny_ite_false (by rw[e0];rfl) ?_
  wp_walk
  refine wpAny_ite_false (by rw[e1];rfl) ?_
  wp_walk
  refine wpAny_ite_false (by rw[e2];rfl) ?_
  wp_walk
  rw[if_neg e3];refine wpAny_ite_false (by rw[e4];rfl) ?_
  wp_walk
  exact⟨_,rfl,h⟩
theorem abR:fillsNumberSlot (.type "tuple") "mul"=pure false:=
 PySem.fillsNumberSlot_seq (id:="tuple.__mul__") (r:=some (.builtin "tuple.__rmul__")) F.slot_tuple_mul.lookup (by decide +kernel) F.slot_tuple_rmul.lookup (by decide +kernel)
theorem afs:seqRepeat? (.type "tuple")=pure (some (.builtin "tuple.__mul__")):=by
 unfold seqRepeat?;rw[PySem.seqSlot_of (T:="tuple") (name:="__mul__") (id:="tuple.__mul__") F.slot_tuple_mul.lookup (by decide +kernel),PySem.seqSlot_of (T:="tuple") (name:="__rmul__") (id:="tuple.__rmul__") F.slot_tuple_rmul.lookup (by decide +kernel)];rfl
theorem adn(a:Int)(t:Tok)(l:Addr)(items:Array Value)(n:Nat)(dd:Option Addr)(sl:Array (Option Value)):
  Meets (Builtin.«int.__rmul__» ⟨[.int a t,.ref l],[]⟩) (fun _ R s=>s.heap.get? l=some { cls:= .type "tuple",dict:=dd,data:= .seq items n,slots:=sl }/\R (.ok (.ret Value.notImplemented)) s):=
 .of_wp fun prog w A R s h=>by
  obtain⟨hp,g,d,tk,os⟩:=s;obtain⟨hl,h⟩:=h
  wp_walk
  exact⟨_,rfl,h⟩
section
open PyProof.Rows hiding St
variable {X:Cx}{e a b c tg src:Expr}{es:List Expr}{fa fb fc:RP}{pos:Pos}{qh:List Expr}
noncomputable def ar2(K:Fg):R2:=fun x y H Q=>∃l k xs,x= .ref l/\y= .int k/\SqT K H l xs/\0<xs.length/\-(2 ^ 63)<=k/\k<2 ^ 63/\(xs.length:Int)*k<=sizeLine/\
 (∀p,H p=none->Q (.ref p) (upd H p (.tup (List.replicate k.toNat xs).flatten)))/\(k=1->Q (.ref l) H)
theorem aol:OpR X (binaryOp .Mult) (ar2 X.K):=by
 intro Kp s σ H x y v u Q I rx ry h;obtain⟨l,k,xs,rfl,rfl,hH,hne,h1,h2,hz,q,q1⟩:=h;cases rx;obtain⟨t,rfl⟩:=ry;obtain⟨its,r,⟨⟨oc,od,odt,osl⟩,e,c,n,d⟩,hlz⟩:=I.tuple hH;have hl:=r.length;cases c;cases (show odt=_ from d)
 have hi:its.toArray.isEmpty=false:=by
  cases its with
  |nil=>rw[hl]at hne;simp at hne
  |cons a r'=>simp
 refine wpAny_binaryOp_repeat_ref (T:="tuple") (U:="int") (by decide) ⟨_,e,rfl⟩ (fun s'=>typeIs_int s' k t) abR F.fills_int_mul F.slot_int_rmul afs F.slot_int_index.lookup
  (call_meets F.slot_int_rmul (typeIs_int s k t) F.entry_int_rmul (F.args_int_rmul_2 _ _) (adn k t l its.toArray n od osl) ⟨e,rfl,⟨_,e,rfl⟩,?_⟩)
 have fresh:∀{ys:List V} {jts:List Value},jM ys jts->ys.length<=sizeLine->Inv X Kp σ (upd H s.heap.objs.size (.tup ys)) { s with heap:=s.heap.push { cls:= .type "tuple",data:= .seq jts.toArray } }:=fun {ys jts} rv hy=>
  I.laid (t':=s.toks) (fun b o e=>Heap.get?_push_of_some _ e) (Nat.le_refl _) (show zd X.prog X.w _ _ _ (.tup ys) from⟨hy,jts,rv,IsTup.new _ _⟩)
 by_cases k1:k=1
 ·subst k1
  exact call_meets F.slot_tuple_mul ⟨_,e,rfl⟩ F.entry_tuple_mul (F.args_tuple_mul_2 _ _) (agv l its.toArray n t od osl) ⟨e,.ref l,H,I,rfl,q1 rfl⟩
 ·by_cases k0:k<=0
  ·have hk:k.toNat=0:=by omega
   refine call_meets F.slot_tuple_mul ⟨_,e,rfl⟩ F.entry_tuple_mul (F.args_tuple_mul_2 _ _) (agw l its.toArray n k t od osl k0 h1 hi) ⟨e,.ref _,_,fresh (ys:=[]) (jts:=[]) .nil (Nat.zero_le _),rfl,?_⟩;have:=q _ (I.hok.fresh (Nat.le_refl _));rw[hk]at this;exact this
  ·have hnew:List.foldl (fun x1 x2=>x1++x2) #[] (List.replicate k.toNat its.toArray)=(List.replicate k.toNat its).flatten.toArray:=by
    have:=abM its k.toNat [];rw[List.nil_append]at this;exact this
   have hlen:((List.replicate k.toNat xs).flatten.length:Int)=xs.length*k:=by
    rw[aiP,Int.natCast_mul,Int.mul_comm,Int.toNat_of_nonneg (by omega)]
   have hlen2:(List.replicate k.toNat xs).flatten.length<=sizeLine:=by omega
   have hl2:=(r.rep k.toNat).length;refine call_meets F.slot_tuple_mul ⟨_,e,rfl⟩ F.entry_tuple_mul (F.args_tuple_mul_2 _ _) (agx l its.toArray n k t od osl (by omega) h2 hi (by rw[List.size_toArray,←hl];exact hz) (by rw[hnew,List.size_toArray,←hl2];exact hlen2)) ⟨e,?_⟩;rw[hnew];exact⟨.ref _,_,fresh (r.rep k.toNat) hlen2,rfl,q _ (I.hok.fresh (Nat.le_refl _))⟩
end
end BX
end
section
namespace BX
open PySem PySem.Spec L2
open PyProof.Rows hiding St
section
variable {X:Cx}{e a b c tg src:Expr}{es:List Expr}{fa fb fc:RP}{pos:Pos}{qh:List Expr}
noncomputable def alM(p q:PyData):OP:=match p,q with
 |.tuple ds,.int k=>if 0<ds.length/\ds.length<1000/\-1000<k/\k<1000 then some (.tuple (List.replicate k.toNat ds).flatten) else none
 |_,_=>none
theorem alN:OpD X (binaryOp .Mult) alM:=by
 refine⟨_,aol,fun p q d x y H Q h rx ry k=>?_⟩;unfold alM at h;split at h
 ·rename_i ds n
  split at h
  ·rename_i hc
   cases h;obtain⟨a,us,e1,e2,e3⟩:=rx;cases (show y=V.int n from ry);have hl:=e3.length
   have hz:(us.length:Int)*n<=1000000:=by
    have h1:(us.length:Int)*n<=us.length*1000:=Int.mul_le_mul_of_nonneg_left (by omega) (by omega);omega
   refine⟨a,n,us,e1,rfl,e2,by omega,by omega,by omega,Int.le_trans hz (by rw[sizeLine_eq];decide),fun p hp=>?_,fun h1=>?_⟩
   ·have s1:=jI (o:= .tup (List.replicate n.toNat us).flatten) hp
    exact k _ _ s1 ⟨p,_,rfl,SqT.of jt,Reps.mono s1 _ _ (e3.rep _)⟩
   ·subst h1
    refine k _ H (jo.refl H) ⟨a,us,rfl,e2,?_⟩;simpa using e3
  ·cases h
 ·cases h
noncomputable def ar3(lo:Int)(n:Nat):It:=⟨fun i _=>i<n,fun i H x H'=>H'=H/\x= .int (lo-i),fun i _=>n<=i⟩
theorem agy{P:Program}{w:World}{K:Fg}{tg:Expr}(it:Addr)(lo:Int)(n:Nat):Turn P w K tg (ar3 lo n) [it] it (fun i h=>IsRangeIter h it (lo+(i:Nat)*(-1)) ((n:Int)-(i:Nat)) (-1)) where
 mem:=by simp
 obj:=fun i h st b hb=>by
  have e:b=it:=by simpa using hb
  subst e
  exact⟨_,st,fun v z=>by
   have z':Data.fields _=Data.cell v:=z;cases z'⟩
 keep:=fun i h h' st k=>k it (by simp) _ st
 item:=by
  intro X hP hw hK hc i Kp s σ H E I hf st hg;subst hP hw hK;obtain⟨f0,f1,f2,f3,f4,f5⟩:=hf it (by simp);have W:=Walks.range (prog:=X.prog) (w:=X.w) (I.ok.hd hc) it lo (-1) n;refine W.item i s _ _ hg st fun v h' tk hv st' kk=>?_;obtain⟨t,rfl⟩:=hv;have I1:Inv X Kp σ H { s with heap:=h',toks:=tk }:=I.turned (fun b o hb e=>kk b o (by simpa using hb) e) f0 f1 f3 f4 f5;refine⟨_,rfl,agg (s:={ s with heap:=h',toks:=tk }) (n:="range_iterator") st' rfl rfl (by decide) ⟨.int (lo-i),H,I1,⟨t,?_⟩,⟨rfl,rfl⟩,st',fun b hb=>(hf b hb).1⟩⟩
  congr 1
  omega
 done:=by
  intro X hP hw hK hc i Kp s σ H E I hf st hg;subst hP hw hK;obtain⟨f0,f1,f2,f3,f4,f5⟩:=hf it (by simp);exact wpAny_pyNext_range_end (I.ok.hd hc) st (by have:n<=i:=hg;omega) fun h' eb=>⟨rfl,I.turned (t':=s.toks) (fun b o hb e=>eb b o hb e) f0 f1 f3 f4 f5⟩
 self:=fun _ _ _ _ _ st h=>wpAny_pyIter_rangeiter st h
theorem ZM(a b:Int):Builtin.Range.rangeSize a b (-1)=if a>b then a-b else 0:=by
 unfold Builtin.Range.rangeSize;simp only[show ¬ (-1:Int)>0 by decide,zzN,Int.neg_neg,Int.ediv_one];split<;>omega
theorem ah9{a b:Int}(ha:-1000000<=a)(ha':a<1000000)(hb:-1000000<=b)(hb':b<1000000):Builtin.Range.small a b (-1)=true:=by
 unfold Builtin.Range.small;rw[ZM];simp only[Builtin.Range.rangeFitsLong,Bool.and_eq_true,Bool.or_eq_true,decide_eq_true_eq,beq_iff_eq,show ¬ (-1:Int)>0 by decide,zzN];split<;>omega
noncomputable def ar4(ta:TA):TI:=fun σ H R=>ta σ H fun vs H1=>∃i j:Int,vs=[.int i,.int j,.int (-1)]/\(-1000000<=i/\i<1000000/\-1000000<=j/\j<1000000)/\R (ar3 i (i-j).toNat) H1
theorem aj6{ta:TA}{p pos:Pos}(hg:Gl X "range")(hm:X.mg "range"=none)(ha:PA X [a,b,c] ta)(hs:starEach [a,b,c] X.env=[(false,eval a X.env),(false,eval b X.env),(false,eval c X.env)]:=by rfl)(hs2:starEach [b,c] X.env=[(false,eval b X.env),(false,eval c X.env)]:=by rfl):
  PI X tg (.Call (.Name "range" p) [a,b,c] [] pos) (ar4 ta):=by
 intro Kp s σ H R I h;refine Call_ (Zz I hg hm boot_range (PyProof.Rows.callWith_type1 (thn (ha pos Kp s σ H _ I h) fun us s1 ⟨vs,H1,I1,r1,q1⟩=>?_) (by rw[hs,hs2]) (by rw[hs2];rfl)));obtain⟨i,j,e,⟨q1,q2,q3,q4⟩,q⟩:=q1;subst e;cases r1 with
 | cons r rr=>
  cases rr with
  | cons r' rr=>
   cases rr with
   | cons r'' rr=>
    cases rr;obtain⟨t,rfl⟩:=r;obtain⟨t',rfl⟩:=r';obtain⟨t'',rfl⟩:=r'';refine PySem.call_range_3 (by decide) ?_ (Or.inl (PyProof.noPylong_small (by decide)));refine wpAny_pyIter_range (IsRange.new ..) (ah9 q1 q2 q3 q4) ?_;have I2:Inv X Kp σ H1 { s1 with heap:=s1.heap.push { cls:= .type "range",data:= .fields #[.int i t,.int j t',.int (-1) t''] },toks:=s1.toks }:=I1.kept fun b o e=>Heap.get?_push_of_some _ e
    refine⟨(s1.heap.push { cls:= .type "range",data:= .fields #[.int i t,.int j t',.int (-1) t''] }).objs.size,[(s1.heap.push { cls:= .type "range",data:= .fields #[.int i t,.int j t',.int (-1) t''] }).objs.size],_,_,H1,rfl,
     I2.kept (t':=s1.toks) fun b o e=>Heap.get?_push_of_some _ e,agy _ i (i - j).toNat,?_,fun b hb=>?_,q⟩
    ·have e1:i+((0:Nat):Int)*(-1)=i:=by simp
     have e2:(((i-j).toNat:Nat):Int)-((0:Nat):Int)=Builtin.Range.rangeSize i j (-1):=by rw[ZM];split<;>omega
     show IsRangeIter _ _ (i+((0:Nat):Int)*(-1)) ((((i-j).toNat:Nat):Int)-((0:Nat):Int)) (-1);rw[e1,e2];exact Heap.get?_push_size _ rfl
    ·have e:b=(s1.heap.push { cls:= .type "range",data:= .fields #[.int i t,.int j t',.int (-1) t''] }).objs.size:=by simpa using hb
     subst e;exact I2.fpOk (Nat.le_refl _) (I2.hok.fresh (Nat.le_refl _))
noncomputable def aiZ(lo:Int)(n:Nat):LP:=(List.range n).map fun (k:Nat)=>PyData.int (lo-(k:Int))
noncomputable def alO(ds:LP):Option (LP):=match ds with
 | [.int i,.int j,.int c]=>if c=-1/\-1000000<=i/\i<1000000/\-1000000<=j/\j<1000000 then some (aiZ i (i-j).toNat) else none
 |_=>none
theorem aia{p pos:Pos}{fr:Rho->Option (LP)}(hg:Gl X "range")(hm:X.mg "range"=none)(ha:PAD X [a,b,c] fr)(hs:starEach [a,b,c] X.env=[(false,eval a X.env),(false,eval b X.env),(false,eval c X.env)]:=by rfl)(hs2:starEach [b,c] X.env=[(false,eval b X.env),(false,eval c X.env)]:=by rfl):
  PID X tg (.Call (.Name "range" p) [a,b,c] [] pos) (fun ρ=>(fr ρ).bind alO):=by
 with_unfolding_all
  refine PI.imp (aj6 hg hm ha hs hs2) fun σ H R ⟨ρ,ds,en,q,k⟩=>?_;cases h1:fr ρ with
  |none=>simp[h1]at q
  | some as=>
   have q':alO as=some ds:=by simpa[h1]using q
   refine⟨ρ,as,en,h1,fun vs H1 s1 r1=>?_⟩;unfold alO at q';split at q'
   ·rename_i i j cc
    split at q'
    ·rename_i hj
     cases q';obtain⟨rfl,hj⟩:=hj;obtain⟨x,r,e1,e2,y,r',e3,e4,z,r'',e5,e6,e7⟩:=r1;cases (show x=V.int i from e2);cases (show y=V.int j from e4);cases (show z=V.int (-1) from e6);cases (show r''=[] from e7);subst e5;subst e3;refine⟨i,j,e1,hj,k _ H1 s1 fun n H2 s2=>?_⟩;have hl:(aiZ i (i-j).toNat).length=(i-j).toNat:=by simp[aiZ]
     refine⟨fun hi=>by rw[hl]at hi;exact hi,fun hi=>by rw[hl]at hi;exact hi,fun x H' y=>?_⟩;obtain⟨z1,z2⟩:=y;subst z1;refine⟨jo.refl _,fun d hd=>?_⟩
     have hi:n<(i-j).toNat:=by
      have:=(List.getElem?_eq_some_iff.mp hd).1;rw[hl]at this;exact this
     have:d= .int (i-n):=by
      simp[aiZ,hi]at hd;exact hd.symm
     subst this;exact z2
    ·cases q'
   ·cases q'
noncomputable def aeg(fa fb:RP):RP:=fun ρ=>(fa ρ).bind fun x=>(asB x).bind fun t=>if t=true then fb ρ else some (.bool false)
theorem aft{op:BoolOp}(ha:PD X a fa):PD X (.BoolOp op [a] pos) fa:=by
 with_unfolding_all exact(ap2 ha)
theorem afu(ha:PD X a fa)(hb:PD X (.BoolOp .And (b::qh) pos) fb):PD X (.BoolOp .And (a::b::qh) pos) (aeg fa fb):=by
 with_unfolding_all
  refine PE.imp (ap3 ha hb) fun σ H Q ⟨ρ,d,en,h,k⟩=>?_;cases h1:fa ρ with
  |none=>simp[aeg,h1]at h
  | some x=>
   cases h2:asB x with
   |none=>simp[aeg,h1,h2]at h
   | some t=>
    have hx:=JW h2;subst hx;refine⟨ρ,_,en,h1,fun v H1 s1 r1=>⟨t,r1,?_⟩⟩;cases t with
    |true=>rw[if_pos rfl];exact⟨ρ,d,en.mono s1,by simpa[aeg,h1,h2]using h,fun v H2 s2 r2=>k v H2 (s1.trans s2) r2⟩
    | false=>
     rw[if_neg Bool.false_ne_true];have:PyData.bool false=d:=by simpa[aeg,h1,h2]using h
     subst this;exact k _ H1 s1 rfl
noncomputable def aqF:PyData->Bool
 |.none=>true
 |_=>false
theorem alP{K:Fg}{H:Hp}{p:PyData}{x:V}(r:Rep K H p x):decide (x= .non)=aqF p:=by
 cases p with
 |none=>cases (show x= .non from r);rfl
 |bool b=>cases (show x=_ from r);rfl
 |int b=>cases (show x=_ from r);rfl
 |str b=>cases (show x=_ from r);rfl
 |tuple ds=>obtain⟨a,xs,h,_⟩:=r;subst h;rfl
 |list ds=>obtain⟨a,xs,h,_⟩:=r;subst h;rfl
 |dict ds=>obtain⟨a,h,_⟩:=r;subst h;rfl
noncomputable def atc(p q:PyData):OP:=match q with
 |.none=>some (.bool (aqF p))
 |_=>none
noncomputable def alQ(p q:PyData):OP:=match q with
 |.none=>some (.bool (!aqF p))
 |_=>none
theorem alR:OpD X (compareOp .IsNot) alQ:=by
 refine⟨_,anI,fun p q d x y H Q h rx ry k=>?_⟩;unfold alQ at h;split at h
 ·cases h
  exact⟨ry,by rw[alP rx];exact k _ H (jo.refl H) rfl⟩
 ·cases h
end
section
variable {X:Cx}{e a b c tg src:Expr}{es:List Expr}{fa fb fc:RP}{pos:Pos}
noncomputable def asV(c d:OP):OP:=match c,d with
 |some (.list ds),some (.list es)=>if noLs es=true/\ds.length+es.length<1000000 then some (.list (ds++es)) else none
 |_,_=>none
noncomputable def aib(i:Nat)(fa:RP):RP:=fun ρ=>asV (lkp i ρ) (fa ρ)
end
section
variable {X:Cx}{e a b c tg src:Expr}{es:List Expr}{fa fb fc:RP}{pos:Pos}
theorem Reps.set{K:Fg}{H:Hp}{d:PyData}{v:V}(r:Rep K H d v):∀{ds:LP}{xs:List V} (j:Nat),Reps K H ds xs->Reps K H (ds.set j d) (xs.set j v)
 | [],xs,j,h=>by cases (show xs=[] from h);exact rfl
 |_::ds,xs,0,⟨x,q,h1,h2,h3⟩=>by subst h1;exact⟨v,q,rfl,r,h3⟩
 |_::ds,xs,j+1,⟨x,q,h1,h2,h3⟩=>by subst h1;exact⟨x,_,rfl,h2,Reps.set r j h3⟩
end
section
variable {X:Cx}{e a b c:Expr}{fa fb fc:RP}{pos p2:Pos}
noncomputable def ado(ds:LP)(lo hi:Option Int):LP:=(ds.drop (HT.sIx ds.length 0 lo)).take (HT.sIx ds.length ds.length hi-HT.sIx ds.length 0 lo)
noncomputable def inI:PyData->Option Int
 |.int i=>some i
 |_=>none
theorem agz{d:PyData}{i:Int}(h:inI d=some i):d= .int i:=by cases d<;>simp[inI]at h;rw[h]
end
section
variable {prog:Program}{w:World}{A:Around}{E:Value->SP0}{s:Shared}
noncomputable def ItA(g:Bool)(h:Heap)(i t:Addr)(k:Nat):Prop:=match g with
 |true=>h.IsListIter i t k
 |false=>h.IsTupleIter i t k
noncomputable def SrA(g:Bool)(h:Heap)(t:Addr)(xs:Array Value):Prop:=match g with
 |true=>h.IsList t xs
 |false=>h.IsTuple t xs
theorem ItA.to{g:Bool}{h h':Heap}{i t:Addr}{k:Nat}(x:ItA g h i t k)(kp:∀o,h.get? i=some o->h'.get? i=some o):ItA g h' i t k:=by
 cases g<;>exact(let ⟨o,e,r⟩:=x;⟨o,kp o e,r⟩)
theorem SrA.to{g:Bool}{h h':Heap}{t:Addr}{xs:Array Value}(x:SrA g h t xs)(kp:∀o,h.get? t=some o->h'.get? t=some o):SrA g h' t xs:=by
 cases g<;>exact(let ⟨o,e,r⟩:=x;⟨o,kp o e,r⟩)
theorem ItA.extBut{g:Bool}{h h':Heap}{i t b:Addr}{k:Nat}(x:ItA g h i t k)(e:Heap.ExtBut b h h')(n:i≠b):ItA g h' i t k:=x.to fun o q=>e i o n q
theorem SrA.extBut{g:Bool}{h h':Heap}{t b:Addr}{xs:Array Value}(x:SrA g h t xs)(e:Heap.ExtBut b h h')(n:t≠b):SrA g h' t xs:=x.to fun o q=>e t o n q
theorem ItA.obj{g:Bool}{h:Heap}{i t:Addr}{k:Nat}(x:ItA g h i t k):∃o vs,h.get? i=some o/\o.data= .fields vs:=by
 cases g<;>exact(let ⟨o,e,_,d⟩:=x;⟨o,_,e,d⟩)
structure Apart2(z TI TO i1 i2 t1 t2:Addr):Prop where
 nd:[z,TO,i1,i2].Nodup
 ti:TI∉[z,TO,i1,i2]
 s1:t1∉[z,TO,i1,i2]
 s2:t2∉[z,TO,i1,i2]
structure Zip2(ga gb:Bool)(h:Heap)(z TI TO i1 i2 t1 t2:Addr)(f0:Value)(k:Nat):Prop where
 hz:IsZip h z TI TO f0
 hTI:IsPair h TI (.ref i1) (.ref i2)
 hTO:∃a b,IsPair h TO a b
 g1:ItA ga h i1 t1 k
 g2:ItA gb h i2 t2 k
theorem Zip2.keep{ga gb:Bool}{h h':Heap}{z TI TO i1 i2 t1 t2:Addr}{f0:Value}{k:Nat}(S:Zip2 ga gb h z TI TO i1 i2 t1 t2 f0 k)(kp:∀b∈[z,TI,TO,i1,i2],∀o,h.get? b=some o->h'.get? b=some o):
  Zip2 ga gb h' z TI TO i1 i2 t1 t2 f0 k:=by
 obtain⟨hz,hTI,⟨a,b,hTO⟩,g1,g2⟩:=S;exact⟨kp z (by simp) _ hz,kp TI (by simp) _ hTI,⟨a,b,kp TO (by simp) _ hTO⟩,g1.to (kp i1 (by simp)),g2.to (kp i2 (by simp))⟩
end
noncomputable def Sq(g:Bool)(K:Fg)(H:Hp)(t:Addr)(xs:List V):Prop:=match g with
 |true=>SqL K H t xs
 |false=>SqT K H t xs
theorem Sq.inj{g:Bool}{X:Cx}{Kp:List (Addr×Obj)}{σ:St}{H:Hp}{s:Shared}{a:Addr}{xs ys:List V}(I:Inv X Kp σ H s)(q:Sq g X.K H a xs)(q':Sq g X.K H a ys):xs=ys:=by
 cases g with
 |true=>exact I.list_inj q q'
 |false=>exact I.tuple_inj q q'
theorem Sq.monoE{g:Bool}{K:Fg}{H H':Hp}{a:Addr}{xs:List V}(e:j4 H H')(h:Sq g K H a xs):Sq g K H' a xs:=by
 cases g with
 |true=>exact j4.sql e h
 |false=>exact j4.tup e h
theorem Sq.monoA{g:Bool}{K:Fg}{H H':Hp}{a:Addr}{xs:List V}(e:qp H H')(h:Sq g K H a xs):Sq g K H' a xs:=by
 cases g with
 |true=>exact qp.sql e h
 |false=>exact qp.tup e h
theorem Sq.at{g:Bool}{K:Fg}{H:Hp}{a:Addr}{xs:List V}(h:Sq g K H a xs):(∃u,H a=some u)∨∃o,K.lookup a=some o:=by
 cases g with
 |true=>rcases h with (e | ⟨o,e⟩) | ⟨o,its,n,hk,_⟩<;>first|exact .inl ⟨_,e⟩|exact .inr ⟨_,hk⟩
 |false=>rcases h with (e | ⟨o,e⟩) | ⟨o,its,n,hk,_⟩<;>first|exact .inl ⟨_,e⟩|exact .inr ⟨_,hk⟩
section
variable {X:Cx}
end
section
variable {X:Cx}{e a b c:Expr}{fa fb fc:RP}{pos p2:Pos}
noncomputable def agA(p q:PyData):OP:=match p,q with
 |.list ds,.int k=>if ds.length<1000/\-1000<k/\k<1000 then some (.list (List.replicate k.toNat ds).flatten) else none
 |_,_=>none
theorem adp:OpD X (binaryOp .Mult) agA:=by
 refine⟨_,ah0,fun p q d x y H Q h rx ry k=>?_⟩;unfold agA at h;split at h
 ·rename_i ds n
  split at h
  ·rename_i hc
   cases h;obtain⟨l,us,e1,e2,e3⟩:=rx;cases (show y=V.int n from ry);have hl:=e3.length;refine⟨l,n,us,e1,rfl,e2,by omega,by omega,?_,fun p hp=>?_⟩
   ·rw[sizeLine_eq]
    have h1:us.length*n.toNat<=1000*1000:=Nat.mul_le_mul (by omega) (by omega);exact Nat.le_trans h1 (by decide)
   ·have s1:=jI (o:= .lst (List.replicate n.toNat us).flatten) hp
    exact k _ _ s1 ⟨p,_,rfl,jt,Reps.mono s1 _ _ (e3.rep _)⟩
  ·cases h
 ·cases h
theorem Z6:∀{is:List Int}{us:List Value},jM (is.map V.int) us->∀(j:Nat) (i:Int),is[j]?=some i->∃t,us[j]?=some (.int i t)
 | [],us,r,j,i,h=>by simp at h
 | i0::is,u::us,.cons r rr,j,i,h=>by
  cases j with
  |zero=>cases h;obtain⟨t,rfl⟩:=r;exact⟨t,rfl⟩
  |succ j=>exact Z6 rr j i (by simpa using h)
end
structure OneCell(sc:Scope)(y0:Str)(pre post:List (Str×NameKind)):Prop where
 split:sc.names=pre++(y0,.cell)::post
 pre:∀x∈pre,x.2 ≠ .cell
 post:∀x∈post,x.2 ≠ .cell
structure CompOk1(X:Cx)(sc:Scope)(N':List Str)(cap:List (Option Nat))(y0:Str):Prop where
 fr:∀x∈sc.names,x.2= .free->X.env.kindOf x.1=some .cell∨X.env.kindOf x.1=some .free
 one:∃pre post,OneCell sc y0 pre post
 lk:sc.names.lookup y0=some .cell
 kind:sc.kind= .function
 nm:∀x∈sc.names,x.2= .local->sc.names.lookup x.1=some .local
 len:cap.length=N'.length
 cp:∀(j i:Nat) (x:Str),N'[j]?=some x->cap[j]?=some (some i)->X.N[i]?=some x/\sc.names.lookup x=some .free
section
variable {X:Cx}{e:Expr}{fa:RP}
end
theorem aom{X : Cx}{i0 : Nat}{x0 : Str}{pos0 pos1 : Pos}{el tg src : Expr}{ts : List Expr}{sc : Scope}{ps : Pos}{wi : TI}{g : TG}{tt : TT}{te : TE}{N' : List Str}{cap : List (Option Nat)}(hc : X.calm = true)(hi : PI X tg src wi)(ok : CompOk X sc N' cap)
    (body : ∀cl C s0 H0 fp pn, PG (blk X N' sc cl C s0 H0 fp pn) tg g /\ PTs (blk X N' sc cl C s0 H0 fp pn) ts tt /\ PE (blk X N' sc cl C s0 H0 fp pn) el te)
    (hN : X.N.Nodup) (hi0 : X.N[i0]? = some x0) (hx0 : Loc X.env.scope x0) (hsw : swapsWith (.ListComp el [⟨tg, src, ts, 0⟩] sc ps) (some (.Name x0 pos0)) pos1.line X.env = pure true)
    (hf0 : X.fn x0 = true∨X.env.scope.names.lookup x0 = some .local)
    (hs : ∀x, foldedSetIterable src X.env x = pure x := by intro _;rfl) : PS X (.Assign [.Name x0 pos0] (.ListComp el [⟨tg, src, ts, 0⟩] sc ps) pos1) (ap6 (alm wi cap g tt te) (ak2 i0)) := by
  intro Kp s σ H Dn I h;have hfr : ∀x∈sc.names, x.2 = .free -> ∃c, X.env.cells.lookup x.1 = some c := fun x hx e => I.ok.has x.1 (ok.fr x hx e);have hcl := aiR sc X.env hfr
  have clm : ∀x c, (Zt X.env sc.names []).lookup x = some c -> X.env.cells.lookup x = some c := fun x c e =>
    abN X.env sc.names [] hfr (fun _ z => nomatch z) (x, c) (PySem.mem_of_lookup e)
  generalize hgl : Zt X.env sc.names [] = cl at hcl clm;rw[exec_Assign_Name_used _ _ _ _ hsw];refine wpAny_bind (wpAny_standAt (wpAny_bind ?_));show wpAny _ X.A (do let _ ← comprehension (.ListComp el [⟨tg, src, ts, 0⟩] sc ps) sc X.env _ (newList []) false (eval src X.env) (some (assign (.Name x0 pos0) X.env))) _ _ s;refine wpAny_bind (wpAny_mono (wpAny_comprehension_free (use := some (assign (.Name x0 pos0) X.env)) (Q := fun _ s' => SP X Kp Dn .next s') rfl hs hcl ok.kind ok.nm ?_) (fun _ s' hq => wpAny_pure (wpAny_pure hq)) fun _ _ e => e);refine thn (hi Kp s σ H _ I h) fun v s1 h1 => thn h1 fun itv s2 h2 => ?_;obtain⟨it, fp, tn, J, H2, e, I2, T, st2, f2, W, ⟨m0, w0⟩, turn⟩ := h2;subst e;refine wpAny_newObj_type (wpAny_newFunctionEnv ok.nc (by intro y hy;simp at hy) (fun h4 hns hsb => ?_) ok.kind);dsimp only at hns hsb ⊢;generalize hH3 : s2.heap.push { cls := .type "list", dict := none, data := .seq ([] : List Value).toArray } = h3 at hns hsb ⊢;have hC : h3.objs.size = s2.heap.objs.size + 1 := by rw[← hH3, Heap.size_push]
  generalize hCC : h3.objs.size = C at hns hsb hC ⊢;generalize hDD : s2.heap.objs.size = D at hC ⊢;have hDC : D≠C := by rw[hC];exact Nat.ne_of_lt (Nat.lt_succ_self _)
  have old : ∀b o, s2.heap.get? b = some o -> h4.get? b = some o := fun b o e => hsb.extBut b o (by have := Heap.lt_size e;rw[hDD]at this;rw[hC];exact Nat.ne_of_lt (Nat.lt_succ_of_lt this)) (Heap.get?_push_of_some _ (hH3▸Heap.get?_push_of_some _ e));have accO : h4.get? D = some { cls := .type "list", data := .seq ([] : List Value).toArray 0 } := hsb.extBut _ _ hDC (Heap.get?_push_of_some _ (by rw[← hH3, ← hDD];exact Heap.get?_push_size _ rfl));have H2D : H2 D = none := I2.hok.fresh (by rw[hDD];exact Nat.le_refl _);have H2C : H2 C = none := I2.hok.fresh (by rw[hDD, hC];exact Nat.le_succ _)
  have cellsLt : ∀x c, X.env.cells.lookup x = some c -> c<D := fun x c e => by
    obtain⟨v, q⟩ := I2.cell x c e;rw[← hDD];exact q.lt
  have pinLt : ∀p∈X.pn ++ Kp, p.1<D := fun p hp => by rw[← hDD];exact Heap.lt_size (I2.pin p hp).1
  have stkLt : ∀b∈frs X.stack, b<D := fun b hb => by
    obtain⟨_, o, ho, _⟩ := I2.stack.mem hb;rw[← hDD];exact Heap.lt_size ho
  have fpLt : ∀b∈fp, b<D := fun b hb => by
    obtain⟨o, ho, _⟩ := T.obj _ _ st2 b hb;rw[← hDD];exact Heap.lt_size ho
  have ltC : ∀{b : Addr}, b<D -> b≠C := fun hb => by rw[hC];exact Nat.ne_of_lt (Nat.lt_succ_of_lt hb)
  have locLt : X.env.locals<D := by rw[← hDD];exact I2.lt
  have hDge : s2.heap.objs.size <= D := by rw[hDD];exact Nat.le_refl _
  have hCge : s2.heap.objs.size <= C := by rw[hDD, hC];exact Nat.le_succ _
  have bok : (blk X N' sc cl C s2 H2 fp (X.pn ++ Kp)).Ok := by
    refine⟨I2.ok.mod, ok.kind, I2.ok.glob, I2.ok.blt, hCge, fun x y c e1 e2 => I2.ok.inj x y c (clm x c e1) (clm y c e2), fun x hx => ?_, fun x c z _ => ?_, I2.ok.hd, I2.ok.frames, .inl rfl, fun b hb => ?_, I2.bs, Nat.le_trans I2.ok.bsz I2.sz, fun b o e hb => ?_, fun b hb z => ?_, I2.stack, I2.stkFree⟩
    · have hx' : (relabel sc X.env).names.lookup x = some .cell∨(relabel sc X.env).names.lookup x = some .free := hx
      have hm : (x, NameKind.free)∈sc.names := by
        rcases hx' with z | z
        · exact Qn (PySem.mem_of_lookup z) ok.nc (.inl rfl)
        · exact Qn (PySem.mem_of_lookup z) ok.nc (.inr rfl)
      obtain⟨c, hc⟩ := QF X.env sc.names [] x hm;rw[hgl]at hc;exact zF hc
    · exact absurd (show false = true from z) Bool.false_ne_true
    · exact⟨ltC (fpLt b hb), fun x c e => (f2 b hb).2.2.2.2.1 x c (clm x c e)⟩
    · rcases (f2 b hb).2.2.2.1 with z | z
      · exact I2.ok.noex b o e z
      · have := Heap.lt_size e
        exact absurd (Nat.lt_of_lt_of_le this (Nat.le_trans I2.ok.bsz z)) (Nat.lt_irrefl _)
    · rcases List.mem_cons.mp (I2.stkSub b z)with q | q
      · exact(f2 b hb).2.1 q
      · exact(f2 b hb).2.2.1 q
  have pinB : ∀p∈X.pn ++ Kp, p.1≠C /\ p.1∉frs X.stack := fun p hp => ⟨ltC (pinLt p hp), fun z => by
    rcases List.mem_cons.mp (I2.stkSub p.1 z) with q | q
    · exact (I2.pin p hp).2.2.1 q
    · exact (I2.pin p hp).2.2.2.1 q⟩
  have I4 : Inv (blk X N' sc cl C s2 H2 fp (X.pn ++ Kp)) [] (acp cap σ) H2 { s2 with heap := h4, toks := s2.toks + ([] : List (Str×Value)).length } := by
    refine⟨bok, rfl, I2.bare, Un.kept old, ⟨_, hns, fun j x v e1 e2 e3 => ?_⟩, fun x c e => ?_, H2C, fun x c e => I2.freeC x c (clm x c e), fun p hp => ?_, I2.hok.kept old, ?_⟩
    · unfold acp at e2
      rw[List.getElem?_map]at e2;cases e4 : cap[j]? with
      |none => rw[e4]at e2;cases e2
      | some o =>
        rw[e4]at e2;cases o with
        |none => cases e2
        | some i =>
          obtain⟨hNi, hf⟩ := ok.cp j i x e1 e4
          have e5 : (σ[i]?).join = some v := by
            have := Option.some.inj e2;simpa using this
          have e6 : σ[i]? = some (some v) := by
            cases e7 : σ[i]? with
            |none => rw[e7]at e5;cases e5
            | some z => rw[e7]at e5;cases z with
              |none => cases e5
              |some z => cases e5;rfl
          have hk := ok.fr (x, .free) (PySem.mem_of_lookup hf) rfl;obtain⟨m, hn, hl⟩ := I2.loc
          have hv : Vis X.env.scope x := by
            rcases hk with z | z
            · exact .inr (.inl z)
            · exact .inr (.inr z)
          obtain⟨u, r, lk⟩ := hl i x v hNi e6 hv
          have cellX : ∃c, X.env.cells.lookup x = some c /\ s2.heap.IsCell c (some u) := by
            rcases lk with ⟨k1, _⟩ | ⟨_, c, e, z⟩
            · rcases hk with z | z
              · have z' : X.env.kindOf x = some .cell := z
                rw[k1]at z';cases z'
              · have z' : X.env.kindOf x = some .free := z
                rw[k1]at z';cases z'
            · exact⟨c, e, z⟩
          obtain⟨c, hc1, ob, hc2, hc3⟩ := cellX;obtain⟨c', hc'⟩ := QF X.env sc.names [] x (PySem.mem_of_lookup hf);rw[hgl]at hc';obtain⟨d, hd⟩ := zF hc'
          have ed : d = c := by
            have := clm x d hd;rw[hc1]at this;cases this;rfl
          subst ed;refine⟨u, r, .inr ⟨?_, d, hd, ob, old _ _ hc2, hc3⟩⟩;exact Q8 hf
    · obtain⟨v, ob, ho, hd⟩ := I2.cell x c (clm x c e)
      exact⟨v, ob, old _ _ ho, hd⟩
    · have hp' : p∈X.pn ++ Kp := by simpa[blk]using hp
      obtain⟨e1, e2, e3, e4, e5⟩ := I2.pin p hp';exact⟨old _ _ e1, e2, (pinB p hp').1, (pinB p hp').2, e5⟩
    · show(acp cap σ).length = N'.length
      unfold acp;rw[List.length_map];exact ok.len
  have fpB : ∀{H' : Hp} {pl : List (Addr×Obj)}, (∀b∈fp, H' b = none) -> (∀p∈pl, p.1∉fp) -> ∀b∈fp, agf (blk X N' sc cl C s2 H2 fp (X.pn ++ Kp)) pl H' b := fun {H' pl} hn hpl b hb =>
    ⟨hn b hb, ltC (fpLt b hb), bok.exfs b hb, .inl hb, fun x c e => (f2 b hb).2.2.2.2.1 x c (clm x c e), fun p hp z => by
      rcases List.mem_append.mp (show p ∈ (X.pn ++ Kp) ++ pl from hp) with q | q
      · exact (f2 b hb).2.2.2.2.2 p q z
      · exact hpl p q (by rw [z]; exact hb)⟩
  have Dfp : ∀(o : Obj), ∀p∈[(D, o)], p.1∉fp := fun o p hp z => by
    have e : p = (D, o) := by simpa using hp
    subst e;exact Nat.lt_irrefl _ (fpLt D z)
  have Dfs : D∉frs X.stack := fun z => Nat.lt_irrefl _ (stkLt D z);obtain⟨bG, bT, bE⟩ := body cl C s2 H2 fp (X.pn ++ Kp)
  have loop : codeAny (model X.prog X.w) X.A (.compLoop (.ListComp el [⟨tg, src, ts, 0⟩] sc ps) 0 (.ref it) (.ref D) (compEnvC sc cl C X.env)) (compPost (model X.prog X.w) X.A X.xe (some (assign (.Name x0 pos0) X.env)) (fun _ s' => SP X Kp Dn .next s') (.ref D) C)
      { s2 with heap := h4, toks := s2.toks + ([] : List (Str×Value)).length } := by
    refine aet (fun n s' => ∃i τ ys us k H', Inv (blk X N' sc cl C s2 H2 fp (X.pn ++ Kp)) [] τ H' s' /\ tn i s'.heap /\ (∀b∈fp, H' b = none) /\ jM ys us /\ s'.heap.get? D = some { cls := .type "list", data := .seq us.toArray k } /\ H' D = none /\ W i n τ ys H') ?_ m0
      ⟨0, _, [], [], 0, H2, I4, T.keep _ _ _ st2 (fun b _ o e => old b o e), fun b hb => (f2 b hb).1, .nil, accO, H2D, w0⟩
    rintro n s5 ⟨i, τ, ys, us, k, H5, I5, st5, fr5, rv5, ho5, hD5, w5⟩
    obtain⟨hsz, alt⟩ := turn i n τ ys H5 w5
    have I5p : Inv (blk X N' sc cl C s2 H2 fp (X.pn ++ Kp)) [(D, { cls := .type "list", data := .seq us.toArray k })] τ H5 s5 := I5.pins_of fun p hp => by
      have e : p = (D, { cls := .type "list", data := .seq us.toArray k }) := by simpa using hp
      subst e;exact⟨ho5, hD5, hDC, Dfs, fun v z => by cases z⟩
    rcases alt with ⟨stop, fin⟩ | ⟨go, step⟩
    · refine thn (T.done (blk X N' sc cl C s2 H2 fp (X.pn ++ Kp)) rfl rfl rfl hc i _ s5 τ H5 NoX I5p (fpB fr5 (Dfp _)) st5 stop) fun r s6 ⟨hr, I6⟩ => ?_
      subst hr;have ho6 := (I6.pin (D, _) (List.mem_append_right _ (List.mem_singleton.mpr rfl))).1;obtain⟨m6, hn6, _⟩ := I6.loc;have J6 : Inv X Kp σ H5 s6 := I2.call' (ch := fp) I6.os I6.base I6.hok I6.bare fun b hb => ⟨(f2 b hb).2.2.2.1, (f2 b hb).2.1, (f2 b hb).2.2.2.2.1, (f2 b hb).2.2.2.2.2⟩;have H5C : H5 C = none := I6.free;have J7 : Inv X Kp σ (upd H5 D (.lst ys)) s6 := Inv.track J6 hD5 (Nat.le_trans I2.sz hDge) (Ne.symm (Nat.ne_of_lt locLt)) (fun x c e => Nat.ne_of_lt (cellsLt x c e)) (fun p hp => Nat.ne_of_lt (pinLt p hp)) ⟨Nat.le_of_lt hsz, us, k, rv5, ho6⟩;refine wpAny_assign_Name (aej J7 hN hi0 hx0 (show jS (.ref D) (.ref D) from rfl) (fun s8 I8 ⟨a, sb, ha⟩ => ?_) hf0)
      have aC : C≠a := by
        rcases ha with z | z
        · rw[z];exact Ne.symm (ltC locLt)
        · exact Ne.symm (ltC (cellsLt _ _ z))
      refine⟨m6, hn6.sameBut sb aC, fun h7 hs7 => ?_⟩;have J8 : Inv X Kp (σ.set i0 (some (.ref D))) (upd H5 D (.lst ys)) { s8 with heap := h7, toks := s8.toks } := I8.turned (it := C) (fun b o hb e => hs7.extBut b o hb e) (by rw[jp (Ne.symm hDC)];exact H5C) (Ne.symm (ltC locLt)) (.inr (Nat.le_trans I2.sz hCge)) (fun x c e => ltC (cellsLt x c e)) (fun p hp => ltC (pinLt p hp));exact⟨_, _, J8, fin D hD5⟩
    · refine thn (T.item (blk X N' sc cl C s2 H2 fp (X.pn ++ Kp)) rfl rfl rfl hc i _ s5 τ H5 NoX I5p (fpB fr5 (Dfp _)) st5 go) fun r s6 ⟨u, hr, h6⟩ => ?_
      subst hr;refine thn h6 fun _ s7 ⟨x, H7, I7, r7, y7, st7, fr7⟩ => ?_;have I7p := I7.pinned (fpB fr7 (Dfp _)) (T.obj _ _ st7);refine thn (bG _ s7 τ H7 x u _ I7p r7 (step x H7 y7)) fun _ s8 ⟨τ8, H8, I8, q8⟩ => ?_
      have back : ∀{τ9 : St} {H9 : Hp} {s9 : Shared}, Inv (blk X N' sc cl C s2 H2 fp (X.pn ++ Kp)) ([(D, { cls := .type "list", data := .seq us.toArray k })] ++ abJ fp s7.heap) τ9 H9 s9 ->
          tn (i + 1) s9.heap /\ (∀b∈fp, H9 b = none) /\ s9.heap.get? D = some { cls := .type "list", data := .seq us.toArray k } /\ H9 D = none := fun {τ9 H9 s9} I9 => by
        have pD := I9.pin (D, { cls := .type "list", data := .seq us.toArray k }) (List.mem_append_right _ (List.mem_append_left _ (List.mem_singleton.mpr rfl)));refine⟨T.keep _ _ _ st7 fun b hb o e => (I9.pin (b, o) (List.mem_append_right _ (List.mem_append_right _ (Jj hb e)))).1, fun b hb => ?_, pD.1, pD.2.1⟩;obtain⟨o, e, _⟩ := T.obj _ _ st7 b hb;exact(I9.pin (b, o) (List.mem_append_right _ (List.mem_append_right _ (Jj hb e)))).2.1
      have drop : ∀{τ9 : St} {H9 : Hp} {s9 : Shared} {pl : List (Addr×Obj)}, Inv (blk X N' sc cl C s2 H2 fp (X.pn ++ Kp)) pl τ9 H9 s9 -> Inv (blk X N' sc cl C s2 H2 fp (X.pn ++ Kp)) [] τ9 H9 s9 := fun I9 => I9.pins_of fun p hp => nomatch hp
      refine thn (bT _ s8 τ8 H8 _ I8 q8) fun b s9 ⟨H9, I9, q9⟩ => ?_;cases b with
      | false =>
        rw[if_neg Bool.false_ne_true]at q9 ⊢;obtain⟨m', hm, w9⟩ := q9;obtain⟨t9, f9, o9, d9⟩ := back I9;exact⟨m', hm, i + 1, τ8, ys, us, k, H9, drop I9, t9, f9, rv5, o9, d9, w9⟩
      | true =>
        rw[if_pos rfl]at q9 ⊢;refine thn (bE _ s9 τ8 H9 _ I9 q9) fun y s10 ⟨z, H10, I10, r10, q10⟩ => ?_;obtain⟨m', hm, w10⟩ := q10;obtain⟨t10, f10, o10, d10⟩ := back I10;have hl := rv5.length;refine append_at (hsz := by show us.toArray.size <= sizeLine;rw[List.size_toArray, ← hl];exact Nat.le_of_lt hsz) o10 fun h11 hs11 hD11 => ?_
        have I11 : Inv (blk X N' sc cl C s2 H2 fp (X.pn ++ Kp)) [] τ8 H10 { s10 with heap := h11, toks := s10.toks } := (drop I10).turned (it := D) (fun b o hb e => hs11.extBut b o hb e) d10 hDC (.inr hDge) (fun x c e => Nat.ne_of_lt (cellsLt x c (clm x c e)))
          (fun p hp => by have hp' : p∈X.pn ++ Kp := by simpa[blk]using hp
                          exact Nat.ne_of_lt (pinLt p hp'))
        refine⟨m', hm, i + 1, τ8, ys ++ [z], us ++ [y], k + 1, H10, I11, T.keep _ _ _ t10 (fun b hb o e => hs11.extBut b o (Nat.ne_of_lt (fpLt b hb)) e), f10, rv5.append (.cons r10 .nil), ?_, d10, w10⟩;rw[hD11];simp
  refine codeAny_compStart_list loop ?_;exact T.self _ 0 _ _ _ (T.keep _ _ _ st2 (fun b _ o e => old b o e)) loop
theorem alS{K:Fg}{fi:Rho->Option (LP)}{cap:List (Option Nat)}{ga:PyData->Rho->Option Rho}{ft:Rho->Option Bool}{fe:RP}{σ:St}{H:Hp}{Q:VK}(h:tD K (zG fi cap ga ft fe) σ H Q):
  alm (tDI K fi) cap (tDG K ga) (tDT K ft) (tD K fe) σ H Q:=by
 obtain⟨ρ,d,en,q,k⟩:=h;cases h1:fi ρ with
 |none=>simp[zG,h1]at q
 | some ds=>
  by_cases hf:few ds=true
  ·cases h2:jU ga ft fe ds (abO cap ρ)with
   |none=>simp[zG,h1,hf,h2]at q
   | some ys=>
    have:PyData.list ys=d:=by simpa[zG,h1,hf,h2]using q
    subst this;refine⟨ρ,ds,en,h1,fun J H1 s1 Y=>?_⟩
    refine⟨fun i m τ us H2=>m=ds.length-i/\i<=ds.length/\jo H1 H2/\us.length<=i/\∃ρ2 zs ws,EnvR K H2 ρ2 τ/\Reps K H2 zs us/\jU ga ft fe (ds.drop i) ρ2=some ws/\ys=zs++ws,
     ⟨ds.length,by simp,Nat.zero_le _,jo.refl _,Nat.le_refl _,abO cap ρ,[],ys,(en.mono s1).cap cap,rfl,by simpa using h2,rfl⟩,?_⟩
    rintro i m τ us H2 ⟨rfl,hi',s2,hu,ρ2,zs,ws,en2,r2,q2,ey⟩
    have hsm:us.length<sizeLine:=Nat.lt_of_le_of_lt (Nat.le_trans hu hi') (Nat.lt_of_lt_of_le (by simpa[few]using hf) (by rw[sizeLine_eq];decide:1000000<=sizeLine));obtain⟨g1,g2,g3⟩:=Y i H2 (jo.a s2);refine⟨hsm,?_⟩;by_cases hlt:i<ds.length
    ·right
     have hd:ds.drop i=ds[i]::ds.drop (i+1):=List.drop_eq_getElem_cons hlt;rw[hd]at q2;refine⟨g1 hlt,fun x H3 y=>?_⟩;obtain⟨s3,r3⟩:=g3 x H3 y;have r3':=r3 ds[i] (by simp[hlt]);cases h4:ga ds[i] ρ2 with
     |none=>simp[jU,h4]at q2
     | some ρ4=>
      refine⟨ρ2,ds[i],ρ4,en2.mono s3,r3',h4,fun σ5 H5 s5 en5=>?_⟩;cases h5:ft ρ4 with
      |none=>simp[jU,h4,h5]at q2
      | some b=>
       refine⟨ρ4,b,en5,h5,fun H6 s6=>?_⟩;have s26:=s3.trans (s5.trans s6);cases b with
       | false=>
        refine arH ?_;exact⟨ds.length-(i+1),by omega,rfl,hlt,s2.trans s26,by omega,ρ4,zs,ws,en5.mono s6,Reps.mono s26 _ _ r2,by simpa[jU,h4,h5]using q2,ey⟩
       | true=>
        refine arI ?_;cases h6:fe ρ4 with
        |none=>simp[jU,h4,h5,h6]at q2
        | some y=>
         cases h7:jU ga ft fe (ds.drop (i+1)) ρ4 with
         |none=>simp[jU,h4,h5,h6,h7]at q2
         | some ws'=>
          have hw:y::ws'=ws:=by simpa[jU,h4,h5,h6,h7]using q2
          refine⟨ρ4,y,en5.mono s6,h6,fun v H7 s7 r7=>?_⟩;refine⟨ds.length-(i+1),by omega,rfl,hlt,s2.trans (s26.trans s7),by rw[List.length_append];simp;omega,ρ4,zs++[y],ws',(en5.mono s6).mono s7,(Reps.mono (s26.trans s7) _ _ r2).append ⟨v,[],rfl,r7,rfl⟩,h7,?_⟩;rw[ey,←hw];simp
    ·left
     have he:i=ds.length:=by omega
     have hn:ds.drop i=[]:=by rw[he];simp
     rw[hn]at q2;have hw:[]=ws:=by simpa[jU]using q2
     subst hw;have ey':ys=zs:=by simpa using ey
     subst ey';exact⟨g2 (by omega),fun l hl=>k _ _ (s1.trans (s2.trans (jI hl))) ⟨l,us,rfl,jt,Reps.mono (jI hl) _ _ r2⟩⟩
  ·simp[zG,h1,hf]at q
section
variable {X:Cx}{tg src:Expr}{pos pos':Pos}
theorem adq(i:Nat){x:Str}{el:Expr}{ts:List Expr}{sc:Scope}{ps:Pos}{fi:Rho->Option (LP)}{ga:PyData->Rho->Option Rho}{ft:Rho->Option Bool}{fe:RP}(N':List Str)(cap:List (Option Nat))(hc:X.calm=true)(hN:X.N.Nodup)(hi:PID X tg src fi)(ok:CompOk X sc N' cap)
  (body:∀cl C s0 H0 fp pn,PGD (blk X N' sc cl C s0 H0 fp pn) tg ga/\an5 (blk X N' sc cl C s0 H0 fp pn) ts ft/\PD (blk X N' sc cl C s0 H0 fp pn) el fe)
  (hi0:X.N[i]?=some x:=by rfl) (hx:Loc X.env.scope x:=by first|exact Or.inl rfl|exact Or.inr rfl) (hsw:swapsWith (.ListComp el [⟨tg,src,ts,0⟩] sc ps) (some (.Name x pos')) pos.line X.env=pure true:=by rfl)
  (hf:X.fn x=true∨X.env.scope.names.lookup x=some .local:=by first|exact .inl rfl|exact .inr rfl|assumption)
  (hs:∀x,foldedSetIterable src X.env x=pure x:=by intro _;rfl):PSD X (.Assign [.Name x pos'] (.ListComp el [⟨tg,src,ts,0⟩] sc ps) pos) (qV (zG fi cap ga ft fe) (jB i)):=by
 with_unfolding_all
  refine PS.imp (aom (g:=tDG X.K ga) (tt:=tDT X.K ft) (te:=tD X.K fe) hc hi ok (fun cl C s0 H0 fp pn=>body cl C s0 H0 fp pn) hN hi0 hx hsw hf hs) fun D σ H ⟨ρ,o,en,q,k⟩=>alS ?_;cases h1:zG fi cap ga ft fe ρ with
  |none=>simp[qV,h1]at q
  | some d=>
   have:Out.nx (ρ.set i (some d))=o:=by simpa[qV,h1,jB]using q
   subst this;exact⟨ρ,d,en,h1,fun v H1 s1 r1=>k _ H1 s1 ((en.mono s1).set r1)⟩
end
structure Mine(X:Cx)(H:Hp)(b:Addr):Prop where
 un:H b=none
 new:X.s₀.heap.get? b=none
 loc:b≠X.env.locals
 cel:∀x c,X.env.cells.lookup x=some c->c≠b
 pin:∀p∈X.pn,p.1≠b
structure Xc(X:Cx)(H:Hp)(h:Heap)(e C:Addr):Prop where
 mine:Mine X H e
 ob:∃oe vs,h.get? e=some oe/\(oe.cls= .ref C/\oe.dict=none)/\oe.data= .fields vs/\1<vs.size/\
  (vs[1]?=some .none∨∃T oT ts,vs[1]?=some (.ref T)/\T≠e/\Mine X H T/\h.get? T=some oT/\oT.data= .fields ts/\3<ts.size)
theorem Inv.exIn{X:Cx}{Kp:List (Addr×Obj)}{σ:St}{H:Hp}{s:Shared}{ch:List Addr}(I:Inv X Kp σ H s)(hn:∀b∈ch,X.s₀.heap.get? b=none/\b≠X.env.locals/\∀x c,X.env.cells.lookup x=some c->c≠b):Inv { X with ex:=ch++X.ex } Kp σ H s:=by
 have no:∀b,b∉ch++X.ex->b∉X.ex:=fun b h z=>h (List.mem_append_right _ z)
 refine⟨⟨I.ok.mod,I.ok.kind,I.ok.glob,I.ok.blt,I.ok.above,I.ok.inj,I.ok.has,I.ok.cab,I.ok.hd,I.ok.frames,I.ok.stk,fun b hb=>?_,I.ok.bs,I.ok.bsz,fun b o e hb=>?_,fun b hb z=>?_,I.ok.funs,I.ok.frf⟩,I.os,I.bare,
  ⟨fun b o e n hf hx=>I.base.keep b o e n hf (no b hx),fun b o e n hf hx=>I.base.slot b o e n hf (no b hx),fun b o e n hx=>I.base.free b o e n (no b hx),fun b o e hx=>I.base.there b o e (no b hx),I.base.tups,I.base.frzs,I.base.tbls⟩,I.loc,I.cell,I.free,I.freeC,I.pin,I.hok,I.len⟩
 ·rcases List.mem_append.mp hb with q | q
  ·exact(hn b q).2
  ·exact I.ok.exf b q
 ·rcases List.mem_append.mp hb with q | q
  ·have:=(I.ok.bs b o e).1
   rw[(hn b q).1]at this;cases this
  ·exact I.ok.noex b o e q
 ·rcases List.mem_append.mp hb with q | q
  ·obtain⟨_,o,ho,_⟩:=I.ok.funs.mem z
   rw[(hn b q).1]at ho;cases ho
  ·exact I.ok.exfs b q z
theorem Inv.exOut{X:Cx}{Kp:List (Addr×Obj)}{σ:St}{H:Hp}{s:Shared}{ch:List Addr}(I:Inv { X with ex:=ch++X.ex } Kp σ H s)(ok:X.Ok)(hn:∀b∈ch,X.s₀.heap.get? b=none):Inv X Kp σ H s:=by
 have no:∀b o,X.s₀.heap.get? b=some o->b∉X.ex->b∉ch++X.ex:=fun b o e h z=>by
  rcases List.mem_append.mp z with q | q
  ·rw[hn b q]at e;cases e
  ·exact h q
 exact⟨ok,I.os,I.bare,⟨fun b o e n hf hx=>I.base.keep b o e n hf (no b o e hx),fun b o e n hf hx=>I.base.slot b o e n hf (no b o e hx),fun b o e n hx=>I.base.free b o e n (no b o e hx),fun b o e hx=>I.base.there b o e (no b o e hx),I.base.tups,I.base.frzs,I.base.tbls⟩,I.loc,I.cell,I.free,I.freeC,I.pin,I.hok,I.len⟩
section
variable {X:Cx}{σ:St}{H:Hp}{s:Shared}{h':Heap}{e C:Addr}{E:Value->SP0}{A:Around}
theorem Inv.shake{ch:List Addr}(I:Inv X [] σ H s)(hm:∀b∈ch,Mine X H b)(keep:∀b o,b∉frs X.stack->b∉ch->s.heap.get? b=some o->h'.get? b=some o)
  (slot:∀b o,b∈frs X.stack->b∉ch->s.heap.get? b=some o->∃sl,h'.get? b=some { o with slots:=sl }):Inv X [] σ H { s with heap:=h' }:=by
 have u:Un (frs X.stack) ch H H s.heap h':=⟨fun b o q _ nf nc=>keep b o nf nc q,fun b o q _ hf nc=>slot b o hf nc q,fun _ _ _ n _=>n,fun b o q nc=>by
  by_cases hf:b ∈ frs X.stack
  ·obtain ⟨sl,z⟩:=slot b o hf nc q; exact ⟨_,z⟩
  ·exact ⟨o,keep b o hf nc q⟩,fun _ _ q=>q,fun _ _ _ q=>q,fun _ ps q=>⟨#[],by rw [q]; simp⟩⟩
 have hok:HOk X.prog X.w H h':=fun b o q=>(I.hok b o q).stay (fun c v hc r=>by
  have hb:H c ≠ none:=by
   rcases hc with rfl | hc
   ·rw [q]; exact fun z=>nomatch z
   ·rw [hc]; exact fun z=>nomatch z
  exact keep c v (fun z=>hb (I.stkFree c z)) (fun z=>hb (hm c z).un) r) (fun _ r=>r) fun _ _ r=>r
 exact Inv.exOut (Inv.call (X:={ X with ex:=ch++X.ex }) (g':=s.gens) (d':=s.drawn) (t':=s.toks) (Inv.exIn I fun b hb=>⟨(hm b hb).new,(hm b hb).loc,(hm b hb).cel⟩) u hok I.bare fun b hb=>⟨.inl (List.mem_append_left _ hb),(hm b hb).loc,(hm b hb).cel,fun p hp=>(hm b hb).pin p (by simpa using hp)⟩) I.ok fun b hb=>(hm b hb).new
structure XcT(X:Cx)(H:Hp)(h:Heap)(e C:Addr):Prop where
 mine:Mine X H e
 ob:∃oe vs T oT ts,h.get? e=some oe/\(oe.cls= .ref C/\oe.dict=none)/\oe.data= .fields vs/\vs[1]?=some (.ref T)/\T≠e/\Mine X H T/\h.get? T=some oT/\oT.data= .fields ts/\3<ts.size
theorem XcT.c{h:Heap}(x:XcT X H h e C):Xc X H h e C:=by
 obtain⟨oe,vs,T,oT,ts,h1,h2,h3,h4,h5,h6,h7,h8,h9⟩:=x.ob;exact⟨x.mine,oe,vs,h1,h2,h3,(Array.getElem?_eq_some_iff.mp h4).1,.inr ⟨T,oT,ts,h4,h5,h6,h7,h8,h9⟩⟩
structure Top0(X:Cx):Prop where
 st:X.stack=X.env::X.Ko
 fr:X.env.frame=some X.env.locals
 ex:X.ex=[]
theorem Mine.nofr{b:Addr}(m:Mine X H b)(I:Inv X [] σ H s):b∉frs X.stack:=fun z=>by
 rcases List.mem_cons.mp (I.stkSub b z)with q | q
 ·exact m.loc q
 ·obtain⟨_,o,ho,_⟩:=I.ok.funs.mem q
  rw[m.new]at ho;cases ho
theorem aon{P:Program}{w:World}{h:Heap}{b:Addr}{u:HO}(hok:HOk P w H h)(hH:H b=some u)(hb:h.get? b=none):False:=by
 have x:=hok b u hH;have no:∀{o:Obj},h.get? b=some o->False:=fun {o} q=>by rw[hb]at q;cases q
 cases u with
 |lst xs=>obtain⟨_,_,_,_,e⟩:=x;exact no e
 |tup xs=>obtain⟨_,_,_,⟨_,e,_⟩⟩:=x;exact no e
 |dK kvs=>obtain⟨_,_,_,_,o,_,_,e,_⟩:=x;exact no e
 |dT kvs=>obtain⟨_,_,_,_,o,_,_,e,_⟩:=x;exact no e
 |set S n=>obtain⟨o,_,_,_,e,_⟩:=x;exact no e
 |ins C dx fs=>obtain⟨_,_,_,e,_⟩:=x;exact no e
 |own y=>obtain⟨_,e⟩:=x;exact no e
 |xd fs=>obtain⟨_,⟨_,_,_,e,_⟩,_⟩:=x;exact no e
 |rng lo hi=>obtain⟨_,_,_,e⟩:=x;exact no e
 |frz ob u=>obtain⟨e,_⟩:=x;exact no e
 |tbl ps=>exact no (show h.get? b=some _ from x)
 |met f y=>exact no (show h.get? b=some _ from x)
 |ext φ=>obtain⟨_,⟨_,e⟩,_⟩:=x;exact no e
theorem aba(hx:X.ex=[])(I:Inv X [] σ H s){b:Addr}(hb:s.heap.get? b=none):Mine X H b:=by
 have no:∀{o:Obj},s.heap.get? b=some o->False:=fun {o} q=>by rw[hb]at q;cases q
 refine⟨?_,?_,fun z=>?_,fun x c q z=>?_,fun p hp z=>?_⟩
 ·cases hH:H b with
  |none=>rfl
  |some u=>exact(aon I.hok hH hb).elim
 ·cases h0:X.s₀.heap.get? b with
  |none=>rfl
  | some o=>
   obtain⟨o',q⟩:=I.base.there b o h0 (by rw[hx];simp);exact(no q).elim
 ·subst z
  obtain⟨m,⟨o,_,_,ho,_⟩,_⟩:=I.loc;exact no ho
 ·obtain⟨v,o,ho,_⟩:=I.cell x c q
  subst z;exact no ho
 ·have:=(I.pin p (List.mem_append_left _ hp)).1
  rw[z]at this;exact no this
theorem agB{oe:Obj}{vs:Array Value}{head:Value}{hadNext:Bool}(T0:Top0 X)(hA:A.frames=some X.stack)(I:Inv X [] σ H s)(me:Mine X H e)(he:s.heap.get? e=some oe)(hc:oe.cls= .ref C/\oe.dict=none)(hd:oe.data= .fields vs)(hsz:1<vs.size):
  wpAny (model X.prog X.w) A (do let a ←frameOf X.env;let pl ←entryPlaceOf X.env.locals hadNext;let b ←EntryCells.newEntry head a .none (rawInt X.env.locals) .none pl;setField (.ref e) 1 b) (fun _ s'=>Inv X [] σ H s'/\XcT X H s'.heap e C) E s:=by
 have hst:=T0.st;have hfn:=I.stack;rw[hst]at hfn hA
 have hene:e∉(X.env::X.Ko).filterMap (·.frame):=by
  have:=me.nofr I;rw[hst]at this;exact this
 refine wpAny_bind (wpAny_frameOf_fun hA hfn T0.fr fun h₁ hs₁=>?_);refine wpAny_bind (wpAny_entryPlaceOf fun pl hpl=>?_);unfold EntryCells.newEntry newFields;refine wpAny_bind (wpAny_newObj_type ?_ (hpl.sizeOk5 _ _ _ _ _));have he₁:h₁.get? e=some oe:=(hs₁.2.1 e hene).trans he;generalize hob:({ cls:= .type "traceback",dict:=none,data:= .fields ([head,Value.ref X.env.locals,.none,rawInt X.env.locals,.none]++(if pl.isEmpty then List.replicate 6 Value.none else pl)).toArray }:Obj)=ob;have obd:ob.data= .fields ([head,Value.ref X.env.locals,.none,rawInt X.env.locals,.none]++(if pl.isEmpty then List.replicate 6 Value.none else pl)).toArray:=by rw[←hob]
 have obf:ob.isFreed=false:=by rw[←hob];rfl
 have he₂:(h₁.push ob).get? e=some oe:=Heap.get?_push_of_some ob he₁;refine wpAny_setField he₂ hd hsz ?_;have hTe:h₁.objs.size≠e:=Nat.ne_of_gt (Heap.lt_size he₁);have hd₃:=Obj.data_mapFields hd (·.setIfInBounds 1 (Value.ref h₁.objs.size));have he₃:=Heap.get?_update_self (Obj.mapFields (·.setIfInBounds 1 (Value.ref h₁.objs.size))) he₂ (Obj.isFreed_of_fields hd₃);have hT₃:((h₁.push ob).update e (Obj.mapFields (·.setIfInBounds 1 (Value.ref h₁.objs.size)))).get? h₁.objs.size=some ob:=(Heap.get?_update_other _ _ (Ne.symm hTe)).trans (Heap.get?_push_size h₁ obf)
 have keep:∀b o,b≠e->h₁.get? b=some o->((h₁.push ob).update e (Obj.mapFields (·.setIfInBounds 1 (Value.ref h₁.objs.size)))).get? b=some o:=fun b o hb q=>by
  rw[Heap.get?_update_other _ _ (Ne.symm hb)];exact Heap.get?_push_of_some _ q
 have hfr:frs X.stack=(X.env::X.Ko).filterMap (·.frame):=by rw[hst];rfl
 have sz:h₁.objs.size=s.heap.objs.size:=hs₁.1
 have J:Inv X [] σ H { s with heap:=(h₁.push ob).update e (Obj.mapFields (·.setIfInBounds 1 (Value.ref h₁.objs.size))) }:=by
  refine Inv.shake (s:=s) (ch:=[e]) I (fun b hb=>by rw[List.mem_singleton.mp hb];exact me) (fun b o nf nc q=>keep b o (fun z=>nc (by simp[z])) ((hs₁.2.1 b (by rw[←hfr];exact nf)).trans q)) (fun b o _ nc q=>?_);obtain⟨sl,z⟩:=hs₁.2.2 b o q;exact⟨sl,keep b _ (fun w=>nc (by simp[w])) z⟩
 refine⟨J,me,_,_,h₁.objs.size,ob,_,he₃,?_,hd₃,by simp[hsz],hTe,?_,hT₃,obd,?_⟩
 ·rw[Obj.cls_mapFields];exact⟨hc.1,by unfold Obj.mapFields;split<;>exact hc.2⟩
 ·exact aba T0.ex I (Heap.get?_none_of_le (by rw[sz];exact Nat.le_refl _))
 ·simp only[List.size_toArray,List.length_append,List.length_cons,List.length_nil];omega
theorem afv(T0:Top0 X)(hA:A.frames=some X.stack)(I:Inv X [] σ H s)(x:Xc X H s.heap e C):wpAny (model X.prog X.w) A (noteFrame (.ref e) X.env) (fun _ s'=>Inv X [] σ H s'/\XcT X H s'.heap e C) E s:=by
 obtain⟨oe,vs,he,hc,hd,hsz,hT⟩:=x.ob;unfold noteFrame;simp only[T0.fr];rcases hT with h1 | ⟨T,oT,ts,h1,hTe,mT,hT,hdT,h3⟩
 ·refine wpAny_bind (wpAny_field he hd h1 ?_)
  rw[if_neg (by decide)];exact agB T0 hA I x.mine he hc hd hsz
 ·refine wpAny_bind (wpAny_field he hd h1 ?_)
  rw[if_pos (show(Value.ref T != Value.none)=true from by simp)];refine wpAny_bind (wpAny_field hT hdT (x:=ts[3]) (by simp[h3]) ?_);by_cases hq:(ts[3]==rawInt X.env.locals)=true
  ·rw[if_pos hq]
   exact wpAny_pure ⟨I,x.mine,oe,vs,T,oT,ts,he,hc,hd,h1,hTe,mT,hT,hdT,h3⟩
  ·rw[if_neg hq]
   refine wpAny_bind (wpAny_setField hT hdT h3 ?_);have other:∀b,b≠T->(s.heap.update T (Obj.mapFields (·.setIfInBounds 3 Value.none))).get? b=s.heap.get? b:=fun b hb=>Heap.get?_update_other _ _ (Ne.symm hb)
   have J:Inv X [] σ H { s with heap:=s.heap.update T (Obj.mapFields (·.setIfInBounds 3 Value.none)) }:=
    Inv.shake (s:=s) (ch:=[T]) I (fun b hb=>by rw[List.mem_singleton.mp hb];exact mT) (fun b o _ nc q=>(other b fun z=>nc (by simp[z])).trans q) fun b o _ nc q=>⟨o.slots,(other b fun z=>nc (by simp[z])).trans q⟩
   exact agB (s:={ s with heap:=s.heap.update T (Obj.mapFields (·.setIfInBounds 3 Value.none)) }) T0 hA J x.mine ((other e (Ne.symm hTe)).trans he) hc hd hsz
theorem QK(fl:Option Addr)(I:Inv X [] σ H s)(x:XcT X H s.heap e C):wpAny (model X.prog X.w) A (setFlight (.ref e) fl) (fun _ s'=>Inv X [] σ H s'/\XcT X H s'.heap e C) E s:=by
 obtain⟨oe,vs,T,oT,ts,he,hc,hd,h1,hTe,mT,hT,hdT,h3⟩:=x.ob;unfold setFlight;refine wpAny_bind (wpAny_field he hd h1 ?_);rw[if_pos (show(Value.ref T != Value.none)=true from by simp)];refine wpAny_setField hT hdT h3 ?_;have other:∀b,b≠T->(s.heap.update T (Obj.mapFields (·.setIfInBounds 3 (fl.elim Value.none fun f=>rawInt f)))).get? b=s.heap.get? b:=fun b hb=>Heap.get?_update_other _ _ (Ne.symm hb)
 have J:Inv X [] σ H { s with heap:=s.heap.update T (Obj.mapFields (·.setIfInBounds 3 (fl.elim Value.none fun f=>rawInt f))) }:=
  Inv.shake (s:=s) (ch:=[T]) I (fun b hb=>by rw[List.mem_singleton.mp hb];exact mT) (fun b o _ nc q=>(other b fun z=>nc (by simp[z])).trans q) fun b o _ nc q=>⟨o.slots,(other b fun z=>nc (by simp[z])).trans q⟩
 exact⟨J,x.mine,oe,vs,T,_,_,(other e (Ne.symm hTe)).trans he,hc,hd,h1,hTe,mT,Heap.get?_update_self _ hT (Obj.isFreed_of_fields (Obj.data_mapFields hdT _)),Obj.data_mapFields hdT _,by simpa using h3⟩
theorem asW{P:Value->SP0}(T0:Top0 X)(hA:A.frames=some X.stack)(hP:∀e s,P e s->∃a C σ H,e= .ref a/\Inv X [] σ H s/\Xc X H s.heap a C/\∀s',Inv X [] σ H s'->XcT X H s'.heap a C->P e s'):PassesOwn (model X.prog X.w) A X.env P:=fun ev s' h=>by
 obtain⟨a,C,σ,H,rfl,I,x,back⟩:=hP ev s' h;refine wpAny_mono (afv (E:=fun _ _=>False) T0 hA I x) (fun _ s2 ⟨I2,x2⟩=>?_) fun _ _ z=>z.elim;obtain⟨oe,vs,T,oT,ts,he,hc,hd,h1,r⟩:=id x2.ob;unfold cameBackBy;refine wpAny_bind (wpAny_field he hd h1 ?_);rw[if_neg (by simp)]
 first
  |exact wpAny_mono (QK (E:=fun _ _=>False) _ I2 x2) (fun _ s3 ⟨I3,x3⟩=>back s3 I3 x3) fun _ _ z=>z.elim
  |exact wpAny_bind (wpAny_pure (wpAny_mono (QK (E:=fun _ _=>False) _ I2 x2) (fun _ s3 ⟨I3,x3⟩=>back s3 I3 x3) fun _ _ z=>z.elim))
end
structure XcO(h0:Heap)(H:Hp)(h:Heap)(e C:Addr):Prop where
 un:H e=none
 new:h0.get? e=none
 ob:∃oe vs T oT ts,h.get? e=some oe/\(oe.cls= .ref C/\oe.dict=none)/\oe.data= .fields vs/\vs[1]?=some (.ref T)/\T≠e/\H T=none/\h0.get? T=none/\h.get? T=some oT/\oT.data= .fields ts/\3<ts.size
noncomputable def CXt(P:Program)(w:World):CXT:=fun Ko H s E ev s'=>∃e C H',ev= .ref e/\s'.os=s.os/\AllBare s'.gens/\Un (frs Ko) [] H H' s.heap s'.heap/\HOk P w H' s'.heap/\XcO s.heap H' s'.heap e C/\E (.ref C) none H'
section
variable {X:Cx}
theorem Xc.of(hx:X.ex=[]){Kp:List (Addr×Obj)}{σ:St}{H H':Hp}{s s':Shared}{e0 C:Addr}(I:Inv X Kp σ H s)(x:XcO s.heap H' s'.heap e0 C):Xc X H' s'.heap e0 C:=by
 have J:Inv X [] σ H s:=I.pins_of fun p hp=>nomatch hp
 obtain⟨oe,ws,T,oT,ts,h1,h2,h3,h4,h5,h6,h7,h8,h9,h10⟩:=x.ob;have m1:=aba hx J x.new;have m2:=aba hx J h7;exact⟨⟨x.un,m1.new,m1.loc,m1.cel,m1.pin⟩,oe,ws,h1,h2,h3,(Array.getElem?_eq_some_iff.mp h4).1,.inr ⟨T,oT,ts,h4,h5,⟨h6,m2.new,m2.loc,m2.cel,m2.pin⟩,h8,h9,h10⟩⟩
end
noncomputable def Thr(X:Cx)(H:Hp)(c:Str)(ev:Value)(s':Shared):Prop:=∃e C σ' H',ev= .ref e/\X.mg c=some (.ref C)/\Inv X [] σ' H' s'/\jo H H'/\Xc X H' s'.heap e C
theorem Thr.mono{X:Cx}{H H1:Hp}{c:Str}{ev:Value}{s':Shared}(s:jo H H1)(h:Thr X H1 c ev s'):Thr X H c ev s':=by
 obtain⟨e,C,σ',H',h1,h2,h3,h4,h5⟩:=h;exact⟨e,C,σ',H',h1,h2,h3,s.trans h4,h5⟩
@[irreducible] noncomputable def PDX(X:Cx)(e:Expr)(fx:Rho->Option Str):Prop:=∀(s:Shared) (σ:St) (H:Hp) (ρ:Rho) (c:Str),Inv X [] σ H s->EnvR X.K H ρ σ->fx ρ=some c->(∀ev s',Thr X H c ev s'->X.xe ev s')->wpAny (model X.prog X.w) X.A (eval e X.env) (fun _ _=>False) X.xe s
@[irreducible] noncomputable def PSX(X:Cx)(st:Stmt)(fx:Rho->Option Str):Prop:=∀(s:Shared) (σ:St) (H:Hp) (ρ:Rho) (c:Str),Inv X [] σ H s->EnvR X.K H ρ σ->fx ρ=some c->(∀ev s',Thr X H c ev s'->X.xe ev s')->wpAny (model X.prog X.w) X.A (exec st X.env) (fun _ _=>False) X.xe s
@[irreducible] noncomputable def acu(X:Cx)(sts:List Stmt)(fx:Rho->Option Str):Prop:=∀(s:Shared) (σ:St) (H:Hp) (ρ:Rho) (c:Str),Inv X [] σ H s->EnvR X.K H ρ σ->fx ρ=some c->(∀ev s',Thr X H c ev s'->X.xe ev s')->wpAny (model X.prog X.w) X.A (execs sts X.env) (fun _ _=>False) X.xe s
noncomputable def vB:List Value:=[.type "ValueError",.type "Exception",.type "BaseException",.type "object"]
noncomputable def aic(K:Fg)(mg:SV)(x:Str):Prop:=∃C,mg x=some (.ref C)/\PySem.W.excIn K C vB "ValueError.__new__"=true
theorem aoo{K:Fg}{h:Heap}{C:Addr}(X:K.In h)(q:PySem.W.excIn K C vB "ValueError.__new__"=true):
  ∃bm N nm qn bs hdct sn sub ab col dd k0 k1 k2 k3 k5 mN,h.get? C=some (excClassObj nm qn C N bs bm hdct sn sub ab col dd k0 k1 k2 k3 k5 "ValueError.__new__")/\h.Ns N mN/\mN "__init__"=none/\OwnTail h vB bm:=by
 unfold PySem.W.excIn at q;split at q
 ·rename_i dd cd sl ho
  split at q
  ·rename_i C' bm k0 k1 k2 k3 n k5 hm hs
   simp only[Bool.and_eq_true,beq_iff_eq,Bool.not_eq_true']at q;obtain⟨⟨⟨⟨⟨rfl,rfl⟩,hdel⟩,ht⟩,hok⟩,hni⟩:=q;obtain⟨nm,bs,mro,ns,qn,hd,sn,sub,ab,col,del⟩:=cd;dsimp only at hm hdel hok hni;subst hm hdel
   have hsl:sl=#[k0,k1,k2,k3,some (.builtin "ValueError.__new__"),k5]:=by
    obtain⟨l⟩:=sl;simp only at hs;rw[hs]
   subst hsl;exact⟨bm,ns,nm,qn,bs,hd,sn,sub,ab,col,dd,k0,k1,k2,k3,k5,_,X _ _ ho,.of_isNs (PySem.W.isNs_of_in X hok),PySem.W.nsMap_none_of_in X hok hni,PySem.W.tail_of_in X ht⟩
  ·cases q
 ·cases q
section
variable {X:Cx}{e a b c:Expr}{es:List Expr}{st:Stmt}{sts qh:List Stmt}{fx gx:Rho->Option Str}{F:RO}{pos:Pos}
theorem jD(h:PSX X st fx):acu X (st::qh) fx:=by
 with_unfolding_all
  intro s σ H ρ c I en q k;exact wpAny_execs_cons (wpAny_mono (h s σ H ρ c I en q k) (fun _ _ z=>z.elim) fun _ _ z=>z)
noncomputable def nxX(F:RO)(gx:Rho->Option Str):Rho->Option Str:=fun ρ=>(F ρ).bind fun o=>match o with
 |.nx ρ'=>gx ρ'
 |_=>none
theorem zr(h1:PSD X st F)(h2:acu X qh gx):acu X (st::qh) (nxX F gx):=by
 with_unfolding_all
  intro s σ H ρ c I en q k;cases hF:F ρ with
  |none=>simp[nxX,hF]at q
  | some o=>
   cases o with
   | nx ρ'=>
    have q':gx ρ'=some c:=by simpa[nxX,hF]using q
    refine wpAny_execs_cons (wpAny_mono (h1 [] s σ H { nx:=fun σ' H'=>jo H H'/\EnvR X.K H' ρ' σ',rt:=fun _ _=>False,bk:=fun _ _=>False,ct:=fun _ _=>False } I ⟨ρ,.nx ρ',en,hF,fun σ' H' s1 e1=>⟨s1,e1⟩⟩) (fun f s1 z=>?_) fun _ _ z=>z);cases f with
    | next=>
     obtain⟨σ',H',I',sm,e1⟩:=z;exact wpAny_mono (h2 s1 σ' H' ρ' c I' e1 q' fun ev s' t=>k ev s' (t.mono sm)) (fun _ _ z=>z.elim) fun _ _ z=>z
    |brk=>obtain⟨_,_,_,z⟩:=z;exact z.elim
    |cont=>obtain⟨_,_,_,z⟩:=z;exact z.elim
    |ret u=>obtain⟨_,_,_,_,_,z⟩:=z;exact z.elim
   |_=>simp[nxX,hF]at q
noncomputable def ifX(tc:Rho->Option Bool)(fx gx:Rho->Option Str):Rho->Option Str:=fun ρ=>(tc ρ).bind fun x=>if x=true then fx ρ else gx ρ
noncomputable def aop:Rho->Option Str:=fun _=>none
theorem zP:acu X sts aop:=by
 with_unfolding_all
  intro s σ H ρ c I en q k;cases q
theorem aaJ{l r:List Stmt}{tc:Rho->Option Bool}(hc:PTD X a tc)(hl:acu X l fx)(hr:acu X r gx):PSX X (.If a l r pos) (ifX tc fx gx):=by
 with_unfolding_all
  intro s σ H ρ c I en q k;cases ht:tc ρ with
  |none=>simp[ifX,ht]at q
  | some x=>
   refine wpAny_If (wpAny_mono (hc [] s σ H (fun b H'=>b=x/\jo H H') I ⟨ρ,x,en,ht,fun H' s1=>⟨rfl,s1⟩⟩) (fun d s1 z=>?_) fun _ _ z=>z);obtain⟨H1,I1,rfl,s1'⟩:=z;cases d with
   |true=>exact hl s1 σ H1 ρ c I1 (en.mono s1') (by simpa[ifX,ht]using q) fun ev s' t=>k ev s' (t.mono s1')
   |false=>exact hr s1 σ H1 ρ c I1 (en.mono s1') (by simpa[ifX,ht]using q) fun ev s' t=>k ev s' (t.mono s1')
theorem abb(h:PDX X e fx):PSX X (.Return (some e) pos) fx:=by
 with_unfolding_all
  intro s σ H ρ c I en q k;exact wpAny_Return_some (wpAny_mono (h s σ H ρ c I en q k) (fun _ _ z=>z.elim) fun _ _ z=>z)
theorem qW(h:PDX X e fx)(hs:swapsWith e none pos.line X.env=pure false:=by rfl):PSX X (.Expr e pos) fx:=by
 with_unfolding_all
  intro s σ H ρ c I en q k;exact wpAny_Expr_any (wpAny_mono (h s σ H ρ c I en q k) (fun _ _ z=>z.elim) fun _ _ z=>z) I.quiet hs
end
noncomputable def aj7(K:Fg)(mg:SV)(n:Nat)(gx:LP->Option Str):Sp:=fun vs H _ E=>∃ds c,ds.length=n/\Reps K H ds vs/\gx ds=some c/\∀C H',mg c=some (.ref C)->jo H H'->E (.ref C) none H'
noncomputable def zB(P:Program)(w:World)(K:Fg)(mg:SV)(base:Heap)(x:Str)(ps:List Str)(k n:Nat)(gx:LP->Option Str):Prop:=
 ∃(f:Addr) (fd:FuncData),FnOk P w K mg base (CXt P w) k f fd ps (aj7 K mg n gx)/\mg x=some (.ref f)/\PySem.W.keepIn K (.ref f)=true/\aaW K fd ps []
section
variable {X:Cx}{e a b c:Expr}{es:List Expr}{st:Stmt}{sts qh:List Stmt}{fx gx:Rho->Option Str}{F:RO}{pos:Pos}
theorem qz{k j n:Nat}{ps:List Str}{g:LP->Option Str}{x:Str}{p:Pos}{fr:Rho->Option (LP)}(hxe:X.ex=[])(C:zB X.prog X.w X.K X.mg X.base x ps k n g)(hr:Room j X.A)(hkj:k<=j)(ha:PAD X (e::es) fr)(hl:∀ρ ds,fr ρ=some ds->ds.length=n)
  (hg:Gl X x:=by rfl) (hdb:(x==("__debug__":Str))=false:=by decide) (he:starEach (e::es) X.env=(false,eval e X.env)::starEach es X.env:=by rfl)
  (hpl:(backTo pos (starEach es X.env)).any (·.1)=false:=by rfl):PDX X (.Call (.Name x p) (e::es) [] pos) (fun ρ=>(fr ρ).bind g):=by
 with_unfolding_all
  intro s σ H ρ c I en q k';obtain⟨f,fd,F,hm,hk,hb⟩:=C;cases hd:fr ρ with
  |none=>simp[hd]at q
  | some ds=>
   have q':g ds=some c:=by simpa[hd]using q
   refine wpAny_Call_Name_kw (aaU I hg hm ?_ hdb);refine PySem.W.callWith_K (h₀:=X.base) I.ok.mod.kin hk (thn (ha pos [] s σ H (fun vs H1=>jo H H1/\Reps X.K H1 ds vs) I ⟨ρ,ds,en,hd,fun vs H1 s1 r1=>⟨s1,r1⟩⟩) fun us s1 ⟨vs,H1,I1,r,sm,rd⟩=>⟨I1.kIn,?_⟩) he hpl;have hsp:aj7 X.K X.mg n g vs H1 (fun _ _=>False) (fun cls _ H'=>X.mg c=some cls/\jo H1 H')->vs.length=ps.length:=fun z=>F.len _ _ _ _ z;by_cases hn:ds.length=n
   ·have sp:aj7 X.K X.mg n g vs H1 (fun _ _=>False) (fun cls _ H'=>X.mg c=some cls/\jo H1 H'):=⟨ds,c,hn,rd,q',fun C H' hC s2=>⟨hC,s2⟩⟩
    have hlu:(us++[]).length=ps.length:=by rw[List.append_nil,←r.length];exact hsp sp
    have hbd:=hb s1 us I1.kIn hlu;rw[List.append_nil]at hbd;refine wpAny_call (codeAny_mono (F.run X.A X.stack s1 H1 ⟨us,[]⟩ us vs _ _ (hr.mono hkj) I1.env0 hbd r sp) fun rs s' hq=>?_);cases rs with
    | error ev=>
     obtain⟨e0,C,H',rfl,os,bare,un,hok,xc,hC,sm2⟩:=hq;have J':Inv X [] σ H' s':=I1.call' (ch:=[]) os un hok bare fun b z=>nomatch z
     exact k' _ _ ⟨e0,C,σ,H',rfl,hC,J',sm.trans sm2,Xc.of hxe I1 xc⟩
    | ok fl=>
     cases fl with
     |ret u=>obtain⟨v,H',_,_,_,_,_,z⟩:=hq;exact z.elim
     |next=>exact False.elim hq
     |brk=>exact False.elim hq
     |cont=>exact False.elim hq
   ·exact absurd (hl ρ ds hd) hn
theorem QL{x m:Str}{k0:_}{np p3 cpos:Pos}(hxe:X.ex=[])(hE:aic X.K X.mg x)(hc:X.calm=true)(hg:Gl X x:=by rfl)(hdb:(x==("__debug__":Str))=false:=by decide)
  (he:starEach [.Constant (.str m) k0 p3] X.env=[(false,eval (.Constant (.str m) k0 p3) X.env)]:=by rfl):PSX X (.Raise (some (.Call (.Name x np) [.Constant (.str m) k0 p3] [] cpos)) none pos) (fun _=>some x):=by
 with_unfolding_all
  intro s σ H ρ c I en q k;cases q;obtain⟨C,hm,hex⟩:=hE;obtain⟨bm,N,nm,qn,bs,hdct,sn,sub,ab,col,dd,k0',k1,k2,k3,k5,mN,hC,hN,hni,TL⟩:=aoo (h:=X.base) I.ok.mod.kin hex;have hpl:(backTo cpos (starEach [.Constant (.str m) k0 p3] X.env)).any (·.1)=false:=by rw[he];rfl
  refine wpAny_Raise_call_subT (C:=C) (nm:=nm) (q:=qn) (N:=N) (bs:=bs) (bm:=bm) (hdct:=hdct) (sn:=sn) (sub:=sub) (ab:=ab) (col:=col) (dd:=dd) (k0:=k0') (k1:=k1) (k2:=k2) (k3:=k3) (k5:=k5) PySem.F.excBase_ValueError (mN:=mN) (TL.hasType rfl) (I.ok.hd hc) hpl hni ?_;refine wpAny_mono (ae4 (pos:=np) hg hm (show jS (.ref C) (.ref C) from rfl) hdb [] s σ H (fun v H'=>v= .ref C/\H'=H) I ⟨rfl,rfl⟩) (fun v s1 ⟨y,H1,I1,r1,e1,e2⟩=>?_) fun _ _ z=>z;subst e1;subst e2;obtain rfl:v=Value.ref C:=r1;refine⟨rfl,?_⟩;have pa:PA X [.Constant (.str m) k0 p3] _:=qL (X:=X) akY Jk he;have hsp:=pa cpos [] s1 σ H1 (fun vs H'=>vs.length=1/\H'=H1) I1 ⟨rfl,rfl⟩;rw[he]at hsp ⊢;refine Calls.evalArgs_plain (wpAny_mono hsp (fun us s2 ⟨vs,H2,I2,r2,l2,e2⟩=>?_) fun _ _ z=>z);subst e2;have kp:∀b o,X.base.get? b=some o->s2.heap.get? b=some o:=fun b o e=>(I2.bs b o e).1;refine⟨rfl,?_,kp _ _ hC,hN.keeps kp,TL.keeps kp,fun h' e0 md=>?_⟩
  ·show us.length<=sizeLine
   rw[←r2.length,l2,sizeLine_eq];decide
  ·obtain⟨t,h1,h2,h3⟩:=md.there
   have I3:Inv X [] σ H2 { s2 with heap:=h' }:=I2.kept (t':=s2.toks) md.keeps;have m0:=aba hxe I2 md.new;exact k _ _ ⟨e0,C,σ,H2,rfl,hm,I3,jo.refl _,m0,_,_,h1,⟨rfl,rfl⟩,rfl,by simp,.inl rfl⟩
end
theorem alT{CX:CXT}{P:Program}{w:World}{K:Fg}{mg:SV}{base:Heap}{k:Nat}{f:Addr}{name qual:Str}{params:Arguments}{body:List Stmt}{scope:Scope}{dV kV doc pm Kc ct oc:Value}{an od:Option Addr}
  {osl:Array (Option Value)} {N ps:List Str} {sp:Sp} (lk:K.lookup f=some ⟨oc,od,.func (PySem.W.fnOf name qual params body scope dV kV doc pm an Kc ct),osl⟩) (hcd:PySem.W.codeIn K Kc qual=true) (S:FnScope N ps scope)
  (len:∀vs H Q E,sp vs H Q E->vs.length=ps.length)
  (hbody:∀(A:Around) (Ko:List Env) (s:Shared) (H:Hp) (vs:List V) (Q:VK) (E:XK) (s1:Shared),Room k (A.deeper (envOfC qual scope s.heap.objs.size f Kc))->sp vs H Q E->
   Inv (JV CX P w K mg base N qual scope f Kc A Ko s H E) [] (L2.Ji N vs) H s1->
   wpAny (model P w) (A.deeper (envOfC qual scope s.heap.objs.size f Kc)) (execs body (envOfC qual scope s.heap.objs.size f Kc)) (SP (JV CX P w K mg base N qual scope f Kc A Ko s H E) [] { nx:=fun _ H'=>Q .non H',rt:=Q }) (JV CX P w K mg base N qual scope f Kc A Ko s H E).xe s1):
  FnOk P w K mg base CX (k+1) f (PySem.W.fnOf name qual params body scope dV kV doc pm an Kc ct) ps sp:=by
 refine⟨len,fun A Ko s H args us vs Q E hr e0 hb r hsp=>?_⟩;have hl:=len _ _ _ _ hsp;have KX:K.In s.heap:=e0.mod.kin.keeps fun b o e=>(e0.bs b o e).1;have lim:s.heap.NoLimit:=e0.mod.nolimit.keeps fun b o e=>(e0.bs b o e).1
 have hkind:∀y∈ps.zip us,scope.names.lookup y.1=some .local∨(scope.names.lookup y.1=some .cell/\((cellsFrom (s.heap.objs.size+1) scope.names []).lookup y.1).isSome=true):=fun⟨n,v⟩ hy=>by
  rcases S.par n (List.of_mem_zip hy).1 with q | q
  ·exact .inl q
  ·exact .inr ⟨q,PySem.W.cellsFrom_some _ _ _ (.inl q)⟩
 refine codeAny_call_function hr.depth (KX _ _ lk) rfl S.co S.gen rfl (PySem.W.codeRec_of KX hcd) (hb _ _ _ _ ?_);refine wpAny_newFunctionEnv_cells S.kind hkind fun env he s1 x=>?_;subst he;refine⟨lim.keeps x.toInCall.keep,codeAny_func ?_⟩;have I:Inv (JV CX P w K mg base N qual scope f Kc A Ko s H E) [] (L2.Ji N vs) H s1:=abL S hr.hd e0 hl r x;refine wpAny_mono (hbody A Ko s H vs Q E s1 (hr.deeper _) hsp I) (fun fl s' hs=>?_) fun e s' hs=>hs
 have fin:∀{σ':St} {H':Hp} {v:V} {u:Value},Inv (JV CX P w K mg base N qual scope f Kc A Ko s H E) [] σ' H' s'->jS v u->Q v H'->CE Ko P w H s Q u s':=
  fun {σ' H' v u} J rv q=>⟨v,H',J.os,J.bare,J.base,J.hok,rv,q⟩
 cases fl with
 | ret u=>
  obtain⟨v,σ',H',J,rv,q⟩:=hs;exact fin J rv q
 | next=>
  obtain⟨σ',H',J,q⟩:=hs;exact fin (v:=V.non) (u:=Value.none) J rfl q
 | brk=>
  obtain⟨_,_,_,q⟩:=hs;exact False.elim q
 | cont=>
  obtain⟨_,_,_,q⟩:=hs;exact False.elim q
theorem alU{CX:CXT}{P:Program}{w:World}{K:Fg}{mg:SV}{base:Heap}{N:List Str}{qual:Str}{scope:Scope}{f:Addr}{cd:Value}{A:Around}{Ko:List Env}{s:Shared}{H:Hp}{E:XK}:Top0 (JV CX P w K mg base N qual scope f cd A Ko s H E):=⟨rfl,rfl,rfl⟩
section
variable {P:Program}{w:World}{K:Fg}{mg:SV}{base:Heap}
noncomputable def Jx(N:List Str)(n:Nat)(Fx:Rho->Option Str)(ds:LP):Option Str:=if ds.length=n then Fx (jE N ds) else none
theorem JH{x qual:Str}{st:Stmt}{f:Addr}{fd:FuncData}{N ps:List Str}{k:Nat}{Fx:Rho->Option Str}(F:Fun K x qual st f fd)(S:FnScope N ps (jj st))
  (body:∀(Kc:Value) (A:Around) (Ko:List Env) (s:Shared) (H:Hp) (E:XK),Room k (A.deeper (envOfC qual (jj st) s.heap.objs.size f Kc))->acu (JV (CXt P w) P w K mg base N qual (jj st) f Kc A Ko s H E) (jO st) Fx):
  FnOk P w K mg base (CXt P w) (k+1) f fd ps (aj7 K mg ps.length (Jx N ps.length Fx)):=by
 with_unfolding_all
  obtain⟨oc,od,kV,doc,pm,an,Kc,ct,osl,rfl,lk,hcd⟩:=F.ex;refine alT lk hcd S (fun vs H Q E h=>?_) fun A Ko s H vs Q E s1 hr h I=>?_
  ·obtain⟨ds,c,h1,h2,_⟩:=h
   rw[h2.length];exact h1
  ·obtain⟨ds,c,h1,h2,h3,h4⟩:=h
   unfold Jx at h3;rw[if_pos h1]at h3;refine wpAny_mono (body Kc A Ko s H E hr s1 (L2.Ji N vs) H (jE N ds) c I (Z9 h2) h3 fun ev s' t=>?_) (fun _ _ z=>z.elim) fun _ _ z=>z;obtain⟨e,C,σ',H',rfl,hC,J,sm,xc⟩:=t;have T0:Top0 (JV (CXt P w) P w K mg base N qual (jj st) f Kc A Ko s H E):=alU;show wpAny (model P w) (A.deeper (envOfC qual (jj st) s.heap.objs.size f Kc)) (leaving (envOfC qual (jj st) s.heap.objs.size f Kc) (.ref e)) (fun _ s''=>CXt P w Ko H s E (.ref e) s'') (fun e' s''=>CXt P w Ko H s E e' s'') s';have n1:=afv (E:=fun _ _=>False) (A:=A.deeper (envOfC qual (jj st) s.heap.objs.size f Kc)) T0 J.ok.frames J xc;unfold leaving;refine wpAny_bind (wpAny_mono n1 (fun _ s2 ⟨J2,t2⟩=>?_) fun _ _ z=>z.elim);have n2:=QK (E:=fun _ _=>False) (A:=A.deeper (envOfC qual (jj st) s.heap.objs.size f Kc)) none J2 t2;refine wpAny_mono n2 (fun _ s3 ⟨J3,t3⟩=>?_) fun _ _ z=>z.elim;obtain⟨oe,ws,T,oT,ts,g1,g2,g3,g4,g5,g6,g7,g8,g9⟩:=t3.ob;exact⟨e,C,H',rfl,J3.os,J3.bare,J3.base,J3.hok,⟨t3.mine.un,t3.mine.new,oe,ws,T,oT,ts,g1,g2,g3,g4,g5,g6.un,g6.new,g7,g8,g9⟩,h4 C H' hC sm⟩
end
theorem Inv.asA{X:Cx}{Kp:List (Addr×Obj)}{σ:St}{H:Hp}{s:Shared}{A:Around}{cm:Bool}{xe:Value->SP0}(I:Inv X Kp σ H s)(hf:A.frames=some X.stack)(hd:cm=true->A.handled=none):Inv { X with A:=A,calm:=cm,xe:=xe } Kp σ H s:=
 ⟨⟨I.ok.mod,I.ok.kind,I.ok.glob,I.ok.blt,I.ok.above,I.ok.inj,I.ok.has,I.ok.cab,hd,hf,I.ok.stk,I.ok.exf,I.ok.bs,I.ok.bsz,I.ok.noex,I.ok.exfs,I.ok.funs,I.ok.frf⟩,I.os,I.bare,I.base,I.loc,I.cell,I.free,I.freeC,I.pin,I.hok,I.len⟩
theorem Inv.ofA{X:Cx}{Kp:List (Addr×Obj)}{σ:St}{H:Hp}{s:Shared}{A:Around}{cm:Bool}{xe:Value->SP0}(ok:X.Ok)(I:Inv { X with A:=A,calm:=cm,xe:=xe } Kp σ H s):Inv X Kp σ H s:=
 ⟨ok,I.os,I.bare,I.base,I.loc,I.cell,I.free,I.freeC,I.pin,I.hok,I.len⟩
theorem Mine.unwish{X:Cx}{E:Value->SP0}{H:Hp}{b:Addr}(m:Mine (X.wish E) H b):Mine X H b:=⟨m.un,m.new,m.loc,m.cel,m.pin⟩
theorem Xc.unwish{X:Cx}{E:Value->SP0}{H:Hp}{h:Heap}{e C:Addr}(x:Xc (X.wish E) H h e C):Xc X H h e C:=by
 obtain⟨oe,vs,h1,h2,h3,h4,h5⟩:=x.ob;refine⟨x.mine.unwish,oe,vs,h1,h2,h3,h4,?_⟩;rcases h5 with q | ⟨T,oT,ts,q1,q2,q3,q4⟩
 ·exact .inl q
 ·exact .inr ⟨T,oT,ts,q1,q2,q3.unwish,q4⟩
@[irreducible] noncomputable def PS0(X:Cx)(st:Stmt)(F:RO):Prop:=∀(s:Shared) (σ:St) (H:Hp) (D:Ends),Inv X [] σ H s->tDS X.K F D σ H->wpAny (model X.prog X.w) X.A (exec st X.env) (SP X [] D) X.xe s
@[irreducible] noncomputable def alV(X:Cx)(sts:List Stmt)(F:RO):Prop:=∀(s:Shared) (σ:St) (H:Hp) (D:Ends),Inv X [] σ H s->tDS X.K F D σ H->wpAny (model X.prog X.w) X.A (execs sts X.env) (SP X [] D) X.xe s
section
variable {X:Cx}{st:Stmt}{sts qh tb hb:List Stmt}{F G:RO}{pos:Pos}
theorem aoq(h:ZC X sts F):alV X sts F:=by
 with_unfolding_all
  exact fun s σ H D I t=>h [] s σ H D I t
theorem aj8(h1:PS0 X st F)(h2:alV X qh G):alV X (st::qh) (jH F G):=by
 with_unfolding_all
  intro s σ H D I ⟨ρ,o,en,q,k⟩;cases hF:F ρ with
  |none=>simp[jH,hF]at q
  | some o1=>
   cases o1 with
   | nx ρ1=>
    have q':G ρ1=some o:=by simpa[jH,hF]using q
    refine wpAny_execs_cons (thn (h1 s σ H { D with nx:=fun σ' H'=>jo H H'/\EnvR X.K H' ρ1 σ' } I ⟨ρ,.nx ρ1,en,hF,fun σ' H' s1 e1=>⟨s1,e1⟩⟩) fun f s1 z=>?_);cases f with
    | next=>
     obtain⟨σ',H',I',sm,e1⟩:=z;exact h2 s1 σ' H' D I' ⟨ρ1,o,e1,q',k.mono sm⟩
    |brk=>exact z
    |cont=>exact z
    |ret u=>exact z
   | rt d=>
    have q':Out.rt d=o:=by simpa[jH,hF]using q
    subst q';refine wpAny_execs_cons (thn (h1 s σ H { D with nx:=fun _ _=>False } I ⟨ρ,.rt d,en,hF,k⟩) fun f s1 z=>?_);cases f with
    |next=>obtain⟨_,_,_,z⟩:=z;exact z.elim
    |brk=>exact z
    |cont=>exact z
    |ret u=>exact z
   | bk ρ1=>
    have q':Out.bk ρ1=o:=by simpa[jH,hF]using q
    subst q';refine wpAny_execs_cons (thn (h1 s σ H { D with nx:=fun _ _=>False } I ⟨ρ,.bk ρ1,en,hF,k⟩) fun f s1 z=>?_);cases f with
    |next=>obtain⟨_,_,_,z⟩:=z;exact z.elim
    |brk=>exact z
    |cont=>exact z
    |ret u=>exact z
   | ct ρ1=>
    have q':Out.ct ρ1=o:=by simpa[jH,hF]using q
    subst q';refine wpAny_execs_cons (thn (h1 s σ H { D with nx:=fun _ _=>False } I ⟨ρ,.ct ρ1,en,hF,k⟩) fun f s1 z=>?_);cases f with
    |next=>obtain⟨_,_,_,z⟩:=z;exact z.elim
    |brk=>exact z
    |cont=>exact z
    |ret u=>exact z
end
section
variable {X:Cx}{st b0:Stmt}{sts qh tb hb:List Stmt}{F G:RO}{fx:Rho->Option Str}{pos:Pos}
noncomputable def ZN(n:Nat):Rho:=List.replicate n none
noncomputable abbrev hX(X:Cx)(e:Addr):Cx:={ X with A:=X.A.mark (some (.ref e)),calm:=false,xe:=fun _ _=>False }
theorem SP.ofA{A:Around}{cm:Bool}{xe:Value->SP0}{D:Ends}{f:Flow}{s':Shared}(ok:X.Ok)(h:SP { X with A:=A,calm:=cm,xe:=xe } [] D f s'):SP X [] D f s':=by
 cases f with
 |next=>obtain⟨σ',H',I,q⟩:=h;exact⟨σ',H',Inv.ofA ok I,q⟩
 |brk=>obtain⟨σ',H',I,q⟩:=h;exact⟨σ',H',Inv.ofA ok I,q⟩
 |cont=>obtain⟨σ',H',I,q⟩:=h;exact⟨σ',H',Inv.ofA ok I,q⟩
 |ret u=>obtain⟨v,σ',H',I,r,q⟩:=h;exact⟨v,σ',H',Inv.ofA ok I,r,q⟩
end
section
variable {P:Program}{w:World}{K:Fg}{mg:SV}{base:Heap}
theorem alW{x qual:Str}{st:Stmt}{f:Addr}{fd:FuncData}{N ps:List Str}{k:Nat}{B:RO}(F:Fun K x qual st f fd)(S:FnScope N ps (jj st))
  (body:∀(Kc:Value) (A:Around) (Ko:List Env) (s:Shared) (H:Hp) (E:XK),Room k (A.deeper (envOfC qual (jj st) s.heap.objs.size f Kc))->alV (JV CX0 P w K mg base N qual (jj st) f Kc A Ko s H E) (jO st) B):
  FnOk P w K mg base CX0 (k+1) f fd ps (Pur K ps.length (jx N ps.length B)):=by
 with_unfolding_all
  obtain⟨oc,od,kV,doc,pm,an,Kc,ct,osl,rfl,lk,hcd⟩:=F.ex;refine alT lk hcd S (fun vs H Q E h=>?_) fun A Ko s H vs Q E s1 hr h I=>?_
  ·obtain⟨ds,d,h1,h2,_⟩:=h
   rw[h2.length];exact h1
  ·obtain⟨ds,d,h1,h2,h3,h4⟩:=h
   unfold jx at h3;rw[if_pos h1]at h3;cases hB:B (jE N ds)with
   |none=>rw[hB]at h3;cases h3
   | some o=>
    rw[hB]at h3;refine body Kc A Ko s H E hr s1 (L2.Ji N vs) H _ I ⟨jE N ds,o,Z9 h2,hB,?_⟩;cases o with
    |rt c=>cases h3;exact fun v H' sm r=>h4 v H' sm r
    |nx ρ=>cases h3;exact fun σ H' sm e=>h4 .non H' sm rfl
    |bk ρ=>cases h3
    |ct ρ=>cases h3
end
theorem abc{t sl:Addr}{items:Array Value}{vl vu:Value}{lo hi:Option Int}{Q:Value->SP0}(ht:IsTup s.heap t items)(hs:s.heap.IsSliceOf sl vl vu .none)(pl:IsPart vl lo)(pu:IsPart vu hi)
  (hw:HT.sIx items.size 0 lo=0/\HT.sIx items.size items.size hi=items.size) (h:Q (.ref t) s):wpAny (model prog w) A (getItem (.ref t) (.ref sl)) Q E s:=by
 obtain⟨os,hos,hcs,hds⟩:=id hs;have hTs:s.TypeIs (.ref sl) "slice":=⟨os,hos,hcs⟩;unfold getItem
 first | (with_reducible refine wpAny_holding ?_) | skip
 first | refine wpAny_bind (wpAny_pure ?_) | skip
 refine wpAny_bind (wpAny_sequenceKey ht.typeIs (by decide) ?_);refine wpAny_bind (wpAny_callSpecial?_slot (name:=Str.ofString "__getitem__") ht.typeIs PyProof.Rows.slot_tuple_getitem (wpAny_call_entry PyProof.Rows.slot_tuple_getitem ht.typeIs entry_tuple_getitem ?_ (args_tuple_getitem _ _)));show wpAny _ _ (Builtin.Tuple.tupleItemsOf (.ref t) >>= _) _ _ s;refine wpAny_bind (tupleItemsOf_ ht (wpAny_bind (wpAny_typeOf hTs ?_)));rw[if_pos (show(Value.type "slice" == Value.type "slice")=true by decide)];refine wpAny_bind (HT.sliceApplied_gen hs pl pu ?_);rw[hw.1,hw.2];have hyes:((((0:Nat):Int)==0&&(1:Int)==1&&(items.size-0)==items.size)=true):=by simp
 show wpAny _ _ (if ((((0:Nat):Int)==0&&(1:Int)==1&&(items.size-0)==items.size)=true) then _ else _) _ _ s;rw[if_pos hyes];obtain⟨o,ho,hc,hd⟩:=id ht;have hT:s.TypeIs (.ref t) "tuple":=⟨o,ho,hc⟩
 have ex:∀{R:Bool->SP0} {A':Around} {E':Value->SP0},R true s->wpAny (model prog w) A' (Builtin.Tuple.tupleIsExact (.ref t)) R E' s:=fun {R A' E'} hR=>by
  unfold Builtin.Tuple.tupleIsExact
  first
   |exact wpAny_bind (wpAny_typeOf hT (wpAny_pure hR))
   | (wp_walk;exact hR)
 first
  |exact wpAny_bind (ex (wpAny_bind (wpAny_rule (wpAny_pure ⟨_,rfl,wpAny_pure h⟩))))
  |exact wpAny_bind (ex (by rw[if_pos rfl];exact wpAny_bind (wpAny_rule (wpAny_pure ⟨_,rfl,wpAny_pure h⟩))))
  | (refine wpAny_bind (ex ?_);wp_walk;exact⟨_,rfl,wpAny_pure h⟩)
  | (refine wpAny_bind (wpAny_bind (ex ?_));wp_walk;exact⟨_,rfl,wpAny_pure h⟩)
section
variable {X:Cx}{e a b c:Expr}{fa fb fc:RP}{pos p2:Pos}
noncomputable def ar5(K:Fg):V->Option Int->Option Int->Hp->VK->Prop:=fun x lo hi H Q=>∃a xs,x= .ref a/\SqT K H a xs/\(HT.sIx xs.length 0 lo=0/\HT.sIx xs.length xs.length hi=xs.length)/\Q (.ref a) H
theorem agC:SlR X (ar5 X.K):=by
 intro Kp s σ H x v vl vu lo hi sl Q I rx hs pl pu h;obtain⟨a,xs,rfl,hx,hw,q⟩:=h;cases rx;obtain⟨its,r,ht,hz⟩:=I.tuple hx;have hlen:its.toArray.size=xs.length:=by rw[List.size_toArray];exact r.length.symm
 exact⟨"tuple",_,PyProof.Rows.slot_tuple_getitem.lookup,ht.typeIs,abc ht hs pl pu (by rw[hlen];exact hw) ⟨.ref a,H,I,rfl,q⟩⟩
noncomputable def abd(p:PyData)(lo hi:Option Int):OP:=match p with
 |.tuple ds=>some (.tuple (ado ds lo hi))
 |_=>none
theorem alX{K:Fg}{p d:PyData}{lo hi:Option Int}{x:V}{H:Hp}{Q:VK}(h:abd p lo hi=some d)(r:Rep K H p x)(k:∀v H',jo H H'->Rep K H' d v->Q v H'):arD K x lo hi H Q∨ar5 K x lo hi H Q:=by
 unfold abd at h;split at h
 ·rename_i ds
  cases h;obtain⟨a,xs,e1,e2,e3⟩:=r;have hl:=e3.length
  have rr:Reps K H (ado ds lo hi) (ae9 xs lo hi):=by
   unfold ae9 ado;rw[hl];exact(e3.drop _).take _
  by_cases hw:HT.sIx xs.length 0 lo=0/\HT.sIx xs.length xs.length hi=xs.length
  ·refine .inr ⟨a,xs,e1,e2,hw,k _ H (jo.refl H) ⟨a,xs,rfl,e2,?_⟩⟩
   have ex:ae9 xs lo hi=xs:=by unfold ae9;rw[hw.1,hw.2];simp
   rw[ex]at rr;exact rr
  ·refine .inl ⟨a,xs,e1,e2,hw,fun q hq=>?_⟩
   have s1:=jI (o:= .tup (ae9 xs lo hi)) hq;exact k _ _ s1 ⟨q,_,rfl,SqT.of jt,Reps.mono s1 _ _ rr⟩
 ·cases h
noncomputable def ZO(fa fb:RP):RP:=fun ρ=>(fa ρ).bind fun p=>(fb ρ).bind fun q=>(inI q).bind fun i=>abd p none (some i)
theorem abe(ha:PD X a fa)(hb:PD X b fb):PD X (.Subscript a (.Slice none (some b) none p2) pos) (ZO fa fb):=by
 with_unfolding_all
  refine PE.imp (agi (alb.or agC) ha aiJ (aiK hb)) fun σ H Q ⟨ρ,d,en,q,k⟩=>?_;cases h1:fa ρ with
  |none=>simp[ZO,h1]at q
  | some y=>
   cases h2:fb ρ with
   |none=>simp[ZO,h1,h2]at q
   | some z=>
    cases h3:inI z with
    |none=>simp[ZO,h1,h2,h3]at q
    | some i=>
     have q':abd y none (some i)=some d:=by simpa[ZO,h1,h2,h3]using q
     have hz:=agz h3;subst hz;refine⟨ρ,y,en,h1,fun v H1 s1 r1=>⟨ρ,_,en.mono s1,h2,fun u H2 s2 r2=>?_⟩⟩;cases (show u=_ from r2);exact⟨i,rfl,alX q' (Rep.mono s2 _ _ r1) fun v H' s r=>k v H' (s1.trans (s2.trans s)) r⟩
noncomputable def aac(fa fb:RP):RP:=fun ρ=>(fa ρ).bind fun p=>(fb ρ).bind fun q=>(inI q).bind fun i=>abd p (some i) none
theorem aid(ha:PD X a fa)(hb:PD X b fb):PD X (.Subscript a (.Slice (some b) none none p2) pos) (aac fa fb):=by
 with_unfolding_all
  refine PE.imp (agi (alb.or agC) ha (aiK hb) aiJ) fun σ H Q ⟨ρ,d,en,q,k⟩=>?_;cases h1:fa ρ with
  |none=>simp[aac,h1]at q
  | some y=>
   cases h2:fb ρ with
   |none=>simp[aac,h1,h2]at q
   | some z=>
    cases h3:inI z with
    |none=>simp[aac,h1,h2,h3]at q
    | some i=>
     have q':abd y (some i) none=some d:=by simpa[aac,h1,h2,h3]using q
     have hz:=agz h3;subst hz;refine⟨ρ,y,en,h1,fun v H1 s1 r1=>⟨ρ,_,en.mono s1,h2,fun u H2 s2 r2=>?_⟩⟩;cases (show u=_ from r2);exact⟨i,rfl,alX q' (Rep.mono s2 _ _ r1) fun v H' s r=>k v H' (s1.trans (s2.trans s)) r⟩
end
theorem aeE:∀(xs ys:List Int),xs.Pairwise (fun a b=>a<=b)->ys.Pairwise (fun a b=>a<=b)->xs.Perm ys->xs=ys
 | [],ys,_,_,p=>p.nil_eq
 |x::xs,[],_,_,p=>by have:=p.length_eq;simp at this
 | x::xs,y::ys,h1,h2,p=>by
  rw[List.pairwise_cons]at h1 h2;have hx:x∈y::ys:=p.mem_iff.mp List.mem_cons_self;have hy:y∈x::xs:=p.mem_iff.mpr List.mem_cons_self
  have e:x=y:=by
   have a1:y<=x:=by
    rcases List.mem_cons.mp hx with z | z
    ·exact Int.le_of_eq z.symm
    ·exact h2.1 x z
   have a2:x<=y:=by
    rcases List.mem_cons.mp hy with z | z
    ·exact Int.le_of_eq z.symm
    ·exact h1.1 y z
   exact Int.le_antisymm a2 a1
  subst e;rw[aeE xs ys h1.2 h2.2 (List.Perm.cons_inv p)]
noncomputable def aie(x:Int):List Int->List Int
 | []=>[x]
 |y::ys=>if x<=y then x::y::ys else y::aie x ys
noncomputable def Jy:List Int->List Int
 | []=>[]
 |x::xs=>aie x (Jy xs)
theorem abS(x:Int):∀ys,(aie x ys).Perm (x::ys)
 | []=>List.Perm.refl _
 | y::ys=>by
  unfold aie;split
  ·exact List.Perm.refl _
  ·exact((abS x ys).cons y).trans (List.Perm.swap x y ys)
theorem zQ:∀xs,(Jy xs).Perm xs
 | []=>List.Perm.refl _
 |x::xs=>(abS x _).trans ((zQ xs).cons x)
theorem ace(x:Int):∀ys:List Int,ys.Pairwise (fun a b=>a<=b)->(aie x ys).Pairwise (fun a b=>a<=b)
 | [],_=>by simp[aie]
 | y::ys,h=>by
  rw[List.pairwise_cons]at h;unfold aie;split
  ·rename_i hxy
   rw[List.pairwise_cons,List.pairwise_cons];refine⟨fun z hz=>?_,h⟩;rcases List.mem_cons.mp hz with q | q
   ·rw[q];exact hxy
   ·exact Int.le_trans hxy (h.1 z q)
  ·rename_i hxy
   rw[List.pairwise_cons];refine⟨fun z hz=>?_,ace x ys h.2⟩;rcases List.mem_cons.mp ((abS x ys).mem_iff.mp hz)with q | q
   ·rw[q];omega
   ·exact h.1 z q
theorem Ze:∀xs,(Jy xs).Pairwise (fun a b=>a<=b)
 | []=>by simp[Jy]
 |x::xs=>ace x _ (Ze xs)
section
variable {X:Cx}
noncomputable def aqG(K:Fg):List V->Hp->VK->Prop:=fun vs H Q=>∃a ns,vs=[.ref a]/\H a=some (.lst (ns.map V.int))/\ns.length<64/\∀l,H l=none->Q (.ref l) (upd H l (.lst ((Jy ns).map V.int)))
theorem aaG:∀{ns:List Int}{us:List Value},jM (ns.map V.int) us->IntsAre us ns
 | [],us,r=>by cases r;exact .nil
 |n::ns,u::us,.cons r rr=>by obtain⟨t,rfl⟩:=r;exact .cons n t (aaG rr)
theorem abf:∀{us:List Value}{ns:List Int},IntsAre us ns->jM (ns.map V.int) us
 |_,_,.nil=> .nil
 |_,_,.cons n t r=> .cons ⟨t,rfl⟩ (abf r)
theorem aif:zS X (.builtin "sorted") (aqG X.K):=by
 intro Kp s σ H vs us0 Q I r ⟨a,ns,e,hl,h64,q⟩;subst e;obtain⟨u,rfl,rx⟩:=Zs r;cases rx;obtain⟨us,rv,pl,hz⟩:=I.list (SqL.of (K:=X.K) hl);have l2:=rv.length;rw[List.length_map]at l2;refine sorted_ints pl.isList (aaG rv) (by omega) fun out ns' h1 h2 h3=>?_;have hs:ns'=Jy ns:=aeE _ _ h3 (Ze ns) (h2.trans (zQ ns).symm);subst hs;obtain⟨c,ho⟩:=sortedAll_at s.heap us out;have hD:s.heap.objs.size<=s.heap.objs.size+1:=Nat.le_succ _;refine⟨.ref (s.heap.objs.size+1),upd H (s.heap.objs.size+1) (.lst ((Jy ns).map V.int)),I.laid (t':=s.toks) (fun b o e=>sortedAll_old e) hD ⟨?_,out.toList,c,abf h1,?_⟩,rfl,q _ (I.hok.fresh hD)⟩
 ·rw[List.length_map,(zQ ns).length_eq]
  rw[List.length_map]at hz;exact hz
 ·simpa using ho
theorem abg{K:Fg}{H:Hp}:∀{c:List Int}{us:List V},Reps K H (c.map PyData.int) us->us=c.map V.int
 | [],us,r=>r
 | i::c,us,⟨x,w,e1,e2,e3⟩=>by
  cases (show x=_ from e2);rw[e1,abg e3];rfl
noncomputable def afw(ds:LP):OP:=match ds with
 | [.list xs]=>(j5 xs).bind fun ns=>if ns.length<64 then some (.list ((Jy ns).map .int)) else none
 |_=>none
theorem aaK{K:Fg}{H:Hp}:∀(c:List Int),Reps K H (c.map PyData.int) (c.map V.int)
 | []=>rfl
 |i::c=>⟨_,_,rfl,rfl,aaK c⟩
theorem alY:QI X (.builtin "sorted") afw:=by
 refine⟨_,aif,fun ds d xs H Q h r k=>?_⟩;unfold afw at h;split at h
 ·rename_i ys
  cases hn:j5 ys with
  |none=>simp[hn]at h
  | some ns=>
   simp only[hn,zzD]at h;split at h
   ·rename_i hl
    cases h;obtain⟨x,q,e1,e2,e3⟩:=r;cases (show q=[] from e3);obtain⟨a,us,g1,g2,g3⟩:=e2;subst g1;rw[zT hn]at g3;have hu:us=ns.map V.int:=abg g3;subst hu;exact⟨a,ns,e1,g2,hl,fun l hl=>k _ _ (jI hl) ⟨l,_,rfl,jt,aaK _⟩⟩
   ·cases h
 ·cases h
end
section
variable {X:Cx}
end
section
variable {X:Cx}{e a b c:Expr}{fa fb fc:RP}{pos p2:Pos}
end
section
variable {X:Cx}
end
section
variable {X:Cx}{e:Expr}{es:List Expr}{pos p:Pos}
noncomputable def Zu(x:Str):PyData->Bool
 |.dict [(.str y,.none)]=>decide (y=x)
 |_=>false
theorem agD{x:Str}{d:PyData}(h:Zu x d=true):d=fnD x:=by
 unfold Zu at h;split at h
 ·rw[of_decide_eq_true h];rfl
 ·cases h
@[simp] theorem qI(x:Str):Zu x (fnD x)=true:=by simp[Zu,fnD]
theorem ai0{K:Fg}{H:Hp}{x:Str}{v:V}(h:Rep K H (fnD x) v):∃a,v= .ref a/\PySem.W.nsIn K mainGlobals x=some (some (.ref a)):=by
 obtain⟨a,h1,⟨ns,h2,h3⟩ | ⟨ks,ob,h2,h3⟩ | ⟨y,h2,h3⟩ | ⟨y,_,_,h2,_⟩ | h2⟩:=h
 ·cases ns with
  |nil=>cases h3
  |cons n ns=>cases h3
 ·exact h3.elim
 ·cases h2
  exact⟨a,h1,h3⟩
 ·cases h2
 ·cases h2
end
@[irreducible] noncomputable def PAX(X:Cx)(es:List Expr)(fx:Rho->Option Str):Prop:=∀(pos:Pos) (s:Shared) (σ:St) (H:Hp) (ρ:Rho) (c:Str),Inv X [] σ H s->EnvR X.K H ρ σ->fx ρ=some c->(∀ev s',Thr X H c ev s'->X.xe ev s')->wpAny (model X.prog X.w) X.A (spliced (backTo pos (starEach es X.env))) (fun _ _=>False) X.xe s
section
variable {X:Cx}{e a b c:Expr}{es:List Expr}{fa:RP}{fx gx:Rho->Option Str}{pos:Pos}
theorem alZ(h:PDX X e fx)(hs:starEach (e::es) X.env=(false,eval e X.env)::starEach es X.env:=by rfl):PAX X (e::es) fx:=by
 with_unfolding_all
  intro pos s σ H ρ c I en q k;rw[hs];show wpAny _ _ (spliced ((false,eval e X.env)::backTo pos (starEach es X.env))) _ _ s;exact Calls.spliced_cons (wpAny_mono (h s σ H ρ c I en q k) (fun _ _ z=>z.elim) fun _ _ z=>z)
end
section
variable {X:Cx}{own:Option Nat}{e a b c tg src:Expr}{es:List Expr}{st:Stmt}{sts qh body:List Stmt}{fx gx:Rho->Option Str}{F:RO}{fa:RP}{pos:Pos}
theorem Thr.unwish{W:Value->SP0}{Hb Hs:Hp}{c:Str}{ev:Value}{s':Shared}(sb:∀H3,jo Hb H3->jo Hs H3)(h:Thr (X.wish W) Hb c ev s'):Thr X Hs c ev s':=by
 obtain⟨e,C,σ',H',h1,h2,h3,h4,h5⟩:=h;exact⟨e,C,σ',H',h1,h2,h3.unwish,sb _ h4,h5.unwish⟩
end
section
variable {X:Cx}{e a b c:Expr}{es:List Expr}{st:Stmt}{sts qh:List Stmt}{fx gx:Rho->Option Str}{F:RO}{pos p:Pos}
noncomputable def orX(fx gx:Rho->Option Str):Rho->Option Str:=fun ρ=>match fx ρ with
 |some c=>some c
 |none=>gx ρ
theorem JM(h1:acu X sts fx)(h2:acu X sts gx):acu X sts (orX fx gx):=by
 with_unfolding_all
  intro s σ H ρ c I en q k;cases hf:fx ρ with
  | some c'=>
   have:c'=c:=by simpa[orX,hf]using q
   subst this;exact h1 s σ H ρ c' I en hf k
  |none=>exact h2 s σ H ρ c I en (by simpa[orX,hf]using q) k
end
section
variable {X:Cx}{a b c:Expr}{tc ta tb:Rho->Option Bool}{pos:Pos}
end
section
variable {X:Cx}{a b:Expr}{fa fb:RP}
theorem ads:∀{is:List Bool}{us:List Value},jM (is.map V.bl) us->us=is.map Value.bool
 | [],us,r=>by cases r;rfl
 | i0::is,u::us,.cons r rr=>by
  rw[List.map_cons,←ads rr,show u=Value.bool i0 from r]
noncomputable def aj9(k:Bool):Value->Bool
 |.bool i=>i==k
 |_=>false
noncomputable def aor:V->List V->Hp->VK->Prop:=fun x vs H Q=>∃(l:Addr) (is:List Bool) (k:Bool) (j:Nat),x= .ref l/\vs=[.bl k]/\H l=some (.lst (is.map V.bl))/\is.findIdx? (· == k)=some j/\Q (.int j) H
noncomputable def aos:V->List V->Hp->VK->Prop:=fun x vs H Q=>∃(l:Addr) (is:List Bool) (k:Bool),x= .ref l/\vs=[.bl k]/\H l=some (.lst (is.map V.bl))/\Q (.int (is.countP (· == k))) H
theorem aka:MtR X "list.index" aor:=by
 intro Kp s σ H x vs v us Q I rx rv h;obtain⟨l,is,k,j,rfl,rfl,hH,hj,q⟩:=h;cases rx;obtain⟨u,rfl,ru⟩:=jM.one rv;cases (show u=Value.bool k from ru);obtain⟨z,its,n,r,hl,e⟩:=I.lstM hH;have hlen:=r.length;simp only[List.length_map]at hlen;have hits:=ads r;subst hits;obtain⟨hj1,hj2,hj3⟩:=List.findIdx?_eq_some_iff_getElem.mp hj;have hln:=abK;have z':=z;rw[List.length_map]at z';refine call_meets F.slot_list_index ⟨_,e,rfl⟩ F.entry_list_index (F.args_list_index_2 _ _) (SeqAt.list_indexAt l (is.map Value.bool).toArray n none #[] (.bool k) (aj9 k) j (by simp;omega) ?_ ?_ ?_) ⟨e,?_,?_⟩
 ·omega
 ·simp[aj9];exact beq_iff_eq.mp hj2
 ·intro m hm hmj
  simp[aj9];have:=hj3 m hmj;exact fun z=>this (by rw[z];exact beq_self_eq_true k)
 ·intro y hy
  have hy':y∈is.map Value.bool:=by simpa using hy
  obtain⟨i,_,rfl⟩:=List.mem_map.mp hy';exact SeqAt.EqAt.bool_bool _ _
 ·exact⟨.int j,H,I.tok _,⟨_,rfl⟩,q⟩
theorem akb:MtR X "list.count" aos:=by
 intro Kp s σ H x vs v us Q I rx rv h;obtain⟨l,is,k,rfl,rfl,hH,q⟩:=h;cases rx;obtain⟨u,rfl,ru⟩:=jM.one rv;cases (show u=Value.bool k from ru);obtain⟨z,its,n,r,hl,e⟩:=I.lstM hH;have hits:=ads r;subst hits
 have hc:((is.map Value.bool).toArray.toList.countP (aj9 k))=is.countP (· == k):=by
  show(is.map Value.bool).countP (aj9 k)=_;rw[List.countP_map];rfl
 refine call_meets F.slot_list_count ⟨_,e,rfl⟩ F.entry_list_count (F.args_list_count_2 _ _) (SeqAt.list_countAt l (is.map Value.bool).toArray n none #[] (.bool k) (aj9 k)) ⟨e,?_,?_⟩
 ·intro y hy
  have hy':y∈is.map Value.bool:=by simpa using hy
  obtain⟨i,_,rfl⟩:=List.mem_map.mp hy';exact SeqAt.EqAt.bool_bool _ _
 ·exact⟨.int (is.countP (· == k)),H,I.tok _,⟨_,by rw[←hc]⟩,q⟩
noncomputable def agE:LP->Option (List Bool)
 | []=>some []
 |.bool i::r=>(agE r).map (i::·)
 |_=>none
theorem aig{K:Fg}{H:Hp}:∀{ds:LP}{is:List Bool}{xs:List V},agE ds=some is->Reps K H ds xs->xs=is.map V.bl
 | [],is,xs,h,r=>by cases h;exact r
 | d::ds,is,xs,h,r=>by
  obtain⟨x,ys,e1,e2,e3⟩:=r;cases d with
  | bool i=>
   simp only[agE,Option.map_eq_some_iff]at h;obtain⟨js,h1,h2⟩:=h;subst h2;cases (show x=_ from e2);rw[e1,aig h1 e3];rfl
  |_=>simp[agE]at h
noncomputable def afx(p q:PyData):OP:=match p,q with
 |.list ds,.bool k=>(agE ds).bind fun is=>(is.findIdx? (· == k)).map fun (j:Nat)=>PyData.int j
 |_,_=>none
noncomputable def afy(p q:PyData):OP:=match p,q with
 |.list ds,.bool k=>(agE ds).map fun is=>PyData.int (is.countP (· == k))
 |_,_=>none
theorem akc{apos cpos:Pos}(ha:PD X a fa)(hb:PD X b fb)(hbase:attributeBase a "index" X.env (eval a X.env)=eval a X.env:=by rfl)
  (hfew:((backTo cpos (starEach [b] X.env)).all (fun x=>!x.1)&&(backToKw cpos (keywordEach [] X.env)).all (fun x=>x.1.isSome)&&decide ([b].length+([]:List Keyword).length+(if ([]:List Keyword).isEmpty then 0 else 1)<30))=true:=by rfl)
  (hline:(apos.endLine==cpos.line)=true:=by rfl) (hs:starEach [b] X.env=(false,eval b X.env)::starEach [] X.env:=by rfl) (hplain:(backTo cpos (starEach [] X.env)).any (fun x=>x.1)=false:=by rfl):
  PD X (.Call (.Attribute a "index" apos) [b] [] cpos) (op2 afx fa fb):=by
 with_unfolding_all
  refine PE.imp (aiO PySem.F.plainAttrs_list PySem.F.slot_list_index PySem.F.type_list_index aka ha (qL hb Jk hs) hbase hfew hline hs hplain) fun σ H Q ⟨ρ,d,en,h,k⟩=>?_;cases h1:fa ρ with
  |none=>simp[op2,h1]at h
  | some p=>
   cases h2:fb ρ with
   |none=>simp[op2,h1,h2]at h
   | some q=>
    have h':afx p q=some d:=by simpa[op2,h1,h2]using h
    unfold afx at h';split at h'
    ·rename_i ds n
     cases h3:agE ds with
     |none=>simp[h3]at h'
     | some is=>
      cases h4:is.findIdx? (· == n)with
      |none=>simp[h3,h4]at h'
      | some j=>
       simp only[h3,h4,zzD,zzE,Option.some.injEq]at h';subst h';refine⟨ρ,_,en,h1,fun v H1 s1 r1=>?_⟩;obtain⟨l,xs,e1,e2,e3⟩:=r1;subst e1;refine⟨.inl ⟨rfl,xs,SqL.of e2⟩,ρ,_,en.mono s1,h2,fun y H2 s2 r2=>?_⟩;cases (show y=V.bl n from r2);refine⟨l,is,n,j,rfl,rfl,?_,h4,k _ H2 (s1.trans s2) rfl⟩;rw[←aig h3 e3];exact s2 _ _ e2
    ·cases h'
theorem akd{apos cpos:Pos}(ha:PD X a fa)(hb:PD X b fb)(hbase:attributeBase a "count" X.env (eval a X.env)=eval a X.env:=by rfl)
  (hfew:((backTo cpos (starEach [b] X.env)).all (fun x=>!x.1)&&(backToKw cpos (keywordEach [] X.env)).all (fun x=>x.1.isSome)&&decide ([b].length+([]:List Keyword).length+(if ([]:List Keyword).isEmpty then 0 else 1)<30))=true:=by rfl)
  (hline:(apos.endLine==cpos.line)=true:=by rfl) (hs:starEach [b] X.env=(false,eval b X.env)::starEach [] X.env:=by rfl) (hplain:(backTo cpos (starEach [] X.env)).any (fun x=>x.1)=false:=by rfl):
  PD X (.Call (.Attribute a "count" apos) [b] [] cpos) (op2 afy fa fb):=by
 with_unfolding_all
  refine PE.imp (aiO PySem.F.plainAttrs_list PySem.F.slot_list_count PySem.F.type_list_count akb ha (qL hb Jk hs) hbase hfew hline hs hplain) fun σ H Q ⟨ρ,d,en,h,k⟩=>?_;cases h1:fa ρ with
  |none=>simp[op2,h1]at h
  | some p=>
   cases h2:fb ρ with
   |none=>simp[op2,h1,h2]at h
   | some q=>
    have h':afy p q=some d:=by simpa[op2,h1,h2]using h
    unfold afy at h';split at h'
    ·rename_i ds n
     cases h3:agE ds with
     |none=>simp[h3]at h'
     | some is=>
      simp only[h3,zzE,Option.some.injEq]at h';subst h';refine⟨ρ,_,en,h1,fun v H1 s1 r1=>?_⟩;obtain⟨l,xs,e1,e2,e3⟩:=r1;subst e1;refine⟨.inl ⟨rfl,xs,SqL.of e2⟩,ρ,_,en.mono s1,h2,fun y H2 s2 r2=>?_⟩;cases (show y=V.bl n from r2);refine⟨l,is,n,rfl,rfl,?_,k _ H2 (s1.trans s2) rfl⟩;rw[←aig h3 e3];exact s2 _ _ e2
    ·cases h'
end
structure RoomH(k:Nat)(A:Around):Prop where
 dp:A.depth+3*k+5<recursionLimit
 un:A.units+16*k+200<cLine
theorem RoomH.deeper{k:Nat}{A:Around}(r:RoomH (k+1) A)(env:Env):RoomH k (A.deeper env):=
 ⟨by have:=r.dp;show A.depth+1+3*k+5<_;omega,by have:=r.un;show A.units+3+16*k+200<_;omega⟩
theorem Room.h{k:Nat}{A:Around}(r:Room k A):RoomH k A:=⟨r.dp,r.un⟩
theorem RoomH.mark{k:Nat}{A:Around}{v:Option Value}(r:RoomH k A):RoomH k (A.mark v):=⟨r.dp,r.un⟩
structure FnH(P:Program)(w:World)(K:Fg)(mg:SV)(base:Heap)(k:Nat)(f:Addr)(fd:FuncData)(ps:List Str)(sp:Sp):Prop where
 len:∀vs H Q E,sp vs H Q E->vs.length=ps.length
 run:∀(A:Around) (Ko:List Env) (s:Shared) (H:Hp) (args:Args) (us:List Value) (vs:List V) (Q:VK) (E:XK),RoomH k A->Env0 P w K mg base A Ko s H->BindsTo s fd args (ps.zip us)->jM vs us->sp vs H Q E->
  codeAny (model P w) A (.call (.ref f) args) (CR CX0 Ko P w H s Q E) s
noncomputable abbrev cxH(P:Program)(w:World)(K:Fg)(mg:SV)(base:Heap)(N:List Str)(qual:Str)(scope:Scope)(f:Addr)(cd:Value)(A:Around)(Ko:List Env)(s:Shared)(H:Hp)(E:XK):Cx:=
 { JV CX0 P w K mg base N qual scope f cd { A with handled:=none } Ko s H E with A:=A.deeper (envOfC qual scope s.heap.objs.size f cd),calm:=false,xe:=fun _ _=>False }
noncomputable def acB(P:Program)(w:World)(K:Fg)(mg:SV)(base:Heap)(x:Str)(ps:List Str)(k n:Nat)(g:LP->OP):Prop:=
 ∃(f:Addr) (fd:FuncData),FnH P w K mg base k f fd ps (Pur K n g)/\mg x=some (.ref f)/\PySem.W.keepIn K (.ref f)=true/\aaW K fd ps []
section
variable {P:Program}{w:World}{K:Fg}{mg:SV}{base:Heap}
theorem asX{x qual:Str}{st:Stmt}{f:Addr}{fd:FuncData}{N ps:List Str}{k:Nat}{B:RO}(F:Fun K x qual st f fd)(S:FnScope N ps (jj st))
  (body:∀(Kc:Value) (A:Around) (Ko:List Env) (s:Shared) (H:Hp) (E:XK),RoomH k (A.deeper (envOfC qual (jj st) s.heap.objs.size f Kc))->ZC (cxH P w K mg base N qual (jj st) f Kc A Ko s H E) (jO st) B):
  FnH P w K mg base (k+1) f fd ps (Pur K ps.length (jx N ps.length B)):=by
 with_unfolding_all
  obtain⟨oc,od,kV,doc,pm,an,Kc,ct,osl,rfl,lk,hcd⟩:=F.ex
  have len:∀vs H Q E,Pur K ps.length (jx N ps.length B) vs H Q E->vs.length=ps.length:=fun vs H Q E h=>by
   obtain⟨ds,d,h1,h2,_⟩:=h;rw[h2.length];exact h1
  refine⟨len,fun A Ko s H args us vs Q E hr e0 hb r hsp=>?_⟩;have hl:=len _ _ _ _ hsp;have KX:K.In s.heap:=e0.mod.kin.keeps fun b o e=>(e0.bs b o e).1;have lim:s.heap.NoLimit:=e0.mod.nolimit.keeps fun b o e=>(e0.bs b o e).1
  have hkind:∀y∈ps.zip us,(jj st).names.lookup y.1=some .local∨((jj st).names.lookup y.1=some .cell/\((cellsFrom (s.heap.objs.size+1) (jj st).names []).lookup y.1).isSome=true):=fun⟨n,v⟩ hy=>by
   rcases S.par n (List.of_mem_zip hy).1 with q | q
   ·exact .inl q
   ·exact .inr ⟨q,PySem.W.cellsFrom_some _ _ _ (.inl q)⟩
  have hdp:A.depth<recursionLimit:=by have:=hr.dp;omega
  refine codeAny_call_function hdp (KX _ _ lk) rfl S.co S.gen rfl (PySem.W.codeRec_of KX hcd) (hb _ _ _ _ ?_);refine wpAny_newFunctionEnv_cells S.kind hkind fun env he s1 x=>?_;subst he;refine⟨lim.keeps x.toInCall.keep,codeAny_func ?_⟩;have e1:Env0 P w K mg base { A with handled:=none } Ko s H:=⟨e0.frames,e0.mod,e0.bs,e0.bsz,e0.funs,e0.frf,e0.hok,e0.bare⟩;have I0:Inv (JV CX0 P w K mg base N qual (jj st) f Kc { A with handled:=none } Ko s H E) [] (L2.Ji N vs) H s1:=abL S rfl e1 hl r x;have I:Inv (cxH P w K mg base N qual (jj st) f Kc A Ko s H E) [] (L2.Ji N vs) H s1:=Inv.asA I0 I0.ok.frames (fun z=>nomatch z);obtain⟨ds,d,h1,h2,h3,h4⟩:=hsp;unfold jx at h3;rw[if_pos h1]at h3;cases hB:B (jE N ds)with
  |none=>rw[hB]at h3;cases h3
  | some o=>
   rw[hB]at h3
   have bd:=body Kc A Ko s H E (hr.deeper _) [] s1 (L2.Ji N vs) H { nx:=fun _ H'=>Q .non H',rt:=Q } I ⟨jE N ds,o,Z9 h2,hB,by
    cases o with
    | rt c=>cases h3; exact fun v H' sm r=>h4 v H' sm r
    | nx ρ=>cases h3; exact fun σ H' sm e=>h4 .non H' sm rfl
    | bk ρ=>cases h3
    | ct ρ=>cases h3⟩
   refine wpAny_mono bd (fun fl s' hs=>?_) fun e s' hs=>hs.elim
   have fin:∀{σ':St} {H':Hp} {v:V} {u:Value},Inv (cxH P w K mg base N qual (jj st) f Kc A Ko s H E) [] σ' H' s'->jS v u->Q v H'->CE Ko P w H s Q u s':=
    fun {σ' H' v u} J rv q=>⟨v,H',J.os,J.bare,J.base,J.hok,rv,q⟩
   cases fl with
   | ret u=>
    obtain⟨v,σ',H',J,rv,q⟩:=hs;exact fin J rv q
   | next=>
    obtain⟨σ',H',J,q⟩:=hs;exact fin (v:=V.non) (u:=Value.none) J rfl q
   | brk=>
    obtain⟨_,_,_,q⟩:=hs;exact False.elim q
   | cont=>
    obtain⟨_,_,_,q⟩:=hs;exact False.elim q
end
section
variable {X:Cx}{e:Expr}{es:List Expr}{pos:Pos}
theorem al0{k n:Nat}{ps:List Str}{g:LP->OP}{x:Str}{p:Pos}{fr:Rho->Option (LP)}(c:acB X.prog X.w X.K X.mg X.base x ps k n g)(hr:RoomH k X.A)(ha:PAD X (e::es) fr)
  (hl:∀(ρ:Rho) (ds:LP),fr ρ=some ds->ds.length=n) (hn:(e::es).length=n:=by rfl) (hg:Gl X x:=by rfl) (hdb:(x==("__debug__":Str))=false:=by decide) (he:starEach (e::es) X.env=(false,eval e X.env)::starEach es X.env:=by rfl)
  (hpl:(backTo pos (starEach es X.env)).any (·.1)=false:=by rfl):PD X (.Call (.Name x p) (e::es) [] pos) (jA g fr):=by
 with_unfolding_all
  obtain⟨f,fd,F,hm,hk,hb⟩:=c
  have run:∀{Kp:List (Addr×Obj)} {σ:St} {H:Hp} {s:Shared} {Q:VK} {us:List Value} {vs:List V},Inv X Kp σ H s->jM vs us->Pur X.K n g vs H Q (fun _ _ _=>False)->wpAny (model X.prog X.w) X.A (call (.ref f) us) (EP X Kp σ Q) X.xe s:=by
   intro Kp σ H s Q us vs I r h;have hl:us.length=ps.length:=by rw[←r.length];exact F.len _ _ _ _ h
   have hb':=hb s us I.kIn (by rw[List.append_nil];exact hl);rw[List.append_nil]at hb';refine wpAny_call (codeAny_mono (F.run X.A X.stack s H ⟨us,[]⟩ us vs Q (fun _ _ _=>False) hr I.env0 hb' r h) fun r s' hq=>?_);cases r with
   |error e=>exact(alf [] σ H s e s' (I.pins_of fun p hp=>nomatch hp) hq:X.xe e s')
   | ok fl=>
    cases fl with
    |ret u=>exact I.after hq
    |next=>exact False.elim hq
    |brk=>exact False.elim hq
    |cont=>exact False.elim hq
  have pc:PE X (.Call (.Name x p) (e::es) [] pos) (apA (Pur X.K n g) [] (fun _ _ _=>False) (tDA X.K fr)):=by
   intro Kp s σ H Q I h;refine wpAny_Call_Name_kw (aaU I hg hm ?_ hdb);refine PySem.W.callWith_K (h₀:=X.base) I.ok.mod.kin hk (thn (ha pos Kp s σ H _ I h) fun us s1 ⟨vs,H1,I1,r,q⟩=>⟨I1.kIn,?_⟩) he hpl;have q':Pur X.K n g (vs++[]) H1 Q (fun _ _ _=>False):=q;rw[List.append_nil]at q';exact run I1 r q'
  refine PE.imp pc fun σ H Q ⟨ρ,d,en,q,k⟩=>?_;cases h1:fr ρ with
  |none=>simp[jA,h1]at q
  | some ds=>
   refine⟨ρ,ds,en,h1,fun vs H1 s1 r1=>?_⟩;exact⟨ds,d,by rw[hl ρ ds h1],by rw[List.append_nil];exact r1,by simpa[jA,h1]using q,fun v H' s r=>k v H' (s1.trans s) r⟩
end
structure ExcK(K:Fg)(C:Addr):Prop where
 exc:PySem.W.excIn K C vB "ValueError.__new__"=true
 ga:PySem.W.findIn K (.ref C) "__getattribute__"=some (some (.builtin "BaseException.__getattribute__"))
 gt:PySem.W.findIn K (.ref C) "__getattr__"=some none
 cl:PySem.W.findIn K (.ref C) "__class__"=some (some (.builtin "object.__class__"))
 mo:PySem.W.mroIn K C (.type "object")=some true
 mb:PySem.W.mroIn K C (.type "BaseException")=some true
theorem agF{K:Fg}{C:Addr}{t:Value}{b:Bool}(h:PySem.W.mroIn K C t=some b):(PySem.W.clsIn K C).isSome=true:=by
 unfold PySem.W.mroIn at h;cases hc:PySem.W.clsIn K C with
 |none=>rw[hc]at h;cases h
 |some cd=>rfl
theorem ExcK.ci{K:Fg}{C:Addr}(h:ExcK K C):(PySem.W.clsIn K C).isSome=true:=agF h.mo
structure ClsG(K:Fg):Prop where
 gt:PySem.W.specialIn K (.builtin "object.__class__") "__get__"=some (some (.builtin "getset_descriptor.__get__"))
 tk:PySem.W.takesIn K (.builtin "object.__class__")=some true
section
variable {prog:Program}{w:World}{A:Around}{E:Value->SP0}{s:Shared}{K:Fg}{a C:Addr}{oe:Obj}
theorem al1(hg:ClsG K)(hc:ExcK K C):PySem.W.findObj K C none "__class__"=some (.bind (.builtin "getset_descriptor.__get__") (.builtin "object.__class__")):=by
 obtain⟨cd,h1⟩:=Option.isSome_iff_exists.mp hc.ci;unfold PySem.W.findObj;rw[h1,zzD,hc.cl,zzD];simp[hg.gt,hg.tk]
theorem ake{nameV:Value}{Q:Unit->SP0}(X:K.In s.heap)(hc:ExcK K C)(I:PySem.W.InstAt s.heap a oe C none)(hq:Q () s):wpAny (model prog w) A (checkBuiltinCall "BaseException.__getattribute__" ⟨[.ref a,nameV],[]⟩) Q E s:=by
 have hk:builtinKind "BaseException.__getattribute__"=some .slot:=by decide +kernel
 have hsplit:splitId "BaseException.__getattribute__"=some ("BaseException","__getattribute__"):=by decide +kernel
 have ha:=F.args_bexc_ga (.ref a) nameV;have L0:=I.type (M:=model prog w);have L1:=PySem.W.looks_mroIn (M:=model prog w) X hc.mb;obtain⟨hh,g,d,t,os⟩:=s;simp only[checkBuiltinCall,hk,hsplit];refine wpAny_bind ?_;unfold isInstance
 repeat (first | with_reducible refine L0.at ?_ | with_reducible refine L1.at ?_ | wp_step)
 exact hq
theorem akf{tk:Tok}{Q:Fin->SP0}(X:K.In s.heap)(hg:ClsG K)(hc:ExcK K C)(I:PySem.W.InstAt s.heap a oe C none)(hq:Q (.done (.ret (.ref C))) s):
  wpAny (model prog w) A (Builtin.«object.__getattribute__» ⟨[.ref a,.str "__class__" tk],[]⟩) Q E s:=by
 have L0:=I.type (M:=model prog w);have L1:=PySem.W.looks_find (M:=model prog w) X I (al1 hg hc);obtain⟨hh,g,d,t,os⟩:=s;refine wpAny_bind (wpAny_pure (wpAny_bind (wpAny_pure (wpAny_bind (L0.at (wpAny_bind (L1.at ?_)))))));show wpAny _ _ (holding [Value.builtin "object.__class__"] (call (.builtin "getset_descriptor.__get__") [.builtin "object.__class__",.ref a,.ref C]) >>= ret) _ _ _;refine wpAny_bind (wpAny_holding (wpAny_call (PySem.W.class_get (ox:=oe) (od:=none) X I hc.mo ?_)));exact wpAny_pure hq
theorem aot{Q:Option Value->SP0}(X:K.In s.heap)(hg:ClsG K)(hc:ExcK K C)(I:PySem.W.InstAt s.heap a oe C none)(hq:Q (some (.ref C)) { s with toks:=s.toks+1 }):wpAny (model prog w) A (getAttr? (.ref a) "__class__") Q E s:=by
 have L0:=I.type (M:=model prog w);have L1:=PySem.W.looks_findIn (M:=model prog w) X hc.ga;have L2:=PySem.W.looks_findIn (M:=model prog w) X hc.gt;obtain⟨hh,g,d,t,os⟩:=s;unfold getAttr? getAttrBy? getAttrBy;refine wpAny_bind (wpAny_mkText (wpAny_bind (wpAny_attempt (wpAny_holding (wpAny_bind (L0.at (wpAny_bind (L1.at ?_))))))));have hx2:(Value.builtin "BaseException.__getattribute__" == Value.builtin "object.__getattribute__")=false:=by decide +kernel
 have hx1:(onTheHeap (Value.ref C)&&Value.builtin "BaseException.__getattribute__" == Value.builtin "object.__getattribute__")=false:=by rw[hx2];rfl
 dsimp only;rw[hx1];show wpAny _ _ (getAttrByItsOwn _ _ _ _ _ _) _ _ _;unfold getAttrByItsOwn hookBefore;rw[if_pos (show onTheHeap (Value.ref C)=true from rfl)];refine wpAny_bind (L2.at (wpAny_bind (wpAny_attempt (wpAny_holding ?_))));unfold callGetattribute;rw[if_neg (by simp)];have f3:=PySem.F.attr_ValueError.ga.bind (.ref a)
 have fin:codeAny (model prog w) A (.call (.builtin "BaseException.__getattribute__") ⟨[.ref a,.str "__class__" t],[]⟩) (fun r s'=>match r with | .ok (.ret v)=>v= .ref C/\s'=⟨hh,g,d,t+1,os⟩ | _=>False) ⟨hh,g,d,t+1,os⟩:=
  codeAny_call_builtin PySem.F.attr_ValueError.ga.plain F.entry_bexc_ga (ake (s:=⟨hh,g,d,t+1,os⟩) X hc I (akf (s:=⟨hh,g,d,t+1,os⟩) X hg hc I ⟨rfl,rfl⟩))
 unfold boundAndCalled;rw[f3];refine wpAny_bind (wpAny_pure (wpAny_call (codeAny_mono fin fun r s' hr=>?_)));cases r with
 |error e=>exact hr.elim
 | ok fl=>
  cases fl with
  | ret v=>
   obtain⟨rfl,rfl⟩:=hr;exact PySem.W.handed_on rfl (wpAny_pure hq)
  |next=>exact hr.elim
  |brk=>exact hr.elim
  |cont=>exact hr.elim
theorem al2(hg:ClsG K)(hc:ExcK K C):PySem.W.KitX K (.ref a) (.ref C) (fun h=>∃oe,PySem.W.InstAt h a oe C none) where
 ty:=fun _ _ _ ⟨_,I⟩=>I.type
 it:=fun _ _ X _=>by
  obtain⟨cdD,hcD⟩:=Option.isSome_iff_exists.mp hc.ci;unfold PySem.W.clsIn at hcD;split at hcD
  ·rename_i ho
   intro A' Q' E' s' k q;unfold isType loadHead;exact wpAny_bind (wpAny_loadPart (k _ _ (X _ _ ho)) (wpAny_pure q))
  ·cases hcD
 ne:=fun h tp dd its n sl X htp=>by
  obtain⟨cdD,hcD⟩:=Option.isSome_iff_exists.mp hc.ci;refine Bool.eq_false_iff.mpr fun q=>?_;have e:C=tp:=Value.ref.inj (beq_iff_eq.mp q);subst e;unfold PySem.W.clsIn at hcD;split at hcD
  ·rename_i ho
   have z:=(X _ _ ho).symm.trans htp;cases z
  ·cases hcD
 ca:=fun X ⟨_,I⟩ k=>aot X hg hc I k
end
noncomputable def adr(K:Fg)(c:Str):Option Addr:=match PySem.W.nsIn K mainGlobals c with
 |some (some (.ref C))=>some C
 |_=>none
theorem aqH{K:Fg}{c:Str}{C:Addr}(h:PySem.W.nsIn K mainGlobals c=some (some (.ref C))):adr K c=some C:=by
 unfold adr;rw[h]
theorem ai1{K:Fg}{c:Str}{C:Addr}(h:adr K c=some C):PySem.W.nsIn K mainGlobals c=some (some (.ref C)):=by
 unfold adr at h;split at h
 ·rename_i q;cases h;exact q
 ·cases h
noncomputable def aqI(K:Fg)(C:Addr):Bool:=PySem.W.excIn K C vB "ValueError.__new__" && ((PySem.W.findIn K (.ref C) "__getattribute__" == some (some (.builtin "BaseException.__getattribute__")))&&((PySem.W.findIn K (.ref C) "__getattr__" == some none)&&((PySem.W.findIn K (.ref C) "__class__" == some (some (.builtin "object.__class__")))&&((PySem.W.mroIn K C (.type "object")==some true)&&(PySem.W.mroIn K C (.type "BaseException")==some true)))))
theorem al3{K:Fg}{C:Addr}(h:aqI K C=true):ExcK K C:=by
 unfold aqI at h;simp only[Bool.and_eq_true,beq_iff_eq]at h;obtain⟨h1,h2,h3,h4,h5,h6⟩:=h;exact⟨h1,h2,h3,h4,h5,h6⟩
noncomputable def afz(K:Fg)(y:Str)(cs:List Str):Bool:=(PySem.W.specialIn K (.builtin "object.__class__") "__get__" == some (some (.builtin "getset_descriptor.__get__")))&&((PySem.W.takesIn K (.builtin "object.__class__")==some true)&&(match adr K y with
 | none=>false
 | some B=>(PySem.W.typeIn K (.ref B) == some (.type "type")) && ((PySem.W.mroIn K B (.type "BaseException") == some true) && cs.all fun c=>match adr K c with
  | none=>false
  | some C=>aqI K C && ((PySem.W.mroIn K C (.ref B) == some true) && ((PySem.W.kitOne K (.ref C) (.type "ValueError") == some true) && cs.all fun d=>match adr K d with
   | none=>false
   | some D=>PySem.W.kitOne K (.ref C) (.ref D) == some (c == d))))))
structure ErrT(K:Fg)(mg:SV)(y:Str)(cs:List Str):Prop where
 tab:afz K y cs=true
 mgs:∀c C,adr K c=some C->mg c=some (.ref C)
section
variable {K:Fg}{mg:SV}{y:Str}{cs:List Str}
theorem ErrT.g(h:ErrT K mg y cs):ClsG K:=by
 have:=h.tab;unfold afz at this;simp only[Bool.and_eq_true,beq_iff_eq]at this;exact⟨this.1,this.2.1⟩
theorem ErrT.par(h:ErrT K mg y cs):∃B,adr K y=some B/\mg y=some (.ref B)/\PySem.W.typeIn K (.ref B)=some (.type "type")/\PySem.W.mroIn K B (.type "BaseException")=some true/\
  ∀c∈cs,∃C,adr K c=some C/\mg c=some (.ref C)/\ExcK K C/\PySem.W.mroIn K C (.ref B)=some true/\PySem.W.kitOne K (.ref C) (.type "ValueError")=some true/\∀d∈cs,∃D,adr K d=some D/\mg d=some (.ref D)/\PySem.W.kitOne K (.ref C) (.ref D)=some (c==d):=by
 have q:=h.tab;unfold afz at q;simp only[Bool.and_eq_true,beq_iff_eq]at q;obtain⟨_,_,q⟩:=q;cases hB:adr K y with
 |none=>rw[hB]at q;cases q
 | some B=>
  rw[hB]at q;simp only[Bool.and_eq_true,beq_iff_eq,List.all_eq_true]at q;obtain⟨q1,q2,q3⟩:=q;refine⟨B,rfl,h.mgs y B hB,q1,q2,fun c hc=>?_⟩;have z:=q3 c hc;cases hC:adr K c with
  |none=>rw[hC]at z;cases z
  | some C=>
   rw[hC]at z;simp only[Bool.and_eq_true,beq_iff_eq,List.all_eq_true]at z;obtain⟨z1,z2,z3,z4⟩:=z;refine⟨C,rfl,h.mgs c C hC,al3 z1,z2,z3,fun d hd=>?_⟩;have v:=z4 d hd;cases hD:adr K d with
   |none=>rw[hD]at v;cases v
   | some D=>
    rw[hD]at v;exact⟨D,rfl,h.mgs d D hD,beq_iff_eq.mp v⟩
theorem ErrT.err(h:ErrT K mg y cs){c:Str}(hc:c∈cs):aic K mg c:=by
 obtain⟨B,_,_,_,_,q⟩:=h.par;obtain⟨C,_,q2,q3,_⟩:=q c hc;exact⟨C,q2,q3.exc⟩
end
noncomputable def aeF:PyData->Option Str
 |.dict [(.str c,.bool true)]=>some c
 |_=>none
theorem agG{d:PyData}{c:Str}(h:aeF d=some c):d=JG c:=by
 unfold aeF at h;split at h
 ·cases h;rfl
 ·cases h
@[simp] theorem aqJ(c:Str):aeF (JG c)=some c:=rfl
theorem al4{K:Fg}{H:Hp}{x:Str}{v:V}(h:Rep K H (JG x) v):∃a C oe,v= .ref a/\H a=some (.frz oe (.own a))/\PySem.W.nsIn K mainGlobals x=some (some (.ref C))/\oe.cls= .ref C/\oe.dict=none/\∃vs,oe.data= .fields vs:=by
 obtain⟨a,h1,⟨ns,h2,h3⟩ | ⟨ks,ob,h2,h3⟩ | ⟨y,h2,_⟩ | ⟨y,C,oe,h2,h3,h4,h5⟩ | h2⟩:=h
 ·cases ns with
  |nil=>cases h3
  |cons n ns=>cases h3
 ·exact h3.elim
 ·cases h2
 ·cases h2
  exact⟨a,C,oe,h1,h3,h4,h5⟩
 ·cases h2
noncomputable def akg(cs:List Str)(f:Str->Bool)(d:PyData):OP:=(aeF d).bind fun c=>if c∈cs then some (.bool (f c)) else none
section
variable {X:Cx}{a:Expr}{fa:RP}{pos p p2:Pos}{y:Str}{cs:List Str}
noncomputable def ar6(K:Fg)(w:V):List V->Hp->VK->Prop:=fun xs H Q=>∃x c C b,xs=[x,w]/\Rep K H (JG c) x/\adr K c=some C/\ExcK K C/\(∀u,jS w u->PySem.W.kitOne K (.ref C) u=some b)/\Q (.bl b) H
theorem aeG{w:V}(G:ClsG X.K):zS X (.builtin "isinstance") (ar6 X.K w):=by
 intro Kp s σ H xs us Q I r ⟨x,c,C,b,e,h1,hC,hK,h2,q⟩;subst e;obtain⟨u,w',rfl,r1,r2⟩:=aiG r;obtain⟨a,C',oe,rfl,e2,e3,e4,e5,vs,e6⟩:=al4 h1;have:=aqH e3;rw[hC]at this;cases this;cases (show u=Value.ref a from r1);have at':s.heap.get? a=some oe:=(I.hok _ _ e2).1;exact PySem.W.kia_one (al2 G hK) I.kIn ⟨oe,at',e4,by unfold PySem.W.notCls;rw[e6],by rw[e5];trivial⟩ (h2 w' r2) (fun z=>nomatch z) fun tk=>⟨.bl b,H,I.tok tk,rfl,q⟩
theorem aad{T:Str}(hE:ErrT X.K X.mg y cs)(hm1:X.mg "isinstance"=none)(ha:PD X a fa)(hT:T∈cs:=by decide)(hg1:Gl X "isinstance":=by rfl)(hg2:Gl X T:=by rfl)(hd:(T==("__debug__":Str))=false:=by decide)
  (he:starEach [a,.Name T p2] X.env=[(false,eval a X.env),(false,eval (.Name T p2) X.env)]:=by rfl) (he2:starEach [.Name T p2] X.env=[(false,eval (.Name T p2) X.env)]:=by rfl) (hpl:(backTo pos (starEach [.Name T p2] X.env)).any (·.1)=false:=by rfl):
  PD X (.Call (.Name "isinstance" p) [a,.Name T p2] [] pos) (fun ρ=>(fa ρ).bind (akg cs fun c=>c==T)):=by
 with_unfolding_all
  obtain⟨B,_,_,_,_,par⟩:=hE.par;obtain⟨D,d1,d2,_⟩:=par T hT;have hT2:PE X (.Name T p2) (tC (.ref D)):=ae4 hg2 d2 rfl hd;refine PE.imp (aaX (aeG (w:= .ref D) hE.g) hg1 hm1 (by decide +kernel) (qL ha (qL hT2 Jk (by rw[he2];rfl)) (by rw[he,he2])) (by decide) (by decide) (by rw[he,he2]) hpl) fun σ H Q ⟨ρ,d,en,q,k⟩=>?_;cases h1:fa ρ with
  |none=>simp[h1]at q
  | some c0=>
   have q':akg cs (fun c=>c==T) c0=some d:=by simpa[h1]using q
   unfold akg at q';cases h2:aeF c0 with
   |none=>rw[h2]at q';cases q'
   | some c=>
    rw[h2,zzD]at q';by_cases hc:c∈cs
    ·rw[if_pos hc]at q'
     cases q';have:=agG h2;subst this;obtain⟨C,c1,c2,c3,c4,c5,c6⟩:=par c hc;obtain⟨D',d1',d2',d3'⟩:=c6 T hT;rw[d1]at d1';cases d1';exact⟨ρ,_,en,h1,fun v H1 s1 r1=>⟨v,c,C,_,rfl,r1,c1,c3,fun u ru=>by cases (show u=Value.ref D from ru);exact d3',k _ H1 s1 rfl⟩⟩
    ·rw[if_neg hc]at q';cases q'
theorem aou(hE:ErrT X.K X.mg y cs)(hm1:X.mg "isinstance"=none)(hm2:X.mg "ValueError"=none)(ha:PD X a fa)(hg1:Gl X "isinstance":=by rfl)(hg2:Gl X "ValueError":=by rfl)
  (he:starEach [a,.Name "ValueError" p2] X.env=[(false,eval a X.env),(false,eval (.Name "ValueError" p2) X.env)]:=by rfl) (he2:starEach [.Name "ValueError" p2] X.env=[(false,eval (.Name "ValueError" p2) X.env)]:=by rfl) (hpl:(backTo pos (starEach [.Name "ValueError" p2] X.env)).any (·.1)=false:=by rfl):
  PD X (.Call (.Name "isinstance" p) [a,.Name "ValueError" p2] [] pos) (fun ρ=>(fa ρ).bind (akg cs fun _=>true)):=by
 with_unfolding_all
  obtain⟨B,_,_,_,_,par⟩:=hE.par;have hT2:PE X (.Name "ValueError" p2) (tC (.ty "ValueError")):=aiC hg2 hm2 (u:= .type "ValueError") (by decide +kernel) rfl (by decide) (by decide);refine PE.imp (aaX (aeG (w:= .ty "ValueError") hE.g) hg1 hm1 (by decide +kernel) (qL ha (qL hT2 Jk (by rw[he2];rfl)) (by rw[he,he2])) (by decide) (by decide) (by rw[he,he2]) hpl) fun σ H Q ⟨ρ,d,en,q,k⟩=>?_;cases h1:fa ρ with
  |none=>simp[h1]at q
  | some c0=>
   have q':akg cs (fun _=>true) c0=some d:=by simpa[h1]using q
   unfold akg at q';cases h2:aeF c0 with
   |none=>rw[h2]at q';cases q'
   | some c=>
    rw[h2,zzD]at q';by_cases hc:c∈cs
    ·rw[if_pos hc]at q'
     cases q';have:=agG h2;subst this;obtain⟨C,c1,c2,c3,c4,c5,c6⟩:=par c hc;exact⟨ρ,_,en,h1,fun v H1 s1 r1=>⟨v,c,C,_,rfl,r1,c1,c3,fun u ru=>by cases (show u=Value.type "ValueError" from ru);exact c5,k _ H1 s1 rfl⟩⟩
    ·rw[if_neg hc]at q';cases q'
end
section
variable {X:Cx}{σ:St}{H:Hp}{s:Shared}{e C:Addr}
theorem Inv.take{oe:Obj}(I:Inv X [] σ H s)(m:Mine X H e)(he:s.heap.get? e=some oe):Inv X [] σ (upd H e (.frz oe (.own e))) s/\jo H (upd H e (.frz oe (.own e))):=by
 have ne:∀b o,H b=some o->b≠e:=fun b o q z=>by subst z;rw[m.un]at q;cases q
 have sm:jo H (upd H e (.frz oe (.own e))):=fun b o q=>by rw[jp (ne b o q)];exact q
 have u:Un (frs X.stack) [e] H (upd H e (.frz oe (.own e))) s.heap s.heap:=⟨fun b o q _ _ _=>q,fun b o q _ _ _=>⟨o.slots,q⟩,fun b o q n nc=>by rw[jp (fun z=>nc (by simp[z]))];exact n,fun b o q _=>⟨o,q⟩,fun b xs q=>sm b _ q,fun b o v q=>sm b _ q,fun b ps q=>⟨#[],by rw[sm b _ q];simp⟩⟩
 have hok:HOk X.prog X.w (upd H e (.frz oe (.own e))) s.heap:=fun b o q=>by
  by_cases hb:b=e
  ·subst hb
   rw[jt]at q;cases q;exact⟨he,_,he⟩
  ·rw[jp hb]at q
   exact(I.hok b o q).stay (fun c v hc r=>r) (fun c r=>sm _ _ r) fun c v r=>sm _ _ r
 refine⟨?_,sm⟩
 have J:=Inv.call (X:={ X with ex:=[e]++X.ex }) (g':=s.gens) (d':=s.drawn) (t':=s.toks) (Inv.exIn I fun b hb=>by rw[List.mem_singleton.mp hb];exact⟨m.new,m.loc,m.cel⟩) u hok I.bare fun b hb=>by
  rw[List.mem_singleton.mp hb];exact⟨.inl (List.mem_append_left _ (by simp)),m.loc,m.cel,fun p hp=>m.pin p (by simpa using hp)⟩
 exact Inv.exOut J I.ok fun b hb=>by rw[List.mem_singleton.mp hb];exact m.new
theorem aov{M:Model}{A:Around}{E:Value->SP0}{x:Str}{pos:Pos}{Q:Unit->SP0}(I:Inv X [] σ H s)(hl:X.env.kindOf x=some .local)(h:∀s',Inv X [] (List.replicate σ.length none) H s'->Q () s'):
  wpAny M A (do bindName X.env x .none;unbindBehindTheSuite X.env x pos) Q E s:=by
 obtain⟨m,hn,_⟩:=id I.loc;have hcls:(X.env.scope.kind == .class||(X.env.scope.kind == .module&&X.env.locals != X.env.globals))=false:=by rw[I.ok.kind];rfl
 have cne:=I.cne;refine wpAny_nameGoes hl hn hcls fun h' m' hn' hs=>?_;obtain⟨oL,_,_,hoL,_⟩:=id hn
 have tracked:HOk X.prog X.w H h':=fun b ob e=>by
  refine(I.hok b ob e).stay (fun c w' hc q=>(hs.2 c ?_).trans q) (fun _ q=>q) fun _ _ q=>q
  rintro rfl
  rcases hc with rfl | hc
  ·rw[I.free]at e;cases e
  ·rw[I.free]at hc;cases hc
 refine h _ ⟨I.ok,I.os,I.bare,⟨fun b o e n hb hx=>?_,fun b o e n hb hx=>?_,I.base.free,fun b o e hx=>?_,I.base.tups,I.base.frzs,I.base.tbls⟩,⟨_,hn',fun j y v' e1 e2 e3=>?_⟩,fun y c e=>?_,I.free,I.freeC,fun p hp=>?_,tracked,by simpa using I.len⟩
 ·exact(hs.2 b (Nat.ne_of_lt (Nat.lt_of_lt_of_le (Heap.lt_size e) I.ok.above))).trans (I.base.keep b o e n hb hx)
 ·obtain⟨sl,e1⟩:=I.base.slot b o e n hb hx
  exact⟨sl,(hs.2 b (Nat.ne_of_lt (Nat.lt_of_lt_of_le (Heap.lt_size e) I.ok.above))).trans e1⟩
 ·obtain⟨o',e1⟩:=I.base.there b o e hx
  exact⟨o',(hs.2 b (Nat.ne_of_lt (Nat.lt_of_lt_of_le (Heap.lt_size e) I.ok.above))).trans e1⟩
 ·rw[List.getElem?_replicate]at e2
  split at e2<;>cases e2
 ·obtain⟨w',z⟩:=I.cell y c e
  exact⟨w',z.sameBut hs (cne y c e)⟩
 ·obtain⟨e,n,ne,nf,d⟩:=I.pin p hp
  exact⟨(hs.2 p.1 ne).trans e,n,ne,nf,d⟩
theorem agH{M:Model}{A:Around}{E:Value->SP0}{K:Fg}{B:Addr}{oe:Obj}{Q:Bool->SP0}(X:K.In s.heap)(he:s.heap.get? e=some oe)(hc:oe.cls= .ref C)
  (ht:PySem.W.typeIn K (.ref B)=some (.type "type")) (hB:PySem.W.mroIn K B (.type "BaseException")=some true) (hm:PySem.W.mroIn K C (.ref B)=some true) (hq:Q true s):wpAny M A (excMatches (.ref e) (.ref B)) Q E s:=by
 have L0:=PySem.W.looks_typeIn (M:=M) X ht;have L1:=PySem.W.looks_mroIn (M:=M) X hB;have L2':=PySem.W.looks_mroIn (M:=M) X hm
 have Lt:PySem.W.Looks M s.heap (isType (.ref B)) true:=by
  obtain⟨cdD,hcD⟩:=Option.isSome_iff_exists.mp (agF hB);unfold PySem.W.clsIn at hcD;split at hcD
  ·rename_i ho
   intro A' Q' E' s' k q;unfold isType loadHead;exact wpAny_bind (wpAny_loadPart (k _ _ (X _ _ ho)) (wpAny_pure q))
  ·cases hcD
 have f:=tc_notTuple;obtain⟨hp,g,d,tk,os⟩:=s;unfold excMatches isInstance isExcClass
 repeat (first | (with_reducible refine wpAny_loadPart_at he ?_;rw[hc]) | with_reducible refine L0.at ?_ | with_reducible refine L1.at ?_ | with_reducible refine L2'.at ?_ | with_reducible refine Lt.at ?_ | wp_step)
 exact hq
end
noncomputable def Zf(n i:Nat)(cs:List Str)(F:RO)(fx:Rho->Option Str)(G:RO):RO:=fun ρ=>match F ρ with
 |some o=>some o
 | none=>match fx ρ with
  | some c=>if c∈cs then (match G ((ZN n).set i (some (JG c)))with
   | some (.rt d)=>some (.rt d)
   | _=>none) else none
  |none=>none
section
variable {X:Cx}{st b0:Stmt}{sts qh tb hb:List Stmt}{F G:RO}{fx:Rho->Option Str}{pos:Pos}
theorem al5{y x:Str}{np hpos:Pos}{n:Nat}{cs:List Str}(i:Nat)(T0:Top0 X)(hN:X.N.length=n)(hnd:X.N.Nodup)(hE:ErrT X.K X.mg y cs)(hn:∀E,ZC (X.wish E) tb F)(hx:∀E,acu (X.wish E) tb fx)(hh:∀e,ZC (hX X e) (b0::hb) G)
  (hi:X.N[i]?=some x:=by rfl) (hl:X.env.kindOf x=some .local:=by rfl) (hlk:X.env.scope.names.lookup x=some .local:=by rfl) (hg:Gl X y:=by rfl) (hdb:(y==("__debug__":Str))=false:=by decide):PS0 X (.Try tb [.ExceptHandler (some (.Name y np)) (some x) (b0::hb) hpos] [] [] pos) (Zf n i cs F fx G):=by
 with_unfolding_all
  intro s σ H D I ⟨ρ,o,en,q,k⟩;refine wpAny_Try_except ?_;let E':Value->SP0:=fun ev s1=>wpAny (model X.prog X.w) X.A (noteFrame ev X.env) (fun _ s₂=>wpAny (model X.prog X.w) X.A (setFlight ev none) (fun _ s₃=>wpAny (model X.prog X.w) X.A (handleBy ev X.env [.ExceptHandler (some (.Name y np)) (some x) (b0::hb) hpos]) (SP X [] D) X.xe s₃) X.xe s₂) X.xe s1
  cases hF:F ρ with
  | some o1=>
   have e1:o1=o:=by simpa[Zf,hF]using q
   subst e1;refine wpAny_mono (hn E' [] s σ H D (I.wish E') ⟨ρ,o1,en,hF,k⟩) (fun f s1 z=>?_) fun _ _ z=>z;have z':=SP.unwish z;cases f with
   |next=>exact wpAny_execs_nil z'
   |brk=>exact z'
   |cont=>exact z'
   |ret u=>exact z'
  | none=>
   cases hc:fx ρ with
   |none=>simp[Zf,hF,hc]at q
   | some c=>
    by_cases hy:c∈cs
    ·cases hG:G ((ZN n).set i (some (JG c)))with
     |none=>simp[Zf,hF,hc,hy,hG]at q
     |some o1=>
     cases o1 with
     |nx ρ1=>simp[Zf,hF,hc,hy,hG]at q
     |bk ρ1=>simp[Zf,hF,hc,hy,hG]at q
     |ct ρ1=>simp[Zf,hF,hc,hy,hG]at q
     |rt d=>
     have q':Out.rt d=o:=by simpa[Zf,hF,hc,hy,hG]using q
     subst q';obtain⟨B,aB,mB,tB,bB,par⟩:=hE.par;obtain⟨C',aC,mC,xC,pC,_⟩:=par c hy;refine wpAny_mono (hx E' s σ H ρ c (I.wish E') en hc fun ev s1 t=>?_) (fun _ _ z=>z.elim) fun _ _ z=>z;obtain⟨e,C,σ1,H1,rfl,hm,J,sm,xc⟩:=t;have J0:=J.unwish;have x0:=xc.unwish;show wpAny _ X.A (noteFrame (.ref e) X.env) _ _ s1;refine wpAny_mono (afv (E:=fun _ _=>False) T0 J0.ok.frames J0 x0) (fun _ s2 ⟨J2,t2⟩=>?_) fun _ _ z=>z.elim;refine wpAny_mono (QK (E:=fun _ _=>False) none J2 t2) (fun _ s3 ⟨J3,t3⟩=>?_) fun _ _ z=>z.elim;have ok:=J3.ok;have hm0:X.mg c=some (.ref C):=hm;rw[hm0]at mC;cases mC;have fr:(X.A.mark (some (.ref e))).frames=some X.stack:=ok.frames;have J4:Inv (hX X e) [] σ1 H1 s3:=Inv.asA J3 fr (fun z=>nomatch z);refine wpAny_handleBy_cons (codeAny_handlers_test ?_) (fun z=>nomatch z);refine aaU (X:=hX X e) J4 hg mB ?_ hdb;obtain⟨oe,ws,T,oT,ts,g1,g2,g3,g4,g5,g6,g7,g8,g9⟩:=id t3.ob;refine agH J4.kIn g1 g2.1 tB bB pC ?_;refine codeAny_handlers_suite_as ?_;refine wpAny_mono (QK (A:=X.A.mark (some (.ref e))) (E:=fun _ _=>False) none J3 t3) (fun _ s5 ⟨J5,t5⟩=>?_) fun _ _ z=>z.elim;obtain⟨oe5,ws5,T5,oT5,ts5,g51,g52,g53,_⟩:=id t5.ob;obtain⟨J6,sm6⟩:=Inv.take J5 t5.mine g51;have J7:Inv (hX X e) [] σ1 (upd H1 e (.frz oe5 (.own e))) s5:=Inv.asA J6 fr (fun z=>nomatch z);have hlen:σ1.length=n:=by rw[←hN,←J5.len]
     refine ac2 (X:=hX X e) J7 hnd hi (.inl hlk) (v:= .ref e) rfl (fun s6 J8=>?_) (.inr hlk);have re:Rep X.K (upd H1 e (.frz oe5 (.own e))) (JG c) (.ref e):=⟨e,rfl,.inr (.inr (.inr (.inl ⟨c,_,oe5,rfl,jt,ai1 aC,g52.1,g52.2,ws5,g53⟩)))⟩
     have eb:EnvR X.K (upd H1 e (.frz oe5 (.own e))) ((ZN n).set i (some (JG c))) (σ1.set i (some (.ref e))):=by
      refine⟨by simp[ZN,hlen],fun j d qd=>?_⟩;by_cases hj:j=i
      ·subst hj
       rw[List.getElem?_set_self (by simp only[ZN,List.length_replicate];rw[←hN];exact(List.getElem?_eq_some_iff.mp hi).1)]at qd;cases qd;exact⟨.ref e,List.getElem?_set_self (by rw[hlen,←hN];exact(List.getElem?_eq_some_iff.mp hi).1),re⟩
      ·rw[List.getElem?_set_ne (Ne.symm hj)]at qd
       simp[ZN,List.getElem?_replicate]at qd
     refine wpAny_mono (hh e [] s6 _ _ { D with nx:=fun _ _=>False,bk:=fun _ _=>False,ct:=fun _ _=>False } J8 ⟨_,.rt d,eb,hG,fun v H' sm' r=>k v H' ((sm.trans sm6).trans sm') r⟩) (fun f s7 z=>?_) fun _ _ z=>z.elim;have z':=SP.ofA J5.ok z;cases f with
     |next=>obtain⟨_,_,_,z⟩:=z';exact z.elim
     |brk=>obtain⟨_,_,_,z⟩:=z';exact z.elim
     |cont=>obtain⟨_,_,_,z⟩:=z';exact z.elim
     | ret u=>
      obtain⟨v,σ',H',I',r,z⟩:=z';exact aov I' hl fun s8 I8=>⟨v,_,H',I8,r,z⟩
    ·simp[Zf,hF,hc,hy]at q
end
noncomputable abbrev asY:=Int×(Int×Int)
structure TripAt(h:Heap)(u:Value)(t:asY):Prop where
 ex:∃a o k tk a2,u= .ref a/\h.get? a=some o/\o.cls= .type "tuple"/\o.data= .seq #[.int t.1 tk,.ref a2] k/\PairAt h (.ref a2) t.2
section
variable {X:Cx}
theorem al6{Kp:List (Addr×Obj)}{σ:St}{H:Hp}{s:Shared}{a:Addr}{o:Obj}{xs:Array Value}{k:Nat}(I:Inv X Kp σ H s)(eo:s.heap.get? a=some o)(dk:o.data= .seq xs k):a≠X.env.locals:=fun z=>by
 obtain⟨_,⟨o',es,ep,h1,h2,_⟩,_⟩:=I.loc;rw[z]at eo;rw[eo]at h1;cases h1;rw[dk]at h2;cases h2
theorem aow{Kp:List (Addr×Obj)}{σ:St}{H:Hp}{s:Shared}{v:V}{p:Int×Int}{u:Value}{h':Heap}(I:Inv X Kp σ H s)(r:Rep X.K H (alC p) v)(rv:jS v u)(kp:∀b o,b≠X.env.locals->s.heap.get? b=some o->h'.get? b=some o):∃a,u= .ref a/\PairAt h' u p:=by
 obtain⟨a2,ws,e2,e3,x1,r1,e4,e5,x2,r2,e6,e7,e8⟩:=r;cases (show x1=_ from e5);cases (show x2=_ from e7);cases (show r2=[] from e8);subst e6;subst e4;subst e2;cases rv;obtain⟨its,r3,⟨o,eo,co,k,dk⟩,_⟩:=I.tuple e3;cases r3 with
 | cons y1 r3=>
  cases r3 with
  | cons y2 r3=>
   cases r3;obtain⟨t,rfl⟩:=y1;obtain⟨t',rfl⟩:=y2;exact⟨a2,rfl,a2,o,k,t,t',rfl,kp a2 o (al6 I eo dk) eo,co,by simpa using dk⟩
end
section
variable {α:Type}
end
section
variable {X:Cx}{e a b c:Expr}{es qh:List Expr}{st:Stmt}{sts srest:List Stmt}{fx gx:Rho->Option Str}{fa fb:RP}{F:RO}{pos:Pos}
theorem al7(h1:PDX X e fx)(h2:PDX X e gx):PDX X e (orX fx gx):=by
 with_unfolding_all
  intro s σ H ρ c I en q k;cases hf:fx ρ with
  | some c'=>
   have:c'=c:=by simpa[orX,hf]using q
   subst this;exact h1 s σ H ρ c' I en hf k
  |none=>exact h2 s σ H ρ c I en (by simpa[orX,hf]using q) k
theorem al8(ha:PDX X a fx):PDX X (.BoolOp .And (a::b::qh) pos) fx:=by
 with_unfolding_all
  intro s σ H ρ c I en q k;exact BoolOp_and (wpAny_mono (ha s σ H ρ c I en q k) (fun _ _ z=>z.elim) fun _ _ z=>z)
theorem agI{op:CmpOp}(ha:PDX X a fx)(hm:behindInMarks op b=false:=by first|exact ae7 _ | with_unfolding_all rfl):PDX X (.Compare a [op] [b] pos) fx:=by
 with_unfolding_all
  intro s σ H ρ c I en q k;exact wpAny_Compare1 (wpAny_mono (ha s σ H ρ c I en q k) (fun _ _ z=>z.elim) fun _ _ z=>z) hm
theorem akh{id:String}{x:Str}{p:Pos}(hm:X.mg x=none)(hv:bootBuiltins x=some (.builtin id))(ha:PAX X (e::es) fx)
  (hg:Gl X x:=by rfl) (hn:x≠"__name__":=by decide) (hdb:(x==("__debug__":Str))=false:=by decide) (he:starEach (e::es) X.env=(false,eval e X.env)::starEach es X.env:=by rfl)
  (hpl:(backTo pos (starEach es X.env)).any (·.1)=false:=by rfl):PDX X (.Call (.Name x p) (e::es) [] pos) fx:=by
 with_unfolding_all
  intro s σ H ρ c I en q k;refine wpAny_Call_Name_kw (Zz I hg hm hv ?_ hn hdb);exact PyProof.Rows.callWith_builtin1 (wpAny_mono (ha pos s σ H ρ c I en q k) (fun _ _ z=>z.elim) fun _ _ z=>z) he hpl
noncomputable def orD(f g:RP):RP:=fun ρ=>(f ρ).orElse fun _=>g ρ
theorem aih(h1:PD X e fa)(h2:PD X e fb):PD X e (orD fa fb):=by
 with_unfolding_all
  intro Kp s σ H Q I ⟨ρ,d,en,q,k⟩;cases hf:fa ρ with
  | some d'=>
   have:d'=d:=by simpa[orD,hf]using q
   subst this;exact h1 Kp s σ H Q I ⟨ρ,d',en,hf,k⟩
  |none=>exact h2 Kp s σ H Q I ⟨ρ,d,en,by simpa[orD,hf]using q,k⟩
noncomputable def items:PyData->Option (LP)
 |.list ds=>some ds
 |.tuple ds=>some ds
 |_=>none
noncomputable def itS(fa:RP):Rho->Option (LP):=fun ρ=>(fa ρ).bind items
theorem Jr{tg:Expr}(h:PD X e fa):PID X tg e (itS fa):=by
 with_unfolding_all
  intro Kp s σ H R I ⟨ρ,ds,en,q,k⟩;cases hf:fa ρ with
  |none=>simp[itS,hf]at q
  | some d=>
   have q':items d=some ds:=by simpa[itS,hf]using q
   cases d with
   | list es=>
    cases q';exact QH (tg:=tg) h Kp s σ H R I ⟨ρ,ds,en,by simp[itL,hf,Za],k⟩
   | tuple es=>
    cases q';exact aiT (tg:=tg) h Kp s σ H R I ⟨ρ,ds,en,by simp[itT,hf,aff],k⟩
   |_=>cases q'
end
theorem _root_.L2.Room.units1{k:Nat}{A:Around}(r:Room k A):A.units+1<cLine:=by have:=r.un;omega
theorem RoomH.units{k:Nat}{A:Around}(r:RoomH k A):A.units+64<cLine:=by have:=r.un;omega
theorem RoomH.mono{j k:Nat}{A:Around}(r:RoomH k A)(h:j<=k):RoomH j A:=⟨by have:=r.dp;omega,by have:=r.un;omega⟩
section
variable {X:Cx}{a b:Expr}{pos:Pos}
end
section
variable {X:Cx}{e a b c:Expr}{l r:List Stmt}{fx gx:Rho->Option Str}{pos:Pos}
end
section
variable {X:Cx}{own:Option Nat}{tg:Expr}{st:Stmt}{sts:List Stmt}{fx:Rho->Option Str}{F:RO}
end
theorem abh(a i:Expr)(fp:Pos)(args:List Expr)(pos:Pos)(env:Env):eval (.Call (.Subscript a i fp) args [] pos) env=(do
  callWith pos (←eval (.Subscript a i fp) env) [] (backTo pos (starEach args env)) (backToKw pos (keywordEach [] env))):=rfl
section
variable {X:Cx}{a i e:Expr}{es:List Expr}{pos fp:Pos}
noncomputable def aaL(x:Str)(g:LP->OP)(ff:RP)(fr:Rho->Option (LP)):RP:=fun ρ=>(ff ρ).bind fun d=>if Zu x d=true then (fr ρ).bind g else none
theorem QM{k j n:Nat}{ps:List Str}{g:LP->OP}{x:Str}{ff:RP}{fr:Rho->Option (LP)}(c:jl X.prog X.w X.K X.mg X.base x ps k n g)(hr:Room j X.A)(hkj:k<=j)(hf:PD X (.Subscript a i fp) ff)(ha:PAD X (e::es) fr)
  (hl:∀(ρ:Rho) (ds:LP),fr ρ=some ds->ds.length=n) (he:starEach (e::es) X.env=(false,eval e X.env)::starEach es X.env:=by rfl)
  (hpl:(backTo pos (starEach es X.env)).any (·.1)=false:=by rfl):PD X (.Call (.Subscript a i fp) (e::es) [] pos) (aaL x g ff fr):=by
 with_unfolding_all
  obtain⟨f,fd,c1,c2,c3,c4⟩:=c;intro Kp s σ H Q I ⟨ρ,d,en,q,k⟩;cases h0:ff ρ with
  |none=>simp[aaL,h0]at q
  | some d0=>
   cases hF:Zu x d0 with
   |false=>simp[aaL,h0,hF]at q
   | true=>
    have:=agD hF;subst this;cases h1:fr ρ with
    |none=>simp[aaL,h0,hF,h1]at q
    | some ds=>
     have q':g ds=some d:=by simpa[aaL,h0,hF,h1]using q
     rw[abh];refine wpAny_bind (thn (hf Kp s σ H (fun v H1=>jo H H1/\Rep X.K H1 (fnD x) v) I ⟨ρ,_,en,h0,fun v H1 s1 r1=>⟨s1,r1⟩⟩) fun u s1 ⟨v,H1,I1,rv,sm,re⟩=>?_);obtain⟨ad,ev,ea⟩:=ai0 re;subst ev;cases rv;have hff:=(PySem.W.mg_of I1.mod.kin I1.mod.glob ea).symm.trans c2;cases hff;refine PySem.W.callWith_K (h₀:=X.base) I1.ok.mod.kin c3 (thn (ha pos Kp s1 σ H1 (fun vs H2=>jo H1 H2/\Reps X.K H2 ds vs) I1 ⟨ρ,ds,en.mono sm,h1,fun vs H2 s2 r2=>⟨s2,r2⟩⟩) fun us s2 ⟨vs,H2,I2,r,sm2,rd⟩=>⟨I2.kIn,?_⟩) he hpl;have sp:Pur X.K n g (vs++[]) H2 Q (fun _ _ _=>False):=⟨ds,d,hl ρ ds h1,by rw[List.append_nil];exact rd,q',fun v H' s r=>k v H' (sm.trans (sm2.trans s)) r⟩;exact ak9 c1 (hr.mono hkj) c4 .nil alf I2 r sp
noncomputable def J1(x:Str)(g:LP->Option Str)(ff:RP)(fr:Rho->Option (LP)):Rho->Option Str:=fun ρ=>(ff ρ).bind fun d=>if Zu x d=true then (fr ρ).bind g else none
theorem aae{k j n:Nat}{ps:List Str}{g:LP->Option Str}{x:Str}{ff:RP}{fr:Rho->Option (LP)}(hxe:X.ex=[])(C:zB X.prog X.w X.K X.mg X.base x ps k n g)(hr:Room j X.A)(hkj:k<=j)(hf:PD X (.Subscript a i fp) ff)(ha:PAD X (e::es) fr)(hl:∀ρ ds,fr ρ=some ds->ds.length=n)
  (he:starEach (e::es) X.env=(false,eval e X.env)::starEach es X.env:=by rfl)
  (hpl:(backTo pos (starEach es X.env)).any (·.1)=false:=by rfl):PDX X (.Call (.Subscript a i fp) (e::es) [] pos) (J1 x g ff fr):=by
 with_unfolding_all
  intro s σ H ρ c I en q k';obtain⟨f,fd,F,hm,hk,hb⟩:=C;cases h0:ff ρ with
  |none=>simp[J1,h0]at q
  | some d0=>
   cases hF:Zu x d0 with
   |false=>simp[J1,h0,hF]at q
   | true=>
    have:=agD hF;subst this;cases hd:fr ρ with
    |none=>simp[J1,h0,hF,hd]at q
    | some ds=>
     have q':g ds=some c:=by simpa[J1,h0,hF,hd]using q
     rw[abh];refine wpAny_bind (thn (hf [] s σ H (fun v H1=>jo H H1/\Rep X.K H1 (fnD x) v) I ⟨ρ,_,en,h0,fun v H1 s1 r1=>⟨s1,r1⟩⟩) fun u s1 ⟨v,H1,I1,rv,sm0,re⟩=>?_);obtain⟨ad,ev,ea⟩:=ai0 re;subst ev;cases rv;have hff:=(PySem.W.mg_of I1.mod.kin I1.mod.glob ea).symm.trans hm;cases hff;refine PySem.W.callWith_K (h₀:=X.base) I1.ok.mod.kin hk (thn (ha pos [] s1 σ H1 (fun vs H2=>jo H1 H2/\Reps X.K H2 ds vs) I1 ⟨ρ,ds,en.mono sm0,hd,fun vs H2 s1 r1=>⟨s1,r1⟩⟩) fun us s2 ⟨vs,H2,I2,r,sm,rd⟩=>⟨I2.kIn,?_⟩) he hpl;have hn:ds.length=n:=hl ρ ds hd;have sp:aj7 X.K X.mg n g vs H2 (fun _ _=>False) (fun cls _ H'=>X.mg c=some cls/\jo H2 H'):=⟨ds,c,hn,rd,q',fun C H' hC s2=>⟨hC,s2⟩⟩;have hlu:(us++[]).length=ps.length:=by rw[List.append_nil,←r.length];exact F.len _ _ _ _ sp
     have hbd:=hb s2 us I2.kIn hlu;rw[List.append_nil]at hbd;refine wpAny_call (codeAny_mono (F.run X.A X.stack s2 H2 ⟨us,[]⟩ us vs _ _ (hr.mono hkj) I2.env0 hbd r sp) fun rs s' hq=>?_);cases rs with
     | error ev=>
      obtain⟨e0,C,H',rfl,os,bare,un,hok,xc,hC,sm2⟩:=hq;have J':Inv X [] σ H' s':=I2.call' (ch:=[]) os un hok bare fun b z=>nomatch z
      exact k' _ _ ⟨e0,C,σ,H',rfl,hC,J',sm0.trans (sm.trans sm2),Xc.of hxe I2 xc⟩
     | ok fl=>
      cases fl with
      |ret u=>obtain⟨v,H',_,_,_,_,_,z⟩:=hq;exact z.elim
      |next=>exact False.elim hq
      |brk=>exact False.elim hq
      |cont=>exact False.elim hq
end
section
variable {X:Cx}{own:Option Nat}{e a b c:Expr}{es:List Expr}{st:Stmt}{sts qh:List Stmt}{fa fb fc:RP}{F G:RO}{pos:Pos}
noncomputable def agJ(F:RO):RO:=fun ρ=>match F ρ with
 |some (.rt d)=>some (.rt d)
 |_=>none
theorem al9{i:Nat}(h:ZC X sts F):adg X (some i) sts (agJ F):=by
 with_unfolding_all
  intro Kp s σ H D I ⟨Hs,ρ,o,E,q,k⟩;cases hF:F ρ with
  |none=>simp[agJ,hF]at q
  | some o1=>
   cases o1 with
   | rt d=>
    have:Out.rt d=o:=by simpa[agJ,hF]using q
    subst this;obtain⟨d0,a,cl,o',g1,g2,g3,S,g4,env,sm,back,keep⟩:=E.opn;exact h Kp s σ (upd H a o') D (Inv.opened I S g4) ⟨ρ,.rt d,env,hF,fun v H' s' r=>k v H' (sm.trans s') r⟩
   |nx _=>simp[agJ,hF]at q
   |bk _=>simp[agJ,hF]at q
   |ct _=>simp[agJ,hF]at q
end
noncomputable def afA(ds:LP):OP:=match ds with
 | [.int i]=>some (.int i)
 | [.bool k]=>some (.int (if k=true then 1 else 0))
 |_=>none
theorem ama{X:Cx}:QI X (.type "int") afA:=by
 refine⟨_,ajM,fun ds d xs H Q h r k=>?_⟩;unfold afA at h;split at h
 ·cases h
  obtain⟨x,q,e1,e2,e3⟩:=r;cases (show q=[] from e3);rename_i i;cases (show x=V.int i from e2);exact .inl ⟨_,e1,k _ _ (jo.refl _) rfl⟩
 ·cases h
  obtain⟨x,q,e1,e2,e3⟩:=r;cases (show q=[] from e3);rename_i b;cases (show x=V.bl b from e2);exact .inr ⟨_,e1,k _ _ (jo.refl _) rfl⟩
 ·cases h
section
variable {X:Cx}{tg src:Expr}{pos pos':Pos}{own:Option Nat}
end
noncomputable def ar7(ps:List (Int×Int)):PyData:= .tuple (ps.map alC)
noncomputable def abi(h:Heap):List Value->List (Int×Int)->Prop
 | [],ps=>ps=[]
 |v::vs,ps=>∃p r a,ps=p::r/\v= .ref a/\PairAt h (.ref a) p/\abi h vs r
theorem abi.len{h:Heap}:∀{vs:List Value}{ps:List (Int×Int)},abi h vs ps->vs.length=ps.length
 | [],ps,e=>by cases (show ps=[] from e);rfl
 |v::vs,ps,⟨p,r,a,e,_,_,k⟩=>by rw[e,List.length_cons,List.length_cons,k.len]
structure SetAt(h:Heap)(u:Value)(ps:List (Int×Int)):Prop where
 ex:∃a o k vs,u= .ref a/\h.get? a=some o/\o.cls= .type "tuple"/\o.data= .seq (List.toArray vs) k/\abi h vs ps
section
variable {X:Cx}
theorem agK{Kp:List (Addr×Obj)}{σ:St}{H:Hp}{s:Shared}{h':Heap}(I:Inv X Kp σ H s)(kp:∀b o,b≠X.env.locals->s.heap.get? b=some o->h'.get? b=some o):∀(ps:List (Int×Int)) (xs:List V) (us:List Value),Reps X.K H (ps.map alC) xs->jM xs us->abi h' us ps
 | [],xs,us,r,v=>by
  cases (show xs=[] from r);cases v;rfl
 | p::ps,xs,us,r,v=>by
  obtain⟨x,q,rfl,e2,e3⟩:=r;cases v with
  | cons y v=>
   obtain⟨a,rfl,pp⟩:=aow I e2 y kp;exact⟨p,ps,a,rfl,rfl,pp,agK I kp ps _ _ e3 v⟩
theorem aaM{Kp:List (Addr×Obj)}{σ:St}{H:Hp}{s:Shared}{v:V}{p:List (Int×Int)}{u:Value}{h':Heap}(I:Inv X Kp σ H s)(r:Rep X.K H (ar7 p) v)(rv:jS v u)(kp:∀b o,b≠X.env.locals->s.heap.get? b=some o->h'.get? b=some o):SetAt h' u p:=by
 obtain⟨a2,ws,e2,e3,e4⟩:=r;subst e2;cases rv;obtain⟨its,r3,⟨o,eo,co,k,dk⟩,_⟩:=I.tuple e3;exact⟨a2,o,k,its,rfl,kp a2 o (al6 I eo dk) eo,co,dk,agK I kp p ws its e4 r3⟩
end
set_option maxHeartbeats 4000000 in
section
variable {X:Cx}
end
section
variable {prog:Program}{w:World}{A:Around}{E:Value->SP0}{s:Shared}
end
section
variable {X:Cx}{a:Expr}{fa:RP}{pos p1 p2 p3:Pos}{j:Nat}
end
section
variable {X:Cx}{e b ev:Expr}{qh:List Stmt}{fe fk fv:RP}{G:RO}{pos pos2:Pos}
end
section
variable {X:Cx}
noncomputable def aqK(bt:Int->Int->Bool):List V->Hp->VK->Prop:=fun xs H Q=>∃d ob ks ns m,xs=[.ref d]/\H d=some (.frz ob (.dK ks))/\ks.map (·.1)=ns.map (fun n=>(Sum.inl n:Key))/\zV bt ns=some m/\Q (.int m) H
theorem aki(hc:X.calm=true):zS X (.builtin "max") (aqK fun i j=>decide (i>j)):=by
 intro Kp s σ H xs us Q I r ⟨d,ob,ks,ns,m,e,hq,hk,hm,q⟩;subst e;obtain⟨u,rfl,rx⟩:=Zs r;cases rx;have hh:=I.ok.hd hc
 have h0:0<ns.length:=by cases ns with
  |nil=>cases hm
  |cons n ns=>simp
 have hb:=ags (fun i j=>decide (i>j)) ns h0;rw[hm]at hb;have hb:=Option.some.inj hb;obtain⟨o0,z,nm,vs,rel,ob',es,ep,h4,h5,h6,h7⟩:=I.hok d _ hq;rw[o0]at h4;cases h4;have hl:=rel.length;have hkl:ks.length=ns.length:=by have:=congrArg List.length hk;simpa using this
 have key:∀(ks:List (Key×V)) (vs:List (Key×Value)) (ns:List Int),KV ks vs->ks.map (·.1)=ns.map (fun n=>(Sum.inl n:Key))->∀i k x,vs[i]?=some (k,x)->k=Sum.inl (ns.getD i 0):=by
  intro ks
  induction ks with
  |nil=>intro vs ns r _ i k x e;cases r;simp at e
  | cons p ks ih=>
   intro vs ns r hk i k x e;cases r with
   | cons r1 r2=>
    cases ns with
    |nil=>simp at hk
    | cons n ns=>
     rw[List.map_cons,List.map_cons]at hk;obtain⟨e1,e2⟩:=List.cons.inj hk;cases i with
     | zero=>
      simp at e;subst e;have r0:=r1.1;simp only at r0;rw[←r0,e1];rfl
     |succ i=>exact ih _ ns r2 e2 i k x (by simpa using e)
 have da:s.heap.DictAt (jV X.prog X.w) d vs ep:=⟨ob,es,o0,h5,h6,h7⟩;have hlt:=Heap.lt_size o0;refine call_max_walk (wpAny_pyIter_dict nm da ?_);have hn:s.heap.objs.size≠d:=Nat.ne_of_gt hlt;have hsz:(s.heap.push { cls:= .type "dict_keyiterator",data:= .fields #[.ref d,.int 0 0,.int vs.length 0,.int ep 0] }).objs.size=s.heap.objs.size+1:=Heap.size_push ..
 have pk:∀i v,(∃k x,vs[i]?=some (k,x)/\(jV X.prog X.w).is k v=true)->∃t,v= .int (ns.getD i 0) t:=fun i v ⟨k,x,e1,e2⟩=>by
  rw[key ks vs ns rel hk i k x e1,ac1]at e2;rcases qf e2 with ⟨n,t,e3,e4⟩ | ⟨y,t,e3,_⟩
  ·cases e3;exact⟨t,e4⟩
  ·cases e3
 refine⟨s.heap.objs.size,[s.heap.objs.size,d],[s.heap.objs.size],vs.length,_,_,_,rfl,Walks.dictKeys (A:=X.A.in1) hh s.heap.objs.size d hn.symm vs ep,⟨⟨_,Heap.get?_push_size _ rfl,rfl,rfl⟩,⟨ob,es,Heap.get?_push_of_some _ o0,h5,h6,h7⟩⟩,fun b hb'=>?_,by omega,CmpOf.ints_gt (fun i=>ns.getD i 0) pk,fun v h3 tk hP k2=>?_⟩
 ·have e3:b=s.heap.objs.size∨b=d:=by simpa using hb'
  rw[hsz];rcases e3 with e3 | e3
  ·rw[e3];exact Nat.lt_succ_self _
  ·rw[e3];exact Nat.lt_succ_of_lt hlt
 ·obtain⟨t,rfl⟩:=pk _ v hP
  refine⟨.int m,H,I.kept (t':=tk) fun b o e=>k2 b o (by have:=Heap.lt_size e;simp;exact Nat.ne_of_lt this) (Heap.get?_push_of_some _ e),⟨t,?_⟩,q⟩;rw[←hl,hkl,hb]
noncomputable def agL(ds:LP):OP:=match ds with
 | [p]=>(qM p).bind fun r=>(j5 (r.map (·.1))).bind fun ns=>(zV (fun i j=>decide (i>j)) ns).map .int
 |_=>none
theorem acf:∀ns:List Int,j5 (ns.map PyData.int)=some ns
 | []=>rfl
 |n::ns=>by simp[j5,ad9,acf ns]
theorem RepM.ints{K:Fg}{H:Hp}:∀{r:List (PyData×PyData)}{ks:List (Key×V)}{ns:List Int},RepM K H r ks->j5 (r.map (·.1))=some ns->ks.map (·.1)=ns.map (fun n=>(Sum.inl n:Key))
 | [],ks,ns,h,e=>by cases (show ks=[] from h);cases e;rfl
 | (k,c)::r,ks,ns,⟨i,x,s,h1,h2,h3,h4⟩,e=>by
  subst h1;subst h2;have e':=zT e;cases ns with
  |nil=>simp at e'
  | cons n ns=>
   rw[List.map_cons,List.map_cons]at e';obtain⟨e1,e2⟩:=List.cons.inj e'
   have e1:i=Sum.inl n:=by
    cases i with
    |inl i=>exact congrArg _ (by injection e1)
    |inr t=>cases e1
   have e3:j5 (r.map (·.1))=some ns:=by rw[e2];exact acf ns
   rw[List.map_cons,List.map_cons,RepM.ints h4 e3,e1]
theorem aox(hc:X.calm=true):QI X (.builtin "max") agL:=by
 refine⟨_,aki hc,fun ds d xs H Q h r k=>?_⟩;unfold agL at h;split at h
 ·rename_i p
  cases h1:qM p with
  |none=>simp[h1]at h
  | some pr=>
   cases h2:j5 (pr.map (·.1))with
   |none=>simp[h1,h2]at h
   | some ns=>
    cases h3:zV (fun i j=>decide (i>j)) ns with
    |none=>simp[h1,h2,h3]at h
    | some m=>
     have:PyData.int m=d:=by simpa[h1,h2,h3]using h
     subst this;obtain⟨x,q,e1,e2,e3⟩:=r;cases (show q=[] from e3);obtain⟨a,ks,ob,g1,g2,g3⟩:=zW h1 e2;subst g1;exact⟨a,ob,ks,ns,m,e1,g2,g3.ints h2,h3,k _ H (jo.refl H) rfl⟩
 ·cases h
end
section
variable {X:Cx}{σ:St}{H:Hp}{s:Shared}{h':Heap}{e C:Addr}{E:Value->SP0}{A:Around}
end
section
variable {X:Cx}{e a b c:Expr}{es:List Expr}{pos:Pos}
end
section
variable {prog:Program}{w:World}{A:Around}{s:Shared}{R:Result->SP0}
end
section
variable {X:Cx}{tg src:Expr}
end
section
variable {X:Cx}{e:Expr}{st:Stmt}{qh:List Stmt}{fa:RP}{G F:RO}{pos:Pos}
end
section
variable {X:Cx}{e a b c:Expr}{fa fb fc:RP}{pos p2:Pos}
end
section
variable {X:Cx}{own:Option Nat}{e a b c tg src:Expr}{body:List Stmt}{F:RO}{pos:Pos}
variable {es:List Expr}
end
section
variable {prog:Program}{w:World}{A:Around}{E:Value->SP0}{s:Shared}
theorem acv{a:Addr}{xs:Array Value}{k:Nat}{name:Str}{Q:Option Value->SP0}
  (hx:s.heap.get? a=some { cls:= .type "list",data:= .seq xs k }) (hmiss:typeLookup (.type "list") name=pure none) (hname:(["__module__","__name__","__qualname__","__doc__","__annotations__"]:List Str).contains name=false) (hA:A.handled=none)
  (h:∀h' tk,(∀b o,s.heap.get? b=some o->h'.get? b=some o)->Q none { s with heap:=h',toks:=tk }) (hsz:name.length+100<=sizeLine:=by size_fits):
  wpAny (model prog w) A (getAttr? (.ref a) name) Q E s:=by
 obtain⟨hp,g,d,tk,os⟩:=s;have hT:∀tk',(⟨hp,g,d,tk',os⟩:Shared).TypeIs (.ref a) "list":=fun _=>⟨_,hx,rfl⟩;have f1:=sub_AttributeError;have f3:=F.slot_list_getattribute.lookup;have f4:=F.slot_list_getattribute.bind (.ref a);have f5:=am_list_getattr_none;unfold getAttr? getAttrBy? getAttrBy
 repeat (any_goals (first|assumption|exact hT _ | ((with_reducible show wpAny _ _ (call (Value.builtin "list.__getattribute__") _ _) _ _ _);refine call_meets F.slot_list_getattribute (hT _) am_entry_list_getattribute (F.args_list_getattribute_2 _ _) (meets_getattribute_miss_list a xs k _ name _ hmiss hname hsz) ⟨hx,hA,fun h' tk' e hx'=>?_⟩) | wp_step))
 obtain⟨t',u',he⟩:=hx'.there;show wpAny _ _ (getattributeRaised _ _ _ _ _ _ _) _ _ _;unfold getattributeRaised
 repeat (any_goals (first|assumption | wp_step))
 exact h _ _ hx'.keeps
theorem Jc:entryFor table "dict.update.loop"=some Builtin.«dict.update.loop»:=entryFor_of_tree (by kernel_rfl)
theorem qr:plainId "dict.update.loop"=true:=by decide +kernel
theorem aeh{t:Addr}{xs:Array Value}{Q:List Value->SP0}(h:IsTup s.heap t xs)(hq:Q xs.toList s):wpAny (model prog w) A (Builtin.Dict.pairItems (.ref t)) Q E s:=by
 obtain⟨o,ho,hc,n,hd⟩:=h;obtain⟨c,dct,dat,sl⟩:=o;simp only at hc hd;subst hc hd;obtain⟨hp,g,d,tk,os⟩:=s;have hT:(⟨hp,g,d,tk,os⟩:Shared).TypeIs (.ref t) "tuple":=⟨_,ho,rfl⟩;unfold Builtin.Dict.pairItems
 repeat (any_goals (first|assumption | wp_step))
section
variable {K:Type}[DecidableEq K]{knd:KeyKind prog w K}{R:Result->SP0}
theorem agM{ps:List (K×Value)}(hnd:(ps.map (·.1)).Nodup){i:Nat}{k:K}{x:Value}(h:ps[i]?=some (k,x)):stored (ps.take i) k x=ps.take (i+1):=by
 have hi:i<ps.length:=(List.getElem?_eq_some_iff.mp h).1;have he:ps[i]=(k,x):=(List.getElem?_eq_some_iff.mp h).2
 have hno:(ps.take i).any (fun kv=>kv.1=k)=false:=by
  rw[List.any_eq_false];intro q hq hk;have hk:q.1=k:=by simpa using hk
  obtain⟨j,hj,e⟩:=List.mem_take_iff_getElem.mp hq;have hj':j<i:=by omega
  have a1:(ps.map (·.1))[j]'(by simp;omega)=k:=by simp[e,hk]
  have a2:(ps.map (·.1))[i]'(by simp;omega)=k:=by simp[he]
  have:=(List.getElem_inj hnd).mp (a1.trans a2.symm);omega
 unfold stored;rw[hno,List.take_add_one,h];rfl
theorem adt{I l D:Addr}{items:Array Value}{ps:List (K×Value)}{N:Nat}{h0:Heap}(hh:A.in1.handled=none)(hne:l≠I)(hDI:D≠I)(hDl:D≠l)
  (hn:items.size=ps.length) (hsz:ps.length<=sizeLine) (hnd:(ps.map (·.1)).Nodup) (hNI:N<=I) (hND:N<=D)
  (hP:∀(i:Nat) (k:K) (x:Value),ps[i]?=some (k,x)->∃t key,items[i]?=some (.ref t)/\t<N/\IsTup h0 t #[key,x]/\knd.is k key=true):
  ∀(m i:Nat) (s:Shared),ps.length-i=m->i<=ps.length->(s.heap.IsListIter I l i/\s.heap.IsList l items)->s.heap.DictOf knd D (ps.take i)->(∀b o,b<N->h0.get? b=some o->s.heap.get? b=some o)->
   (∀h' tk,h'.DictOf knd D ps->(∀b o,b<N->h0.get? b=some o->h'.get? b=some o)->R (.ok (.ret .none)) { s with heap:=h',toks:=tk })->
   codeAny (model prog w) A (.builtin "dict.update.loop" ⟨[.ref D,.ref I,rawInt (i:Int),.none],[]⟩) R s:=by
 have W:=Walks.list (prog:=prog) (w:=w) (A:=A.in1) hh I l hne items;intro m
 induction m with
 | zero=>
  intro i s hm hi hst hD hk hR;have hin:i=ps.length:=by omega
  subst hin;refine codeAny_builtin Jc ?_;rw[Around.under_plainId qr _];show wpAny _ A.in1 (pyNext (.ref I) >>= _) _ _ s;refine wpAny_bind (W.done s _ _ (by rw[hn];exact hst) fun h' tk kp=>?_);show wpAny _ A.in1 (Builtin.Dict.addKeywords D [] >>= _) _ _ _;refine wpAny_bind (wpAny_pure (wpAny_pure (hR h' tk ?_ fun b o hb e=>kp b o (by simp only[List.mem_singleton];exact fun e=>absurd hb (by rw[e];exact Nat.not_lt.mpr hNI)) (hk b o hb e))));rw[List.take_length]at hD;obtain⟨o,es,ep,ho,qh⟩:=hD;exact⟨o,es,ep,kp D _ (by simpa using hDI) ho,qh⟩
 | succ m ih=>
  intro i s hm hi hst hD hk hR;have hlt:i<ps.length:=by omega
  obtain⟨⟨k,x⟩,hq⟩:∃q,ps[i]?=some q:=⟨_,List.getElem?_eq_getElem hlt⟩;obtain⟨t,key,hit,htN,htu,hkey⟩:=hP i k x hq;refine codeAny_builtin Jc ?_;rw[Around.under_plainId qr _];show wpAny _ A.in1 (pyNext (.ref I) >>= _) _ _ s;refine wpAny_bind (W.item i s _ _ (by omega) hst fun v h' tk hPv hst' kp=>?_);rw[hit]at hPv;cases hPv
  have hD':h'.DictOf knd D (ps.take i):=by
   obtain⟨o,es,ep,ho,qh⟩:=hD;exact⟨o,es,ep,kp D _ (by simpa using hDI) ho,qh⟩
  have hk':∀b o,b<N->h0.get? b=some o->h'.get? b=some o:=fun b o hb e=>kp b o (by simp only[List.mem_singleton];exact fun e=>absurd hb (by rw[e];exact Nat.not_lt.mpr hNI)) (hk b o hb e)
  have htu':IsTup h' t #[key,x]:=by
   obtain⟨o,ho,r⟩:=htu;exact⟨o,hk' t o htN ho,r⟩
  show wpAny _ A.in1 (holding [Value.ref t] _ >>= _) _ _ _;refine wpAny_bind (wpAny_holding (wpAny_bind (wpAny_tryCatch (aeh htu' ?_))));show wpAny _ A.in1 (holding [key,x] (dictSet D key x)) _ _ _;refine wpAny_holding (wpAny_dictSet_pairs hkey hD' (fun h2 hd2 sb=>?_) (by rw[List.length_take];omega));rw[agM hnd hq]at hd2;refine wpAny_pure ⟨plainId_quiet qr _,?_⟩;refine ih (i+1) _ (by omega) hlt ⟨?_,?_⟩ hd2 (fun b o hb e=>?_) fun h3 tk3 z1 z2=>hR h3 tk3 z1 z2
  ·exact hst'.1.at fun o e=>(sb.2 I (Ne.symm hDI)).trans e
  ·exact hst'.2.at fun o e=>(sb.2 l (Ne.symm hDl)).trans e
  ·exact(sb.2 b (fun e=>absurd hb (by rw[e];exact Nat.not_lt.mpr hND))).trans (hk' b o hb e)
theorem akj:typeLookup (.type "list") "keys"=pure none:=am_miss_of_fast (by decide +kernel)
theorem adu{l:Addr}{items:Array Value}{c:Nat}{ps:List (K×Value)}{Q:Value->SP0}(hh:A.handled=none)(hl:s.heap.get? l=some { cls:= .type "list",data:= .seq items c })
  (hn:items.size=ps.length) (hsz:ps.length<=sizeLine) (hnd:(ps.map (·.1)).Nodup)
  (hP:∀(i:Nat) (k:K) (x:Value),ps[i]?=some (k,x)->∃t key,items[i]?=some (.ref t)/\IsTup s.heap t #[key,x]/\knd.is k key=true)
  (h:∀h' tk,h'.DictOf knd s.heap.objs.size ps->(∀b o,s.heap.get? b=some o->h'.get? b=some o)->Q (.ref s.heap.objs.size) { s with heap:=h',toks:=tk }):
  wpAny (model prog w) A (call (.type "dict") [.ref l]) Q E s:=by
 refine callType_codes (Q₁:=fun obj s₁=>obj= .ref s.heap.objs.size/\s₁={ s with heap:=s.heap.push { cls:= .type "dict",data:= .dict #[] } }) F.kt_called_dict (F.kt_typeCall_dict_1 _) F.entry_dict_init (kt_code_dict_new _ ⟨rfl,rfl⟩) ?_
 rintro obj s₁ ⟨rfl,rfl⟩
 have hnew:(s.heap.push { cls:= .type "dict",data:= .dict #[] }).DictOf knd s.heap.objs.size []:=Heap.DictOf.new s.heap;have hlS:l<s.heap.objs.size:=Heap.lt_size hl;have hl':(s.heap.push { cls:= .type "dict",data:= .dict #[] }).get? l=some { cls:= .type "list",data:= .seq items c }:=Heap.get?_push_of_some _ hl;have hT:Shared.TypeIs { s with heap:=s.heap.push { cls:= .type "dict",data:= .dict #[] } } (.ref l) "list":=⟨_,hl',rfl⟩;refine⟨hnew.typeIs,F.args_dict_init_2 _ _,?_⟩;unfold Builtin.«dict.__init__»;refine wpAny_bind ?_;unfold Builtin.Dict.selfAndRest;refine wpAny_bind (wpAny_notOrdered_dict hnew.typeIs ?_);show wpAny _ _ (pure (s.heap.objs.size,[Value.ref l])) _ _ _;refine wpAny_pure ?_;show wpAny _ _ (Builtin.Dict.updateFrom "dict.__init__" s.heap.objs.size (.ref l) [] .none) _ _ _;unfold Builtin.Dict.updateFrom;refine wpAny_bind (wpAny_typeOf hT ?_);rw[if_pos (by decide)];refine wpAny_bind (acv hl' akj (by decide) (by simp[hh]) fun h1 tk1 kp1=>?_);rw[if_pos (by rfl)];refine wpAny_bind (wpAny_rule ?_);have hl1:h1.IsList l items:=⟨_,kp1 _ _ hl',rfl,c,rfl⟩;refine wpAny_bind (wpAny_pyIter_list hl1 ?_)
 have hle:s.heap.objs.size<h1.objs.size:=by
  obtain⟨o,_,_,ho,_⟩:=hnew;exact Heap.lt_size (kp1 _ _ ho)
 have hl2:l<h1.objs.size:=Nat.lt_trans hlS hle;have kp2:∀b o,b<s.heap.objs.size->s.heap.get? b=some o->(h1.push { cls:= .type "list_iterator",data:= .fields #[.ref l,.int 0 0] }).get? b=some o:=fun b o _ e=>Heap.get?_push_of_some _ (kp1 b o (Heap.get?_push_of_some _ e));refine wpAny_pure ⟨plainId_quiet qr _,?_⟩
 refine adt (A:=A.in1) (knd:=knd) (N:=s.heap.objs.size) (h0:=s.heap) (by simp[hh]) (Nat.ne_of_lt hl2) (Nat.ne_of_lt hle) (Nat.ne_of_gt hlS) hn hsz hnd (Nat.le_of_lt hle) (Nat.le_refl _) (fun i k x e=>?_) ps.length 0 _ rfl (Nat.zero_le _)
  ⟨⟨_,Heap.get?_push_size _ rfl,rfl,rfl⟩,hl1.push _⟩ ?_ kp2 fun h3 tk3 z1 z2=>⟨rfl,h h3 tk3 z1 fun b o e=>z2 b o (Heap.lt_size e) e⟩
 ·obtain⟨t,key,e1,e2,e3⟩:=hP i k x e
  obtain⟨o,ho,r⟩:=e2;exact⟨t,key,e1,Heap.lt_size ho,⟨o,ho,r⟩,e3⟩
 ·rw[List.take_zero]
  obtain⟨o,es,ep,ho,qh⟩:=hnew;exact⟨o,es,ep,Heap.get?_push_of_some _ (kp1 _ _ ho),qh⟩
end
end
section
variable {X:Cx}
noncomputable def PVs(K:Fg)(H:Hp):List V->List (Key×V)->Prop
 | [],ks=>ks=[]
 |y::ys,ks=>∃t n x s,y= .ref t/\SqT K H t [.int n,x]/\ks=(Sum.inl n,x)::s/\PVs K H ys s
theorem agN{Kp:List (Addr×Obj)}{σ:St}{H:Hp}{s:Shared}(I:Inv X Kp σ H s):∀(ys:List V) (its:List Value) (ks:List (Key×V)),jM ys its->PVs X.K H ys ks->
  ∃ps:List (Key×Value),KV ks ps/\its.length=ps.length/\ks.length=ys.length/\ks.map (·.1)=ps.map (·.1)/\∀(i:Nat) (k:Key) (x:Value),ps[i]?=some (k,x)->∃t key,its[i]?=some (.ref t)/\IsTup s.heap t #[key,x]/\(jV X.prog X.w).is k key=true
 | [],its,ks,r,h=>by
  cases r;cases (show ks=[] from h);exact⟨[],.nil,rfl,rfl,rfl,fun i k x e=>by simp at e⟩
 | y::ys,its,ks,r,h=>by
  obtain⟨t,n,x,q,h1,h2,h3,h4⟩:=h;subst h1 h3;cases r with
  | cons r1 r2=>
   obtain⟨ps,p1,p2,p3,p4,p5⟩:=agN I ys _ q r2 h4;cases r1;obtain⟨its2,v2,tp,_⟩:=I.tuple h2;cases v2 with
   | cons a1 a2=>
    cases a2 with
    | cons b1 b2=>
     cases b2;obtain⟨tk,rfl⟩:=a1;refine⟨(Sum.inl n,_)::ps,.cons ⟨rfl,b1⟩ p1,by simp[p2],by simp[p3],by simp[p4],fun i k z e=>?_⟩;cases i with
     | zero=>
      simp at e;obtain⟨rfl,rfl⟩:=e;exact⟨t,_,rfl,by simpa using tp,ab8 _ _ _ _⟩
     | succ i=>
      obtain⟨t',key,e1,e2,e3⟩:=p5 i k z (by simpa using e);exact⟨t',key,by simpa using e1,e2,e3⟩
noncomputable def aqL(K:Fg):List V->Hp->VK->Prop:=fun xs H Q=>∃l ys ks,xs=[.ref l]/\H l=some (.lst ys)/\PVs K H ys ks/\(ks.map (·.1)).Nodup/\∀l' ob,H l'=none->Q (.ref l') (upd H l' (.frz ob (.dK ks)))
theorem aii(hc:X.calm=true):zS X (.type "dict") (aqL X.K):=by
 intro Kp s σ H xs us Q I r ⟨l,ys,ks,e,hl,hp,hn,q⟩;subst e;obtain⟨u,rfl,rx⟩:=Zs r;cases rx;obtain⟨hle,its,c,rel,hg⟩:=I.hok l _ hl;obtain⟨ps,p1,p2,p3,p4,p5⟩:=agN I ys its ks rel hp;have l1:=rel.length;refine adu (knd:=jV X.prog X.w) (ps:=ps) (I.ok.hd hc) hg (by simpa using p2) (by omega) (by rw[←p4];exact hn) (fun i k x e=>?_) fun h' tk hd kp=>?_
 ·obtain⟨t,key,e1,e2,e3⟩:=p5 i k x e
  exact⟨t,key,by simpa using e1,e2,e3⟩
 ·obtain⟨o,es,ep,ho,qh⟩:=id hd
  have nS:(s.heap.objs.size==sysModules)=false:=beq_false_of_ne (Nat.ne_of_gt (Inv.big I));exact⟨.ref s.heap.objs.size,_,I.laid (t':=tk) (o:= .frz o (.dK ks)) kp (Nat.le_refl _) ⟨ho,by omega,nS,ps,p1,hd⟩,rfl,q _ o (I.hok.fresh (Nat.le_refl _))⟩
noncomputable def Zg:LP->Option (List (PyData×PyData))
 | []=>some []
 |.tuple [.int n,d]::es=>(Zg es).map ((.int n,d)::·)
 |_::_=>none
noncomputable def afB(ds:LP):OP:=match ds with
 | [.list es]=>(Zg es).bind fun r=>(j5 (r.map (·.1))).bind fun ns=>if ns.Nodup then some (.dict ((.none,.none)::r)) else none
 |_=>none
theorem adv{K:Fg}{H:Hp}:∀(es:LP) (ys:List V) (r:List (PyData×PyData)),Zg es=some r->Reps K H es ys->∃ks,PVs K H ys ks/\RepM K H r ks
 | [],ys,r,h,q=>by
  cases h;cases (show ys=[] from q);exact⟨[],rfl,rfl⟩
 | e::es,ys,r,h,q=>by
  obtain⟨x,z,e1,e2,e3⟩:=q;subst e1;unfold Zg at h;split at h
  ·rename_i heq;cases heq
  ·rename_i n d es' heq
   cases heq;cases hp:Zg es with
   |none=>simp[hp]at h
   | some r'=>
    have:(PyData.int n,d)::r'=r:=by simpa[hp]using h
    subst this;obtain⟨ks,k1,k2⟩:=adv es z r' hp e3;obtain⟨t,us,g1,g2,g3⟩:=e2;obtain⟨a,us1,f1,f2,f3⟩:=g3;obtain⟨b,us2,f4,f5,f6⟩:=f3;cases (show us2=[] from f6);subst f4 f1 g1;cases (show a=V.int n from f2);exact⟨(Sum.inl n,b)::ks,⟨t,n,b,ks,rfl,g2,rfl,k1⟩,⟨Sum.inl n,b,ks,rfl,rfl,f5,k2⟩⟩
  ·cases h
theorem aeH:∀{ns:List Int},ns.Nodup->(ns.map (fun n=>(Sum.inl n:Key))).Nodup
 | [],_=>List.nodup_nil
 | n::ns,h=>by
  rw[List.map_cons,List.nodup_cons];rw[List.nodup_cons]at h;refine⟨fun z=>?_,aeH h.2⟩;obtain⟨m,h1,h2⟩:=List.mem_map.mp z;cases h2;exact h.1 h1
theorem amb(hc:X.calm=true):QI X (.type "dict") afB:=by
 refine⟨_,aii hc,fun ds d xs H Q h r k=>?_⟩;unfold afB at h;split at h
 ·rename_i es
  cases hp:Zg es with
  |none=>simp[hp]at h
  | some pr=>
   cases h2:j5 (pr.map (·.1))with
   |none=>simp[hp,h2]at h
   | some ns=>
    simp only[hp,h2,zzD]at h;split at h
    ·rename_i hn
     cases h;obtain⟨x,q,e1,e2,e3⟩:=r;cases (show q=[] from e3);obtain⟨a,us,g1,g2,g3⟩:=e2;subst g1;obtain⟨ks,k1,k2⟩:=adv es us pr hp g3;refine⟨a,us,ks,e1,g2,k1,?_,fun l' ob hl=>?_⟩
     ·rw[k2.ints h2]
      exact aeH hn
     ·exact k _ _ (jI hl) ⟨l',rfl,.inr (.inl ⟨ks,ob,jt,RepM.mono (jI hl) _ _ k2⟩)⟩
    ·cases h
 ·cases h
noncomputable def aqM:List V->Hp->VK->Prop:=fun xs H Q=>∃d ob ks,∃ns:List Int,xs=[.ref d]/\H d=some (.frz ob (.dK ks))/\ks.map (·.1)=ns.map (fun n=>(Sum.inl n:Key))/\∀l,H l=none->Q (.ref l) (upd H l (.lst (ns.map V.int)))
theorem aeI{prog:Program}{w:World}:∀(ks:List (Key×V)) (vs:List (Key×Value)) (ns:List Int) (us:List Value),KV ks vs->ks.map (·.1)=ns.map (fun n=>(Sum.inl n:Key))->us.length=vs.length->(∀(j:Nat) v,us[j]?=some v->∃k x,vs[j]?=some (k,x)/\(jV prog w).is k v=true)->jM (ns.map V.int) us
 | [],vs,ns,us,r,e,hl,_=>by
  cases r;cases ns with
  | nil=>
   cases us with
   |nil=>exact .nil
   |cons _ _=>simp at hl
  |cons _ _=>simp at e
 | p::ks,vs,ns,us,r,e,hl,hv=>by
  cases r with
  | cons r1 r2=>
   cases ns with
   |nil=>simp at e
   | cons n ns=>
    rw[List.map_cons,List.map_cons]at e;obtain⟨e1,e2⟩:=List.cons.inj e;cases us with
    |nil=>simp at hl
    | cons u us=>
     obtain⟨k,x,q1,q2⟩:=hv 0 u rfl;simp at q1;have r0:=r1.1;subst q1;simp only at r0;rw[ac1,←r0,e1]at q2
     have hu:∃t,u= .int n t:=by
      rcases qf q2 with ⟨m,t,e3,e4⟩ | ⟨y,t,e3,_⟩
      ·cases e3;exact⟨t,e4⟩
      ·cases e3
     exact .cons hu (aeI ks _ ns us r2 e2 (by simpa using hl) fun j v hj=>by simpa using hv (j+1) v (by simpa using hj))
theorem aij(hc:X.calm=true):zS X (.type "list") aqM:=by
 intro Kp s σ H xs us Q I r ⟨d,ob,ks,ns,e,hq,hk,q⟩;subst e;obtain⟨u,rfl,rx⟩:=Zs r;cases rx;obtain⟨o0,z,nm,vs,rel,ob',es,ep,h4,h5,h6,h7⟩:=I.hok d _ hq;rw[o0]at h4;cases h4;have hl:=rel.length;have hkl:ks.length=ns.length:=by have:=congrArg List.length hk;simpa using this
 have da:s.heap.DictAt (jV X.prog X.w) d vs ep:=⟨ob,es,o0,h5,h6,h7⟩;refine PySem.W.kdl_call (PySem.W.kdl_dict (knd:=jV X.prog X.w) (kvs:=vs) (ep:=ep) nm) (I.ok.hd hc) da (by omega) fun h' tk acc c kp ho hi=>?_;have hv:=aeI (prog:=X.prog) (w:=X.w) ks vs ns acc.toList rel hk (by simpa using hi.1) fun j v e=>hi.2 j v (by simpa using e);exact⟨.ref s.heap.objs.size,_,I.laid (t':=tk) (o:= .lst (ns.map V.int)) kp (Nat.le_refl _) ⟨by rw[List.length_map];omega,acc.toList,c,hv,by simpa using ho⟩,rfl,q _ (I.hok.fresh (Nat.le_refl _))⟩
noncomputable def adw(ds:LP):OP:=match ds with
 | [p]=>(qM p).bind fun r=>(j5 (r.map (·.1))).map fun ns=> .list (ns.map .int)
 |_=>none
theorem agO(hc:X.calm=true):QI X (.type "list") adw:=by
 refine⟨_,aij hc,fun ds d xs H Q h r k=>?_⟩;unfold adw at h;split at h
 ·rename_i p
  cases h1:qM p with
  |none=>simp[h1]at h
  | some pr=>
   cases h2:j5 (pr.map (·.1))with
   |none=>simp[h1,h2]at h
   | some ns=>
    have:PyData.list (ns.map .int)=d:=by simpa[h1,h2]using h
    subst this;obtain⟨x,q,e1,e2,e3⟩:=r;cases (show q=[] from e3);obtain⟨a,ks,ob,g1,g2,g3⟩:=zW h1 e2;subst g1;exact⟨a,ob,ks,ns,e1,g2,g3.ints h2,fun l hl=>k _ _ (jI hl) ⟨l,_,rfl,jt,aaK _⟩⟩
 ·cases h
end
end BX
end
local macro_rules
  | `(tactic| dsimp? [$xs,*])=>`(tactic| simp only [BX.jH,BX.ifS,BX.ifD,BX.ifX,BX.Zw,BX.orB,BX.Ql,BX.tst,BX.op2,BX.chn,BX.jA,BX.QG,BX.aaY,BX.jm,BX.jw,BX.lkp,BX.cst,BX.qK,BX.zg,BX.qV,BX.jB,BX.qC,BX.nxX,BX.orX,BX.aop,BX.ah3,BX.asB,zzA,zzB,zzC,zzD,zzH,zzE,zzI,zzF,zzG,zzJ,zzK,zzL,zzM,zzN,$(⟨xs.elemsAndSeps⟩),*])
section
namespace Rods
open PySem L2 BX
open PyProof.Rows hiding St
noncomputable def top(i:Nat):Stmt:=PySem.Challenge.pw_beadrods_k40_alike.main.body.getD i (.Pass ⟨0,0,0,0⟩)
structure Bare(mg:SV):Prop where
 isi:mg "isinstance"=none
 bool:mg "bool"=none
 int:mg "int"=none
 tuple:mg "tuple"=none
 zip:mg "zip"=none
 range:mg "range"=none
 all:mg "all"=none
 len:mg "len"=none
 max:mg "max"=none
 min:mg "min"=none
 sum:mg "sum"=none
 sorted:mg "sorted"=none
 abs:mg "abs"=none
 list:mg "list"=none
 enum:mg "enumerate"=none
 vale:mg "ValueError"=none
 str:mg "str"=none
 set:mg "set"=none
 dict:mg "dict"=none
theorem aoy:bootBuiltins "bool"=some (.type "bool"):=by decide +kernel
theorem amc:bootBuiltins "int"=some (.type "int"):=by decide +kernel
theorem amd:bootBuiltins "tuple"=some (.type "tuple"):=by decide +kernel
theorem ai2:bootBuiltins "list"=some (.type "list"):=by decide +kernel
theorem aoz:bootBuiltins "dict"=some (.type "dict"):=by decide +kernel
theorem aqN:bootBuiltins "all"=some (.builtin "all"):=by decide +kernel
theorem ZP:bootBuiltins "len"=some (.builtin "len"):=by decide +kernel
theorem QB:bootBuiltins "max"=some (.builtin "max"):=by decide +kernel
theorem afl:bootBuiltins "min"=some (.builtin "min"):=by decide +kernel
theorem ame:bootBuiltins "sum"=some (.builtin "sum"):=by decide +kernel
theorem akk:bootBuiltins "sorted"=some (.builtin "sorted"):=by decide +kernel
noncomputable abbrev abj:Stmt:=top 9
noncomputable abbrev aaf:Stmt:=top 17
noncomputable abbrev abk:Stmt:=top 16
noncomputable abbrev afC:Stmt:=top 20
noncomputable abbrev zl(C:Program->World->Fg->(SV)->Heap->Prop)(qual:Str)(st:Stmt)(N:List Str)(k:Nat)(B:RO):Prop:=
 ∀(P:Program) (w:World) (K:Fg) (mg:SV) (base:Heap) (f:Addr) (Kc:Value) (A:Around) (Ko:List Env) (s:Shared) (H:Hp) (E:XK),C P w K mg base->Room k (A.deeper (envOfC qual (jj st) s.heap.objs.size f Kc))->
  ZC (JV CX0 P w K mg base N qual (jj st) f Kc A Ko s H E).nox (jO st) B
theorem aik:FnScope ["thing","least","most"] ["thing","least","most"] (jj abj):=⟨rfl,rfl,rfl,by decide +kernel,rfl,by decide +kernel,by decide +kernel⟩
noncomputable def abl:{ B:RO // zl (fun _ _ _ mg _=>Bare mg) "is_whole" abj ["thing","least","most"] 0 B }:=
 ⟨_,fun P w K mg base f Kc A Ko s H E T hr=>
  jd (j1 (zY (afd (ze (ah6 (.inl rfl) T.isi T.bool aoy (jb 0))) (acx (zn (ze (ah6 (.inr (.inl rfl)) T.isi T.int amc (jb 0))))))) (jd (jv JJ) jh) jh)
  (jd (jv (alq abP abP (jb 1) (jb 0) (jb 2))) jh)⟩
noncomputable def j0:LP->OP:=jx ["thing","least","most"] 3 abl.1
theorem agP:FnScope ["manner","rod"] ["manner","rod"] (jj aaf):=⟨rfl,rfl,rfl,by decide +kernel,rfl,by decide +kernel,by decide +kernel⟩
noncomputable def abT:{ B:RO // zl (fun _ _ _ _ _=>True) "rod_worth" aaf ["manner","rod"] 0 B }:=
 ⟨_,fun P w K mg base f Kc A Ko s H E T hr=>
  jd (jv (jn jz (jn qS (jR (jb 1) jf) (jR (jb 0) jf)) (jR (jb 1) jf))) jh⟩
noncomputable def qe:LP->OP:=jx ["manner","rod"] 2 abT.1
theorem amf:FnScope ["rod"] ["rod"] (jj afC):=⟨rfl,rfl,rfl,by decide +kernel,rfl,by decide +kernel,by decide +kernel⟩
noncomputable def ail:{ B:RO // zl (fun _ _ _ _ _=>True) "beads" afC ["rod"] 0 B }:=
 ⟨_,fun P w K mg base f Kc A Ko s H E T hr=>jd (jv (jn jz (jR (jb 0) jf) (jR (jb 0) jf))) jh⟩
noncomputable def abU:LP->OP:=jx ["rod"] 1 ail.1
noncomputable def zm(i:Nat)(m:Nat):LP:=(List.range m).map fun (j:Nat)=>PyData.tuple [.int (i:Int),.int (j:Int)]
noncomputable def zH(n m:Nat):LP:=(List.range n).flatMap fun (i:Nat)=>zm i m
theorem agQ(i m:Nat):zm i (m+1)=zm i m++[PyData.tuple [.int (i:Int),.int (m:Int)]]:=by simp[zm,List.range_succ]
theorem Zh(n m:Nat):zH (n+1) m=zH n m++zm n m:=by simp[zH,List.range_succ]
theorem agR(i m:Nat):noLs (zm i m)=true:=agp fun d hd=>by
 obtain⟨j,_,rfl⟩:=List.mem_map.mp hd;simp[noL,noLs]
theorem aeJ(n m:Nat):noLs (zH n m)=true:=by
 induction n with
 |zero=>simp[zH,noLs]
 |succ n ih=>rw[Zh,ZG,ih,agR];rfl
theorem afD(i m:Nat):(zm i m).length=m:=by simp[zm]
theorem ZQ(n m:Nat):(zH n m).length=n*m:=by
 induction n with
 |zero=>simp[zH]
 |succ n ih=>rw[Zh,List.length_append,ih,afD,Nat.succ_mul]
noncomputable def qX(ds:LP):OP:=match ds with
 | [.tuple [.int u,.int _,.int l,.int _]]=>if 0<=u/\u<1000/\0<=l/\l<1000 then some (.list (zH (u+1).toNat (l+1).toNat)) else none
 |_=>none
theorem Zi:FnScope ["manner","rods","upper","lower"] ["manner"] (jj abk):=⟨rfl,rfl,rfl,by decide +kernel,rfl,by decide +kernel,by decide +kernel⟩
section
variable {P:Program}{w:World}{K:Fg}{mg:SV}{base:Heap}
theorem aim{f:Addr}{fd:FuncData}(F:Fun K "all_rods" "all_rods" abk f fd)(T:Bare mg):FnOk P w K mg base CX0 1 f fd ["manner"] (Pur K 1 qX):=by
 with_unfolding_all
  refine F.ok Zi (fun vs H Q E h=>?_) (fun Kc A Ko s H vs Q E hr h=>?_)
  ·obtain⟨ds,d,h1,h2,_⟩:=h
   rw[h2.length];exact h1
  ·obtain⟨ds,d,h1,h2,h3,k⟩:=h
   unfold qX at h3;split at h3
   ·rename_i u e l b
    split at h3
    ·rename_i hb
     obtain⟨hu0,hu1,hl0,hl1⟩:=hb;cases h3
     refine⟨_,Ju (ac3 (i:=1) Zi.nd rfl (Or.inl rfl) (ae8 Jk))
      (Ju (ac4 PassesOwn.never rfl (abI rfl T.range (ja (jn jz (jR (jb 0) jf) jf) je)) (Z5 (i:=2) Zi.nd rfl (Or.inl rfl))
       (aaV (ac4 PassesOwn.never rfl (abI rfl T.range (ja (jn jz (jR (jb 0) jf) jf) je)) (Z5 (i:=3) Zi.nd rfl (Or.inl rfl))
        (aaV (ae5 (aiO PySem.F.plainAttrs_list PySem.F.slot_list_append PySem.F.type_list_append aep (pv 1) (qL (ak8 (qL (pv 2) (qL (pv 3) Jk))) Jk)))))))
      (aaV (ae6 (pv 1)))),?_⟩
     obtain⟨mv,rr,e1,em,e2⟩:=h2;cases (show rr=[] from e2);subst e1;have nm:noL (PyData.tuple [.int u,.int e,.int l,.int b])=true:=by simp[noL,noLs]
     refine⟨Nat.zero_le _,fun p hp=>?_⟩
     have envr:∀{H2:Hp} {x2 x3:Option V} {y:Option V},jo H H2->EnvR K H2 [some (PyData.tuple [.int u,.int e,.int l,.int b]),none,none,none] [some mv,y,x2,x3]:=fun {H2 x2 x3 y} s2=>
      ⟨rfl,fun i d q=>by
       cases i with
       | zero=>cases q; exact ⟨mv,rfl,Rep.mono s2 _ _ em⟩
       | succ i=>
        match i,q with
        | 0,q=>cases q
        | 1,q=>cases q
        | 2,q=>cases q
        | j+3,q=>simp at q⟩
     refine⟨_,[.int (u+1)],envr (jI hp),by simp[jm,jw,op2,lkp,dIx,atI,ixN,cst,qD],fun vs1 H1 s1 r1=>?_⟩;obtain⟨y1,q1,f1,f2,f3⟩:=r1;cases (show y1=V.int (u+1) from f2);cases (show q1=[] from f3);subst f1
     refine⟨u+1,rfl,by omega,by omega,aek (n:=(u+1).toNat) (fun i σ H2=>∃x2 x3 xs,σ=[some mv,some (.ref p),x2,x3]/\jo H H2/\H2 p=some (.lst xs)/\Reps K H2 (zH i (l+1).toNat) xs)
      ⟨none,none,[],rfl,(jI hp).trans s1,s1 _ _ jt,rfl⟩ ?_ ?_⟩
     ·rintro i σ H2 hi ⟨x2,x3,xs,rfl,s2,hp2,r2⟩
      refine⟨_,[.int (l+1)],envr s2,by simp[jm,jw,op2,lkp,dIx,atI,ixN,cst,qD],fun vs2 H3 s3 r3=>?_⟩;obtain⟨y2,q2,g1,g2,g3⟩:=r3;cases (show y2=V.int (l+1) from g2);cases (show q2=[] from g3);subst g1
      refine⟨l+1,rfl,by omega,by omega,aek (n:=(l+1).toNat) (fun j σ H4=>∃x3 ys,σ=[some mv,some (.ref p),some (.int (0+i)),x3]/\jo H H4/\H4 p=some (.lst ys)/\Reps K H4 (zH i (l+1).toNat++zm i j) ys)
       ⟨x3,xs,rfl,s2.trans s3,s3 _ _ hp2,by simpa [zm] using Reps.mono s3 _ _ r2⟩ ?_ ?_⟩
      ·rintro j σ H4 hj ⟨x3',ys,rfl,s4,hp4,r4⟩
       have hlen:ys.length<sizeLine:=by
        rw[r4.length,List.length_append,ZQ,afD,sizeLine_eq];have h1:i*(l+1).toNat<=1000*1001:=Nat.mul_le_mul (by omega) (by omega);omega
       refine⟨_,rfl,.inl ⟨rfl,ys,SqL.of hp4⟩,_,rfl,_,rfl,by show 2<=sizeLine;rw[sizeLine_eq];decide,fun q hq=>?_⟩;have npq:p≠q:=qG hp4 hq;refine⟨p,ys,.ref q,rfl,rfl,by rw[jp npq];exact hp4,hlen,?_⟩
       have t1:Ja H4 (upd (upd H4 q (.tup [.int (0+(i:Int)),.int (0+(j:Int))])) p (.lst (ys++[.ref q]))):=
        (jo.n (jI hq)).trans (Ja.upd (xs:=ys) (by rw[jp npq];exact hp4))
       refine⟨_,ys++[.ref q],rfl,fun c o hc=>?_,jt,?_⟩
       ·have hc4:=s4 c o hc
        rw[jp (qG hc hp),jp (qG hc4 hq)];exact hc4
       ·rw[agQ,←List.append_assoc]
        refine(Reps.monoN t1 _ _ (by rw[ZG,aeJ,agR];rfl) r4).append ⟨.ref q,[],rfl,⟨q,_,rfl,SqT.of (by rw[jp (Ne.symm npq)];exact jt),?_⟩,rfl⟩;exact⟨_,_,rfl,by show _=V.int _;rw[Int.zero_add],_,_,rfl,by show _=V.int _;rw[Int.zero_add],rfl⟩
      ·rintro σ H4 ⟨x3',ys,rfl,s4,hp4,r4⟩
       exact⟨_,x3',ys,rfl,s4,hp4,by rw[Zh];exact r4⟩
     ·rintro σ H2 ⟨x2,x3,xs,rfl,s2,hp2,r2⟩
      exact⟨_,rfl,k _ _ s2 ⟨p,xs,rfl,hp2,r2⟩⟩
    ·cases h3
   ·cases h3
end
noncomputable abbrev aag:Stmt:=top 14
noncomputable abbrev aah:Stmt:=top 13
noncomputable abbrev CC:=Program->World->Fg->(SV)->Heap->Prop
structure CHasAll(P:Program)(w:World)(K:Fg)(mg:SV)(base:Heap):Prop where
 t:Bare mg
 allRods:jl P w K mg base "all_rods" ["manner"] 1 1 qX
 rodWorth:jl P w K mg base "rod_worth" ["manner","rod"] 1 2 qe
theorem aeK:FnScope ["manner","worths"] ["manner"] (jj aag):=⟨rfl,rfl,rfl,by decide +kernel,rfl,by decide +kernel,by decide +kernel⟩
theorem nd2:(["rod","manner"]:List Str).Nodup:=by decide +kernel
theorem nd3:(["digit","worths"]:List Str).Nodup:=by decide +kernel
noncomputable def afE:{ B:RO // zl CHasAll "has_all_digits" aag ["manner","worths"] 1 B }:=
 ⟨_,fun P w K mg base f Kc A Ko s H E C hr=>
  jd (jy 1 aeK.nd (Jq ["rod","manner"] [none,some 0] rfl (QH (ji C.allRods hr (Nat.le_refl _) (ja (jb 0) je) (jc jg))) (zq (jj aag) ["manner","worths"] (by decide +kernel))
   fun cl C' s0 H0 fp pn=>⟨jG 0 nd2,zZ,ji C.rodWorth hr (Nat.le_refl _) (ja (jb 1) (ja (jb 0) je)) (jc (jc jg))⟩))
  (jd (jv (jY (aqz rfl) C.t.all aqN (ja (Jq ["digit","worths"] [none,some 1] rfl (qH rfl C.t.range (ja (jR (jb 0) jf) je)) (zq (jj aag) ["manner","worths"] (by decide +kernel))
   fun cl C' s0 H0 fp pn=>⟨jG 0 nd3,zZ,Jl (aqx hr.units) (jb 0) (jb 1)⟩) je))) jh)⟩
noncomputable abbrev adx:Stmt:=top 15
noncomputable abbrev agS:Stmt:=top 18
noncomputable abbrev abm:Stmt:=top 19
noncomputable def GC(K:Fg)(mg:SV)(x:Str)(d:PyData):Prop:=∃v u,mg x=some u/\jS v u/\∀H,Rep K H d v
theorem qF{X:Cx}{pos:Pos}{x:Str}{d:PyData}(c:GC X.K X.mg x d)(hg:Gl X x:=by rfl)(hd:(x==("__debug__":Str))=false:=by decide):PD X (.Name x pos) (cst d):=by
 with_unfolding_all
  obtain⟨v,u,h1,h2,h3⟩:=c;exact an1 hg h1 h2 h3 hd
noncomputable def abn:LP->OP:=jx ["manner","worths"] 1 afE.1
structure CIsManner(P:Program)(w:World)(K:Fg)(mg:SV)(base:Heap):Prop where
 t:Bare mg
 least:GC K mg "LEAST_PARTS" (.tuple [.int 0,.int 1,.int 0,.int 2])
 most:GC K mg "MOST_PARTS" (.tuple [.int 3,.int 16,.int 12,.int 16])
 isWhole:jl P w K mg base "is_whole" ["thing","least","most"] 1 3 j0
 hasAll:jl P w K mg base "has_all_digits" ["manner"] 2 1 abn
theorem Qp:FnScope ["thing","part","least","most"] ["thing"] (jj aah):=⟨rfl,rfl,rfl,by decide +kernel,rfl,by decide +kernel,by decide +kernel⟩
noncomputable def QN:{ B:RO // zl CIsManner "is_manner" aah ["thing","part","least","most"] 2 B }:=
 ⟨_,fun P w K mg base f Kc A Ko s H E C hr=>
  jd (j1 (zY (afd (zn (ze (ah6 (.inr (.inr rfl)) C.t.isi C.t.tuple amd (jb 0)))) (acx (jK (zA hr.units) (jY ZE C.t.len ZP (ja (jb 0) je)) (jY ZE C.t.len ZP (ja (qF C.most) je)))))) (jd (jv JJ) jh) jh)
  (jd (zM PassesOwn.never rfl (alw C.t.zip (ja (jb 0) (ja (qF C.least) (ja (qF C.most) je)))) (afe (n:=3) rfl (zo (jG 1 Qp.nd) (zo (jG 2 Qp.nd) (zo (jG 3 Qp.nd) add))))
   (jd (j1 (zn (ze (ji C.isWhole hr (by decide) (ja (jb 1) (ja (jb 2) (ja (jb 3) je))) (jc (jc (jc jg)))))) (jd (jv JJ) jh) jh) jh))
  (jd (jv (ji C.hasAll hr (Nat.le_refl _) (ja (jb 0) je) (jc jg))) jh))⟩
noncomputable def qO:LP->OP:=jx ["thing","part","least","most"] 1 QN.1
structure CCheck(P:Program)(w:World)(K:Fg)(mg:SV)(base:Heap):Prop where
 isManner:jl P w K mg base "is_manner" ["thing"] 3 1 qO
theorem agT:FnScope ["thing"] ["thing"] (jj adx):=⟨rfl,rfl,rfl,by decide +kernel,rfl,by decide +kernel,by decide +kernel⟩
noncomputable def afF:{ B:RO // zl CCheck "check_manner" adx ["thing"] 3 B }:=
 ⟨_,fun P w K mg base f Kc A Ko s H E C hr=>
  jd (j1 (zn (ze (ji C.isManner hr (Nat.le_refl _) (ja (jb 0) je) (jc jg)))) JX jh) jh⟩
noncomputable def qP:LP->OP:=jx ["thing"] 1 afF.1
structure CMost(P:Program)(w:World)(K:Fg)(mg:SV)(base:Heap):Prop where
 t:Bare mg
 allRods:jl P w K mg base "all_rods" ["manner"] 1 1 qX
 rodWorth:jl P w K mg base "rod_worth" ["manner","rod"] 1 2 qe
theorem aoA:FnScope ["manner"] ["manner"] (jj agS):=⟨rfl,rfl,rfl,by decide +kernel,rfl,by decide +kernel,by decide +kernel⟩
noncomputable def amg:{ B:RO // zl CMost "most_on_rod" agS ["manner"] 1 B }:=
 ⟨_,fun P w K mg base f Kc A Ko s H E C hr=>
  jd (jv (aoc rfl C.t.max (Jq ["rod","manner"] [none,some 0] rfl (QH (ji C.allRods hr (Nat.le_refl _) (ja (jb 0) je) (jc jg))) (zq (jj agS) ["manner"] (by decide +kernel))
   fun cl C' s0 H0 fp pn=>⟨jG 0 nd2,zZ,ji C.rodWorth hr (Nat.le_refl _) (ja (jb 1) (ja (jb 0) je)) (jc (jc jg))⟩))) jh⟩
noncomputable def aaE:LP->OP:=jx ["manner"] 1 amg.1
end Rods
namespace BX
open PySem PySem.Spec L2
open PyProof.Rows hiding St
noncomputable def ar8:V->V->Hp->VK->Prop:=fun o i H Q=>∃p xs k x,o= .ref p/\i= .int k/\H p=some (.lst xs)/\0<=k/\xs[k.toNat]?=some x/\Q x H
theorem akl{X:Cx}:art X ar8:=by
 intro Kp s σ H o i ov iv Q I ro ri h;obtain⟨p,xs,k,x,rfl,rfl,hp,h0,hx,q⟩:=h;cases ro;obtain⟨t,rfl⟩:=ri;obtain⟨its,r,pl,hz⟩:=I.list (SqL.of hp);obtain⟨w,ew,rw'⟩:=r.get hx;have hl:=r.length;have hn:=abK;have hk:k.toNat<xs.length:=(List.getElem?_eq_some_iff.mp hx).1;exact wpAny_getItem_list pl.isList h0 (by omega) (by simpa using ew) ⟨x,H,I,rw',q⟩
end BX
namespace Rods
open PySem L2 BX
open PyProof.Rows hiding St
noncomputable def aei(m:PyData):List Int->LP->Option (List Int)
 |c,[]=>some c
 | c,r::rs=>match qe [m,r]with
  | some (.int w)=>if 0<=w then match c[w.toNat]? with
   |some k=>aei m (c.set w.toNat (k+1)) rs
   |none=>none else none
  |_=>none
noncomputable def JN(ds:LP):OP:=match ds with
 | [m]=>if noL m=true then match qP [m],aaE [m],qX [m]with
  |some .none,some (.int t),some (.list (.tuple us::rs))=>if 0<=t/\t<900/\noLs (.tuple us::rs)=true then (aei m (List.replicate (t+1).toNat 0) (.tuple us::rs)).map fun c=> .list (c.map .int) else none
  |_,_,_=>none else none
 |_=>none
structure CCounts(P:Program)(w:World)(K:Fg)(mg:SV)(base:Heap):Prop where
 check:jl P w K mg base "check_manner" ["thing"] 4 1 qP
 most:jl P w K mg base "most_on_rod" ["manner"] 2 1 aaE
 allRods:jl P w K mg base "all_rods" ["manner"] 1 1 qX
 rodWorth:jl P w K mg base "rod_worth" ["manner","rod"] 1 2 qe
theorem aai:FnScope ["manner","told","rod"] ["manner"] (jj abm):=⟨rfl,rfl,rfl,by decide +kernel,rfl,by decide +kernel,by decide +kernel⟩
theorem aeL{K:Fg}{H:Hp}:∀(c:List Int),Reps K H (c.map PyData.int) (c.map V.int)
 | []=>rfl
 |i::c=>⟨_,_,rfl,rfl,aeL c⟩
theorem mk3{K:Fg}{H2:Hp}{m:PyData}{mv:V}{y x:Option V}(e:Rep K H2 m mv):EnvR K H2 [some m,none,none] [some mv,y,x]:=
 ⟨rfl,fun i d q=>by
  cases i with
  | zero=>cases q; exact ⟨mv,rfl,e⟩
  | succ i=>
   match i,q with
   | 0,q=>cases q
   | 1,q=>cases q
   | j+2,q=>simp at q⟩
theorem asZ{K:Fg}{H2:Hp}{m r:PyData}{mv rv:V}{y:Option V}(e:Rep K H2 m mv)(e':Rep K H2 r rv):EnvR K H2 [some m,none,some r] [some mv,y,some rv]:=
 ⟨rfl,fun i d q=>by
  cases i with
  | zero=>cases q; exact ⟨mv,rfl,e⟩
  | succ i=>
   match i,q with
   | 0,q=>cases q
   | 1,q=>cases q; exact ⟨rv,rfl,e'⟩
   | j+2,q=>simp at q⟩
theorem as0{K:Fg}{H:Hp}{m:PyData}{σ:St}(en:EnvR K H [some m,none,none] σ):∃mv b c,σ=[some mv,b,c]/\Rep K H m mv:=by
 obtain⟨mv,q,e⟩:=en.at' 0 m rfl
 match σ,en.len,q with
 | [a,b,c],_,q=>
  have:a=some mv:=by simpa using q
  subst this;exact⟨mv,b,c,rfl,e⟩
theorem as1(n:Nat):(List.replicate n [V.int 0]).flatten=(List.replicate n (0:Int)).map V.int:=by
 induction n with
 |zero=>rfl
 |succ n ih=>rw[List.replicate_succ,List.replicate_succ,List.flatten_cons,ih];rfl
theorem aqO{K:Fg}{H:Hp}{us rs:LP}{xs:List V}{n:Nat}(r:Reps K H (.tuple us::rs) xs)(e:xs=(List.replicate n (0:Int)).map V.int):False:=by
 obtain⟨x,r',h1,h2,h3⟩:=r;subst h1;obtain⟨a,_,h4,_⟩:=h2;subst h4;cases n with
 |zero=>cases e
 |succ n=>rw[List.replicate_succ]at e;cases e
theorem amh{n:Nat}{i:Int}(h0:0<=i)(h:i.toNat<n):ixN n i=some i.toNat:=by
 unfold ixN;rw[if_pos h0,if_pos (by omega)]
theorem akm{m r:PyData}{rs:LP}{c cf:List Int}(h:aei m c (r::rs)=some cf):∃w1,qe [m,r]=some (.int w1)/\0<=w1/\∃k1,c[w1.toNat]?=some k1/\aei m (c.set w1.toNat (k1+1)) rs=some cf:=by
 unfold aei at h;split at h
 ·rename_i w hw
  split at h
  ·rename_i h0
   split at h
   ·rename_i k hk
    exact⟨w,hw,h0,k,hk,h⟩
   ·cases h
  ·cases h
 ·cases h
section
variable {P:Program}{w:World}{K:Fg}{mg:SV}{base:Heap}
theorem akn{f:Addr}{fd:FuncData}(F:Fun K "counts" "counts" abm f fd)(C:CCounts P w K mg base):FnOk P w K mg base CX0 5 f fd ["manner"] (Pur K 1 JN):=by
 with_unfolding_all
  refine F.ok aai (fun vs H Q E h=>?_) (fun Kc A Ko s H vs Q E hr h=>?_)
  ·obtain⟨ds,d,h1,h2,_⟩:=h
   rw[h2.length];exact h1
  ·obtain⟨ds,d,h1,h2,h3,k⟩:=h
   unfold JN at h3;split at h3
   ·rename_i m
    split at h3
    ·rename_i nm
     split at h3
     ·rename_i t us rs hck hmost hall
      split at h3
      ·rename_i hb
       obtain⟨ht0,ht1,nr⟩:=hb
       refine⟨_,Ju (j9 (ji C.check hr (Nat.le_refl _) (ja (jb 0) je) (jc jg)))
        (Ju (ac3 (i:=1) aai.nd rfl (Or.inl rfl) (apy ah0 (ae8 (qL ahR Jk)) (jn jz (ji C.most hr (by decide) (ja (jb 0) je) (jc jg)) jf)))
        (Ju (ac4 PassesOwn.never rfl (aiF (ji C.allRods hr (by decide) (ja (jb 0) je) (jc jg))) (Z5 (i:=2) aai.nd rfl (Or.inl rfl))
         (aaV (anG (pv 1) (ji C.rodWorth hr (by decide) (ja (jb 0) (ja (jb 2) je)) (jc (jc jg))) akl ahR ap7 alc)))
        (aaV (ae6 (pv 1))))),?_⟩
       obtain⟨mv,rr,e1,em,e2⟩:=h2;cases (show rr=[] from e2);subst e1
       have envr:∀{H2:Hp} {y x:Option V},Rep K H2 m mv->EnvR K H2 [some m,none,none] [some mv,y,x]:=fun {H2 y x} e=>
        ⟨rfl,fun i d q=>by
         cases i with
         | zero=>cases q; exact ⟨mv,rfl,e⟩
         | succ i=>
          match i,q with
          | 0,q=>cases q
          | 1,q=>cases q
          | j+2,q=>simp at q⟩
       refine⟨[some m,none,none],.nx [some m,none,none],envr em,by simp[zg,jA,jm,jw,lkp,hck],fun σ1 H1 s1 en1=>?_⟩;obtain⟨mv1,b1,c1,rfl,em1⟩:=as0 en1;clear envr;have envr:∀{H2:Hp} {y x:Option V},Rep K H2 m mv1->EnvR K H2 [some m,none,none] [some mv1,y,x]:=fun {H2 y x} e=>mk3 e;refine⟨by show 1<=sizeLine;rw[sizeLine_eq];decide,fun z hz=>?_⟩;have s2:=jI (o:= .lst [.int 0]) hz;refine⟨[some m,none,none],.int (t+1),envr (Rep.mono s2 _ _ em1),by simp[op2,jA,jm,jw,lkp,hmost,cst,qD],fun v3 H3 s3 r3=>?_⟩;cases (show v3=_ from r3);have hz3:H3 z=some (.lst [.int 0]):=s3 _ _ jt;refine⟨z,t+1,[.int 0],rfl,rfl,hz3,by omega,by omega,by rw[sizeLine_eq];simp;omega,fun p hp=>?_⟩;rw[as1];have em3:Rep K H3 m mv1:=Rep.mono (s2.trans s3) _ _ em1;have s4:=jI (o:= .lst ((List.replicate (t+1).toNat (0:Int)).map V.int)) hp;refine⟨[some m,none,none],.list (.tuple us::rs),envr (Rep.mono s4 _ _ em3),by simp[jA,jm,jw,lkp,hall],fun v5 H5 s5 r5=>?_⟩;obtain⟨a,xs,e5,ha5,r5⟩:=r5;subst e5;have hp5:H5 p=some (.lst ((List.replicate (t+1).toNat (0:Int)).map V.int)):=s5 _ _ jt
       have nap:a≠p:=by
        rintro rfl
        rw[ha5]at hp5;exact aqO r5 (by injection (Option.some.inj hp5))
       cases hbm:aei m (List.replicate (t+1).toNat 0) (.tuple us::rs)with
       |none=>rw[hbm]at h3;cases h3
       | some cf=>
        rw[hbm]at h3;cases h3
        refine⟨a,rfl,⟨xs,SqL.of ha5⟩,ak5 (fun i σ H'=>∃x c,σ=[some mv1,some (.ref p),x]/\jo H3 H'/\H' p=some (.lst (c.map V.int))/\H' a=some (.lst xs)/\Reps K H' (.tuple us::rs) xs/\aei m c ((PyData.tuple us::rs).drop i)=some cf)
         ⟨c1,_,rfl,s4.trans s5,hp5,ha5,r5,hbm⟩ (fun i σ H' _ ⟨x,c,_,_,_,g,_,_⟩=>SqL.of g) ?_ ?_⟩
        ·rintro i x σ H' hx ⟨x',c,rfl,g1,g2,g3,g4,g5⟩
         have hi:i<(PyData.tuple us::rs).length:=by rw[←g4.length];exact(List.getElem?_eq_some_iff.mp hx).1
         have hd:(PyData.tuple us::rs).drop i=(PyData.tuple us::rs)[i]::(PyData.tuple us::rs).drop (i+1):=List.drop_eq_getElem_cons hi;rw[hd]at g5;obtain⟨w1,hw1,hw0,k1,hk1,hb1⟩:=akm g5;obtain⟨y,ey,ry⟩:=g4.get (i:=i) (d:=(PyData.tuple us::rs)[i]) (by simp[hi]);rw[hx]at ey;cases ey;refine⟨_,rfl,[some m,none,some ((PyData.tuple us::rs)[i])],.int w1,asZ (Rep.mono g1 _ _ em3) ry,by simp[jA,jm,jw,lkp,hw1],fun v6 H6 s6 r6=>?_⟩;cases (show v6=_ from r6);have hp6:=s6 _ _ g2;refine⟨p,c.map V.int,w1,.int k1,rfl,rfl,hp6,hw0,by simp[hk1],k1,1,rfl,rfl,p,c.map V.int,w1,w1.toNat,rfl,rfl,hp6,amh hw0 (by simpa using (List.getElem?_eq_some_iff.mp hk1).1),?_⟩;have t1:Ja H' (upd H6 p (.lst ((c.map V.int).set w1.toNat (.int (k1+1))))):=(jo.n s6).trans (Ja.upd hp6);refine⟨_,c.set w1.toNat (k1+1),rfl,fun b o hb=>?_,by rw[jt,List.map_set],?_,Reps.monoN t1 _ _ nr g4,hb1⟩
         ·rw[jp (qG hb hp)]
          exact s6 _ _ (g1 _ _ hb)
         ·rw[jp nap];exact s6 _ _ g3
        ·rintro σ H' ⟨x',c,rfl,g1,g2,g3,g4,g5⟩
         have:c=cf:=by simpa[g4.length,aei]using g5
         subst this;exact⟨_,rfl,k _ _ (s1.trans (s2.trans (s3.trans g1))) ⟨p,_,rfl,g2,aeL c⟩⟩
      ·cases h3
     ·cases h3
    ·cases h3
   ·cases h3
end
noncomputable abbrev J9:Stmt:=top 24
noncomputable abbrev Jd:Stmt:=top 25
noncomputable abbrev Jz:Stmt:=top 26
noncomputable abbrev JP:Stmt:=top 27
noncomputable abbrev aaj:Stmt:=top 28
noncomputable abbrev JQ:Stmt:=top 29
noncomputable abbrev ZR(C:CC)(qual:Str)(st:Stmt)(N:List Str)(k:Nat)(sts:List Stmt)(B:RO):Prop:=
 ∀(P:Program) (w:World) (K:Fg) (mg:SV) (base:Heap) (f:Addr) (Kc:Value) (A:Around) (Ko:List Env) (s:Shared) (H:Hp) (E:XK),C P w K mg base->Room k (A.deeper (envOfC qual (jj st) s.heap.objs.size f Kc))->
  ZC (JV CX0 P w K mg base N qual (jj st) f Kc A Ko s H E).nox sts B
noncomputable abbrev ady(own:Nat)(C:CC)(qual:Str)(st:Stmt)(N:List Str)(k:Nat)(sts:List Stmt)(B:RO):Prop:=
 ∀(P:Program) (w:World) (K:Fg) (mg:SV) (base:Heap) (f:Addr) (Kc:Value) (A:Around) (Ko:List Env) (s:Shared) (H:Hp) (E:XK),C P w K mg base->Room k (A.deeper (envOfC qual (jj st) s.heap.objs.size f Kc))->
  adg (JV CX0 P w K mg base N qual (jj st) f Kc A Ko s H E).nox (some own) sts B
noncomputable def qi:Stmt->List Stmt
 |.For _ _ b _ _=>b
 |_=>[]
noncomputable def QD(l:List Stmt)(i:Nat):Stmt:=l.getD i (.Pass ⟨0,0,0,0⟩)
structure CNum(P:Program)(w:World)(K:Fg)(mg:SV)(base:Heap):Prop where
 rodWorth:jl P w K mg base "rod_worth" ["manner","rod"] 1 2 qe
noncomputable abbrev aoB:List Str:=["manner","setting","number","rod"]
theorem afG:FnScope aoB ["manner","setting"] (jj JP):=⟨rfl,rfl,rfl,by decide +kernel,rfl,by decide +kernel,by decide +kernel⟩
noncomputable def afH:{ B:RO // ZR CNum "number_on" JP aoB 1 (qi (QD (jO JP) 1)) B }:=
 ⟨_,fun P w K mg base f Kc A Ko s H E C hr=>
  jd (jy 2 afG.nd (jn jz (jn qS (jb 2) (jR (jb 0) jf)) (ji C.rodWorth hr (Nat.le_refl _) (ja (jb 0) (ja (jb 3) je)) (jc (jc jg))))) jh⟩
noncomputable def aoC:{ B:RO // zl CNum "number_on" JP aoB 1 B }:=
 ⟨_,fun P w K mg base f Kc A Ko s H E C hr=>
  jd (jy 2 afG.nd jf) (jd (zM PassesOwn.never rfl (aiT (jb 1)) (jG 3 afG.nd) (afH.2 P w K mg base f Kc A Ko s H E C hr)) (jd (jv (jb 2)) jh))⟩
noncomputable def aoD:LP->OP:=jx aoB 2 aoC.1
theorem aoE:FnScope ["manner","rods"] ["manner","rods"] (jj aaj):=⟨rfl,rfl,rfl,by decide +kernel,rfl,by decide +kernel,by decide +kernel⟩
noncomputable def ai3:{ B:RO // zl (fun _ _ _ _ _=>True) "full_rods" aaj ["manner","rods"] 0 B }:=
 ⟨_,fun P w K mg base f Kc A Ko s H E C hr=>
  jd (jv (jn alN (zi (ja (zi (ja (jR (jb 0) jf) (ja (jR (jb 0) jf) je))) je)) (jb 1))) jh⟩
noncomputable def ami:LP->OP:=jx ["manner","rods"] 2 ai3.1
structure CLast(P:Program)(w:World)(K:Fg)(mg:SV)(base:Heap):Prop where
 allRods:jl P w K mg base "all_rods" ["manner"] 1 1 qX
 rodWorth:jl P w K mg base "rod_worth" ["manner","rod"] 1 2 qe
 num:jl P w K mg base "number_on" ["manner","setting"] 2 2 aoD
 full:jl P w K mg base "full_rods" ["manner","rods"] 1 2 ami
noncomputable abbrev ai4:List Str:=["manner","ahead","number","base","most","told","rod","left"]
theorem aak:FnScope ai4 ["manner","ahead","number"] (jj JQ):=⟨rfl,rfl,rfl,by decide +kernel,rfl,by decide +kernel,by decide +kernel⟩
noncomputable def aal:{ B:RO // ady 5 CLast "last_rods" JQ ai4 2 (qi (QD (jO JQ) 3)) B }:=
 ⟨_,fun P w K mg base f Kc A Ko s H E C hr=>
  jJ (aa7 7 aak.nd (jn Qo (jb 2) (ji C.rodWorth hr (by decide) (ja (jb 0) (ja (jb 6) je)) (jc (jc jg)))))
  (jJ (alG (zY (Z7 (jK (zc hr.units) (jn Zb (jb 7) (jb 3)) jf) (ZD (ajT abP abP jf (jb 7) (jn qS (jb 3) (jb 4))))))
   (jJ (aoi (aj2 5 (zi (ja (jb 6) (ja (jn JY (jb 7) (jb 3)) je))))) qy) qy) qy)⟩
noncomputable def ai5:{ B:RO // zl CLast "last_rods" JQ ai4 2 B }:=
 ⟨_,fun P w K mg base f Kc A Ko s H E C hr=>
  ZH (jJ (aeB (jy 3 aak.nd (jR (jb 0) jf)))
  (jJ (aeB (jy 4 aak.nd (ji C.num hr (Nat.le_refl _) (ja (jb 0) (ja (ji C.full hr (by decide) (ja (jb 0) (ja (jb 1) je)) (jc (jc jg))) je)) (jc (jc jg)))))
  (ZJ 5 aak.nd (aqE je)
  (jJ (Zd PassesOwn.never rfl (QH (ji C.allRods hr (by decide) (ja (jb 0) je) (jc jg))) (ZI 6 aak.nd) (aal.2 P w K mg base f Kc A Ko s H E C hr))
  (jJ (acz (jb 5)) qy)))))⟩
noncomputable def amj:LP->OP:=jx ai4 3 ai5.1
noncomputable abbrev Qa:Stmt:=top 34
noncomputable abbrev adz:Stmt:=top 35
structure CChkRods(P:Program)(w:World)(K:Fg)(mg:SV)(base:Heap):Prop where
 isWhole:jl P w K mg base "is_whole" ["thing","least","most"] 1 3 j0
 most:GC K mg "MOST_RODS" (.int 4)
theorem adA:FnScope ["rods"] ["rods"] (jj J9):=⟨rfl,rfl,rfl,by decide +kernel,rfl,by decide +kernel,by decide +kernel⟩
noncomputable def ZS:{ B:RO // zl CChkRods "check_rods" J9 ["rods"] 1 B }:=
 ⟨_,fun P w K mg base f Kc A Ko s H E C hr=>
  jd (j1 (zn (ze (ji C.isWhole hr (Nat.le_refl _) (ja (jb 0) (ja jf (ja (qF C.most) je))) (jc (jc (jc jg)))))) JX jh) jh⟩
noncomputable def qg:LP->OP:=jx ["rods"] 1 ZS.1
structure CChkNum(P:Program)(w:World)(K:Fg)(mg:SV)(base:Heap):Prop where
 isWhole:jl P w K mg base "is_whole" ["thing","least","most"] 1 3 j0
 most:GC K mg "MOST_NUMBER" (.int 99999)
theorem aeM:FnScope ["number"] ["number"] (jj Jd):=⟨rfl,rfl,rfl,by decide +kernel,rfl,by decide +kernel,by decide +kernel⟩
noncomputable def acC:{ B:RO // zl CChkNum "check_number" Jd ["number"] 1 B }:=
 ⟨_,fun P w K mg base f Kc A Ko s H E C hr=>
  jd (j1 (zn (ze (ji C.isWhole hr (Nat.le_refl _) (ja (jb 0) (ja jf (ja (qF C.most) je))) (jc (jc (jc jg)))))) JX jh) jh⟩
noncomputable def Qq:LP->OP:=jx ["number"] 1 acC.1
structure CAsked(P:Program)(w:World)(K:Fg)(mg:SV)(base:Heap):Prop where
 check:jl P w K mg base "check_manner" ["thing"] 4 1 qP
 rods:jl P w K mg base "check_rods" ["rods"] 2 1 qg
 num:jl P w K mg base "check_number" ["number"] 2 1 Qq
theorem agU:FnScope ["manner","rods","number"] ["manner","rods","number"] (jj Jz):=⟨rfl,rfl,rfl,by decide +kernel,rfl,by decide +kernel,by decide +kernel⟩
noncomputable def adB:{ B:RO // zl CAsked "check_asked" Jz ["manner","rods","number"] 4 B }:=
 ⟨_,fun P w K mg base f Kc A Ko s H E C hr=>
  jd (j9 (ji C.check hr (Nat.le_refl _) (ja (jb 0) je) (jc jg)))
  (jd (j9 (ji C.rods hr (by decide) (ja (jb 1) je) (jc jg)))
  (jd (j9 (ji C.num hr (by decide) (ja (jb 2) je) (jc jg))) jh))⟩
noncomputable def QE:LP->OP:=jx ["manner","rods","number"] 3 adB.1
structure CBoth(P:Program)(w:World)(K:Fg)(mg:SV)(base:Heap):Prop where
 check:jl P w K mg base "check_manner" ["thing"] 4 1 qP
theorem ai6:FnScope ["one","other"] ["one","other"] (jj Qa):=⟨rfl,rfl,rfl,by decide +kernel,rfl,by decide +kernel,by decide +kernel⟩
noncomputable def aeN:{ B:RO // zl CBoth "check_both" Qa ["one","other"] 4 B }:=
 ⟨_,fun P w K mg base f Kc A Ko s H E C hr=>
  jd (j9 (ji C.check hr (Nat.le_refl _) (ja (jb 0) je) (jc jg)))
  (jd (j9 (ji C.check hr (Nat.le_refl _) (ja (jb 1) je) (jc jg))) jh)⟩
noncomputable def qY:LP->OP:=jx ["one","other"] 2 aeN.1
structure CAlike(P:Program)(w:World)(K:Fg)(mg:SV)(base:Heap):Prop where
 both:jl P w K mg base "check_both" ["one","other"] 5 2 qY
 counts:jl P w K mg base "counts" ["manner"] 5 1 JN
theorem agV:FnScope ["one","other"] ["one","other"] (jj adz):=⟨rfl,rfl,rfl,by decide +kernel,rfl,by decide +kernel,by decide +kernel⟩
noncomputable def adC:{ B:RO // zl CAlike "are_alike" adz ["one","other"] 5 B }:=
 ⟨_,fun P w K mg base f Kc A Ko s H E C hr=>
  jd (j9 (ji C.both hr (Nat.le_refl _) (ja (jb 0) (ja (jb 1) je)) (jc (jc jg))))
  (jd (jv (afu (Jl (zc hr.units) (jR (jb 0) jf) (jR (jb 1) jf)) (aft (Jl (zc hr.units) (ji C.counts hr (Nat.le_refl _) (ja (jb 0) je) (jc jg)) (ji C.counts hr (Nat.le_refl _) (ja (jb 1) je) (jc jg)))))) jh)⟩
noncomputable def aaN:LP->OP:=jx ["one","other"] 2 adC.1
noncomputable abbrev Zj:Stmt:=top 39
noncomputable abbrev aeO:Stmt:=top 40
noncomputable abbrev JA:Stmt:=top 41
noncomputable def arj:Stmt->List Stmt
 |.While _ b _ _=>b
 |_=>[]
structure COne(P:Program)(w:World)(K:Fg)(mg:SV)(base:Heap):Prop where
 t:Bare mg
 allRods:jl P w K mg base "all_rods" ["manner"] 1 1 qX
 rodWorth:jl P w K mg base "rod_worth" ["manner","rod"] 1 2 qe
 beads:jl P w K mg base "beads" ["rod"] 1 1 abU
noncomputable abbrev amk:List Str:=["manner","fewest","most","longer","ahead","rod","number","several"]
theorem abV:FnScope amk ["manner","fewest","most"] (jj JA):=⟨rfl,rfl,rfl,by decide +kernel,rfl,by decide +kernel,by decide +kernel⟩
noncomputable def afI:{ B:RO // ady 3 COne "one_rod_more" JA amk 1 (qi (QD (qi (QD (jO JA) 1)) 0)) B }:=
 ⟨_,fun P w K mg base f Kc A Ko s H E C hr=>
  jJ (aa7 6 abV.nd (jn jz (jn qS (jb 4) (jR (jb 0) jf)) (ji C.rodWorth hr (Nat.le_refl _) (ja (jb 0) (ja (jb 5) je)) (jc (jc jg)))))
  (jJ (aa7 7 abV.nd (jn jz (ZL (ZA hr) (jb 1) (jb 4)) (ji C.beads hr (Nat.le_refl _) (ja (jb 5) je) (jc jg))))
  (jJ (alG (jK abP (jb 6) (jb 2))
   (jJ (acA 3 (ZA hr) (jb 6) (jY (afj rfl) C.t.min afl (ja (jb 7) (ja (Jb (ZA hr) (jb 3) (jb 6) (jb 7)) je)))) qy) qy) qy))⟩
noncomputable def aam:{ B:RO // ady 3 COne "one_rod_more" JA amk 1 (qi (QD (jO JA) 1)) B }:=
 ⟨_,fun P w K mg base f Kc A Ko s H E C hr=>
  jJ (Zd PassesOwn.never rfl (QH (ji C.allRods hr (Nat.le_refl _) (ja (jb 0) je) (jc jg))) (ZI 5 abV.nd) (afI.2 P w K mg base f Kc A Ko s H E C hr)) qy⟩
noncomputable def aoF:{ B:RO // zl COne "one_rod_more" JA amk 1 B }:=
 ⟨_,fun P w K mg base f Kc A Ko s H E C hr=>
  ZH (ZJ 3 abV.nd aa8
  (jJ (Zd PassesOwn.never rfl (aa9 (jb 1)) (ZI 4 abV.nd) (aam.2 P w K mg base f Kc A Ko s H E C hr))
  (jJ (acz (jb 3)) qy)))⟩
noncomputable def aoG:LP->OP:=jx amk 3 aoF.1
structure CUpTo(P:Program)(w:World)(K:Fg)(mg:SV)(base:Heap):Prop where
 t:Bare mg
 one:jl P w K mg base "one_rod_more" ["manner","fewest","most"] 2 3 aoG
noncomputable abbrev ai7:List Str:=["manner","rods","most","fewest","place"]
theorem acD:FnScope ai7 ["manner","rods","most"] (jj aeO):=⟨rfl,rfl,rfl,by decide +kernel,rfl,by decide +kernel,by decide +kernel⟩
noncomputable def abo:{ B:RO // ZR CUpTo "least_up_to" aeO ai7 2 (qi (QD (jO aeO) 1)) B }:=
 ⟨_,fun P w K mg base f Kc A Ko s H E C hr=>
  jd (jy 3 acD.nd (ji C.one hr (Nat.le_refl _) (ja (jb 0) (ja (jb 3) (ja (jb 2) je))) (jc (jc (jc jg))))) jh⟩
noncomputable def ai8:{ B:RO // zl CUpTo "least_up_to" aeO ai7 2 B }:=
 ⟨_,fun P w K mg base f Kc A Ko s H E C hr=>
  jd (jy 3 acD.nd (agu jf jf))
  (jd (zM PassesOwn.never rfl (qH rfl C.t.range (ja (jb 1) je)) (jG 4 acD.nd) (abo.2 P w K mg base f Kc A Ko s H E C hr))
  (jd (jv (jb 3)) jh))⟩
noncomputable def agW:LP->OP:=jx ai7 3 ai8.1
structure CThrift(P:Program)(w:World)(K:Fg)(mg:SV)(base:Heap):Prop where
 t:Bare mg
 both:jl P w K mg base "check_both" ["one","other"] 5 2 qY
 rods:jl P w K mg base "check_rods" ["rods"] 2 1 qg
 isWhole:jl P w K mg base "is_whole" ["thing","least","most"] 1 3 j0
 upTo:jl P w K mg base "least_up_to" ["manner","rods","most"] 3 3 agW
 mostAsked:GC K mg "MOST_ASKED" (.int 999)
noncomputable abbrev aan:List Str:=["one","other","rods","most","fewest","others","number"]
theorem QO:FnScope aan ["one","other","rods","most"] (jj Zj):=⟨rfl,rfl,rfl,by decide +kernel,rfl,by decide +kernel,by decide +kernel⟩
noncomputable def qZ:{ B:RO // ZR CThrift "thriftier" Zj aan 5 (qi (QD (jO Zj) 5)) B }:=
 ⟨_,fun P w K mg base f Kc A Ko s H E C hr=>
  jd (j1 (zY (Z7 (aab (afr (ZA hr) (jb 6) (jb 4))) (Z7 (aab (afr (ZA hr) (jb 6) (jb 5))) (ZD (jK alp (ZL (ZA hr) (jb 4) (jb 6)) (ZL (ZA hr) (jb 5) (jb 6))))))) (jd (jv (jb 6)) jh) jh) jh⟩
noncomputable def Zk:{ B:RO // zl CThrift "thriftier" Zj aan 5 B }:=
 ⟨_,fun P w K mg base f Kc A Ko s H E C hr=>
  jd (j9 (ji C.both hr (Nat.le_refl _) (ja (jb 0) (ja (jb 1) je)) (jc (jc jg))))
  (jd (j9 (ji C.rods hr (by decide) (ja (jb 2) je) (jc jg)))
  (jd (j1 (zn (ze (ji C.isWhole hr (by decide) (ja (jb 3) (ja jf (ja (qF C.mostAsked) je))) (jc (jc (jc jg)))))) JX jh)
  (jd (jy 4 QO.nd (ji C.upTo hr (by decide) (ja (jb 0) (ja (jb 2) (ja (jb 3) je))) (jc (jc (jc jg)))))
  (jd (jy 5 QO.nd (ji C.upTo hr (by decide) (ja (jb 1) (ja (jb 2) (ja (jb 3) je))) (jc (jc (jc jg)))))
  (jd (zM PassesOwn.never rfl (qH rfl C.t.range (ja (jn jz (jb 3) jf) je)) (jG 6 QO.nd) (qZ.2 P w K mg base f Kc A Ko s H E C hr))
  (jd (jv adb) jh))))))⟩
noncomputable def Je:LP->OP:=jx aan 4 Zk.1
noncomputable abbrev Qb:Stmt:=top 30
noncomputable abbrev Qr:Stmt:=top 31
noncomputable abbrev abp:Stmt:=top 38
noncomputable abbrev Qc:Stmt:=top 36
noncomputable abbrev adD:Stmt:=top 37
noncomputable abbrev ai9:Stmt:=top 43
noncomputable abbrev afJ:Stmt:=top 44
noncomputable abbrev acE:Stmt:=top 45
noncomputable abbrev acF:Stmt:=top 55
structure CLonger(P:Program)(w:World)(K:Fg)(mg:SV)(base:Heap):Prop where
 last:jl P w K mg base "last_rods" ["manner","ahead","number"] 3 3 amj
noncomputable abbrev abq:List Str:=["manner","ahead","ways","longer","number","rod","left"]
theorem QP:FnScope abq ["manner","ahead","ways"] (jj Qr):=⟨rfl,rfl,rfl,by decide +kernel,rfl,by decide +kernel,by decide +kernel⟩
noncomputable def acG:{ B:RO // ady 3 CLonger "longer_ways" Qr abq 3 (qi (QD (qi (QD (jO Qr) 1)) 0)) B }:=
 ⟨_,fun P w K mg base f Kc A Ko s H E C hr=>
  jJ (acA 3 (ZA hr) (jb 6) (jn jz (Jb (ZA hr) (jb 3) (jb 6) jf) (ZL (ZA hr) (jb 2) (jb 4)))) qy⟩
noncomputable def Qd:{ B:RO // ady 3 CLonger "longer_ways" Qr abq 3 (qi (QD (jO Qr) 1)) B }:=
 ⟨_,fun P w K mg base f Kc A Ko s H E C hr=>
  jJ (Zd PassesOwn.never rfl (QH (ji C.last hr (Nat.le_refl _) (ja (jb 0) (ja (jb 1) (ja (jb 4) je))) (jc (jc (jc jg))))) (afp (n:=2) rfl (JO 5 QP.nd (JO 6 QP.nd adh))) (acG.2 P w K mg base f Kc A Ko s H E C hr)) qy⟩
noncomputable def acH:{ B:RO // zl CLonger "longer_ways" Qr abq 3 B }:=
 ⟨_,fun P w K mg base f Kc A Ko s H E C hr=>
  ZH (ZJ 3 QP.nd aa8
  (jJ (Zd PassesOwn.never rfl (aa9 (jb 2)) (ZI 4 QP.nd) (Qd.2 P w K mg base f Kc A Ko s H E C hr))
  (jJ (acz (jb 3)) qy)))⟩
noncomputable def acI:LP->OP:=jx abq 3 acH.1
structure CHow(P:Program)(w:World)(K:Fg)(mg:SV)(base:Heap):Prop where
 t:Bare mg
 asked:jl P w K mg base "check_asked" ["manner","rods","number"] 5 3 QE
 longer:jl P w K mg base "longer_ways" ["manner","ahead","ways"] 4 3 acI
noncomputable abbrev ako:List Str:=["manner","rods","number","ways","ahead"]
theorem adE:FnScope ako ["manner","rods","number"] (jj Qb):=⟨rfl,rfl,rfl,by decide +kernel,rfl,by decide +kernel,by decide +kernel⟩
noncomputable def adF:{ B:RO // ZR CHow "how_many" Qb ako 5 (qi (QD (jO Qb) 2)) B }:=
 ⟨_,fun P w K mg base f Kc A Ko s H E C hr=>
  jd (jy 3 adE.nd (ji C.longer hr (by decide) (ja (jb 0) (ja (jb 4) (ja (jb 3) je))) (jc (jc (jc jg))))) jh⟩
noncomputable def aml:{ B:RO // zl CHow "how_many" Qb ako 5 B }:=
 ⟨_,fun P w K mg base f Kc A Ko s H E C hr=>
  jd (j9 (ji C.asked hr (Nat.le_refl _) (ja (jb 0) (ja (jb 1) (ja (jb 2) je))) (jc (jc (jc jg)))))
  (jd (jy 3 adE.nd (agu (jb 2) jf))
  (jd (zM PassesOwn.never rfl (aia rfl C.t.range (ja (jn Qo (jb 1) jf) (ja (afm jf) (ja (afm jf) je)))) (jG 4 adE.nd) (adF.2 P w K mg base f Kc A Ko s H E C hr))
  (jd (jv (Jb (ZA hr) (jb 3) jf jf)) jh)))⟩
noncomputable def agX:LP->OP:=jx ako 3 aml.1
structure CParting(P:Program)(w:World)(K:Fg)(mg:SV)(base:Heap):Prop where
 t:Bare mg
 both:jl P w K mg base "check_both" ["one","other"] 5 2 qY
 most:jl P w K mg base "most_on_rod" ["manner"] 2 1 aaE
 how:jl P w K mg base "how_many" ["manner","rods","number"] 6 3 agX
theorem aaO:FnScope ["one","other","number"] ["one","other"] (jj Qc):=⟨rfl,rfl,rfl,by decide +kernel,rfl,by decide +kernel,by decide +kernel⟩
noncomputable def aao:{ B:RO // ZR CParting "parting" Qc ["one","other","number"] 6 (qi (QD (jO Qc) 2)) B }:=
 ⟨_,fun P w K mg base f Kc A Ko s H E C hr=>
  jd (j1 (jK (zA hr.units) (ji C.how hr (Nat.le_refl _) (ja (jb 0) (ja jf (ja (jb 2) je))) (jc (jc (jc jg)))) (ji C.how hr (Nat.le_refl _) (ja (jb 1) (ja jf (ja (jb 2) je))) (jc (jc (jc jg)))))
   (jd (jv (jb 2)) jh) jh) jh⟩
noncomputable def QQ:{ B:RO // zl CParting "parting" Qc ["one","other","number"] 6 B }:=
 ⟨_,fun P w K mg base f Kc A Ko s H E C hr=>
  jd (j9 (ji C.both hr (by decide) (ja (jb 0) (ja (jb 1) je)) (jc (jc jg))))
  (jd (j1 (jK (zA hr.units) (jR (jb 0) jf) (jR (jb 1) jf)) JX jh)
  (jd (zM PassesOwn.never rfl (qH rfl C.t.range (ja (jn jz (jY (acy rfl) C.t.max QB (ja (ji C.most hr (by decide) (ja (jb 0) je) (jc jg)) (ja (ji C.most hr (by decide) (ja (jb 1) je) (jc jg)) je))) jf) je)) (jG 2 aaO.nd) (aao.2 P w K mg base f Kc A Ko s H E C hr))
  (jd (jv adb) jh)))⟩
noncomputable def Jf:LP->OP:=jx ["one","other","number"] 2 QQ.1
structure CParts(P:Program)(w:World)(K:Fg)(mg:SV)(base:Heap):Prop where
 both:jl P w K mg base "check_both" ["one","other"] 5 2 qY
 how:jl P w K mg base "how_many" ["manner","rods","number"] 6 3 agX
theorem agY:FnScope ["one","other","rods","number"] ["one","other","rods","number"] (jj adD):=⟨rfl,rfl,rfl,by decide +kernel,rfl,by decide +kernel,by decide +kernel⟩
noncomputable def abW:{ B:RO // zl CParts "parts" adD ["one","other","rods","number"] 6 B }:=
 ⟨_,fun P w K mg base f Kc A Ko s H E C hr=>
  jd (j9 (ji C.both hr (by decide) (ja (jb 0) (ja (jb 1) je)) (jc (jc jg))))
  (jd (jv (Jl (zA hr.units) (ji C.how hr (Nat.le_refl _) (ja (jb 0) (ja (jb 2) (ja (jb 3) je))) (jc (jc (jc jg)))) (ji C.how hr (Nat.le_refl _) (ja (jb 1) (ja (jb 2) (ja (jb 3) je))) (jc (jc (jc jg)))))) jh)⟩
noncomputable def Zl:LP->OP:=jx ["one","other","rods","number"] 4 abW.1
structure CSingle(P:Program)(w:World)(K:Fg)(mg:SV)(base:Heap):Prop where
 t:Bare mg
 counts:jl P w K mg base "counts" ["manner"] 5 1 JN
 most:jl P w K mg base "most_on_rod" ["manner"] 2 1 aaE
theorem aeP:FnScope ["manner"] ["manner"] (jj abp):=⟨rfl,rfl,rfl,by decide +kernel,rfl,by decide +kernel,by decide +kernel⟩
noncomputable def abr:{ B:RO // zl CSingle "is_single" abp ["manner"] 5 B }:=
 ⟨_,fun P w K mg base f Kc A Ko s H E C hr=>
  jd (jv (afu (Jl (zc hr.units) (jY (aiY rfl) C.t.max QB (ja (ji C.counts hr (Nat.le_refl _) (ja (jb 0) je) (jc jg)) je)) jf) (aft (Jl Zc (ji C.most hr (by decide) (ja (jb 0) je) (jc jg)) (jR (jb 0) jf))))) jh⟩
noncomputable def Qs:LP->OP:=jx ["manner"] 1 abr.1
theorem aoH:FnScope ["_law_script","_law_k"] ["_law_script","_law_k"] (jj ai9):=⟨rfl,rfl,rfl,by decide +kernel,rfl,by decide +kernel,by decide +kernel⟩
noncomputable def aja:{ B:RO // zl (fun _ _ _ mg _=>Bare mg) "_law_cell" ai9 ["_law_script","_law_k"] 0 B }:=
 ⟨_,fun P w K mg base f Kc A Ko s H E C hr=>
  jd (j1 (jK (zc hr.units) (jb 0) (qN je)) (jd (jv (jn qS jf (jb 1))) jh) jh)
  (jd (jv (jn jz (jR (jb 0) (jn Zb (jb 1) (jY ZE C.len ZP (ja (jb 0) je)))) (jn qS jf (jn JY (jb 1) (jY ZE C.len ZP (ja (jb 0) je)))))) jh)⟩
noncomputable def agZ:LP->OP:=jx ["_law_script","_law_k"] 2 aja.1
structure CDrawn(P:Program)(w:World)(K:Fg)(mg:SV)(base:Heap):Prop where
 cell:jl P w K mg base "_law_cell" ["_law_script","_law_k"] 1 2 agZ
theorem adG:FnScope ["_law_script","_law_k","_law_many","_law_cell_here"] ["_law_script","_law_k","_law_many"] (jj afJ):=⟨rfl,rfl,rfl,by decide +kernel,rfl,by decide +kernel,by decide +kernel⟩
noncomputable def ain:{ B:RO // zl CDrawn "_law_drawn" afJ ["_law_script","_law_k","_law_many","_law_cell_here"] 1 B }:=
 ⟨_,fun P w K mg base f Kc A Ko s H E C hr=>
  jd (jy 3 adG.nd (jn Zb (jn jz (jn qS (jn Zb (ji C.cell hr (Nat.le_refl _) (ja (jb 0) (ja (jb 1) je)) (jc (jc jg))) jf) jf) (jn qS jf (jn jz (jb 1) jf))) jf))
  (jd (jy 3 adG.nd (jn Zb (jn jz (jn qS (jb 3) (jb 3)) (jn JY (jb 3) jf)) jf))
  (jd (jv (jn Zb (jn JY (jn Zb (jn jz (jn qS (jb 3) (jb 3)) (jn JY (jb 3) jf)) jf) jf) (jb 2))) jh))⟩
noncomputable def Qe:LP->OP:=jx ["_law_script","_law_k","_law_many","_law_cell_here"] 3 ain.1
noncomputable abbrev afK:List Str:=["_law_script","_law_at","_law_known","_law_way","_law_each","_law_upper","_law_lower"]
structure CManner(P:Program)(w:World)(K:Fg)(mg:SV)(base:Heap):Prop where
 t:Bare mg
 drawn:jl P w K mg base "_law_drawn" ["_law_script","_law_k","_law_many"] 2 3 Qe
theorem Jn:FnScope afK ["_law_script","_law_at"] (jj acE):=⟨rfl,rfl,rfl,by decide +kernel,rfl,by decide +kernel,by decide +kernel⟩
noncomputable def jk(a b c d:Int):PyData:= .tuple [.int a,.int b,.int c,.int d]
noncomputable def abX:LP:=[jk 1 5 4 10,jk 2 5 5 10,jk 0 1 9 10,jk 1 5 5 10,jk 0 1 10 10,jk 1 2 1 4,jk 0 1 1 2]
noncomputable def abY:LP:=[jk 1 4 3 8,jk 1 3 2 5,jk 3 4 3 16,jk 2 3 2 7,jk 1 1 1 3]
noncomputable def acJ:{ B:RO // zl CManner "_law_manner" acE afK 2 B }:=
 ⟨_,fun P w K mg base f Kc A Ko s H E C hr=>
  jd (jy 2 Jn.nd (zN 3 (.list abX) (by kernel_rfl)))
  (jd (jy 2 Jn.nd (jn jz (jb 2) (zN 3 (.list abY) (by kernel_rfl))))
  (jd (jy 3 Jn.nd (ji C.drawn hr (Nat.le_refl _) (ja (jb 0) (ja (jb 1) (ja (jn qS jf (jY ZE C.t.len ZP (ja (jb 2) je))) je))) (jc (jc (jc jg)))))
  (jd (j1 (jK Zc (jb 3) (jY ZE C.t.len ZP (ja (jb 2) je))) (jd (jv (jR (jb 2) (jb 3))) jh) jh)
  (jd (jy 4 Jn.nd (jn jz jf (ji C.drawn hr (Nat.le_refl _) (ja (jb 0) (ja (jn jz (jb 1) jf) (ja jf je))) (jc (jc (jc jg))))))
  (jd (jy 5 Jn.nd (ji C.drawn hr (Nat.le_refl _) (ja (jb 0) (ja (jn jz (jb 1) jf) (ja jf je))) (jc (jc (jc jg)))))
  (jd (jy 6 Jn.nd (jn jz (jY (acy rfl) C.t.max QB (ja (jn Qo (jb 4) jf) (ja jf je))) (ji C.drawn hr (Nat.le_refl _) (ja (jb 0) (ja (jn jz (jb 1) jf) (ja jf je))) (jc (jc (jc jg))))))
  (jd (jv (zi (ja (jb 5) (ja (jb 4) (ja (jb 6) (ja (jn jz jf (ji C.drawn hr (Nat.le_refl _) (ja (jb 0) (ja (jn jz (jb 1) jf) (ja (jY (afj rfl) C.t.min afl (ja jf (ja (jn jz (jn qS (jb 5) (jb 4)) (jb 6)) je))) je))) (jc (jc (jc jg))))) je)))))) jh)))))))⟩
noncomputable def Zm:LP->OP:=jx afK 2 acJ.1
structure CTurn(P:Program)(w:World)(K:Fg)(mg:SV)(base:Heap):Prop where
 drawn:jl P w K mg base "_law_drawn" ["_law_script","_law_k","_law_many"] 2 3 Qe
noncomputable abbrev amm:List Str:=["_law_script","_law_manner_here","_law_upper","_law_each","_law_lower","_law_base"]
theorem abt:FnScope amm ["_law_script","_law_manner_here"] (jj acF):=⟨rfl,rfl,rfl,by decide +kernel,rfl,by decide +kernel,by decide +kernel⟩
noncomputable def ajb:{ B:RO // zl CTurn "_law_turned" acF amm 3 B }:=
 ⟨_,fun P w K mg base f Kc A Ko s H E C hr=>
  (jd (an4 (jb 1) (afe (n:=4) rfl (zo (jG 2 abt.nd) (zo (jG 3 abt.nd) (zo (jG 4 abt.nd) (zo (jG 5 abt.nd) add))))))
  (jd (j1 (jK (zc hr.units) (jb 2) jf) (jd (jv (zi (ja jf (ja (jn jz jf (ji C.drawn hr (by decide) (ja (jb 0) (ja jf (ja jf je))) (jc (jc (jc jg))))) (ja (jb 4) (ja (jb 5) je)))))) jh) jh)
  (jd (j1 (zY (Z7 (jK (zc hr.units) (jb 3) jf) (ZD (jK Zc (jb 4) jf)))) (jd (jv (zi (ja (jb 4) (ja jf (ja (jb 2) (ja (jb 5) je)))))) jh) jh)
  (jd (jv (jb 1))
  jh))))⟩
noncomputable def ag0:LP->OP:=jx amm 2 ajb.1
noncomputable abbrev Zv(C:CC)(qual:Str)(st:Stmt)(N:List Str)(k:Nat)(Fx:Rho->Option Str):Prop:=
 ∀(P:Program) (w:World) (K:Fg) (mg:SV) (base:Heap) (f:Addr) (Kc:Value) (A:Around) (Ko:List Env) (s:Shared) (H:Hp) (E:XK),C P w K mg base->Room k (A.deeper (envOfC qual (jj st) s.heap.objs.size f Kc))->
  acu (JV (CXt P w) P w K mg base N qual (jj st) f Kc A Ko s H E) (jO st) Fx
noncomputable abbrev zI:List Str:=["NoManner","NoSetting","NoNumber","NoMove","TooGreat","Nothing"]
structure XCheck(P:Program)(w:World)(K:Fg)(mg:SV)(base:Heap):Prop where
 c_isManner:jl P w K mg base "is_manner" ["thing"] 3 1 qO
 e_NoManner:aic K mg "NoManner"
noncomputable def abZ:{ F:Rho->Option Str // Zv XCheck "check_manner" adx ["thing"] 3 F }:=
 ⟨_,fun P w K mg base f Kc A Ko s H E C hr=>
  (jD (aaJ (zn (ze (ji C.c_isManner hr (by decide) (ja (jb 0) je) (jc jg)))) (jD (QL rfl C.e_NoManner rfl)) zP))⟩
noncomputable def zC:LP->Option Str:=Jx ["thing"] 1 abZ.1
structure XChkRods(P:Program)(w:World)(K:Fg)(mg:SV)(base:Heap):Prop where
 c_isWhole:jl P w K mg base "is_whole" ["thing","least","most"] 1 3 j0
 k_MOST_RODS:GC K mg "MOST_RODS" (.int 4)
 e_NoNumber:aic K mg "NoNumber"
noncomputable def QR:{ F:Rho->Option Str // Zv XChkRods "check_rods" J9 ["rods"] 1 F }:=
 ⟨_,fun P w K mg base f Kc A Ko s H E C hr=>
  (jD (aaJ (zn (ze (ji C.c_isWhole hr (by decide) (ja (jb 0) (ja jf (ja (qF C.k_MOST_RODS) je))) (jc (jc (jc jg)))))) (jD (QL rfl C.e_NoNumber rfl)) zP))⟩
noncomputable def Jg:LP->Option Str:=Jx ["rods"] 1 QR.1
structure XChkNum(P:Program)(w:World)(K:Fg)(mg:SV)(base:Heap):Prop where
 c_isWhole:jl P w K mg base "is_whole" ["thing","least","most"] 1 3 j0
 k_MOST_NUMBER:GC K mg "MOST_NUMBER" (.int 99999)
 e_NoNumber:aic K mg "NoNumber"
noncomputable def acK:{ F:Rho->Option Str // Zv XChkNum "check_number" Jd ["number"] 1 F }:=
 ⟨_,fun P w K mg base f Kc A Ko s H E C hr=>
  (jD (aaJ (zn (ze (ji C.c_isWhole hr (by decide) (ja (jb 0) (ja jf (ja (qF C.k_MOST_NUMBER) je))) (jc (jc (jc jg)))))) (jD (QL rfl C.e_NoNumber rfl)) zP))⟩
noncomputable def acL:LP->Option Str:=Jx ["number"] 1 acK.1
structure XAsked(P:Program)(w:World)(K:Fg)(mg:SV)(base:Heap):Prop where
 c_chkRods:jl P w K mg base "check_rods" ["rods"] 2 1 qg
 c_check:jl P w K mg base "check_manner" ["thing"] 4 1 qP
 x_check:zB P w K mg base "check_manner" ["thing"] 4 1 zC
 x_chkRods:zB P w K mg base "check_rods" ["rods"] 2 1 Jg
 x_chkNum:zB P w K mg base "check_number" ["number"] 2 1 acL
noncomputable def ab0:{ F:Rho->Option Str // Zv XAsked "check_asked" Jz ["manner","rods","number"] 4 F }:=
 ⟨_,fun P w K mg base f Kc A Ko s H E C hr=>
  (JM (jD (qW (qz rfl C.x_check hr (by decide) (ja (jb 0) je) (jc jg)))) (zr (j9 (ji C.c_check hr (by decide) (ja (jb 0) je) (jc jg)))
  (JM (jD (qW (qz rfl C.x_chkRods hr (by decide) (ja (jb 1) je) (jc jg)))) (zr (j9 (ji C.c_chkRods hr (by decide) (ja (jb 1) je) (jc jg)))
  (jD (qW (qz rfl C.x_chkNum hr (by decide) (ja (jb 2) je) (jc jg))))))))⟩
noncomputable def adH:LP->Option Str:=Jx ["manner","rods","number"] 3 ab0.1
structure XHow(P:Program)(w:World)(K:Fg)(mg:SV)(base:Heap):Prop where
 x_asked:zB P w K mg base "check_asked" ["manner","rods","number"] 5 3 adH
noncomputable def aoI:{ F:Rho->Option Str // Zv XHow "how_many" Qb ako 5 F }:=
 ⟨_,fun P w K mg base f Kc A Ko s H E C hr=>
  (jD (qW (qz rfl C.x_asked hr (by decide) (ja (jb 0) (ja (jb 1) (ja (jb 2) je))) (jc (jc (jc jg))))))⟩
noncomputable def aoJ:LP->Option Str:=Jx ako 3 aoI.1
structure XBoth(P:Program)(w:World)(K:Fg)(mg:SV)(base:Heap):Prop where
 c_check:jl P w K mg base "check_manner" ["thing"] 4 1 qP
 x_check:zB P w K mg base "check_manner" ["thing"] 4 1 zC
noncomputable def acg:{ F:Rho->Option Str // Zv XBoth "check_both" Qa ["one","other"] 4 F }:=
 ⟨_,fun P w K mg base f Kc A Ko s H E C hr=>
  (JM (jD (qW (qz rfl C.x_check hr (by decide) (ja (jb 0) je) (jc jg)))) (zr (j9 (ji C.c_check hr (by decide) (ja (jb 0) je) (jc jg)))
  (jD (qW (qz rfl C.x_check hr (by decide) (ja (jb 1) je) (jc jg))))))⟩
noncomputable def JK:LP->Option Str:=Jx ["one","other"] 2 acg.1
structure XAlike(P:Program)(w:World)(K:Fg)(mg:SV)(base:Heap):Prop where
 x_both:zB P w K mg base "check_both" ["one","other"] 5 2 JK
noncomputable def afL:{ F:Rho->Option Str // Zv XAlike "are_alike" adz ["one","other"] 5 F }:=
 ⟨_,fun P w K mg base f Kc A Ko s H E C hr=>
  (jD (qW (qz rfl C.x_both hr (by decide) (ja (jb 0) (ja (jb 1) je)) (jc (jc jg)))))⟩
noncomputable def afM:LP->Option Str:=Jx ["one","other"] 2 afL.1
structure XCounts(P:Program)(w:World)(K:Fg)(mg:SV)(base:Heap):Prop where
 x_check:zB P w K mg base "check_manner" ["thing"] 4 1 zC
noncomputable def acM:{ F:Rho->Option Str // Zv XCounts "counts" abm ["manner","told","rod"] 4 F }:=
 ⟨_,fun P w K mg base f Kc A Ko s H E C hr=>
  (jD (qW (qz rfl C.x_check hr (by decide) (ja (jb 0) je) (jc jg))))⟩
noncomputable def afN:LP->Option Str:=Jx ["manner","told","rod"] 1 acM.1
structure XSingle(P:Program)(w:World)(K:Fg)(mg:SV)(base:Heap):Prop where
 t:Bare mg
 x_counts:zB P w K mg base "counts" ["manner"] 5 1 afN
noncomputable def acN:{ F:Rho->Option Str // Zv XSingle "is_single" abp ["manner"] 5 F }:=
 ⟨_,fun P w K mg base f Kc A Ko s H E C hr=>
  (jD (abb (al8 (agI (akh C.t.max QB (alZ (qz rfl C.x_counts hr (by decide) (ja (jb 0) je) (jc jg))))))))⟩
noncomputable def acO:LP->Option Str:=Jx ["manner"] 1 acN.1
structure XParting(P:Program)(w:World)(K:Fg)(mg:SV)(base:Heap):Prop where
 c_both:jl P w K mg base "check_both" ["one","other"] 5 2 qY
 x_both:zB P w K mg base "check_both" ["one","other"] 5 2 JK
 e_NoNumber:aic K mg "NoNumber"
noncomputable def QS:{ F:Rho->Option Str // Zv XParting "parting" Qc ["one","other","number"] 6 F }:=
 ⟨_,fun P w K mg base f Kc A Ko s H E C hr=>
  (JM (jD (qW (qz rfl C.x_both hr (by decide) (ja (jb 0) (ja (jb 1) je)) (jc (jc jg))))) (zr (j9 (ji C.c_both hr (by decide) (ja (jb 0) (ja (jb 1) je)) (jc (jc jg))))
  (jD (aaJ (jK (zA hr.units) (jR (jb 0) jf) (jR (jb 1) jf)) (jD (QL rfl C.e_NoNumber rfl)) zP))))⟩
noncomputable def ZT:LP->Option Str:=Jx ["one","other","number"] 2 QS.1
structure XParts(P:Program)(w:World)(K:Fg)(mg:SV)(base:Heap):Prop where
 c_both:jl P w K mg base "check_both" ["one","other"] 5 2 qY
 x_both:zB P w K mg base "check_both" ["one","other"] 5 2 JK
 x_how:zB P w K mg base "how_many" ["manner","rods","number"] 6 3 aoJ
noncomputable def ab1:{ F:Rho->Option Str // Zv XParts "parts" adD ["one","other","rods","number"] 6 F }:=
 ⟨_,fun P w K mg base f Kc A Ko s H E C hr=>
  (JM (jD (qW (qz rfl C.x_both hr (by decide) (ja (jb 0) (ja (jb 1) je)) (jc (jc jg))))) (zr (j9 (ji C.c_both hr (by decide) (ja (jb 0) (ja (jb 1) je)) (jc (jc jg))))
  (jD (abb (agI (qz rfl C.x_how hr (by decide) (ja (jb 0) (ja (jb 2) (ja (jb 3) je))) (jc (jc (jc jg)))))))))⟩
noncomputable def adI:LP->Option Str:=Jx ["one","other","rods","number"] 4 ab1.1
structure XThrift(P:Program)(w:World)(K:Fg)(mg:SV)(base:Heap):Prop where
 c_isWhole:jl P w K mg base "is_whole" ["thing","least","most"] 1 3 j0
 c_chkRods:jl P w K mg base "check_rods" ["rods"] 2 1 qg
 c_both:jl P w K mg base "check_both" ["one","other"] 5 2 qY
 k_MOST_ASKED:GC K mg "MOST_ASKED" (.int 999)
 x_both:zB P w K mg base "check_both" ["one","other"] 5 2 JK
 x_chkRods:zB P w K mg base "check_rods" ["rods"] 2 1 Jg
 e_NoNumber:aic K mg "NoNumber"
noncomputable def Qt:{ F:Rho->Option Str // Zv XThrift "thriftier" Zj aan 5 F }:=
 ⟨_,fun P w K mg base f Kc A Ko s H E C hr=>
  (JM (jD (qW (qz rfl C.x_both hr (by decide) (ja (jb 0) (ja (jb 1) je)) (jc (jc jg))))) (zr (j9 (ji C.c_both hr (by decide) (ja (jb 0) (ja (jb 1) je)) (jc (jc jg))))
  (JM (jD (qW (qz rfl C.x_chkRods hr (by decide) (ja (jb 2) je) (jc jg)))) (zr (j9 (ji C.c_chkRods hr (by decide) (ja (jb 2) je) (jc jg)))
  (jD (aaJ (zn (ze (ji C.c_isWhole hr (by decide) (ja (jb 3) (ja jf (ja (qF C.k_MOST_ASKED) je))) (jc (jc (jc jg)))))) (jD (QL rfl C.e_NoNumber rfl)) zP))))))⟩
noncomputable def aap:LP->Option Str:=Jx aan 4 Qt.1
noncomputable abbrev aaq:Stmt:=top 47
structure CLValue(P:Program)(w:World)(K:Fg)(mg:SV)(base:Heap):Prop where
 tr:True
noncomputable abbrev acP:List Str:=["_law_manner_here","_law_setting_here","_law_found","_law_upper","_law_lower"]
theorem QT:FnScope acP ["_law_manner_here","_law_setting_here"] (jj aaq):=⟨rfl,rfl,rfl,by decide +kernel,rfl,by decide +kernel,by decide +kernel⟩
noncomputable def abu:{ B:RO // ZR CLValue "_law_value" aaq acP 0 (qi (QD (jO aaq) 1)) B }:=
 ⟨_,fun P w K mg base f Kc A Ko s H E C hr=>
  (jd (jy 2 QT.nd (jn jz (jn jz (jn qS (jR (jb 0) jf) (jb 2)) (jn qS (jb 3) (jR (jb 0) jf))) (jb 4)))
  jh)⟩
noncomputable def acQ:{ B:RO // zl CLValue "_law_value" aaq acP 0 B }:=
 ⟨_,fun P w K mg base f Kc A Ko s H E C hr=>
  (jd (jy 2 QT.nd jf)
  (jd (zM PassesOwn.never rfl (Jr (jb 1)) (afe (n:=2) rfl (zo (jG 3 QT.nd) (zo (jG 4 QT.nd) add))) (abu.2 P w K mg base f Kc A Ko s H E C hr))
  (jd (jv (jb 2))
  jh)))⟩
noncomputable def afO:LP->OP:=jx acP 2 acQ.1
noncomputable abbrev aaP:Stmt:=top 48
structure CLRods(P:Program)(w:World)(K:Fg)(mg:SV)(base:Heap):Prop where
 t:Bare mg
noncomputable abbrev adJ:List Str:=["_law_manner_here","_law_found","_law_upper"]
theorem abv:FnScope adJ ["_law_manner_here"] (jj aaP):=⟨rfl,rfl,rfl,by decide +kernel,rfl,by decide +kernel,by decide +kernel⟩
theorem amn:(["_law_lower","_law_upper"]:List Str).Nodup:=by decide +kernel
noncomputable def afP:{ B:RO // ZR CLRods "_law_rods" aaP adJ 0 (qi (QD (jO aaP) 1)) B }:=
 ⟨_,fun P w K mg base f Kc A Ko s H E C hr=>
  (jd (jy 1 abv.nd (jn jz (jb 1) (Jq ["_law_lower","_law_upper"] [none,some 2] rfl (qH rfl C.t.range (ja (jn jz (jR (jb 0) jf) jf) je)) (zq (jj aaP) adJ (by decide +kernel))
   fun cl C' s0 H0 fp pn=>⟨(jG 0 amn),zZ,(zi (ja (jb 1) (ja (jb 0) je)))⟩)))
  jh)⟩
noncomputable def afQ:{ B:RO // zl CLRods "_law_rods" aaP adJ 0 B }:=
 ⟨_,fun P w K mg base f Kc A Ko s H E C hr=>
  (jd (jy 1 abv.nd (qN je))
  (jd (zM PassesOwn.never rfl (qH rfl C.t.range (ja (jn jz (jR (jb 0) jf) jf) je)) (jG 2 abv.nd) (afP.2 P w K mg base f Kc A Ko s H E C hr))
  (jd (jv (jb 1))
  jh)))⟩
noncomputable def aaQ:LP->OP:=jx adJ 1 afQ.1
noncomputable abbrev abw:Stmt:=top 49
structure CLAll(P:Program)(w:World)(K:Fg)(mg:SV)(base:Heap):Prop where
 t:Bare mg
 c_LRods:jl P w K mg base "_law_rods" ["_law_manner_here"] 1 1 aaQ
noncomputable abbrev aeQ:List Str:=["_law_manner_here","_law_rods_here","_law_found","_law_k","_law_longer","_law_row"]
theorem Zn:FnScope aeQ ["_law_manner_here","_law_rods_here"] (jj abw):=⟨rfl,rfl,rfl,by decide +kernel,rfl,by decide +kernel,by decide +kernel⟩
theorem amo:(["_law_rod","_law_row"]:List Str).Nodup:=by decide +kernel
noncomputable def afR:{ B:RO // ZR CLAll "_law_all" abw aeQ 1 (qi (QD (qi (QD (jO abw) 1)) 1)) B }:=
 ⟨_,fun P w K mg base f Kc A Ko s H E C hr=>
  (jd (jy 4 Zn.nd (jn jz (jb 4) (Jq ["_law_rod","_law_row"] [none,some 5] rfl (Jr (ji C.c_LRods hr (by decide) (ja (jb 0) je) (jc jg))) (zq (jj abw) aeQ (by decide +kernel))
   fun cl C' s0 H0 fp pn=>⟨(jG 0 amo),zZ,(jn jz (jb 1) (zi (ja (jb 0) je)))⟩)))
  jh)⟩
noncomputable def adK:{ B:RO // ZR CLAll "_law_all" abw aeQ 1 (qi (QD (jO abw) 1)) B }:=
 ⟨_,fun P w K mg base f Kc A Ko s H E C hr=>
  (jd (jy 4 Zn.nd (qN je))
  (jd (zM PassesOwn.never rfl (Jr (jb 2)) (jG 5 Zn.nd) (afR.2 P w K mg base f Kc A Ko s H E C hr))
  (jd (jy 2 Zn.nd (jb 4))
  jh)))⟩
noncomputable def ajc:{ B:RO // zl CLAll "_law_all" abw aeQ 1 B }:=
 ⟨_,fun P w K mg base f Kc A Ko s H E C hr=>
  (jd (jy 2 Zn.nd (zN 2 (.list [.tuple []]) (by kernel_rfl)))
  (jd (zM PassesOwn.never rfl (qH rfl C.t.range (ja (jb 1) je)) (jG 3 Zn.nd) (adK.2 P w K mg base f Kc A Ko s H E C hr))
  (jd (jv (jb 2))
  jh)))⟩
noncomputable def ag1:LP->OP:=jx aeQ 2 ajc.1
noncomputable abbrev JR:Stmt:=top 51
structure CLRefused(P:Program)(w:World)(K:Fg)(mg:SV)(base:Heap):Prop where
 t:Bare mg
 errT:ErrT K mg "BeadError" zI
noncomputable abbrev ab2:List Str:=["_law_e","_law_flags"]
theorem ZU:FnScope ab2 ["_law_e"] (jj JR):=⟨rfl,rfl,rfl,by decide +kernel,rfl,by decide +kernel,by decide +kernel⟩
noncomputable def aeR:{ B:RO // ∀(P:Program) (w:World) (K:Fg) (mg:SV) (base:Heap) (f:Addr) (Kc:Value) (A:Around) (Ko:List Env) (s:Shared) (H:Hp) (E:XK),CLRefused P w K mg base->RoomH 0 (A.deeper (envOfC "_law_refused" (jj JR) s.heap.objs.size f Kc))->
  ZC (cxH P w K mg base ab2 "_law_refused" (jj JR) f Kc A Ko s H E) (jO JR) B }:=
 ⟨_,fun P w K mg base f Kc A Ko s H E C hr=>
  (jd (jy 1 ZU.nd (qN (ja (aad C.errT C.t.isi (jb 0)) (ja (aad C.errT C.t.isi (jb 0)) (ja (aad C.errT C.t.isi (jb 0)) je)))))
  (jd (jy 1 ZU.nd (jn jz (jb 1) (qN (ja (aad C.errT C.t.isi (jb 0)) (ja (aad C.errT C.t.isi (jb 0)) (ja (aad C.errT C.t.isi (jb 0)) je))))))
  (jd (j1 (zY (afd (jK (zA hr.units) (akd (jb 1) JJ) jf) (acx (zn (ze (aou C.errT C.t.isi C.t.vale (jb 0))))))) (jd (jv (zi (ja ah2 (ja (afm jf) je))))
  jh) jh)
  (jd (jv (zi (ja ah2 (ja (akc (jb 1) JJ) je))))
  jh))))⟩
noncomputable def zt:LP->OP:=jx ab2 1 aeR.1
noncomputable abbrev ab3:Stmt:=top 52
structure CLTold(P:Program)(w:World)(K:Fg)(mg:SV)(base:Heap):Prop where
 c_single:jl P w K mg base "is_single" ["manner"] 6 1 Qs
 c_alike:jl P w K mg base "are_alike" ["one","other"] 6 2 aaN
 c_parting:jl P w K mg base "parting" ["one","other"] 7 2 Jf
 c_parts:jl P w K mg base "parts" ["one","other","rods","number"] 7 4 Zl
 c_thrift:jl P w K mg base "thriftier" ["one","other","rods","most"] 6 4 Je
 k_are_alike:GC K mg "are_alike" (fnD "are_alike")
 k_parting:GC K mg "parting" (fnD "parting")
 k_parts:GC K mg "parts" (fnD "parts")
 k_thriftier:GC K mg "thriftier" (fnD "thriftier")
 x_single:zB P w K mg base "is_single" ["manner"] 6 1 acO
 x_alike:zB P w K mg base "are_alike" ["one","other"] 6 2 afM
 x_parting:zB P w K mg base "parting" ["one","other"] 7 2 ZT
 x_parts:zB P w K mg base "parts" ["one","other","rods","number"] 7 4 adI
 x_thrift:zB P w K mg base "thriftier" ["one","other","rods","most"] 6 4 aap
 h_LRefused:acB P w K mg base "_law_refused" ["_law_e"] 1 1 zt
 errT:ErrT K mg "BeadError" zI
noncomputable abbrev aio:List Str:=["_law_way","_law_one","_law_other","_law_rods_here","_law_number","_law_e"]
theorem ag2:FnScope aio ["_law_way","_law_one","_law_other","_law_rods_here","_law_number"] (jj ab3):=⟨rfl,rfl,rfl,by decide +kernel,rfl,by decide +kernel,by decide +kernel⟩
noncomputable def qE:{ B:RO // ∀(P:Program) (w:World) (K:Fg) (mg:SV) (base:Heap) (f:Addr) (Kc:Value) (A:Around) (Ko:List Env) (s:Shared) (H:Hp) (E:XK),CLTold P w K mg base->Room 7 (A.deeper (envOfC "_law_told" (jj ab3) s.heap.objs.size f Kc))->
  alV (JV CX0 P w K mg base aio "_law_told" (jj ab3) f Kc A Ko s H E) (jO ab3) B }:=
 ⟨_,fun P w K mg base f Kc A Ko s H E C hr=>
  (aj8 (al5 (n:=6) 5 alU rfl ag2.nd C.errT
   (fun E'=>(jd (j1 (jK (zc hr.units) (jb 0) jf) (jd (jv (ji C.c_single hr (by decide) (ja (jb 1) je) (jc jg)))
  jh) jh)
  (jd (j1 (jK Zc (jb 0) jf) (jd (jv (aih (QM C.c_alike hr (by decide) (jR (qN (ja (qF C.k_are_alike) (ja (qF C.k_parting) je))) (jb 0)) (ja (jb 1) (ja (jb 2) je)) (jc (jc jg))) (QM C.c_parting hr (by decide) (jR (qN (ja (qF C.k_are_alike) (ja (qF C.k_parting) je))) (jb 0)) (ja (jb 1) (ja (jb 2) je)) (jc (jc jg)))))
  jh) jh)
  (jd (jv (aih (QM C.c_parts hr (by decide) (jR (qN (ja (qF C.k_parts) (ja (qF C.k_thriftier) je))) (jn Qo (jb 0) jf)) (ja (jb 1) (ja (jb 2) (ja (jb 3) (ja (jb 4) je)))) (jc (jc (jc (jc jg))))) (QM C.c_thrift hr (by decide) (jR (qN (ja (qF C.k_parts) (ja (qF C.k_thriftier) je))) (jn Qo (jb 0) jf)) (ja (jb 1) (ja (jb 2) (ja (jb 3) (ja (jb 4) je)))) (jc (jc (jc (jc jg)))))))
  jh))))
   (fun E'=>(JM (jD (aaJ (jK (zc hr.units) (jb 0) jf) (jD (abb (qz rfl C.x_single hr (by decide) (ja (jb 1) je) (jc jg)))) zP)) (zr (j1 (jK (zc hr.units) (jb 0) jf) (jd (jv (ji C.c_single hr (by decide) (ja (jb 1) je) (jc jg)))
  jh) jh)
  (JM (jD (aaJ (jK Zc (jb 0) jf) (jD (abb (al7 (aae rfl C.x_alike hr (by decide) (jR (qN (ja (qF C.k_are_alike) (ja (qF C.k_parting) je))) (jb 0)) (ja (jb 1) (ja (jb 2) je)) (jc (jc jg))) (aae rfl C.x_parting hr (by decide) (jR (qN (ja (qF C.k_are_alike) (ja (qF C.k_parting) je))) (jb 0)) (ja (jb 1) (ja (jb 2) je)) (jc (jc jg)))))) zP)) (zr (j1 (jK Zc (jb 0) jf) (jd (jv (aih (QM C.c_alike hr (by decide) (jR (qN (ja (qF C.k_are_alike) (ja (qF C.k_parting) je))) (jb 0)) (ja (jb 1) (ja (jb 2) je)) (jc (jc jg))) (QM C.c_parting hr (by decide) (jR (qN (ja (qF C.k_are_alike) (ja (qF C.k_parting) je))) (jb 0)) (ja (jb 1) (ja (jb 2) je)) (jc (jc jg)))))
  jh) jh)
  (jD (abb (al7 (aae rfl C.x_parts hr (by decide) (jR (qN (ja (qF C.k_parts) (ja (qF C.k_thriftier) je))) (jn Qo (jb 0) jf)) (ja (jb 1) (ja (jb 2) (ja (jb 3) (ja (jb 4) je)))) (jc (jc (jc (jc jg))))) (aae rfl C.x_thrift hr (by decide) (jR (qN (ja (qF C.k_parts) (ja (qF C.k_thriftier) je))) (jn Qo (jb 0) jf)) (ja (jb 1) (ja (jb 2) (ja (jb 3) (ja (jb 4) je)))) (jc (jc (jc (jc jg)))))))))))))
   (fun e=>(jd (jv (al0 C.h_LRefused (RoomH.mark (BX.Room.h (hr.mono (j:=1) (by decide)))) (ja (jb 5) je) (jc jg))) jh))) (aoq jh))⟩
noncomputable def jT:LP->OP:=jx aio 5 qE.1
noncomputable abbrev QU:Stmt:=top 53
structure CLCounts(P:Program)(w:World)(K:Fg)(mg:SV)(base:Heap):Prop where
 c_LRods:jl P w K mg base "_law_rods" ["_law_manner_here"] 1 1 aaQ
noncomputable abbrev abx:List Str:=["_law_manner_here","_law_found","_law_upper","_law_lower","_law_worth"]
theorem Qf:FnScope abx ["_law_manner_here"] (jj QU):=⟨rfl,rfl,rfl,by decide +kernel,rfl,by decide +kernel,by decide +kernel⟩
noncomputable def aar:{ B:RO // ady 1 CLCounts "_law_counts" QU abx 1 (qi (QD (jO QU) 1)) B }:=
 ⟨_,fun P w K mg base f Kc A Ko s H E C hr=>
  (jJ (aa7 4 Qf.nd (jn jz (jn qS (jb 2) (jR (jb 0) jf)) (jb 3)))
  (jJ (acA 1 hr.units1 (jb 4) (jn jz (Jb hr.units1 (jb 1) (jb 4) jf) jf))
  qy))⟩
noncomputable def aby:{ B:RO // zl CLCounts "_law_counts" QU abx 1 B }:=
 ⟨_,fun P w K mg base f Kc A Ko s H E C hr=>
  (ZH (ZJ 1 Qf.nd aa8
  (jJ (Zd PassesOwn.never rfl (Jr (ji C.c_LRods hr (by decide) (ja (jb 0) je) (jc jg))) (afp (n:=2) rfl (JO 2 Qf.nd (JO 3 Qf.nd adh))) (aar.2 P w K mg base f Kc A Ko s H E C hr))
  (jJ (acz (jb 1))
  qy))))⟩
noncomputable def Qg:LP->OP:=jx abx 1 aby.1
noncomputable abbrev Qu:Stmt:=top 54
structure CLLeast(P:Program)(w:World)(K:Fg)(mg:SV)(base:Heap):Prop where
 t:Bare mg
 c_LAll:jl P w K mg base "_law_all" ["_law_manner_here","_law_rods_here"] 2 2 ag1
 c_LValue:jl P w K mg base "_law_value" ["_law_manner_here","_law_setting_here"] 1 2 afO
noncomputable abbrev aas:List Str:=["_law_manner_here","_law_rods_here","_law_most","_law_found","_law_setting_here","_law_number","_law_many","_law_least_here"]
theorem JS:FnScope aas ["_law_manner_here","_law_rods_here","_law_most"] (jj Qu):=⟨rfl,rfl,rfl,by decide +kernel,rfl,by decide +kernel,by decide +kernel⟩
theorem amp:(["_law_rod"]:List Str).Nodup:=by decide +kernel
theorem amq:(["_law_number","_law_found","_law_most"]:List Str).Nodup:=by decide +kernel
noncomputable def ZV:{ B:RO // ady 3 CLLeast "_law_least" Qu aas 2 (qi (QD (jO Qu) 1)) B }:=
 ⟨_,fun P w K mg base f Kc A Ko s H E C hr=>
  (jJ (aa7 5 JS.nd (ji C.c_LValue hr (by decide) (ja (jb 0) (ja (jb 4) je)) (jc (jc jg))))
  (jJ (aoh (Jb hr.units1 (jb 3) (jb 5) (zN 2 (.tuple [.int 0,.int 999]) (by kernel_rfl))) (afp (n:=2) rfl (JO 6 JS.nd (JO 7 JS.nd adh))))
  (jJ (acA 3 hr.units1 (jb 5) (zi (ja (jn jz (jb 6) jf) (ja (jY (afj rfl) C.t.min afl (ja (jb 7) (ja (jY (alr rfl) C.t.sum ame (ja (Jq ["_law_rod"] [none] rfl (Jr (jb 4)) (zq (jj Qu) aas (by decide +kernel))
   fun cl C' s0 H0 fp pn=>⟨(jG 0 amp),zZ,(jY (alr rfl) C.t.sum ame (ja (jb 0) je))⟩) je)) je))) je))))
  qy)))⟩
noncomputable def acR:{ B:RO // zl CLLeast "_law_least" Qu aas 2 B }:=
 ⟨_,fun P w K mg base f Kc A Ko s H E C hr=>
  (ZH (ZJ 3 JS.nd aa8
  (jJ (Zd PassesOwn.never rfl (Jr (ji C.c_LAll hr (by decide) (ja (jb 0) (ja (jb 1) je)) (jc (jc jg)))) (ZI 4 JS.nd) (ZV.2 P w K mg base f Kc A Ko s H E C hr))
  (al9 (jd (jv (Z8 (amb rfl) C.t.dict aoz (ja (Jq ["_law_number","_law_found","_law_most"] [none,some 3,some 2] rfl (aa9 (jb 3)) (zq (jj Qu) aas (by decide +kernel))
   fun cl C' s0 H0 fp pn=>⟨(jG 0 amq),(aaZ (jK abP (jb 0) (jb 2))),(zi (ja (jb 0) (ja (ZL hr.units1 (jb 1) (jb 0)) je)))⟩) je)))
  jh)))))⟩
noncomputable def Zo:LP->OP:=jx aas 3 acR.1
noncomputable abbrev JT:Stmt:=top 56
structure CLRefuses(P:Program)(w:World)(K:Fg)(mg:SV)(base:Heap):Prop where
 t:Bare mg
 c_LTold:jl P w K mg base "_law_told" ["_law_way","_law_one","_law_other","_law_rods_here","_law_number"] 8 5 jT
noncomputable abbrev QV:List Str:=["_law_one","_law_other","_law_rods_here","_law_odd","_law_told_here"]
theorem ZW:FnScope QV ["_law_one","_law_other","_law_rods_here","_law_odd"] (jj JT):=⟨rfl,rfl,rfl,by decide +kernel,rfl,by decide +kernel,by decide +kernel⟩
theorem amr:(["_law_way","_law_one","_law_odd","_law_other"]:List Str).Nodup:=by decide +kernel
theorem ams:(["_law_way","_law_other","_law_odd","_law_one"]:List Str).Nodup:=by decide +kernel
noncomputable def aat:{ B:RO // zl CLRefuses "_law_refuses" JT QV 8 B }:=
 ⟨_,fun P w K mg base f Kc A Ko s H E C hr=>
  (jd (jy 4 ZW.nd (qN (ja (ji C.c_LTold hr (by decide) (ja jf (ja (jb 0) (ja (jb 1) (ja (jb 2) (ja (jb 3) je))))) (jc (jc (jc (jc (jc jg)))))) (ja (ji C.c_LTold hr (by decide) (ja jf (ja (jb 0) (ja (jb 1) (ja (jb 2) (ja (jb 3) je))))) (jc (jc (jc (jc (jc jg)))))) je))))
  (jd (jy 4 ZW.nd (jn jz (jb 4) (qN (ja (ji C.c_LTold hr (by decide) (ja jf (ja (jb 0) (ja (jb 1) (ja (jb 2) (ja jf je))))) (jc (jc (jc (jc (jc jg)))))) (ja (ji C.c_LTold hr (by decide) (ja jf (ja (jb 0) (ja (jb 1) (ja jf (ja jf je))))) (jc (jc (jc (jc (jc jg)))))) (ja (ji C.c_LTold hr (by decide) (ja jf (ja (jb 0) (ja (jb 1) (ja jf (ja jf je))))) (jc (jc (jc (jc (jc jg)))))) je))))))
  (jd (j1 (zY (afd (jK (zA hr.units) (jb 4) (jn adp (zN 3 (.list [.tuple [.str "refused",.int 2]]) (by kernel_rfl)) jf)) (acx (jK alR (ji C.c_LTold hr (by decide) (ja jf (ja (jb 0) (ja (jb 1) (ja (jb 2) (ja jf je))))) (jc (jc (jc (jc (jc jg)))))) adb)))) (jd (jv JJ)
  jh) jh)
  (jd (j1 (jK (zA hr.units) (Jq ["_law_way","_law_one","_law_odd","_law_other"] [none,some 0,some 3,some 1] rfl (qH rfl C.t.range (ja jf je)) (zq (jj JT) QV (by decide +kernel))
   fun cl C' s0 H0 fp pn=>⟨(jG 0 amr),zZ,(ji C.c_LTold hr (by decide) (ja (jb 0) (ja (jb 1) (ja (abe (jb 3) jf) (ja (jb 2) (ja (jb 2) je))))) (jc (jc (jc (jc (jc jg))))))⟩) (jn adp (zN 3 (.list [.tuple [.str "refused",.int 0]]) (by kernel_rfl)) jf)) (jd (jv JJ)
  jh) jh)
  (jd (jv (Jl (zc hr.units) (Jq ["_law_way","_law_other","_law_odd","_law_one"] [none,some 1,some 3,some 0] rfl (qH rfl C.t.range (ja jf je)) (zq (jj JT) QV (by decide +kernel))
   fun cl C' s0 H0 fp pn=>⟨(jG 0 ams),zZ,(ji C.c_LTold hr (by decide) (ja (jb 0) (ja (abe (jb 3) jf) (ja (jb 1) (ja (jb 2) (ja (jb 2) je))))) (jc (jc (jc (jc (jc jg))))))⟩) (jn adp (zN 3 (.list [.tuple [.str "refused",.int 0]]) (by kernel_rfl)) jf)))
  jh)))))⟩
noncomputable def QW:LP->OP:=jx QV 4 aat.1
noncomputable abbrev Jo:Stmt:=top 57
structure CLSingles(P:Program)(w:World)(K:Fg)(mg:SV)(base:Heap):Prop where
 t:Bare mg
 c_LCounts:jl P w K mg base "_law_counts" ["_law_manner_here"] 2 1 Qg
 c_LTold:jl P w K mg base "_law_told" ["_law_way","_law_one","_law_other","_law_rods_here","_law_number"] 8 5 jT
noncomputable abbrev QX:List Str:=["_law_one","_law_some","_law_told_here","_law_due"]
theorem Qv:FnScope QX ["_law_one"] (jj Jo):=⟨rfl,rfl,rfl,by decide +kernel,rfl,by decide +kernel,by decide +kernel⟩
theorem amt:(["_law_worth","_law_told_here"]:List Str).Nodup:=by decide +kernel
noncomputable def qT:{ B:RO // ZR CLSingles "_law_singles" Jo QX 8 (qi (QD (jO Jo) 0)) B }:=
 ⟨_,fun P w K mg base f Kc A Ko s H E C hr=>
  (jd (jy 2 Qv.nd (ji C.c_LCounts hr (by decide) (ja (jb 1) je) (jc jg)))
  (jd (jy 3 Qv.nd (afu (Jl (zc hr.units) (jY (aiY rfl) C.t.max QB (ja (Jq ["_law_worth","_law_told_here"] [none,some 2] rfl (aa9 (jb 2)) (zq (jj Jo) QX (by decide +kernel))
   fun cl C' s0 H0 fp pn=>⟨(jG 0 amt),zZ,(ZL hr.units1 (jb 1) (jb 0))⟩) je)) jf) (aft (Jl Zc (jY (aox rfl) C.t.max QB (ja (jb 2) je)) (jR (jb 1) jf)))))
  (jd (j1 (jK (zA hr.units) (ji C.c_LTold hr (by decide) (ja jf (ja (jb 1) (ja (jb 1) (ja jf (ja jf je))))) (jc (jc (jc (jc (jc jg)))))) (jb 3)) (jd (jv JJ)
  jh) jh)
  jh)))⟩
noncomputable def aau:{ B:RO // zl CLSingles "_law_singles" Jo QX 8 B }:=
 ⟨_,fun P w K mg base f Kc A Ko s H E C hr=>
  (jd (zM PassesOwn.never rfl (Jr (zi (ja (jb 0) (ja (zN 2 (.tuple [.int 1,.int 1,.int 1,.int 3]) (by kernel_rfl)) (ja (zN 2 (.tuple [.int 1,.int 5,.int 4,.int 10]) (by kernel_rfl)) (ja (zN 2 (.tuple [.int 1,.int 5,.int 5,.int 10]) (by kernel_rfl)) je)))))) (jG 1 Qv.nd) (qT.2 P w K mg base f Kc A Ko s H E C hr))
  (jd (jv JJ)
  jh))⟩
noncomputable def QY:LP->OP:=jx QX 1 aau.1
noncomputable abbrev afS:Stmt:=top 58
structure CLaw(P:Program)(w:World)(K:Fg)(mg:SV)(base:Heap):Prop where
 t:Bare mg
 c_manner:jl P w K mg base "_law_manner" ["_law_script","_law_at"] 3 2 Zm
 c_drawn:jl P w K mg base "_law_drawn" ["_law_script","_law_k","_law_many"] 2 3 Qe
 c_turned:jl P w K mg base "_law_turned" ["_law_script","_law_manner_here"] 4 2 ag0
 c_LCounts:jl P w K mg base "_law_counts" ["_law_manner_here"] 2 1 Qg
 c_LTold:jl P w K mg base "_law_told" ["_law_way","_law_one","_law_other","_law_rods_here","_law_number"] 8 5 jT
 c_LSingles:jl P w K mg base "_law_singles" ["_law_one"] 9 1 QY
 c_LRods:jl P w K mg base "_law_rods" ["_law_manner_here"] 1 1 aaQ
 c_LLeast:jl P w K mg base "_law_least" ["_law_manner_here","_law_rods_here","_law_most"] 3 3 Zo
 c_LRefuses:jl P w K mg base "_law_refuses" ["_law_one","_law_other","_law_rods_here","_law_odd"] 9 4 QW
noncomputable abbrev aip:List Str:=["_law_script","_law_one","_law_other","_law_way","_law_mine","_law_yours","_law_unlike","_law_due","_law_rods_here","_law_most","_law_here","_law_there","_law_number","_law_more","_law_odd"]
theorem qQ:FnScope aip ["_law_script"] (jj afS):=⟨rfl,rfl,rfl,by decide +kernel,rfl,by decide +kernel,by decide +kernel⟩
theorem amu:(["_law_worth","_law_mine","_law_yours"]:List Str).Nodup:=by decide +kernel
theorem ag3:(["_law_number","_law_here","_law_there"]:List Str).Nodup:=by decide +kernel
noncomputable def ag4:{ B:RO // ZR CLaw "law" afS aip 9 (qi (QD (jO afS) 18)) B }:=
 ⟨_,fun P w K mg base f Kc A Ko s H E C hr=>
  (jd (j1 (jK (zA hr.units) (ji C.c_LTold hr (by decide) (ja jf (ja (jb 1) (ja (jb 2) (ja (jb 8) (ja (jb 12) je))))) (jc (jc (jc (jc (jc jg)))))) (Jl (zA hr.units) (jR (Jb hr.units1 (jb 10) (jb 12) (zN 2 (.tuple [.int 0]) (by kernel_rfl))) jf) (jR (Jb hr.units1 (jb 11) (jb 12) (zN 2 (.tuple [.int 0]) (by kernel_rfl))) jf))) (jd (jv JJ)
  jh) jh)
  jh)⟩
noncomputable def amv:{ B:RO // zl CLaw "law" afS aip 9 B }:=
 ⟨_,fun P w K mg base f Kc A Ko s H E C hr=>
  (jd (jy 1 qQ.nd (ji C.c_manner hr (by decide) (ja (jb 0) (ja jf je)) (jc (jc jg))))
  (jd (jy 2 qQ.nd (ji C.c_manner hr (by decide) (ja (jb 0) (ja jf je)) (jc (jc jg))))
  (jd (jy 3 qQ.nd (ji C.c_drawn hr (by decide) (ja (jb 0) (ja jf (ja jf je))) (jc (jc (jc jg)))))
  (jd (j1 (jK (zc hr.units) (jb 3) jf) (jd (jy 2 qQ.nd (jb 1))
  jh) jh)
  (jd (j1 (zY (Z7 (jK (zc hr.units) (jb 3) jf) (ZD (jK Zc (jR (jb 1) jf) jf)))) (jd (jy 2 qQ.nd (jn jz (jn jz (abe (jb 1) jf) (zi (ja (jn jz (jR (jb 1) jf) jf) je))) (aid (jb 1) jf)))
  jh) jh)
  (jd (j1 (jK (zc hr.units) (jb 3) jf) (jd (jy 2 qQ.nd (ji C.c_turned hr (by decide) (ja (jb 0) (ja (jb 1) je)) (jc (jc jg))))
  jh) jh)
  (jd (j1 (jK (zc hr.units) (jb 3) jf) (jd (jy 2 qQ.nd (jn jz (abe (jb 1) jf) (zi (ja (jY (acy rfl) C.t.max QB (ja jf (ja (jn Qo (jR (jb 1) jf) jf) je))) je))))
  jh) jh)
  (jd (jy 4 qQ.nd (ji C.c_LCounts hr (by decide) (ja (jb 1) je) (jc jg)))
  (jd (jy 5 qQ.nd (ji C.c_LCounts hr (by decide) (ja (jb 2) je) (jc jg)))
  (jd (adq 6 ["_law_worth","_law_mine","_law_yours"] [none,some 4,some 5] rfl qQ.nd (Jr (jY alY C.t.sorted akk (ja (jn jz (Z8 (agO rfl) C.t.list ai2 (ja (jb 4) je)) (Z8 (agO rfl) C.t.list ai2 (ja (jb 5) je))) je))) (zq (jj afS) aip (by decide +kernel))
   fun cl C' s0 H0 fp pn=>⟨(jG 0 amu),(aaZ (jK (zA hr.units) (Jb hr.units1 (jb 1) (jb 0) jf) (Jb hr.units1 (jb 2) (jb 0) jf))),(jb 0)⟩)
  (jd (j1 (jK (zA hr.units) (ji C.c_LTold hr (by decide) (ja jf (ja (jb 1) (ja (jb 2) (ja jf (ja jf je))))) (jc (jc (jc (jc (jc jg)))))) (afu (Jl (zc hr.units) (jR (jb 1) jf) (jR (jb 2) jf)) (aft (Jl (zc hr.units) (jb 6) (qN je))))) (jd (jv JJ)
  jh) jh)
  (jd (jy 7 qQ.nd (arO (jK (zA hr.units) (jR (jb 1) jf) (jR (jb 2) jf)) (zN 2 (.tuple [.str "refused",.int 2]) (by kernel_rfl)) (jR (jn jz (jb 6) (zN 2 (.list [.none]) (by kernel_rfl))) jf)))
  (jd (j1 (jK (zA hr.units) (ji C.c_LTold hr (by decide) (ja jf (ja (jb 1) (ja (jb 2) (ja jf (ja jf je))))) (jc (jc (jc (jc (jc jg)))))) (jb 7)) (jd (jv JJ)
  jh) jh)
  (jd (j1 (zn (ze (ji C.c_LSingles hr (by decide) (ja (jb 1) je) (jc jg)))) (jd (jv JJ)
  jh) jh)
  (jd (jy 8 qQ.nd (jn jz jf (ji C.c_drawn hr (by decide) (ja (jb 0) (ja jf (ja (jn jz jf (Z8 ama C.t.int amc (ja (Jl Zc (jY (acy rfl) C.t.max QB (ja (jY ZE C.t.len ZP (ja (ji C.c_LRods hr (by decide) (ja (jb 1) je) (jc jg)) je)) (ja (jY ZE C.t.len ZP (ja (ji C.c_LRods hr (by decide) (ja (jb 2) je) (jc jg)) je)) je))) jf) je))) je))) (jc (jc (jc jg))))))
  (jd (jy 9 qQ.nd (ji C.c_drawn hr (by decide) (ja (jb 0) (ja jf (ja jf je))) (jc (jc (jc jg)))))
  (jd (jy 10 qQ.nd (ji C.c_LLeast hr (by decide) (ja (jb 1) (ja (jb 8) (ja jf je))) (jc (jc (jc jg)))))
  (jd (jy 11 qQ.nd (ji C.c_LLeast hr (by decide) (ja (jb 2) (ja (jb 8) (ja jf je))) (jc (jc (jc jg)))))
  (jd (zM PassesOwn.never rfl (Jr (zi (ja (jb 9) (ja (jn JY (jb 9) jf) (ja (jn JY (jb 9) jf) je))))) (jG 12 qQ.nd) (ag4.2 P w K mg base f Kc A Ko s H E C hr))
  (jd (adq 13 ["_law_number","_law_here","_law_there"] [none,some 10,some 11] rfl qQ.nd (qH rfl C.t.range (ja (jn jz (jb 9) jf) je)) (zq (jj afS) aip (by decide +kernel))
   fun cl C' s0 H0 fp pn=>⟨(jG 0 ag3),(aaZ (zY (Z7 (aab (afr hr.units1 (jb 0) (jb 1))) (ZD (aab (afr hr.units1 (jb 0) (jb 2))))))),(jb 0)⟩)
  (jd (adq 13 ["_law_number","_law_here","_law_there"] [none,some 10,some 11] rfl qQ.nd (Jr (jb 13)) (zq (jj afS) aip (by decide +kernel))
   fun cl C' s0 H0 fp pn=>⟨(jG 0 ag3),(aaZ (jK alp (jR (ZL hr.units1 (jb 1) (jb 0)) jf) (jR (ZL hr.units1 (jb 2) (jb 0)) jf))),(jb 0)⟩)
  (jd (j1 (jK (zA hr.units) (ji C.c_LTold hr (by decide) (ja jf (ja (jb 1) (ja (jb 2) (ja (jb 8) (ja (jb 9) je))))) (jc (jc (jc (jc (jc jg)))))) (jR (jn jz (jb 13) (zN 2 (.list [.none]) (by kernel_rfl))) jf)) (jd (jv JJ)
  jh) jh)
  (jd (jy 14 qQ.nd (jR (qN (ja (afm jf) (ja jf (ja adb (ja JJ je))))) (ji C.c_drawn hr (by decide) (ja (jb 0) (ja jf (ja jf je))) (jc (jc (jc jg))))))
  (jd (jv (ji C.c_LRefuses hr (by decide) (ja (jb 1) (ja (jb 2) (ja (jb 8) (ja (jb 14) je)))) (jc (jc (jc (jc jg))))))
  jh))))))))))))))))))))))))⟩
noncomputable def aoK:LP->OP:=jx aip 1 amv.1
theorem qj(i a b:Int):j0 [.int i,.int a,.int b]=some (.bool (decide (a<=i)&&decide (i<=b))):=by
 by_cases h:a<=i<;>simp[j0,jx,abl,jE,jH,ifS,orB,tst,lkp,acq,tyn,asB,Ql,chn,qR,qK,qC,h]
theorem Zp(u e l b x y:Int)(h:-18446744073709551616<x/\x<18446744073709551616):qe [.tuple [.int u,.int e,.int l,.int b],.tuple [.int x,.int y]]=some (.int (x*e+y)):=by
 simp[qe,jx,abT,jE,jH,op2,lkp,dIx,atI,ixN,qK,qC,cst,JL,qD,h]
theorem akp(x y:Int):abU [.tuple [.int x,.int y]]=some (.int (x+y)):=by
 simp[abU,jx,ail,jE,jH,op2,lkp,dIx,atI,ixN,qK,qC,cst,qD]
noncomputable def okN(u e l b:Int):Bool:=decide (0<=u)&&decide (u<=3)&&decide (1<=e)&&decide (e<=16)&&decide (u=0∨e<=5/\e-1<=l)&&decide (1<=l)&&decide (l<=11)&&decide (2<=b)&&decide (b<=16)&&decide (b<=u*e+l+1)
noncomputable def jF(u l:Int):LP:=zH (u+1).toNat (l+1).toNat
noncomputable def jr(e:Int):PyData->Int
 |.tuple [.int x,.int y]=>x*e+y
 |_=>-1
noncomputable def pr(p:Int×Int):PyData:= .tuple [.int p.1,.int p.2]
noncomputable def qA(ps:List (Int×Int)):PyData:= .tuple (ps.map pr)
noncomputable def okP(u l:Int)(p:Int×Int):Bool:=decide (0<=p.1)&&decide (p.1<=u)&&decide (0<=p.2)&&decide (p.2<=l)
noncomputable def wt(e:Int)(p:Int×Int):Int:=p.1*e+p.2
noncomputable def val(b e:Int)(ps:List (Int×Int)):Int:=ps.foldl (fun n p=>n*b+wt e p) 0
noncomputable def bds(ps:List (Int×Int)):Int:=(ps.map fun p=>p.1+p.2).sum
noncomputable def aoL(e:Int):List Int->LP->List Int
 |c,[]=>c
 |c,r::rs=>aoL e (c.set (jr e r).toNat (c.getD (jr e r).toNat 0+1)) rs
noncomputable def Qm(u e l:Int):List Int:=aoL e (List.replicate (u*e+l+1).toNat 0) (jF u l)
noncomputable def cnt(u e l n:Int):Int:=((jF u l).filter fun r=>jr e r==n).length
noncomputable def okM(u e l b:Int):Bool:=decide (0<=u)&&decide (u<=3)&&decide (1<=e)&&decide (e<=5)&&decide (e-1<=l)&&decide (1<=l)&&decide (l<=10)&&decide (2<=b)&&decide (b<=16)&&decide (b<=u*e+l+1)
theorem ab4{n m:Nat}{d:PyData}(h:d∈zH n m):∃i j:Nat,i<n/\j<m/\d= .tuple [.int i,.int j]:=by
 obtain⟨i,hi,hd⟩:=List.mem_flatMap.mp h;obtain⟨j,hj,rfl⟩:=List.mem_map.mp hd;exact⟨i,j,List.mem_range.mp hi,List.mem_range.mp hj,rfl⟩
theorem aav(i:Int):okD (.int i)=true:=by simp[okD,PyData.canLay0,PyData.depth]
theorem JB{u e l b:Int}(hu:0<=u)(hu':u<100)(hl:0<=l)(hl':l<100):qX [jk u e l b]=some (.list (jF u l)):=by
 simp[qX,jk,jF,hu,hl,show u<1000 by omega,show l<1000 by omega]
theorem abz{u l:Int}(hu':u<100)(hl':l<100):few (jF u l)=true:=by
 simp only[few,jF,ZQ,decide_eq_true_eq];have:(u+1).toNat*(l+1).toNat<=100*100:=Nat.mul_le_mul (by omega) (by omega);omega
theorem aaw{u e l b:Int}(hu':u<100){d:PyData}(h:d∈jF u l):qe [jk u e l b,d]=some (.int (jr e d)):=by
 obtain⟨i,j,hi,hj,rfl⟩:=ab4 h;exact Zp u e l b i j (by omega)
theorem aaR{α:Type}(f:α->Int):∀xs:List α,j5 (xs.map fun d=>PyData.int (f d))=some (xs.map f)
 | []=>rfl
 |x::xs=>by simp[j5,ad9,aaR f xs]
theorem ag5(ns:List Int):okD (.list (ns.map PyData.int))=true:=by
 have h1:∀ns:List Int,PyData.canLayAll0 (ns.map PyData.int)=true:=fun ns=>by
  induction ns with
  |nil=>rfl
  |cons n ns ih=>simp[PyData.canLayAll0,PyData.canLay0,ih]
 have h2:∀ns:List Int,PyData.depthAll (ns.map PyData.int)=0:=fun ns=>by
  induction ns with
  |nil=>rfl
  |cons n ns ih=>simp[PyData.depthAll,PyData.depth,ih]
 simp[okD,PyData.canLay0,h1,PyData.depth,h2]
theorem amw(ns:List Int)(d:Int):(ns.map PyData.int).any (fun z=>PyData.eqv z (.int d))=ns.any (fun z=>z==d):=by
 induction ns with
 |nil=>rfl
 |cons n ns ih=>simp only[List.map_cons,List.any_cons,ih];rfl
theorem ajd{α:Type}(f:α->Bool):∀xs:List α,bls (xs.map fun d=>PyData.bool (f d))=some (xs.map f)
 | []=>rfl
 |x::xs=>by simp[bls,asB,ajd f xs]
theorem ix0(u e l b:Int):dIx (jk u e l b) (.int 0)=some (.int u):=rfl
theorem ix1(u e l b:Int):dIx (jk u e l b) (.int 1)=some (.int e):=rfl
theorem ix2(u e l b:Int):dIx (jk u e l b) (.int 2)=some (.int l):=rfl
theorem ix3(u e l b:Int):dIx (jk u e l b) (.int 3)=some (.int b):=rfl
theorem abA{j:Int}(h:0<=j)(h':j<1000000):Zx [.int j]=some (zj 0 j.toNat):=by
 unfold Zx;exact if_pos (by omega)
theorem aax(a b:Int):PyData.eqv (.int a) (.int b)=(a==b):=by unfold PyData.eqv;rfl
theorem adL{u e l b:Int}(hu:0<=u)(hu':u<100)(hl:0<=l)(hl':l<100)(hb:0<=b)(hb':b<100):abn [jk u e l b]=some (.bool ((List.range b.toNat).all fun d=>((jF u l).map (jr e)).any fun z=>z==(d:Int))):=by
 have h1:=JB (e:=e) (b:=b) hu hu' hl hl';have h2:=abz hu' hl';have h4:few (zj 0 b.toNat)=true:=by simp[few,zj];omega
 simp only[abn,jx,afE,jE,jH,qK,zG,itL,jA,jm,jw,lkp,Za,List.length_cons,List.length_nil,zzM,List.map_cons,List.map_nil,List.cons_append,List.nil_append,zzA,zzC,zzD,zzE,h1,h2,abO,qV];rw[aaa (fun d=> .int (jr e d))]
 ·simp only[jB,qC,op2,cst,lkp,zzD,zzE,zzF,zzG,List.replicate,List.length_cons,List.length_nil,zzA,zzB,zzC,ix3,abA hb (show b<1000000 by omega),h4,zzM]
  rw[aaa (fun d=> .bool (((jF u l).map (jr e)).any fun z=>z==(ad9 d).getD 0))]
  ·have:(zj 0 b.toNat).map (fun d=>PyData.bool (((jF u l).map (jr e)).any fun z=>z==(ad9 d).getD 0))=(List.range b.toNat).map fun (d:Nat)=>PyData.bool (((jF u l).map (jr e)).any fun z=>z==(d:Int)):=by
    simp[zj,ad9,Function.comp_def]
   simp only[zzE,zzD,this,aqy,ajd (fun (d:Nat)=>((jF u l).map (jr e)).any fun z=>z==(d:Int)),List.all_map,Function.comp_def,id]
  ·intro d hd
   obtain⟨k,_,rfl⟩:=List.mem_map.mp hd;have h5:(jF u l).map (fun d=>PyData.int (jr e d))=((jF u l).map (jr e)).map PyData.int:=by simp
   have h6:=ag5 ((jF u l).map (jr e));simp only[op2,lkp,zzG,zzA,zzB,zzC,zzD,dIn,aav,h5,h6,amw];simp[ad9]
 ·intro d hd
  simp[jA,jm,jw,lkp,aaw (b:=b) (e:=e) hu' hd]
theorem afT{u e l b:Int}(hu:0<=u)(hu':u<=3)(he:1<=e)(he':e<=16)(hl:0<=l)(hl':l<=12)(hb:2<=b)(hb':b<=16):qO [jk u e l b]=abn [jk u e l b]:=by
 have g:=adL (e:=e) hu (by omega) hl (by omega) (show 0<=b by omega) (by omega);have w1:j0 [.int u,.int 0,.int 3]=some (.bool true):=by rw[qj];simp[hu,hu']
 have w2:j0 [.int e,.int 1,.int 16]=some (.bool true):=by rw[qj];simp[he,he']
 have w3:j0 [.int l,.int 0,.int 12]=some (.bool true):=by rw[qj];simp[hl,hl']
 have w4:j0 [.int b,.int 2,.int 16]=some (.bool true):=by rw[qj];simp[hb,hb']
 have z:aiW [jk u e l b,.tuple [.int 0,.int 1,.int 0,.int 2],.tuple [.int 3,.int 16,.int 12,.int 16]]=some [.tuple [.int u,.int 0,.int 3],.tuple [.int e,.int 1,.int 16],.tuple [.int l,.int 0,.int 12],.tuple [.int b,.int 2,.int 16]]:=rfl;rw[g];rw[show jk u e l b= .tuple [.int u,.int e,.int l,.int b] from rfl]at g z ⊢;simp[qO,jx,QN,jE,jH,ifS,orB,Ql,tst,acq,tyn,asB,lkp,op2,jA,jm,jw,afi,cst,dNe,aav,aax,qC,Jm,z,jC,aaH,qB,Q9,jB,w1,w2,w3,w4,qK,g]
theorem Jp{m:PyData}(h:qO [m]=some (.bool true)):qP [m]=some .none:=by
 simp[qP,jx,afF,jE,jH,ifS,Ql,tst,asB,jA,jm,jw,lkp,h,qC]
theorem aoM:few []=true:=by simp[few]
theorem add_int(i j:Int):qD (.int i) (.int j)=some (.int (i+j)):=rfl
theorem qx{i j:Int}(h:-1000000000000<i/\i<1000000000000):JL (.int i) (.int j)=some (.int (i*j)):=by
 unfold JL;exact if_pos (.inl ⟨by omega,by omega⟩)
theorem abB{i j:Int}(h:0<j):alo (.int i) (.int j)=some (.int (i % j)):=by unfold alo;exact if_pos h
theorem Qh{i j:Int}(h:0<j)(h':j<1000000000):aa0 (.int i) (.int j)=some (.int (i / j)):=by unfold aa0;exact if_pos ⟨h,by omega⟩
theorem amx(ns:List Int)(hn:ns.length<1000000)(k:Int)(hk:0<=k):∃c,agZ [scr ns,.int k]=some (.int c):=by
 cases ns with
 | nil=>
  refine⟨7*k,?_⟩;simp[agZ,jx,aja,jE,jH,ifS,tst,op2,lkp,aaY,jw,few,dEq,scr,Jv,asB,qK,cst,qx,qC]
 | cons n ns=>
  have hl:0<(((n::ns).map fun n=>(PyData.int n,PyData.none)).length:Int):=by simp
  have hl':(((n::ns).map fun n=>(PyData.int n,PyData.none)).length:Int)<1000000:=by simp at hn ⊢;omega
  have hsc:=aeu (n::ns)
  have e1:dEq (scr (n::ns)) (.list [])=some (.bool false):=by
   show(if Jv ((n::ns).map fun n=>(PyData.int n,PyData.none))=true then some (PyData.bool ((n::ns).map fun n=>(PyData.int n,PyData.none)).isEmpty) else none)=_;rw[if_pos hsc];rfl
  have e2:afi [scr (n::ns)]=some (.int (((n::ns).map fun n=>(PyData.int n,PyData.none)).length)):=by
   show(if Jv ((n::ns).map fun n=>(PyData.int n,PyData.none))=true then some (PyData.int ((n::ns).map fun n=>(PyData.int n,PyData.none)).length) else none)=_;rw[if_pos hsc]
  generalize hL:(((n::ns).map fun n=>(PyData.int n,PyData.none)).length:Int)=L at*;have h0:0<=k % L:=Int.emod_nonneg _ (by omega);have h1:k % L<L:=Int.emod_lt_of_pos _ hl
  have e3:∃c,dIx (scr (n::ns)) (.int (k % L))=some (.int c):=by
   have hlen:((n::ns).map fun n=>(PyData.int n,PyData.none)).length<1000000:=by omega
   have hlt:(k % L).toNat<((n::ns).map fun n=>(PyData.int n,PyData.none)).length:=by omega
   have hx:ixN ((n::ns).map fun n=>(PyData.int n,PyData.none)).length (k % L)=some (k % L).toNat:=amh h0 hlt;refine⟨((n::ns)[(k % L).toNat]'(by simpa using hlt)),?_⟩;show(if ((n::ns).map fun n=>(PyData.int n,PyData.none)).length<1000000/\Jv ((n::ns).map fun n=>(PyData.int n,PyData.none))=true then (atI ((n::ns).map fun n=>(PyData.int n,PyData.none)) (k % L)).map (·.1) else none)=_;rw[if_pos ⟨hlen,hsc⟩];unfold atI;rw[hx,zzD,List.getElem?_eq_getElem hlt,zzE,List.getElem_map]
  obtain⟨c,e3⟩:=e3;refine⟨c+6553*(k / L),?_⟩;simp[agZ,jx,aja,jE,jH,ifS,tst,op2,lkp,aaY,jw,few,asB,qK,cst,qC,jA,jm,e1,e2,e3,abB hl,Qh hl (show L<1000000000 by omega),qx,add_int]
theorem za(ns:List Int)(hn:ns.length<1000000)(k m:Int)(hk:0<=k)(hm:0<m):∃r,Qe [scr ns,.int k,.int m]=some (.int r)/\0<=r/\r<m:=by
 obtain⟨c,hc⟩:=amx ns hn k hk;generalize h1:(c % 2147483563*69069+104723*(k+1)) % 2147483563=a;generalize h2:(a*a+a / 3) % 2147483399=d;have ha:0<=a/\a<2147483563:=by rw[←h1];exact⟨Int.emod_nonneg _ (by omega),Int.emod_lt_of_pos _ (by omega)⟩
 have hd:0<=d/\d<2147483399:=by rw[←h2];exact⟨Int.emod_nonneg _ (by omega),Int.emod_lt_of_pos _ (by omega)⟩
 have hc':0<=c % 2147483563/\c % 2147483563<2147483563:=⟨Int.emod_nonneg _ (by omega),Int.emod_lt_of_pos _ (by omega)⟩;refine⟨(d*d+d / 7) % 2147483647 / 11 % m,?_,Int.emod_nonneg _ (by omega),Int.emod_lt_of_pos _ hm⟩;have m1:JL (.int (c % 2147483563)) (.int 69069)=some (.int (c % 2147483563*69069)):=qx (by omega);have m2:JL (.int 104723) (.int (k+1))=some (.int (104723*(k+1))):=qx (by omega);have m3:JL (.int a) (.int a)=some (.int (a*a)):=qx (by omega);have m4:JL (.int d) (.int d)=some (.int (d*d)):=qx (by omega);simp[Qe,jx,ain,jE,jH,qV,jB,op2,lkp,jw,qK,cst,qC,jA,jm,hc,m1,m2,m3,m4,abB,Qh,add_int,h1,h2,hm]
theorem amy(w:Int)(h0:0<=w)(h:w<12):∃u e l b,dIx (.list (abX++abY)) (.int w)=some (jk u e l b)/\okM u e l b=true:=by
 obtain⟨n,rfl⟩:=Int.eq_ofNat_of_zero_le h0;have hn:n<12:=by omega
 have:∀n<12,∃u e l b,dIx (.list (abX++abY)) (.int (n:Nat))=some (jk u e l b)/\okM u e l b=true:=by
  intro n hn
  match n,hn with
  |0,_=>exact⟨_,_,_,_,rfl,by decide⟩
  |1,_=>exact⟨_,_,_,_,rfl,by decide⟩
  |2,_=>exact⟨_,_,_,_,rfl,by decide⟩
  |3,_=>exact⟨_,_,_,_,rfl,by decide⟩
  |4,_=>exact⟨_,_,_,_,rfl,by decide⟩
  |5,_=>exact⟨_,_,_,_,rfl,by decide⟩
  |6,_=>exact⟨_,_,_,_,rfl,by decide⟩
  |7,_=>exact⟨_,_,_,_,rfl,by decide⟩
  |8,_=>exact⟨_,_,_,_,rfl,by decide⟩
  |9,_=>exact⟨_,_,_,_,rfl,by decide⟩
  |10,_=>exact⟨_,_,_,_,rfl,by decide⟩
  |11,_=>exact⟨_,_,_,_,rfl,by decide⟩
  |k+12,h=>omega
 exact this n hn
theorem adM(ns:List Int)(hn:ns.length<1000000)(k:Int)(hk:0<=k):∃u e l b,Zm [scr ns,.int k]=some (jk u e l b)/\okM u e l b=true:=by
 obtain⟨w,hw,hw0,hw1⟩:=za ns hn k 24 hk (by omega);have a1:qD (.list abX) (.list abY)=some (.list (abX++abY)):=rfl;have a2:afi [.list (abX++abY)]=some (.int 12):=rfl;have a3:JL (.int 2) (.int 12)=some (.int 24):=rfl;by_cases hlt:w<12
 ·obtain⟨u,e,l,b,h1,h2⟩:=amy w hw0 hlt
  refine⟨u,e,l,b,?_,h2⟩;simp[Zm,jx,acJ,jE,jH,qV,jB,op2,lkp,jw,qK,cst,qC,jA,jm,ifS,tst,asB,a1,a2,a3,hw,qR,hlt,h1]
 ·obtain⟨r1,e1,p1,q1⟩:=za ns hn (k+1) 5 (by omega) (by omega)
  obtain⟨r2,e2,p2,q2⟩:=za ns hn (k+2) 4 (by omega) (by omega);obtain⟨r3,e3,p3,q3⟩:=za ns hn (k+3) 4 (by omega) (by omega);generalize hlo:(if (1:Int)>1+r1-1 then 1 else 1+r1-1)+r3=lo
  have hlo1:1<=lo/\r1<=lo/\lo<=10:=by
   rw[←hlo];split<;>omega
  have hue:0<=r2*(1+r1)/\r2*(1+r1)<=3*5:=⟨Int.mul_nonneg p2 (by omega),Int.mul_le_mul (by omega) (by omega) (by omega) (by omega)⟩;generalize hmn:(if r2*(1+r1)+lo<15 then r2*(1+r1)+lo else 15)=mn
  have hmn1:0<mn/\mn<=15/\mn<=r2*(1+r1)+lo:=by
   rw[←hmn];split<;>omega
  obtain⟨r4,e4,p4,q4⟩:=za ns hn (k+4) mn (by omega) (by omega);refine⟨r2,1+r1,lo,2+r4,?_,?_⟩
  ·have m1:JL (.int r2) (.int (1+r1))=some (.int (r2*(1+r1))):=qx (by omega)
   have x1:aa1 [.int (1+r1-1),.int 1]=some (.int (if (1:Int)>1+r1-1 then 1 else 1+r1-1)):=rfl;have x2:aca [.int 15,.int (r2*(1+r1)+lo)]=some (.int (if r2*(1+r1)+lo<15 then r2*(1+r1)+lo else 15)):=rfl;have x3:QJ (.int (1+r1)) (.int 1)=some (.int (1+r1-1)):=rfl;simp only[Zm,jx,acJ,jE,jH,qV,jB,op2,lkp,jw,qK,cst,qC,jA,jm,ifS,tst,asB,a1,a2,a3,hw,qR,hlt,zzD,zzE,zzF,zzG,List.replicate,List.length_cons,List.length_nil,zzM,List.map_cons,List.map_nil,List.cons_append,List.nil_append,zzA,zzB,zzC,add_int,e1,e2,e3,m1,x1,x2,x3,decide_false,hlo,hmn,e4];simp[e1,e2,e3,m1,x1,x2,x3,hlo,hmn,e4,add_int,lkp,QG,jm,jw,few,jk];simp only[QG,jm,jw,lkp,op2,jA,cst,zzD,zzE,zzA,zzB,zzC,add_int,m1,x2,hmn,e4];simp
  ·have:=hue.1
   simp[okM];omega
theorem amz{u e l b:Int}(hu:0<=u)(hu':u<100)(hl:0<=l)(hl':l<100):aaE [jk u e l b]=some (acr none ((jF u l).map (jr e))):=by
 have h1:=JB (e:=e) (b:=b) hu hu' hl hl';have h2:=abz hu' hl';simp only[aaE,jx,amg,jE,jH,qK,zG,itL,jA,jm,jw,lkp,Za,List.length_cons,List.length_nil,zzM,List.map_cons,List.map_nil,List.cons_append,List.nil_append,zzA,zzC,zzD,zzE,h1,h2,abO];rw[aaa (fun d=> .int (jr e d))]
 ·simp[aez,aaR]
 ·intro d hd
  simp[jA,jm,jw,lkp,aaw (b:=b) (e:=e) hu' hd]
theorem aje{u e l b:Int}(hu':u<100):∀(rs:LP) (c:List Int),(∀r∈rs,r∈jF u l/\0<=jr e r/\(jr e r).toNat<c.length)->aei (jk u e l b) c rs=some (aoL e c rs)
 | [],c,_=>rfl
 | r::rs,c,h=>by
  obtain⟨h1,h2,h3⟩:=h r List.mem_cons_self
  have ih:=aje hu' (b:=b) rs (c.set (jr e r).toNat (c.getD (jr e r).toNat 0+1)) fun q hq=>by
   obtain⟨a1,a2,a3⟩:=h q (List.mem_cons_of_mem _ hq);exact⟨a1,a2,by rw[List.length_set];exact a3⟩
  have hg:c[(jr e r).toNat]?=some (c.getD (jr e r).toNat 0):=by simp[List.getD,h3]
  unfold aei;rw[aaw (b:=b) (e:=e) hu' h1];simp only[h2,zzM,hg,ih,aoL]
noncomputable def isInt(t:Int):PyData->Bool
 |.int x=>x==t
 |_=>false
noncomputable def aqP(u e l:Int):Bool:=
 isInt (u*e+l) (acr none ((jF u l).map (jr e))) &&
 ((List.range (u*e+l+1).toNat).all fun n=>(jF u l).any fun r=>jr e r==(n:Int)) &&
 ((jF u l).all fun r=>decide (0<=jr e r)&&decide (jr e r<=u*e+l)) &&
 decide (Qm u e l=(List.range (u*e+l+1).toNat).map fun (n:Nat)=>cnt u e l n)
noncomputable def zh:Bool:=(List.range 4).all fun (i:Nat)=>(List.range 16).all fun (j:Nat)=>(List.range 11).all fun (k:Nat)=>decide (i≠0/\(4<j∨k+1<j))||aqP i (j+1) (k+1)
structure Chk(u e l:Int):Prop where
 most:acr none ((jF u l).map (jr e))= .int (u*e+l)
 dig:∀n:Nat,n<(u*e+l+1).toNat->((jF u l).any fun r=>jr e r==(n:Int))=true
 rng:∀r∈jF u l,0<=jr e r/\jr e r<=u*e+l
 lst:Qm u e l=(List.range (u*e+l+1).toNat).map fun (n:Nat)=>cnt u e l n
theorem aqQ{u e l:Int}(h:aqP u e l=true):Chk u e l:=by
 simp only[aqP,Bool.and_eq_true,List.all_eq_true,decide_eq_true_eq]at h;obtain⟨⟨⟨h1,h2⟩,h3⟩,h4⟩:=h;refine⟨?_,fun n hn=>h2 n (List.mem_range.mpr hn),fun r hr=>h3 r hr,h4⟩;generalize acr none ((jF u l).map (jr e))=x at h1;cases x<;>simp[isInt]at h1
 rw[h1]
theorem jQ{u e l b:Int}(h:okN u e l b=true):0<=u/\u<=3/\1<=e/\e<=16/\(0<=u*e/\u*e<=15)/\1<=l/\l<=11/\2<=b/\b<=16/\b<=u*e+l+1:=by
 simp only[okN,Bool.and_eq_true,decide_eq_true_eq]at h;obtain⟨⟨⟨⟨⟨⟨⟨⟨⟨h1,h2⟩,h3⟩,h4⟩,h5⟩,h6⟩,h7⟩,h8⟩,h9⟩,h10⟩:=h
 have q:0<=u*e/\u*e<=15:=by
  rcases h5 with z | ⟨z,_⟩
  ·rw[z,Int.zero_mul];omega
  ·exact⟨Int.mul_nonneg h1 (by omega),Int.le_trans (Int.mul_le_mul h2 z (by omega) (by omega)) (by decide)⟩
 exact⟨h1,h2,h3,h4,q,h6,h7,h8,h9,h10⟩
theorem amA{u e l b:Int}(h:okN u e l b=true):u=0∨e<=5/\e-1<=l:=by
 simp only[okN,Bool.and_eq_true,decide_eq_true_eq]at h;exact h.1.1.1.1.1.2
theorem Zq{u e l b:Int}(H:zh=true)(h:okN u e l b=true):Chk u e l:=by
 obtain⟨a1,a2,a3,a4,a5,a6,a7,_⟩:=jQ h;have a0:=amA h;simp only[zh,List.all_eq_true,Bool.or_eq_true,decide_eq_true_eq]at H;have:=H u.toNat (List.mem_range.mpr (by omega)) (e-1).toNat (List.mem_range.mpr (by omega)) (l-1).toNat (List.mem_range.mpr (by omega));rcases this with z | z
 ·exfalso;omega
 ·rw[show((u.toNat:Nat):Int)=u by omega,show(((e-1).toNat:Nat):Int)+1=e by omega,show(((l-1).toNat:Nat):Int)+1=l by omega]at z
  exact aqQ z
theorem acS{u e l b:Int}(h:okM u e l b=true):okN u e l b=true:=by
 simp only[okM,okN,Bool.and_eq_true,decide_eq_true_eq]at h ⊢;omega
theorem aqR{u e l b:Int}(H:zh=true)(h:okN u e l b=true){n:Int}(h0:0<=n)(hn:n<b):((jF u l).any fun r=>jr e r==n)=true:=by
 obtain⟨a1,a2,a3,a4,a5,a6,a7,a8,a9,a10⟩:=jQ h;have:=(Zq H h).dig n.toNat (by omega);rw[show((n.toNat:Nat):Int)=n by omega]at this;exact this
end Rods
theorem Rods.allN_true:Rods.zh=true:=by decide +kernel
namespace Rods
open PySem L2 BX
open PyProof.Rows hiding St
theorem jq{F G:RO}{ρ ρ1:Rho}(h:F ρ=some (.nx ρ1)):jH F G ρ=G ρ1:=by
 unfold jH;rw[h];rfl
theorem jP{N:List Str}{n:Nat}{B:RO}{ds:LP}{d:PyData}(hl:ds.length=n)(h:B (jE N ds)=some (.rt d)):jx N n B ds=some d:=by
 unfold jx;rw[if_pos hl,h]
theorem afU{b:Int}(hb:0<b):∀r:Nat,0<b ^ r
 |0=>by simp
 |r+1=>by rw[Int.pow_succ];exact Int.mul_pos (afU hb r) hb
theorem apH{b:Int}(h0:0<b)(h:b<=16):∀r:Nat,b ^ r<=16 ^ r
 |0=>by simp
 | r+1=>by
  rw[Int.pow_succ,Int.pow_succ];exact Int.mul_le_mul (apH h0 h r) h (by omega) (Int.le_of_lt (afU (by decide) r))
theorem aqS{b:Int}(h0:0<b)(h:b<=16){r:Nat}(hr:r<=4):b ^ r<=65536:=by
 have:r=0∨r=1∨r=2∨r=3∨r=4:=by omega
 have:=apH h0 h r;rcases ‹r=0∨_› with e | e | e | e | e<;>subst e<;>first | (exact Int.le_trans this (by decide))
theorem ZX(b e:Int)(ps:List (Int×Int))(p:Int×Int):val b e (ps++[p])=val b e ps*b+wt e p:=by simp[val]
section
variable {u e l b:Int}
theorem zu{u l:Int}{p:Int×Int}(h:okP u l p=true):0<=p.1/\p.1<=u/\0<=p.2/\p.2<=l:=by
 simp only[okP,Bool.and_eq_true,decide_eq_true_eq]at h;exact⟨h.1.1.1,h.1.1.2,h.1.2,h.2⟩
theorem ajf{e u l:Int}(he:1<=e){p:Int×Int}(h:okP u l p=true):0<=wt e p:=by
 obtain⟨h1,h2,h3,h4⟩:=zu h;have:=Int.mul_nonneg h1 (show 0<=e by omega);unfold wt;omega
theorem apI{e u l:Int}(he:1<=e)(he5:u*e<=15)(hu:u<=3)(hl:l<=11){p:Int×Int}(h:okP u l p=true):wt e p<=26:=by
 obtain⟨h1,h2,h3,h4⟩:=zu h;have:p.1*e<=u*e:=Int.mul_le_mul_of_nonneg_right h2 (by omega);unfold wt;omega
theorem ajg{b e u l:Int}(h2:2<=b)(hb:b<=16)(he:1<=e)(he5:u*e<=15)(hu:u<=3)(hl:l<=11):∀(ps:List (Int×Int)) (acc:Int),ps.all (okP u l)=true->0<=acc->0<=ps.foldl (fun n p=>n*b+wt e p) acc/\ps.foldl (fun n p=>n*b+wt e p) acc+30<=(acc+30)*16 ^ ps.length
 | [],acc,_,h=>⟨h,by simp⟩
 | p::ps,acc,hp,h=>by
  rw[List.all_cons,Bool.and_eq_true]at hp;have w0:=ajf he hp.1;have w1:=apI he he5 hu hl hp.1;have ha:0<=acc*b:=Int.mul_nonneg h (by omega);have hb2:acc*b<=acc*16:=Int.mul_le_mul_of_nonneg_left hb h;obtain⟨h1,h3⟩:=ajg h2 hb he he5 hu hl ps (acc*b+wt e p) hp.2 (by omega);refine⟨h1,Int.le_trans h3 ?_⟩;rw[List.length_cons,Int.pow_succ,Int.mul_comm (16 ^ ps.length) 16,←Int.mul_assoc];refine Int.mul_le_mul_of_nonneg_right ?_ (Int.le_of_lt (afU (by decide) _));omega
theorem aiq(h:okN u e l b=true){ps:List (Int×Int)}(hp:ps.all (okP u l)=true):0<=val b e ps:=by
 obtain⟨a1,a2,a3,a4,a5,a6,a7,a8,a9,a10⟩:=jQ h;exact(ajg a8 a9 a3 a5.2 a2 a7 ps 0 hp (by omega)).1
end
theorem zf{ds:LP}(h:ds.length<10000):few ds=true:=by
 rw[few];refine decide_eq_true ?_;omega
theorem ag6{u e l b:Int}(H:zh=true)(h:okN u e l b=true):qO [jk u e l b]=some (.bool true):=by
 obtain⟨a1,a2,a3,a4,a5,a6,a7,a8,a9,a10⟩:=jQ h;rw[afT a1 a2 a3 (by omega) (by omega) (by omega) a8 a9,adL a1 (by omega) (by omega) (by omega) (by omega) (by omega)]
 congr 2
 refine List.all_eq_true.mpr fun d hd=>?_;have:=aqR H h (n:=(d:Int)) (by omega) (by have:=List.mem_range.mp hd;omega);simpa[List.any_map,Function.comp_def]using this
section
variable {u e l b:Int}{ps qs:List (Int×Int)}
theorem ag7(h:okN u e l b=true){S:PyData}:∀(qs:List (Int×Int)) (acc:Int) (x:OP),qs.all (okP u l)=true->0<=acc->(acc+30)*16 ^ qs.length<=1000000000->
  ∃y,jC (jB 3) afH.1 (qs.map pr) [some (jk u e l b),some S,some (.int acc),x]=some (.nx [some (jk u e l b),some S,some (.int (qs.foldl (fun n p=>n*b+wt e p) acc)),y])
 | [],acc,x,_,_,_=>⟨x,rfl⟩
 | q::qs,acc,x,hq,h0,hB=>by
  obtain⟨a1,a2,a3,a4,a5,a6,a7,a8,a9,a10⟩:=jQ h;rw[List.all_cons,Bool.and_eq_true]at hq;obtain⟨q1,q2,q3,q4⟩:=zu hq.1;have w0:=ajf a3 hq.1;have w1:=apI a3 a5.2 a2 a7 hq.1;have hp:=afU (b:=16) (by decide) qs.length;rw[List.length_cons,Int.pow_succ,Int.mul_comm (16 ^ qs.length) 16,←Int.mul_assoc]at hB;have ha:0<=acc*b:=Int.mul_nonneg h0 (by omega);have hb2:acc*b<=acc*16:=Int.mul_le_mul_of_nonneg_left a9 h0;have hB':(acc*b+wt e q+30)*16 ^ qs.length<=1000000000:=Int.le_trans (Int.mul_le_mul_of_nonneg_right (by omega) (Int.le_of_lt hp)) hB
  have hacc:acc<=1000000000:=by
   have h1:(acc+30)*16*1<=(acc+30)*16*16 ^ qs.length:=Int.mul_le_mul_of_nonneg_left (by omega) (by omega);omega
  have m1:JL (.int acc) (.int b)=some (.int (acc*b)):=qx ⟨by omega,by omega⟩;have w':qe [jk u e l b,pr q]=some (.int (wt e q)):=Zp u e l b q.1 q.2 (by omega)
  have step:afH.1 [some (jk u e l b),some S,some (.int acc),some (pr q)]=some (.nx [some (jk u e l b),some S,some (.int (acc*b+wt e q)),some (pr q)]):=by
   simp only[afH,jH,qV,op2,jA,jm,jw,lkp,cst,jB,zzA,zzB,zzC,zzD,zzE,ix3,m1,w',add_int,zzF,zzG,qC]
  obtain⟨y,hy⟩:=ag7 h (S:=S) qs (acc*b+wt e q) (some (pr q)) hq.2 (by omega) hB';refine⟨y,?_⟩;rw[List.map_cons];simp only[jC,jB,zzD,zzF,zzG,step];exact hy
theorem aoN(h:okN u e l b=true)(h4:ps.length<=4)(hp:ps.all (okP u l)=true):aoD [jk u e l b,qA ps]=some (.int (val b e ps)):=by
 have hB:(0+30:Int)*16 ^ ps.length<=1000000000:=by
  have:=aqS (b:=16) (by decide) (by decide) h4;omega
 obtain⟨y,hy⟩:=ag7 h (S:=qA ps) ps 0 none hp (by omega) hB;refine jP rfl ?_;show aoC.1 [some (jk u e l b),some (qA ps),none,none]=_;simp only[aoC];refine(jq (ρ1:=[some (jk u e l b),some (qA ps),some (.int 0),none]) ?_).trans ?_
 ·simp only[qV,cst,jB,zzD,zzE,zzF,zzG]
 refine(jq (ρ1:=[some (jk u e l b),some (qA ps),some (.int (val b e ps)),y]) ?_).trans ?_
 ·show(itT (lkp 1) _).bind _=_
  rw[show itT (lkp 1) [some (jk u e l b),some (qA ps),some (.int 0),none]=some (ps.map pr) from rfl];exact hy
 rfl
end
theorem amB{n:Int}(h0:0<=n)(h1:n<=99999):Qq [.int n]=some .none:=by
 have w:j0 [.int n,.int 0,.int 99999]=some (.bool true):=by rw[qj];simp[h0,h1]
 simp[Qq,jx,acC,jE,jH,ifS,Ql,tst,asB,jA,jm,jw,lkp,cst,w,qC]
theorem ag8{n:Int}(h0:1<=n)(h1:n<=4):qg [.int n]=some .none:=by
 have w:j0 [.int n,.int 1,.int 4]=some (.bool true):=by rw[qj];simp[h0,h1]
 simp[qg,jx,ZS,jE,jH,ifS,Ql,tst,asB,jA,jm,jw,lkp,cst,w,qC]
section
variable {u e l b:Int}{ps qs:List (Int×Int)}
theorem qk(i j:Int):dEq (.int i) (.int j)=some (.bool (decide (i=j))):=by
 have:(i==j)=decide (i=j):=rfl;simp only[dEq,aav,aax,and_self,zzM,this]
end
theorem ach:∀(a b:List Int),PyData.eqvAll (a.map .int) (b.map .int)=decide (a=b)
 | [],[]=>by simp[PyData.eqvAll]
 | [],_::_=>by simp[PyData.eqvAll]
 |_::_,[]=>by simp[PyData.eqvAll]
 | x::a,y::b=>by
  rw[List.map_cons,List.map_cons,PyData.eqvAll,aax,ach a b];by_cases h:x=y<;>by_cases h2:a=b<;>simp[h,h2]
theorem ag9(a b:List Int):dEq (.list (a.map .int)) (.list (b.map .int))=some (.bool (decide (a=b))):=by
 have h:PyData.eqv (.list (a.map .int)) (.list (b.map .int))=decide (a=b):=by rw[PyData.eqv,ach]
 unfold dEq;simp only[ag5,and_self,zzM,h]
theorem apJ{α:Type}(x:α):∀n:Nat,(List.replicate n [x]).flatten=List.replicate n x
 |0=>rfl
 |n+1=>by rw[List.replicate_succ,List.flatten_cons,apJ x n,List.replicate_succ];rfl
noncomputable def zy(u e l b:Int)(a:Nat):Int:=val b e (List.replicate a (u,l))
theorem amC{u e l b:Int}(h:okN u e l b=true)(a:Nat):(List.replicate a (u,l)).all (okP u l)=true:=by
 obtain⟨a1,a2,a3,a4,a5,a6,a7,a8,a9,a10⟩:=jQ h;refine List.all_eq_true.mpr fun p hp=>?_;rw[(List.mem_replicate.mp hp).2];simp only[okP,Bool.and_eq_true,decide_eq_true_eq];exact⟨⟨⟨a1,Int.le_refl _⟩,by omega⟩,Int.le_refl _⟩
theorem amD{u e l b:Int}(a:Nat)(ha:a<4):ami [jk u e l b,.int (a:Int)]=some (qA (List.replicate a (u,l))):=by
 refine jP rfl ?_;have f1:few [pr (u,l)]=true:=zf (by simp);have f2:few [PyData.int u,.int l]=true:=zf (by simp)
 have rp:alM (.tuple [.tuple [.int u,.int l]]) (.int (a:Int))=some (qA (List.replicate a (u,l))):=by
  show(if 0<[pr (u,l)].length/\[pr (u,l)].length<1000/\-1000<(a:Int)/\(a:Int)<1000 then some (PyData.tuple (List.replicate (a:Int).toNat [pr (u,l)]).flatten) else none)=_;rw[if_pos ⟨by simp,by simp,by omega,by omega⟩,apJ];simp[qA]
 have f1':few [PyData.tuple [.int u,.int l]]=true:=f1;generalize (a:Int)=aa at*;show ai3.1 [some (jk u e l b),some (.int aa)]=_;simp only[ai3,jH,qK,op2,QG,jm,jw,lkp,cst,zzA,zzB,zzC,zzD,zzE,ix0,ix2,f1',f2,zzM,rp]
noncomputable def zD(e n:Int)(r:PyData):Int:=n-jr e r
noncomputable def okL(e b m n:Int)(r:PyData):Bool:=decide (zD e n r % b=0)&&(decide (0<=zD e n r)&&decide (zD e n r<=b*m))
noncomputable def aci(e b n:Int)(r:PyData):PyData:= .tuple [r,.int (zD e n r / b)]
theorem aoO{u e l b m n:Int}(hu':u<100)(hb:0<b)(hb':b<100){A x7:OP}{ds:LP}(hds:ds.length<1000000){R:PyData}(nR:noL R=true){L:Int}:tst (op2 dEq (op2 alo (lkp 7) (lkp 3)) (cst (.int 0))) [some (jk u e l b),A,some (.int n),some (.int b),some (.int m),some (.list ds),some R,some (.int L)]=some (decide (L % b=0)):=by
 have mb:JL (.int b) (.int m)=some (.int (b*m)):=qx (by omega);have md:=fun x=>abB (i:=x) hb;have fd:=fun x=>Qh (i:=x) hb (by omega);have sb:∀x y:Int,QJ (.int x) (.int y)=some (.int (x-y)):=fun _ _=>rfl;have le:∀x y:Int,qR (fun i j=>decide (i<=j)) (.int x) (.int y)=some (.bool (decide (x<=y))):=fun _ _=>rfl;simp only[tst,op2,lkp,cst,zzA,zzB,zzC,zzD,md,qk,asB]
theorem aoP{u e l b m n:Int}(hu':u<100)(hb:0<b)(hb':b<100){A x7:OP}{ds:LP}(hds:ds.length<1000000){R:PyData}(nR:noL R=true){L:Int}:tst (chn (qR fun i j=>decide (i<=j)) (qR fun i j=>decide (i<=j)) (cst (.int 0)) (lkp 7) (op2 JL (lkp 3) (lkp 4))) [some (jk u e l b),A,some (.int n),some (.int b),some (.int m),some (.list ds),some R,some (.int L)]=some (decide (0<=L)&&decide (L<=b*m)):=by
 have mb:JL (.int b) (.int m)=some (.int (b*m)):=qx (by omega);have md:=fun x=>abB (i:=x) hb;have fd:=fun x=>Qh (i:=x) hb (by omega);have sb:∀x y:Int,QJ (.int x) (.int y)=some (.int (x-y)):=fun _ _=>rfl;have le:∀x y:Int,qR (fun i j=>decide (i<=j)) (.int x) (.int y)=some (.bool (decide (x<=y))):=fun _ _=>rfl;simp only[tst,chn,op2,lkp,cst,zzA,zzB,zzC,zzD,le,mb,asB];by_cases c2:0<=L
 ·simp[c2,asB]
 ·simp[c2,asB]
theorem aoQ{u e l b m n:Int}(hu':u<100)(hb:0<b)(hb':b<100){A x7:OP}{ds:LP}(hds:ds.length<1000000){R:PyData}(nR:noL R=true){L:Int}:acs 5 (aee 5 (QG (jm (lkp 6) (jm (op2 aa0 (lkp 7) (lkp 3)) jw)))) [some (jk u e l b),A,some (.int n),some (.int b),some (.int m),some (.list ds),some R,some (.int L)]=some (.nx [some (jk u e l b),A,some (.int n),some (.int b),some (.int m),some (.list (ds++[.tuple [R,.int (L / b)]])),some R,some (.int L)]):=by
 have mb:JL (.int b) (.int m)=some (.int (b*m)):=qx (by omega);have md:=fun x=>abB (i:=x) hb;have fd:=fun x=>Qh (i:=x) hb (by omega);have sb:∀x y:Int,QJ (.int x) (.int y)=some (.int (x-y)):=fun _ _=>rfl;have le:∀x y:Int,qR (fun i j=>decide (i<=j)) (.int x) (.int y)=some (.bool (decide (x<=y))):=fun _ _=>rfl;have hn:noL (.tuple [R,.int (L / b)])=true:=by simp[noL,noLs,nR]
 have hf2:few [R,PyData.int (L / b)]=true:=by simp[few]
 simp only[acs,aee,QG,jm,jw,op2,lkp,zzA,zzB,zzC,zzD,zzE,fd,hf2,zzM,aoj,hn,hds,and_self,zzF,zzG]
theorem air{u e l b m n:Int}(hu':u<100)(hb:0<b)(hb':b<100){A x7:OP}{ds:LP}(hds:ds.length<1000000){R:PyData}(nR:noL R=true){L:Int}(hL':n-jr e R=L)(hw:qe [jk u e l b,R]=some (.int (jr e R))):
  aal.1 [some (jk u e l b),A,some (.int n),some (.int b),some (.int m),some (.list ds),some R,x7]=
   some (.nx [some (jk u e l b),A,some (.int n),some (.int b),some (.int m),some (.list (ds++if (decide (L % b=0)&&(decide (0<=L)&&decide (L<=b*m)))=true then [.tuple [R,.int (L / b)]] else [])),some R,some (.int L)]):=by
 have sb:∀x y:Int,QJ (.int x) (.int y)=some (.int (x-y)):=fun _ _=>rfl;simp only[aal];refine(jq (ρ1:=[some (jk u e l b),A,some (.int n),some (.int b),some (.int m),some (.list ds),some R,some (.int L)]) ?_).trans ?_
 ·simp only[qV,brw,hid,op2,lkp,jA,jm,jw,zzF,zzG,zzA,zzB,zzC,zzD,zzE,hw,sb,jB,hL']
 ·have q1:=aoO (u:=u) (e:=e) (l:=l) (m:=m) (n:=n) hu' hb hb' (A:=A) (x7:=x7) hds nR (L:=L)
  have q2:=aoP (u:=u) (e:=e) (l:=l) (m:=m) (n:=n) hu' hb hb' (A:=A) (x7:=x7) hds nR (L:=L);have q3:=aoQ (u:=u) (e:=e) (l:=l) (m:=m) (n:=n) hu' hb hb' (A:=A) (x7:=x7) hds nR (L:=L);cases c1:decide (L % b=0)with
  |false=>simp only[jH,ifS,Zw,q1,c1,zzD,zzL,zzN,qC,Bool.false_and,List.append_nil]
  | true=>
   cases c2:(decide (0<=L)&&decide (L<=b*m))with
   |false=>simp only[jH,ifS,Zw,q1,q2,c1,c2,zzD,zzM,zzL,zzN,qC,Bool.and_false,List.append_nil]
   |true=>simp only[jH,ifS,Zw,q1,q2,q3,c1,c2,zzD,zzM,qC,Bool.and_self]
theorem akq{u e l b m n:Int}(hu':u<100)(hb:0<b)(hb':b<100){A x7:OP}{ds:LP}(hds:ds.length<1000000){r:PyData}(hr:r∈jF u l):
  aal.1 [some (jk u e l b),A,some (.int n),some (.int b),some (.int m),some (.list ds),some r,x7]=
   some (.nx [some (jk u e l b),A,some (.int n),some (.int b),some (.int m),some (.list (ds++if okL e b m n r=true then [aci e b n r] else [])),some r,some (.int (zD e n r))]):=by
 have hw:=aaw (e:=e) (b:=b) hu' hr;have nR:noL r=true:=by obtain⟨i,j,_,_,rfl⟩:=ab4 hr;simp[noL,noLs]
 exact air hu' hb hb' hds nR rfl hw
theorem aeS{u e l b m n:Int}(hu':u<100)(hb:0<b)(hb':b<100){A:OP}:∀(rs ds:LP) (x6 x7:OP),(∀r∈rs,r∈jF u l)->ds.length+rs.length<1000000->
  ∃y6 y7,jC (jB 6) aal.1 rs [some (jk u e l b),A,some (.int n),some (.int b),some (.int m),some (.list ds),x6,x7]=
   some (.nx [some (jk u e l b),A,some (.int n),some (.int b),some (.int m),some (.list (ds++(rs.filter (okL e b m n)).map (aci e b n))),y6,y7])
 | [],ds,x6,x7,_,_=>⟨x6,x7,by simp[jC]⟩
 | r::rs,ds,x6,x7,h,hl=>by
  have hl':ds.length+(rs.length+1)<1000000:=hl;have s:=akq (l:=l) (e:=e) (m:=m) (n:=n) hu' hb hb' (A:=A) (x7:=x7) (ds:=ds) (by omega) (h r List.mem_cons_self);obtain⟨y6,y7,ih⟩:=aeS (l:=l) (e:=e) (m:=m) (n:=n) hu' hb hb' (A:=A) rs (ds++if okL e b m n r=true then [aci e b n r] else []) (some r) (some (.int (zD e n r))) (fun x hx=>h x (List.mem_cons_of_mem _ hx)) (by split<;>simp<;>omega);refine⟨y6,y7,?_⟩;rw[jC];simp only[jB,zzF,zzG,zzD,s,ih];by_cases c:okL e b m n r=true
  ·simp[c,List.filter_cons]
  ·simp[c,List.filter_cons]
theorem amE{u e l b n:Int}(h:okN u e l b=true)(a:Nat)(ha:a<4):
  amj [jk u e l b,.int (a:Int),.int n]=some (.list (((jF u l).filter (okL e b (zy u e l b a) n)).map (aci e b n))):=by
 obtain⟨a1,a2,a3,a4,a5,a6,a7,a8,a9,a10⟩:=jQ h;have hu:0<=u:=a1;have hu':u<100:=by omega
 have hl:0<=l:=by omega
 have hl':l<100:=by omega
 have hb:0<b:=by omega
 have hb':b<100:=by omega
 refine jP rfl ?_;have h1:=amD (u:=u) (e:=e) (l:=l) (b:=b) a ha;have h2:aoD [jk u e l b,qA (List.replicate a (u,l))]=some (.int (zy u e l b a)):=aoN h (by rw[List.length_replicate];omega) (amC h a);have h3:=JB (e:=e) (b:=b) hu hu' hl hl';have hf:=abz (u:=u) (l:=l) hu' hl';have hlen:(jF u l).length<1000000:=by simpa[few]using hf
 obtain⟨y6,y7,lp⟩:=aeS (u:=u) (l:=l) (e:=e) (m:=zy u e l b a) (n:=n) hu' hb hb' (A:=some (.int (a:Int))) (jF u l) [] none none (fun _ h=>h) (by simpa using hlen);show ai5.1 [some (jk u e l b),some (.int (a:Int)),some (.int n),none,none,none,none,none]=_;simp only[ai5];refine(jq (ρ1:=[some (jk u e l b),some (.int (a:Int)),some (.int n),some (.int b),none,none,none,none]) ?_).trans ?_
 ·simp only[qV,op2,lkp,cst,jB,zzA,zzC,zzD,zzE,ix3,zzF,zzG]
 refine(jq (ρ1:=[some (jk u e l b),some (.int (a:Int)),some (.int n),some (.int b),some (.int (zy u e l b a)),none,none,none]) ?_).trans ?_
 ·simp only[qV,jA,jm,jw,lkp,jB,zzA,zzB,zzC,zzD,zzE,h1,h2,zzF,zzG]
 have f0:few ([]:LP)=true:=aoM;simp only[act,aaY,jw,f0,zzD,zzM,List.length_cons,List.length_nil,Nat.lt_add_one,zzF,zzG]
 have q:jH (Jm (fun ρ=>itL (jA qX (jm (lkp 0) jw)) (hid (some 5) ρ)) (jB 6) aal.1) (jH (qK (lkp 5)) qC) [some (jk u e l b),some (.int (a:Int)),some (.int n),some (.int b),some (.int (zy u e l b a)),some (.list []),none,none]=
   some (.rt (.list (((jF u l).filter (okL e b (zy u e l b a) n)).map (aci e b n)))):=by
  refine(jq (ρ1:=[some (jk u e l b),some (.int (a:Int)),some (.int n),some (.int b),some (.int (zy u e l b a)),some (.list ([]++((jF u l).filter (okL e b (zy u e l b a) n)).map (aci e b n))),y6,y7]) ?_).trans ?_
  ·simp only[Jm,itL,Za,jA,jm,jw,lkp,hid,zzF,zzG,zzA,zzC,zzD,zzE,h3,lp]
  ·simp only[jH,qK,lkp,zzA,zzB,zzC,zzE,zzD,List.nil_append]
 rw[if_pos (by decide),q];rfl
noncomputable abbrev KI:=List (Int×Int)
noncomputable def enc(kv:KI):List (PyData×PyData):=kv.map fun p=>(.int p.1,.int p.2)
noncomputable def dI(kv:KI):PyData:= .dict ((.none,.none)::enc kv)
noncomputable def j6(kv:KI)(k:Int):Option Int:=(kv.find? fun p=>decide (p.1=k)).map (·.2)
noncomputable def qU(kv:KI)(k:Int):Int:=(j6 kv k).getD 0
noncomputable def acw(kv:KI)(k v:Int):KI:=if kv.any (fun p=>decide (p.1=k))=true then kv.map (fun p=>if p.1=k then (p.1,v) else p) else kv++[(k,v)]
theorem QZ(kv:KI)(k:Int):zO (enc kv) k=(j6 kv k).map .int:=by
 induction kv with
 |nil=>rfl
 | cons p kv ih=>
  by_cases h:p.1=k
  ·simp[zO,enc,j6,isI,h]
  ·have e1:zO (enc (p::kv)) k=zO (enc kv) k:=by simp[zO,enc,isI,h,List.find?_cons]
   have e2:j6 (p::kv) k=j6 kv k:=by simp[j6,h,List.find?_cons]
   rw[e1,e2,ih]
theorem aha(kv:KI)(k v:Int):aef (enc kv) k (.int v)=enc (acw kv k v):=by
 have h1:(enc kv).any (fun p=>isI k p.1)=kv.any fun p=>decide (p.1=k):=by simp[enc,List.any_map,Function.comp_def,isI]
 unfold aef acw;rw[h1];by_cases c:kv.any (fun p=>decide (p.1=k))=true
 ·rw[if_pos c,if_pos c]
  simp only[enc,List.map_map];apply List.map_congr_left;intro p _;by_cases h:p.1=k<;>simp[isI,h]
 ·rw[if_neg c,if_neg c]
  simp[enc]
theorem ahb(kv:KI)(k v:Int):(acw kv k v).length<=kv.length+1:=by
 unfold acw;split<;>simp
theorem acT{kv:KI}:∀{p:Int×Int},p∈kv->∃c,j6 kv p.1=some c:=by
 intro p hp
 have:(kv.find? fun q=>decide (q.1=p.1)).isSome=true:=by
  rw[List.find?_isSome];exact⟨p,hp,by simp⟩
 cases h:kv.find? fun q=>decide (q.1=p.1)with
 |none=>rw[h]at this;cases this
 |some q=>exact⟨q.2,by simp[j6,h]⟩
theorem Qi(p:Int×Int)(kv:KI)(x:Int):j6 (p::kv) x=if p.1=x then some p.2 else j6 kv x:=by
 by_cases h:p.1=x<;>simp[j6,List.find?_cons,h]
theorem ajh(k v x:Int):∀kv:KI,j6 (kv.map fun p=>if p.1=k then (p.1,v) else p) x=if x=k then (if kv.any (fun p=>decide (p.1=k))=true then some v else none) else j6 kv x
 | []=>by simp[j6]
 | p::kv=>by
  rw[List.map_cons,Qi,Qi,ajh k v x kv];by_cases hp:p.1=k
  ·by_cases hx:x=k
   ·subst hx;simp[hp]
   ·have hkx:¬ k=x:=fun z=>hx z.symm
    simp[hp,hx,hkx]
  ·by_cases hx:x=k
   ·subst hx;rw[List.any_cons,decide_eq_false hp,Bool.false_or];simp[hp]
   ·by_cases hq:p.1=x<;>simp[hp,hx,hq]
theorem aji(k v x:Int):∀kv:KI,j6 (kv++[(k,v)]) x=if kv.any (fun p=>decide (p.1=x))=true then j6 kv x else if k=x then some v else none
 | []=>by rw[List.nil_append,Qi];simp[j6]
 | p::kv=>by
  rw[List.cons_append,Qi,Qi,aji k v x kv];by_cases hp:p.1=x
  ·simp[hp]
  ·rw[List.any_cons,decide_eq_false hp,Bool.false_or,if_neg hp,if_neg hp]
theorem amF{kv:KI}{x:Int}(h:¬ kv.any (fun p=>decide (p.1=x))=true):j6 kv x=none:=by
 induction kv with
 |nil=>rfl
 | cons p kv ih=>
  rw[Qi];by_cases hp:p.1=x
  ·exact absurd (by simp[hp]) h
  ·rw[if_neg hp];exact ih (by simpa[hp]using h)
theorem aoR(kv:KI)(k v x:Int):j6 (acw kv k v) x=if x=k then some v else j6 kv x:=by
 unfold acw;by_cases c:kv.any (fun p=>decide (p.1=k))=true
 ·rw[if_pos c,ajh,if_pos c]
 ·rw[if_neg c,aji]
  by_cases hx:x=k
  ·subst hx
   rw[if_neg c,if_pos rfl,if_pos rfl]
  ·have hkx:¬ k=x:=fun z=>hx z.symm
   rw[if_neg hx,if_neg hkx];by_cases d:kv.any (fun p=>decide (p.1=x))=true
   ·rw[if_pos d]
   ·rw[if_neg d,amF d]
noncomputable def rp(u l:Int):List (Int×Int):=(List.range (u+1).toNat).flatMap fun (i:Nat)=>(List.range (l+1).toNat).map fun (j:Nat)=>((i:Int),(j:Int))
theorem Qw(u l:Int):jF u l=(rp u l).map pr:=by
 simp[jF,zH,zm,rp,List.map_flatMap,List.map_map,Function.comp_def,pr]
theorem amG{u l:Int}{p:Int×Int}(h:okP u l p=true):p∈rp u l:=by
 obtain⟨q1,q2,q3,q4⟩:=zu h;refine List.mem_flatMap.mpr ⟨p.1.toNat,List.mem_range.mpr (by omega),List.mem_map.mpr ⟨p.2.toNat,List.mem_range.mpr (by omega),?_⟩⟩;exact Prod.ext (by show((p.1.toNat:Nat):Int)=p.1;omega) (by show((p.2.toNat:Nat):Int)=p.2;omega)
theorem ahc{u l:Int}{p:Int×Int}(h:p∈rp u l):okP u l p=true:=by
 obtain⟨i,hi,h2⟩:=List.mem_flatMap.mp h;obtain⟨j,hj,rfl⟩:=List.mem_map.mp h2;have:=List.mem_range.mp hi;have:=List.mem_range.mp hj;simp only[okP,Bool.and_eq_true,decide_eq_true_eq];exact⟨⟨⟨by omega,by omega⟩,by omega⟩,by omega⟩
theorem ais(u l:Int):(rp u l).length=(jF u l).length:=by rw[Qw,List.length_map]
theorem ZY{u e l b:Int}(h:okN u e l b=true):(rp u l).length<=48:=by
 obtain⟨a1,a2,a3,a4,a5,a6,a7,a8,a9,a10⟩:=jQ h;rw[ais];show(zH (u+1).toNat (l+1).toNat).length<=48;rw[ZQ];exact Nat.le_trans (Nat.mul_le_mul (show(u+1).toNat<=4 by omega) (show(l+1).toNat<=12 by omega)) (by decide)
noncomputable def bd(p:Int×Int):Int:=p.1+p.2
noncomputable def JC(acc:KI)(q:Int×Int):KI:=acw acc q.1 (if (j6 acc q.1).getD q.2<q.2 then (j6 acc q.1).getD q.2 else q.2)
theorem akr(acc:KI)(q:Int×Int):(JC acc q).length<=acc.length+1:=ahb _ _ _
theorem Qx:∀(xs:List (Int×Int)) (acc:KI),(xs.foldl JC acc).length<=acc.length+xs.length
 | [],acc=>by simp
 | x::xs,acc=>by
  have h1:=Qx xs (JC acc x);have h2:=akr acc x;rw[List.foldl_cons,List.length_cons];omega
noncomputable def Q0(d:Option Int)(P:Int->Prop):Prop:=(∀v,d=some v->P v)/\∀v,P v->∃m,d=some m/\m<=v
theorem Q0.imp{d:Option Int}{P P':Int->Prop}(h:Q0 d P)(h1:∀v,P v->P' v)(h2:∀v,P' v->∃w,P w/\w<=v):Q0 d P':=
 ⟨fun v e=>h1 v (h.1 v e),fun v p=>by
  obtain ⟨w,hw,hl⟩:=h2 v p;obtain ⟨m,hm,hl2⟩:=h.2 w hw;exact ⟨m,hm,Int.le_trans hl2 hl⟩⟩
theorem Q0.uniq{d d':Option Int}{P:Int->Prop}(h:Q0 d P)(h':Q0 d' P):d=d':=by
 cases d with
 | none=>
  cases d' with
  |none=>rfl
  |some v=>obtain⟨m,hm,_⟩:=h.2 v (h'.1 v rfl);cases hm
 | some v=>
  obtain⟨m,hm,hl⟩:=h'.2 v (h.1 v rfl);obtain⟨m',hm',hl'⟩:=h.2 m (h'.1 m hm);cases hm';rw[hm]
  congr 1
  omega
theorem abC(k:Int):∀(xs:List (Int×Int)) (acc:KI),Q0 (j6 (xs.foldl JC acc) k) fun v=>j6 acc k=some v∨(k,v)∈xs
 | [],acc=>⟨fun v e=> .inl e,fun v p=>by
   rcases p with q | q
   ·exact ⟨v,q,Int.le_refl _⟩
   ·cases q⟩
 | x::xs,acc=>by
  rw[List.foldl_cons];have ih:=abC k xs (JC acc x);have hf:j6 (JC acc x) k=if k=x.1 then some (if (j6 acc x.1).getD x.2<x.2 then (j6 acc x.1).getD x.2 else x.2) else j6 acc k:=aoR _ _ _ _
  by_cases hk:k=x.1
  ·rw[if_pos hk]at hf
   subst hk;refine ih.imp (fun v p=>?_) fun v p=>?_
   ·rcases p with q | q
    ·rw[hf]at q
     have q:=Option.some.inj q;by_cases hlt:(j6 acc x.1).getD x.2<x.2
     ·rw[if_pos hlt]at q
      cases hc:j6 acc x.1 with
      |none=>rw[hc]at hlt;exact absurd hlt (Int.lt_irrefl _)
      |some c=>rw[hc]at q;exact .inl (by rw[←q];rfl)
     ·rw[if_neg hlt]at q
      exact .inr (by rw[←q];exact List.mem_cons_self)
    ·exact .inr (List.mem_cons_of_mem _ q)
   ·rcases p with q | q
    ·refine⟨_,.inl hf,?_⟩
     rw[q];show(if v<x.2 then v else x.2)<=v;split<;>omega
    ·rcases List.mem_cons.mp q with z | z
     ·refine⟨_,.inl hf,?_⟩
      have:v=x.2:=by rw[←z]
      rw[this];split<;>omega
     ·exact⟨v,.inr z,Int.le_refl _⟩
  ·rw[if_neg hk]at hf
   refine ih.imp (fun v p=>?_) fun v p=>?_
   ·rcases p with q | q
    ·exact .inl (by rw[←hf];exact q)
    ·exact .inr (List.mem_cons_of_mem _ q)
   ·rcases p with q | q
    ·exact⟨v,.inl (by rw[hf];exact q),Int.le_refl _⟩
    ·rcases List.mem_cons.mp q with z | z
     ·exact absurd (by rw[←z]) hk
     ·exact⟨v,.inr z,Int.le_refl _⟩
theorem amH(k:Int)(xs:List (Int×Int)):Q0 (j6 (xs.foldl JC []) k) fun v=>(k,v)∈xs:=
 (abC k xs []).imp (fun v p=>by rcases p with q | q;cases q;exact q) fun v p=>⟨v,.inr p,Int.le_refl _⟩
theorem aoS{kv:KI}{n c:Int}(h:j6 kv n=some c):∃p∈kv,p.1=n/\qU kv n=c:=by
 unfold j6 at h;cases hq:kv.find? fun p=>decide (p.1=n)with
 |none=>rw[hq]at h;cases h
 | some q=>
  refine⟨q,List.mem_of_find?_eq_some hq,by simpa using List.find?_some hq,?_⟩;unfold qU j6;rw[hq];rw[hq]at h;exact Option.some.inj h
theorem ajj(acc:KI)(k v:Int):JZ (dI acc) (.int k) (.int v)=some (.int ((j6 acc k).getD v)):=by
 show some ((zO (enc acc) k).getD (.int v))=_;rw[QZ];cases j6 acc k<;>rfl
theorem aqT{acc:KI}{k v:Int}(hl:acc.length<1000000):adk (some (dI acc)) (some (.int v)) (some (.int k))=some (dI (acw acc k v)):=by
 have hle:(enc acc).length<1000000:=by simpa[enc]using hl
 show(if (enc acc).length<1000000 then some (PyData.dict ((.none,.none)::aef (enc acc) k (.int v))) else none)=_;rw[if_pos hle,aha];rfl
theorem aoT{m A W n R:OP}{acc:KI}{k v:Int}(hl:acc.length<1000000):
  aj3 3 (lkp 6) (jA aca (jm (lkp 7) (jm (zk (lkp 3) (lkp 6) (lkp 7)) jw))) [m,A,W,some (dI acc),n,R,some (.int k),some (.int v)]=some (.nx [m,A,W,some (dI (JC acc (k,v))),n,R,some (.int k),some (.int v)]):=by
 have g2:=ajj acc k v
 have fk:brw (some 3) (lkp 6) [m,A,W,some (dI acc),n,R,some (.int k),some (.int v)]=some (.int k):=by
  simp only[brw,hid,lkp,zzF,zzG,zzA,zzB,zzC]
 have mn:∀i j:Int,aca [.int i,.int j]=some (.int (if j<i then j else i)):=fun _ _=>rfl
 have fv:brw (some 3) (jA aca (jm (lkp 7) (jm (zk (lkp 3) (lkp 6) (lkp 7)) jw))) [m,A,W,some (dI acc),n,R,some (.int k),some (.int v)]=some (.int (if (j6 acc k).getD v<v then (j6 acc k).getD v else v)):=by
  simp only[brw,hid,jA,jm,jw,zk,lkp,zzF,zzG,zzA,zzB,zzC,Option.join_none,zzH,zzD,zzI,zzE,g2,mn];rfl
 have l3:lkp 3 [m,A,W,some (dI acc),n,R,some (.int k),some (.int v)]=some (dI acc):=rfl;simp only[aj3,l3,fk,fv,aqT hl,zzE,zzF,zzG];rfl
theorem amI(p:Int×Int):abU [pr p]=some (.int (bd p)):=akp p.1 p.2
theorem aoU{kv:KI}{p:Int×Int}(hp:p∈kv):zO (enc kv) p.1=some (.int (qU kv p.1)):=by
 obtain⟨c,hc⟩:=acT hp;rw[QZ,hc];unfold qU;rw[hc];rfl
theorem adN{α β:Type}(f:α->List β)(k:Nat)(hf:∀x,(f x).length<=k):∀xs:List α,(xs.flatMap f).length<=xs.length*k
 | []=>by simp
 | x::xs=>by
  rw[List.flatMap_cons,List.length_append,List.length_cons,Nat.succ_mul];have:=adN f k hf xs;have:=hf x;omega
theorem aoV(kv:KI):(BX.qM (dI kv)).map (fun r=>r.map (·.1))=some (kv.map fun p=>PyData.int p.1):=by
 show some ((enc kv).map (·.1))=_;simp[enc,List.map_map,Function.comp_def]
noncomputable def ctn(e b M:Int)(n c:Int)(p:Int×Int):List (Int×Int):=if n*b+wt e p<=M then [(n*b+wt e p,c+bd p)] else []
theorem aqU{u e l b:Int}(h:okN u e l b=true){r:List (PyData×PyData)}{acc:KI}{n c M:Int}{p:Int×Int}(hp:okP u l p=true)(hc:zO r n=some (.int c))(hn:0<=n/\n<=1000000000)(hl:acc.length<1000000){x6 x7:OP}:
  ∃y6 y7,afI.1 [some (jk u e l b),some (.dict ((.none,.none)::r)),some (.int M),some (dI acc),some (.int n),some (pr p),x6,x7]=
   some (.nx [some (jk u e l b),some (.dict ((.none,.none)::r)),some (.int M),some (dI ((ctn e b M n c p).foldl JC acc)),some (.int n),some (pr p),y6,y7]):=by
 obtain⟨q1,q2,q3,q4⟩:=zu hp;obtain⟨a1,a2,a3,a4,a5,a6,a7,a8,a9,a10⟩:=jQ h;refine⟨some (.int (n*b+wt e p)),some (.int (c+bd p)),?_⟩;have g1:QC (.dict ((.none,.none)::r)) (.int n)=some (.int c):=hc;have m1:JL (.int n) (.int b)=some (.int (n*b)):=qx ⟨by omega,by omega⟩;have w':qe [jk u e l b,pr p]=some (.int (wt e p)):=Zp u e l b p.1 p.2 (by omega);have le:qR (fun i j=>decide (i<=j)) (.int (n*b+wt e p)) (.int M)=some (.bool (decide (n*b+wt e p<=M))):=rfl
 have fn:brw (some 3) (op2 qD (op2 JL (lkp 4) (op2 dIx (lkp 0) (cst (.int 3)))) (jA qe (jm (lkp 0) (jm (lkp 5) jw)))) [some (jk u e l b),some (.dict ((.none,.none)::r)),some (.int M),some (dI acc),some (.int n),some (pr p),x6,x7]=some (.int (n*b+wt e p)):=by
  simp only[brw,hid,op2,jA,jm,jw,lkp,cst,zzF,zzG,zzA,zzB,zzC,zzD,zzE,ix3,m1,w',add_int]
 unfold ctn;generalize n*b+wt e p=N at*
 have fs:brw (some 3) (op2 qD (op2 QC (lkp 1) (lkp 4)) (jA abU (jm (lkp 5) jw))) [some (jk u e l b),some (.dict ((.none,.none)::r)),some (.int M),some (dI acc),some (.int n),some (pr p),some (.int N),x7]=some (.int (c+bd p)):=by
  simp only[brw,hid,op2,jA,jm,jw,lkp,zzF,zzG,zzA,zzB,zzC,zzD,zzE,g1,amI,add_int]
 simp only[afI];refine(jq (ρ1:=[some (jk u e l b),some (.dict ((.none,.none)::r)),some (.int M),some (dI acc),some (.int n),some (pr p),some (.int N),x7]) ?_).trans ?_
 ·simp only[qV,fn,jB,zzD,zzE,zzF,zzG]
 refine(jq (ρ1:=[some (jk u e l b),some (.dict ((.none,.none)::r)),some (.int M),some (dI acc),some (.int n),some (pr p),some (.int N),some (.int (c+bd p))]) ?_).trans ?_
 ·simp only[qV,fs,jB,zzD,zzE,zzF,zzG]
 by_cases hM:N<=M
 ·rw[decide_eq_true hM]at le
  have pm:=aoT (m:=some (jk u e l b)) (A:=some (.dict ((.none,.none)::r))) (W:=some (.int M)) (n:=some (.int n)) (R:=some (pr p)) (k:=N) (v:=c+bd p) hl;refine(jq (ρ1:=[some (jk u e l b),some (.dict ((.none,.none)::r)),some (.int M),some (dI (JC acc (N,c+bd p))),some (.int n),some (pr p),some (.int N),some (.int (c+bd p))]) ?_).trans ?_
  ·simp only[ifS,tst,op2,lkp,zzA,zzB,zzC,zzD,le,asB,zzM]
   exact(jq pm).trans rfl
  ·rw[if_pos hM];rfl
 ·rw[decide_eq_false hM]at le
  refine(jq (ρ1:=[some (jk u e l b),some (.dict ((.none,.none)::r)),some (.int M),some (dI acc),some (.int n),some (pr p),some (.int N),some (.int (c+bd p))]) ?_).trans ?_
  ·simp only[ifS,tst,op2,lkp,zzA,zzB,zzC,zzD,le,asB,zzL,zzN,qC]
  ·rw[if_neg hM];rfl
theorem ajk(e b M n c:Int)(p:Int×Int):(ctn e b M n c p).length<=1:=by unfold ctn;split<;>simp
theorem ahd{u e l b:Int}(h:okN u e l b=true){r:List (PyData×PyData)}{n c M:Int}(hc:zO r n=some (.int c))(hn:0<=n/\n<=1000000000):∀(ps:List (Int×Int)) (acc:KI) (x5 x6 x7:OP),(∀p∈ps,okP u l p=true)->acc.length+ps.length<1000000->
  ∃y5 y6 y7,jC (jB 5) afI.1 (ps.map pr) [some (jk u e l b),some (.dict ((.none,.none)::r)),some (.int M),some (dI acc),some (.int n),x5,x6,x7]=
   some (.nx [some (jk u e l b),some (.dict ((.none,.none)::r)),some (.int M),some (dI ((ps.flatMap (ctn e b M n c)).foldl JC acc)),some (.int n),y5,y6,y7])
 | [],acc,x5,x6,x7,_,_=>⟨x5,x6,x7,rfl⟩
 | p::ps,acc,x5,x6,x7,hp,hl=>by
  have hl':acc.length+(ps.length+1)<1000000:=hl;obtain⟨y6,y7,s⟩:=aqU h (M:=M) (hp p List.mem_cons_self) hc hn (acc:=acc) (x6:=x6) (x7:=x7) (by omega);have h1:=Qx (ctn e b M n c p) acc;have h2:=ajk e b M n c p;obtain⟨z5,z6,z7,ih⟩:=ahd h (M:=M) hc hn ps ((ctn e b M n c p).foldl JC acc) (some (pr p)) y6 y7 (fun q hq=>hp q (List.mem_cons_of_mem _ hq)) (by omega);refine⟨z5,z6,z7,?_⟩;rw[List.map_cons,jC];simp only[jB,zzF,zzG,zzD];rw[s,zzD,List.flatMap_cons,List.foldl_append];exact ih
noncomputable def cts(u e l b M:Int)(kv:KI)(p:Int×Int):List (Int×Int):=(rp u l).flatMap (ctn e b M p.1 (qU kv p.1))
theorem ajl(u e l b M:Int)(kv:KI)(p:Int×Int):(cts u e l b M kv p).length<=(rp u l).length:=by
 have:=adN (ctn e b M p.1 (qU kv p.1)) 1 (ajk e b M p.1 (qU kv p.1)) (rp u l);unfold cts;omega
theorem aoW{u e l b:Int}(h:okN u e l b=true){kv:KI}{p:Int×Int}{M:Int}(hp:p∈kv)(hn:0<=p.1/\p.1<=1000000000){acc:KI}(hacc:acc.length+(rp u l).length<1000000){x5 x6 x7:OP}:
  ∃y5 y6 y7,aam.1 [some (jk u e l b),some (dI kv),some (.int M),some (dI acc),some (.int p.1),x5,x6,x7]=
   some (.nx [some (jk u e l b),some (dI kv),some (.int M),some (dI ((cts u e l b M kv p).foldl JC acc)),some (.int p.1),y5,y6,y7]):=by
 obtain⟨a1,a2,a3,a4,a5,a6,a7,a8,a9,a10⟩:=jQ h;have h1:=JB (e:=e) (b:=b) a1 (show u<100 by omega) (show 0<=l by omega) (show l<100 by omega);rw[Qw]at h1;obtain⟨y5,y6,y7,lp⟩:=ahd h (M:=M) (aoU hp) hn (rp u l) acc x5 x6 x7 (fun q hq=>ahc hq) hacc;refine⟨y5,y6,y7,?_⟩;simp only[aam];refine(jq (ρ1:=[some (jk u e l b),some (dI kv),some (.int M),some (dI ((cts u e l b M kv p).foldl JC acc)),some (.int p.1),y5,y6,y7]) ?_).trans rfl;simp only[Jm,itL,Za,jA,jm,jw,lkp,hid,zzF,zzG,zzA,zzB,zzC,zzD,zzE,h1];exact lp
theorem ahe{u e l b:Int}(h:okN u e l b=true){M:Int}(kv:KI):∀(ps:KI) (acc:KI) (x4 x5 x6 x7:OP),(∀p∈ps,p∈kv/\0<=p.1/\p.1<=1000000000)->acc.length+(ps.length+1)*(rp u l).length<1000000->
  ∃y4 y5 y6 y7,jC (jB 4) aam.1 (ps.map fun p=> .int p.1) [some (jk u e l b),some (dI kv),some (.int M),some (dI acc),x4,x5,x6,x7]=
   some (.nx [some (jk u e l b),some (dI kv),some (.int M),some (dI ((ps.flatMap (cts u e l b M kv)).foldl JC acc)),y4,y5,y6,y7])
 | [],acc,x4,x5,x6,x7,_,_=>⟨x4,x5,x6,x7,rfl⟩
 | p::ps,acc,x4,x5,x6,x7,hp,hl2=>by
  have e4:(ps.length+1+1)*(rp u l).length=(ps.length+1)*(rp u l).length+(rp u l).length:=by rw[Nat.succ_mul]
  have hl3:acc.length+(ps.length+1+1)*(rp u l).length<1000000:=hl2
  obtain⟨y5,y6,y7,s⟩:=aoW h (M:=M) (hp p List.mem_cons_self).1 (hp p List.mem_cons_self).2 (acc:=acc) (x5:=x5) (x6:=x6) (x7:=x7) (by
   have:(rp u l).length<=(ps.length+1)*(rp u l).length:=Nat.le_mul_of_pos_left _ (by omega);omega)
  have h2:=Qx (cts u e l b M kv p) acc;have h3:=ajl u e l b M kv p;obtain⟨z4,z5,z6,z7,ih⟩:=ahe h (M:=M) kv ps ((cts u e l b M kv p).foldl JC acc) (some (.int p.1)) y5 y6 y7 (fun q hq=>hp q (List.mem_cons_of_mem _ hq)) (by omega);refine⟨z4,z5,z6,z7,?_⟩;rw[List.map_cons,jC];simp only[jB,zzF,zzG,zzD];rw[s,zzD,List.flatMap_cons,List.foldl_append];exact ih
noncomputable def aks(u e l b M:Int)(kv:KI):KI:=(kv.flatMap (cts u e l b M kv)).foldl JC []
theorem amJ(u e l b M:Int)(kv:KI):(aks u e l b M kv).length<=kv.length*(rp u l).length:=by
 have h1:=Qx (kv.flatMap (cts u e l b M kv)) [];have h2:=adN (cts u e l b M kv) (rp u l).length (ajl u e l b M kv) kv;rw[List.length_nil,Nat.zero_add]at h1;exact Nat.le_trans h1 h2
theorem aoX{u e l b:Int}(h:okN u e l b=true){M:Int}(kv:KI)(hr:∀p∈kv,0<=p.1/\p.1<=1000000000)(hk:(kv.length+1)*(rp u l).length<1000000):
  aoG [jk u e l b,dI kv,.int M]=some (dI (aks u e l b M kv)):=by
 refine jP rfl ?_;obtain⟨y4,y5,y6,y7,lp⟩:=ahe h (M:=M) kv kv [] none none none none (fun p hp=>⟨hp,hr p hp⟩) (by simpa using hk);show aoF.1 [some (jk u e l b),some (dI kv),some (.int M),none,none,none,none,none]=_;have pr:=aoV kv
 have q:jH (Jm (fun ρ=>itD (lkp 1) (hid (some 3) ρ)) (jB 4) aam.1) (jH (qK (lkp 3)) qC) [some (jk u e l b),some (dI kv),some (.int M),some (dI []),none,none,none,none]=some (.rt (dI (aks u e l b M kv))):=by
  refine(jq (ρ1:=[some (jk u e l b),some (dI kv),some (.int M),some (dI (aks u e l b M kv)),y4,y5,y6,y7]) ?_).trans rfl;simp only[Jm,itD,lkp,hid,zzF,zzG,zzA,zzB,zzC,zzD,pr];exact lp
 simp only[aoF,act,cst,zzD,List.length_cons,List.length_nil,zzF,zzG];rw[if_pos (by decide)];have q':jH (Jm (fun ρ=>itD (lkp 1) (hid (some 3) ρ)) (jB 4) aam.1) (jH (qK (lkp 3)) qC) [some (jk u e l b),some (dI kv),some (.int M),some (.dict [(.none,.none)]),none,none,none,none]=some (.rt (dI (aks u e l b M kv))):=q;rw[q'];rfl
end Rods
namespace BX
open PySem PySem.Spec L2
open PyProof.Rows hiding St
theorem ZZ{ga:PyData->Rho->Option Rho}{F:RO}(Iv:Nat->Rho->Prop):∀(ds:LP) (i:Nat) (ρ:Rho),Iv i ρ->
  (∀j d ρ,ds[j]?=some d->Iv (i+j) ρ->∃ρ1 ρ2,ga d ρ=some ρ1/\F ρ1=some (.nx ρ2)/\Iv (i+j+1) ρ2)->∃ρ',jC ga F ds ρ=some (.nx ρ')/\Iv (i+ds.length) ρ'
 | [],i,ρ,h,_=>⟨ρ,rfl,h⟩
 | d::ds,i,ρ,h,hs=>by
  obtain⟨ρ1,ρ2,h1,h2,h3⟩:=hs 0 d ρ rfl h
  obtain⟨ρ',h4,h5⟩:=ZZ Iv ds (i+1) ρ2 h3 fun j d ρ hd hi=>by
   have:=hs (j+1) d ρ (by simpa using hd) (by rw[show i+(j+1)=i+1+j by omega];exact hi);rw[show i+1+j+1=i+(j+1)+1 by omega];exact this
  refine⟨ρ',?_,by rw[List.length_cons,show i+(ds.length+1)=i+1+ds.length by omega];exact h5⟩;simp[jC,h1,h2,h4]
theorem adO{n j:Nat}{d:PyData}(h:(zj 0 n)[j]?=some d):j<n/\d= .int j:=by
 simp only[zj,List.getElem?_map]at h;cases hj:(List.range n)[j]? with
 |none=>rw[hj]at h;cases h
 | some k=>
  rw[hj]at h;obtain⟨h1,h2⟩:=List.getElem?_eq_some_iff.mp hj;simp at h1 h2;subst h2;simp at h;exact⟨h1,h.symm⟩
theorem abD(n:Nat):(zj 0 n).length=n:=by simp[zj]
end BX
namespace Rods
open PySem L2 BX
open PyProof.Rows hiding St
section
variable {u e l b:Int}
theorem ait(a:Nat):zy u e l b (a+1)=zy u e l b a*b+wt e (u,l):=by
 unfold zy;rw[List.replicate_succ'];exact ZX _ _ _ _
noncomputable def Sp(u e l b:Int)(r:Nat)(n v:Int):Prop:=∃t:List (Int×Int),t.length=r/\t.all (okP u l)=true/\val b e t=n/\bds t=v
theorem ahf(p:Int×Int)(t:List (Int×Int)):bds (p::t)=bd p+bds t:=by simp[bds,bd]
theorem adP(p:Int×Int)(t:List (Int×Int)):bds (t++[p])=bds t+bd p:=by simp[bds,bd]
theorem ajm{M:Int}{kv:KI}{k v:Int}:(k,v)∈kv.flatMap (cts u e l b M kv)↔∃n p c,okP u l p=true/\j6 kv n=some c/\k=n*b+wt e p/\k<=M/\v=c+bd p:=by
 constructor
 ·intro h
  obtain⟨q,hq,h2⟩:=List.mem_flatMap.mp h;obtain⟨p,hp,h3⟩:=List.mem_flatMap.mp h2;obtain⟨c,hc⟩:=acT hq;have hg:qU kv q.1=c:=by unfold qU;rw[hc];rfl
  unfold ctn at h3;by_cases hM:q.1*b+wt e p<=M
  ·rw[if_pos hM,List.mem_singleton]at h3
   have hk:k=q.1*b+wt e p:=congrArg Prod.fst h3;have hv:v=qU kv q.1+bd p:=congrArg Prod.snd h3;exact⟨q.1,p,c,ahc hp,hc,hk,by omega,by rw[hv,hg]⟩
  ·rw[if_neg hM]at h3;cases h3
 ·rintro⟨n,p,c,hp,hc,rfl,hM,rfl⟩
  obtain⟨q,hq,hq1,hq2⟩:=aoS hc;refine List.mem_flatMap.mpr ⟨q,hq,List.mem_flatMap.mpr ⟨p,amG hp,?_⟩⟩;unfold ctn;rw[hq1,hq2,if_pos hM];exact List.mem_singleton.mpr rfl
noncomputable def FwD(u e l b M:Int)(j:Nat)(D:KI):Prop:=∀k,Q0 (j6 D k) fun v=>k<=M/\Sp u e l b j k v
theorem aoY{M:Int}(hM:0<=M):FwD u e l b M 0 [(0,0)]:=fun k=>by
 rw[Qi];refine⟨fun v hv=>?_,fun v ⟨_,t,h1,h2,h3,h4⟩=>?_⟩
 ·by_cases hk:(0:Int)=k
  ·rw[if_pos hk]at hv
   cases hv;exact⟨by omega,[],rfl,rfl,by rw[←hk];rfl,rfl⟩
  ·rw[if_neg hk]at hv;cases hv
 ·have:t=[]:=List.eq_nil_of_length_eq_zero h1
  subst this;have:(0:Int)=k:=h3;exact⟨0,by rw[if_pos this],by rw[←h4];exact Int.le_refl _⟩
theorem aoZ(h:okN u e l b=true){M:Int}{j:Nat}{D:KI}(H:FwD u e l b M j D):FwD u e l b M (j+1) (aks u e l b M D):=fun k=>by
 obtain⟨a1,a2,a3,a4,a5,a6,a7,a8,a9,a10⟩:=jQ h;refine(amH k (D.flatMap (cts u e l b M D))).imp (fun v pp=>?_) fun v pp=>?_
 ·obtain⟨n,p,c,hp,hc,rfl,hM,rfl⟩:=ajm.mp pp
  obtain⟨_,t,t1,t2,t3,t4⟩:=(H _).1 c hc;exact⟨hM,t++[p],by rw[List.length_append,t1];rfl,by rw[List.all_append,t2,List.all_cons,hp];rfl,by rw[ZX,t3],by rw[adP,t4]⟩
 ·obtain⟨hM,t,t1,t2,t3,t4⟩:=pp
  have hne:t≠[]:=fun z=>by rw[z]at t1;cases t1
  obtain⟨t',p,rfl⟩:∃t' p,t=t'++[p]:=⟨t.dropLast,t.getLast hne,(List.dropLast_concat_getLast hne).symm⟩;rw[List.all_append,List.all_cons,List.all_nil,Bool.and_true,Bool.and_eq_true]at t2;rw[ZX]at t3;rw[adP]at t4;have w0:=ajf a3 t2.2;have v0:=aiq (e:=e) h t2.1;have v1:val b e t'*1<=val b e t'*b:=Int.mul_le_mul_of_nonneg_left (by omega) v0;obtain⟨c,hc,hl⟩:=(H (val b e t')).2 (bds t') ⟨by omega,t',by simpa using t1,t2.1,rfl,rfl⟩;exact⟨c+bd p,ajm.mpr ⟨val b e t',p,c,t2.2,hc,t3.symm,hM,rfl⟩,by omega⟩
theorem aqV(h:okN u e l b=true){M:Int}(hM:M<=1000000000){j:Nat}{D:KI}(H:FwD u e l b M j D):∀p∈D,0<=p.1/\p.1<=1000000000:=fun p hp=>by
 obtain⟨c,hc⟩:=acT hp;obtain⟨h1,t,t1,t2,t3,t4⟩:=(H p.1).1 c hc;have:=aiq (e:=e) h t2;exact⟨by omega,by omega⟩
end
noncomputable def ofO:Option Int->PyData
 |some v=> .int v
 |none=> .none
section
variable {u e l b:Int}
theorem amK{kv:KI}(h:okN u e l b=true){j:Nat}(hj:j<=2)(hk:kv.length<=48 ^ j):(kv.length+1)*(rp u l).length<1000000:=by
 have h1:=ZY h
 have h2:kv.length+1<=2305:=by
  have:j=0∨j=1∨j=2:=by omega
  rcases this with q | q | q<;>subst q<;>simp at hk<;>omega
 exact Nat.lt_of_le_of_lt (Nat.mul_le_mul h2 h1) (by decide)
theorem ahg{kv kv':KI}(h:okN u e l b=true){j:Nat}(hk:kv.length<=48 ^ j)(hk':kv'.length<=kv.length*(rp u l).length):kv'.length<=48 ^ (j+1):=by
 rw[Nat.pow_succ];exact Nat.le_trans hk' (Nat.mul_le_mul hk (ZY h))
theorem akt(H:zh=true)(h:okN u e l b=true){r n:Int}(h1:1<=r)(h4:r<=4)(h0:0<=n)(hn:n<=99999):QE [jk u e l b,.int r,.int n]=some .none:=by
 have g1:=Jp (ag6 H h);have g2:qg [.int r]=some .none:=ag8 h1 h4;have g3:Qq [.int n]=some .none:=amB h0 hn;simp[QE,jx,adB,jE,jH,zg,jA,jm,jw,lkp,g1,g2,g3,qC]
theorem amL(kv:KI)(k:Int):adm false (.int k) (dI kv)=some (.bool (j6 kv k).isSome):=by
 show some (PyData.bool (if false=true then !(zO (enc kv) k).isSome else (zO (enc kv) k).isSome))=_;rw[QZ];cases j6 kv k<;>rfl
theorem amM{kv:KI}{k c:Int}(h:j6 kv k=some c):QC (dI kv) (.int k)=some (.int c):=by
 show zO (enc kv) k=_;rw[QZ,h];rfl
theorem aku{r:Nat}(h1:1<=r)(h3:r<=3):alO [.int ((r:Int)-1),.int (-1),.int (-1)]=some ((List.range r).map fun (j:Nat)=> .int (((r-(j+1):Nat):Int))):=by
 have:r=1∨r=2∨r=3:=by omega
 rcases this with q | q | q<;>subst q<;>rfl
theorem amN{r j:Nat}{d:PyData}(h:((List.range r).map fun (j:Nat)=>PyData.int (((r-(j+1):Nat):Int)))[j]?=some d):j<r/\d= .int (((r-(j+1):Nat):Int)):=by
 rw[List.getElem?_map]at h;cases hj:(List.range r)[j]? with
 |none=>rw[hj]at h;cases h
 | some k=>
  rw[hj]at h;obtain⟨h1,h2⟩:=List.getElem?_eq_some_iff.mp hj;simp at h1 h2;subst h2;simp at h;exact⟨h1,h.symm⟩
theorem ao0{kv kv':KI}{M:Int}{R x4:OP}(g:aoG [jk u e l b,dI kv,.int M]=some (dI kv')):abo.1 [some (jk u e l b),R,some (.int M),some (dI kv),x4]=some (.nx [some (jk u e l b),R,some (.int M),some (dI kv'),x4]):=by
 simp only[abo,jH,qV,jA,jm,jw,lkp,jB,zzA,zzB,zzC,zzD,zzE,g,zzF,zzG,qC]
theorem afV{n:Nat}(hn:n<=1000):Zx [.int (n:Int)]=some (zj 0 n):=by
 have:=abA (j:=(n:Int)) (by omega) (by omega);rw[show((n:Int)).toNat=n by omega]at this;exact this
theorem akv{m D:PyData}{rr M:Int}{R:LP}{x4:OP}(rg:Zx [.int rr]=some R)(hl:jC (jB 4) abo.1 R [some m,some (.int rr),some (.int M),some (dI [(0,0)]),none]=some (.nx [some m,some (.int rr),some (.int M),some D,x4])):
  ai8.1 [some m,some (.int rr),some (.int M),none,none]=some (.rt D):=by
 simp only[ai8];refine(jq (ρ1:=[some m,some (.int rr),some (.int M),some (dI [(0,0)]),none]) rfl).trans ?_;refine(jq (ρ1:=[some m,some (.int rr),some (.int M),some D,x4]) ?_).trans rfl;simp only[Jm,jm,jw,lkp,zzA,zzB,zzC,zzD,zzE,rg];exact hl
theorem ahh(h:okN u e l b=true){r:Nat}(h1:1<=r)(h3:r<=3){M:Int}(h0:0<=M)(hM:M<=999):∃D,agW [jk u e l b,.int (r:Int),.int M]=some (dI D)/\FwD u e l b M r D:=by
 obtain⟨ρ',hl,hI⟩:=ZZ (ga:=jB 4) (F:=abo.1) (fun i ρ=>∃D x4,ρ=[some (jk u e l b),some (.int (r:Int)),some (.int M),some (dI D),x4]/\FwD u e l b M i D/\D.length<=48 ^ i) (zj 0 r) 0
  [some (jk u e l b),some (.int (r:Int)),some (.int M),some (dI [(0,0)]),none] ⟨_,_,rfl,aoY h0,by simp⟩ (fun j d ρ hd hi=>by
   obtain ⟨hj,rfl⟩:=adO hd;obtain ⟨D,x4,rfl,hD,hlen⟩:=hi;rw [Nat.zero_add] at hD hlen;have g:=aoX h (M:=M) D (aqV h (by omega) hD) (amK h (j:=j) (by omega) hlen);exact ⟨_,_,rfl,ao0 g,_,_,rfl,by rw [Nat.zero_add]; exact aoZ h hD,by rw [Nat.zero_add]; exact ahg h hlen (amJ ..)⟩)
 obtain⟨D,x4,rfl,hD,hlen⟩:=hI;rw[abD,Nat.zero_add]at hD;refine⟨D,jP rfl ?_,hD⟩;exact akv (afV (n:=r) (by omega)) hl
theorem adQ(P:Int->Prop)(h0:∀v,P v->0<=v):∃d,Q0 d P:=by
 by_cases hx:∃v,P v
 ·obtain⟨v,hv⟩:=hx
  have:∀(k:Nat) (v:Int),v=(k:Int)->P v->∃d,Q0 d P:=by
   intro k
   induction k using Nat.strongRecOn with
   | _ k ih=>
    intro v hk hv;by_cases hs:∃w,P w/\w<v
    ·obtain⟨w,hw,hlt⟩:=hs
     have:=h0 w hw;exact ih w.toNat (by omega) w (by omega) hw
    ·exact⟨some v,fun w e=>by cases e;exact hv,fun w hw=>⟨v,rfl,Int.not_lt.mp fun z=>hs ⟨w,hw,z⟩⟩⟩
  exact this v.toNat v (by have:=h0 v hv;omega) hv
 ·exact⟨none,(fun v e=>by cases e),(fun v hv=>absurd ⟨v,hv⟩ hx)⟩
theorem amO{r:Nat}{n v:Int}(h:Sp u e l b r n v):0<=v:=by
 obtain⟨t,k1,h2,k2,h4⟩:=h;rw[←h4];clear h4 k1 k2;revert h2
 induction t with
 |nil=>intro _;simp[bds]
 | cons p t ih=>
  intro h2;rw[List.all_cons,Bool.and_eq_true]at h2;have:=ih h2.2;obtain⟨q1,q2,q3,q4⟩:=zu h2.1;rw[ahf];unfold bd;omega
noncomputable def LB(u e l b:Int)(r:Nat)(n:Int):Option Int:=Classical.choose (adQ (Sp u e l b r n) fun _ h=>amO h)
theorem afW(u e l b:Int)(r:Nat)(n:Int):Q0 (LB u e l b r n) (Sp u e l b r n):=Classical.choose_spec (adQ (Sp u e l b r n) fun _ h=>amO h)
theorem amP{M:Int}{r:Nat}{D:KI}(H:FwD u e l b M r D){n:Int}(hn:n<=M):j6 D n=LB u e l b r n:=
 Q0.uniq ((H n).imp (fun v p=>p.2) fun v p=>⟨v,⟨hn,p⟩,Int.le_refl _⟩) (afW u e l b r n)
end
section
variable {u e l b:Int}
variable {u' e' l' b':Int}
noncomputable def JD(x y:Option Int):Bool:=match x,y with
 |some i,some j=>decide (j<i)
 |_,_=>false
noncomputable def Q3(u e l b u' e' l' b':Int)(r:Nat)(n:Int):Bool:=JD (LB u e l b r n) (LB u' e' l' b' r n)
theorem aqW{kv kv':KI}{m m' R M:OP}{n:Int}:qZ.1 [m,m',R,M,some (dI kv),some (dI kv'),some (.int n)]=if JD (j6 kv n) (j6 kv' n)=true then some (.rt (.int n)) else some (.nx [m,m',R,M,some (dI kv),some (dI kv'),some (.int n)]):=by
 have h1:=amL kv n;have h2:=amL kv' n;cases c1:j6 kv n with
 | none=>
  rw[c1]at h1;simp only[qZ,jH,ifS,Zw,tst,op2,lkp,zzA,zzB,zzC,zzD,h1,Option.isSome_none,asB,zzL,zzN,qC,JD]
 | some i=>
  rw[c1]at h1;cases c2:j6 kv' n with
  | none=>
   rw[c2]at h2;simp only[qZ,jH,ifS,Zw,tst,op2,lkp,zzA,zzB,zzC,zzD,h1,h2,Option.isSome_none,Option.isSome_some,asB,zzL,zzN,zzM,qC,JD]
  | some j=>
   rw[c2]at h2;have g1:=amM c1;have g2:=amM c2;have gt:qR (fun i j=>decide (j<i)) (.int i) (.int j)=some (.bool (decide (j<i))):=rfl;by_cases hij:j<i
   ·rw[decide_eq_true hij]at gt
    simp only[qZ,jH,ifS,Zw,tst,op2,qK,lkp,zzA,zzB,zzC,zzD,zzE,h1,h2,g1,g2,gt,Option.isSome_some,asB,zzM,JD,decide_eq_true hij]
   ·rw[decide_eq_false hij]at gt
    simp only[qZ,jH,ifS,Zw,tst,op2,qK,lkp,zzA,zzB,zzC,zzD,zzE,h1,h2,g1,g2,gt,Option.isSome_some,asB,zzL,zzN,zzM,qC,JD,decide_eq_false hij]
theorem ahi{kv kv':KI}{m m' R M:OP}:∀(ns:List Nat) (x:OP),(∃y,jC (jB 6) qZ.1 (ns.map fun (n:Nat)=> .int (n:Int)) [m,m',R,M,some (dI kv),some (dI kv'),x]=
  match ns.find? fun (n:Nat)=>JD (j6 kv n) (j6 kv' n) with
  | some n=>some (.rt (.int (n:Int)))
  | none=>some (.nx [m,m',R,M,some (dI kv),some (dI kv'),y]))
 | [],x=>⟨x,rfl⟩
 | n::ns,x=>by
  obtain⟨y,ih⟩:=ahi (kv:=kv) (kv':=kv') (m:=m) (m':=m') (R:=R) (M:=M) ns (some (.int (n:Int)));refine⟨y,?_⟩;rw[List.map_cons];simp only[jC,jB,zzD,zzF,zzG,aqW,List.find?_cons];by_cases hm:JD (j6 kv n) (j6 kv' n)=true
  ·rw[if_pos hm]
   simp[hm]
  ·rw[if_neg hm]
   simp only[zzD,Bool.not_eq_true]at hm ⊢;simp only[hm];exact ih
noncomputable def ahj(u e l b u' e' l' b':Int)(r M:Nat):Option Int:=((List.range (M+1)).find? fun (n:Nat)=>Q3 u e l b u' e' l' b' r n).map fun (n:Nat)=>(n:Int)
theorem adR{α:Type}{p q:α->Bool}:∀(xs:List α),(∀x∈xs,p x=q x)->xs.find? p=xs.find? q
 | [],_=>rfl
 | x::xs,h=>by
  rw[List.find?_cons,List.find?_cons,h x List.mem_cons_self,adR xs fun y hy=>h y (List.mem_cons_of_mem _ hy)]
theorem amQ{m m' D D':PyData}{rr MM N1:Int}{RR:LP}{y:OP}{F:Option Nat}(c3:qY [m,m']=some .none)(c4:qg [.int rr]=some .none)(c5:j0 [.int MM,.int 0,.int 999]=some (.bool true))(d1:agW [m,.int rr,.int MM]=some D)(d3:agW [m',.int rr,.int MM]=some D')(a1:qD (.int MM) (.int 1)=some (.int N1))(rg:Zx [.int N1]=some RR)
  (lp:jC (jB 6) qZ.1 RR [some m,some m',some (.int rr),some (.int MM),some D,some D',none]=match F with
  | some n=>some (.rt (.int (n:Int)))
  | none=>some (.nx [some m,some m',some (.int rr),some (.int MM),some D,some D',y])):
  Zk.1 [some m,some m',some (.int rr),some (.int MM),none,none,none]=some (.rt (ofO (F.map fun (n:Nat)=>(n:Int)))):=by
 simp only[Zk];refine(jq (ρ1:=[some m,some m',some (.int rr),some (.int MM),none,none,none]) ?_).trans ?_
 ·simp only[zg,jA,jm,jw,lkp,zzA,zzB,zzC,zzD,zzE,c3]
 refine(jq (ρ1:=[some m,some m',some (.int rr),some (.int MM),none,none,none]) ?_).trans ?_
 ·simp only[zg,jA,jm,jw,lkp,zzA,zzB,zzC,zzD,zzE,c4]
 refine(jq (ρ1:=[some m,some m',some (.int rr),some (.int MM),none,none,none]) ?_).trans ?_
 ·simp only[ifS,Ql,tst,jA,jm,jw,lkp,cst,zzA,zzB,zzC,zzD,zzE,c5,asB,zzJ,zzL,zzN,qC]
 refine(jq (ρ1:=[some m,some m',some (.int rr),some (.int MM),some D,none,none]) ?_).trans ?_
 ·simp only[qV,jA,jm,jw,lkp,jB,zzA,zzB,zzC,zzD,zzE,d1,zzF,zzG]
 refine(jq (ρ1:=[some m,some m',some (.int rr),some (.int MM),some D,some D',none]) ?_).trans ?_
 ·simp only[qV,jA,jm,jw,lkp,jB,zzA,zzB,zzC,zzD,zzE,d3,zzF,zzG]
 have fr:Jm (fun ρ=>(jm (op2 qD (lkp 3) (cst (PyData.int 1))) jw ρ).bind Zx) (jB 6) qZ.1 [some m,some m',some (.int rr),some (.int MM),some D,some D',none]=jC (jB 6) qZ.1 RR [some m,some m',some (.int rr),some (.int MM),some D,some D',none]:=by
  simp only[Jm,jm,jw,op2,lkp,cst,zzA,zzB,zzC,zzD,zzE,a1,rg]
 cases F with
 | none=>
  refine(jq (fr.trans lp)).trans rfl
 | some n=>
  unfold jH;rw[fr.trans lp];rfl
theorem adS(H:zh=true)(h:okN u e l b=true)(h':okN u' e' l' b'=true){r:Nat}(h1:1<=r)(h3:r<=3){M:Nat}(hM:M<=998):Je [jk u e l b,jk u' e' l' b',.int (r:Int),.int (M:Int)]=some (ofO (ahj u e l b u' e' l' b' r M)):=by
 have c1:=Jp (ag6 H h);have c2:=Jp (ag6 H h')
 have c3:qY [jk u e l b,jk u' e' l' b']=some .none:=by
  simp[qY,jx,aeN,jE,jH,zg,jA,jm,jw,lkp,c1,c2,qC]
 have c4:qg [.int (r:Int)]=some .none:=ag8 (by omega) (by omega)
 have c5:j0 [.int (M:Int),.int 0,.int 999]=some (.bool true):=by
  rw[qj];have:(0:Int)<=(M:Int)/\(M:Int)<=999:=⟨by omega,by omega⟩;simp[this.2]
 obtain⟨D,d1,d2⟩:=ahh h h1 h3 (M:=(M:Int)) (by omega) (by omega);obtain⟨D',d3,d4⟩:=ahh h' h1 h3 (M:=(M:Int)) (by omega) (by omega);have a1:qD (.int (M:Int)) (.int 1)=some (.int ((M+1:Nat):Int)):=by rw[add_int];congr 2
 have rg:=afV (n:=M+1) (by omega);obtain⟨y,lp⟩:=ahi (kv:=D) (kv':=D') (m:=some (jk u e l b)) (m':=some (jk u' e' l' b')) (R:=some (.int (r:Int))) (M:=some (.int (M:Int))) (List.range (M+1)) none
 have fe:(List.range (M+1)).find? (fun (n:Nat)=>JD (j6 D n) (j6 D' n))=(List.range (M+1)).find? fun (n:Nat)=>Q3 u e l b u' e' l' b' r n:=adR _ fun n hn=>by
  have:n<=M:=by have:=List.mem_range.mp hn;omega
  show JD _ _=JD _ _;rw[amP d2 (show(n:Int)<=(M:Int) by omega),amP d4 (show(n:Int)<=(M:Int) by omega)]
 rw[fe]at lp;unfold ahj;have rl:zj 0 (M+1)=(List.range (M+1)).map fun (n:Nat)=>PyData.int (n:Int):=by simp[zj]
 rw[rl]at rg;generalize (List.range (M+1)).find? (fun (n:Nat)=>Q3 u e l b u' e' l' b' r n)=F at lp ⊢;exact jP rfl (amQ c3 c4 c5 d1 d3 a1 rg lp)
end
noncomputable def zz(kv:KI)(k c:Int):KI:=acw kv k (qU kv k+c)
noncomputable abbrev Q4(m A W:OP)(acc:KI)(n:Int)(R:OP)(k:OP):Rho:=[m,A,W,some (dI acc),some (.int n),R,k]
theorem ao1{m A R:OP}{r:List (PyData×PyData)}{acc:KI}{n k c:Int}(hc:zO r n=some (.int c))(hl:acc.length<1000000):
  acG.1 (Q4 m A (some (.dict ((.none,.none)::r))) acc n R (some (.int k)))=some (.nx (Q4 m A (some (.dict ((.none,.none)::r))) (zz acc k c) n R (some (.int k)))):=by
 have hle:(enc acc).length<1000000:=by simpa[enc]using hl
 have g2:JZ (dI acc) (.int k) (.int 0)=some (.int (qU acc k)):=by
  show some ((zO (enc acc) k).getD (.int 0))=_;rw[QZ];unfold qU;cases j6 acc k<;>rfl
 have g1:QC (.dict ((.none,.none)::r)) (.int n)=some (.int c):=hc
 have fv:brw (some 3) (op2 qD (zk (lkp 3) (lkp 6) (cst (.int 0))) (op2 QC (lkp 2) (lkp 4))) (Q4 m A (some (.dict ((.none,.none)::r))) acc n R (some (.int k)))=some (.int (qU acc k+c)):=by
  simp only[brw,hid,op2,zk,lkp,cst,zzF,zzG,zzA,zzB,zzC,Option.join_none,zzH,zzD,g1,g2,add_int];rfl
 have fk:brw (some 3) (lkp 6) (Q4 m A (some (.dict ((.none,.none)::r))) acc n R (some (.int k)))=some (.int k):=by
  simp only[brw,hid,lkp,zzF,zzG,zzA,zzB,zzC]
 have pt:adk (some (dI acc)) (some (.int (qU acc k+c))) (some (.int k))=some (dI (zz acc k c)):=by
  show(if (enc acc).length<1000000 then some (PyData.dict ((.none,.none)::aef (enc acc) k (.int (qU acc k+c)))) else none)=_;rw[if_pos hle,aha];rfl
 have l3:lkp 3 (Q4 m A (some (.dict ((.none,.none)::r))) acc n R (some (.int k)))=some (dI acc):=rfl;simp only[acG,jH,aj3,l3,fv,fk,pt,zzE,zzD,qC,zzF,zzG]
theorem aeT(kv:KI)(k c:Int):(zz kv k c).length<=kv.length+1:=ahb _ _ _
theorem adT(c:Int):∀(ks:List Int) (acc:KI),(ks.foldl (fun a k=>zz a k c) acc).length<=acc.length+ks.length
 | [],acc=>by simp
 | k::ks,acc=>by
  have h1:=adT c ks (zz acc k c);have h2:=aeT acc k c;rw[List.foldl_cons,List.length_cons];omega
theorem aeU{m A:OP}{r:List (PyData×PyData)}{n c:Int}(hc:zO r n=some (.int c))(e b:Int)(nn:Int):∀(rs:LP) (acc:KI) (x5 x6:OP),acc.length+rs.length<1000000->
  ∃y5 y6,jC (aaH 2 (qB (jB 5) (qB (jB 6) Q9))) acG.1 (rs.map (aci e b nn)) (Q4 m A (some (.dict ((.none,.none)::r))) acc n x5 x6)=
   some (.nx (Q4 m A (some (.dict ((.none,.none)::r))) ((rs.map fun x=>zD e nn x / b).foldl (fun a k=>zz a k c) acc) n y5 y6))
 | [],acc,x5,x6,_=>⟨x5,x6,rfl⟩
 | x::rs,acc,x5,x6,hl=>by
  have hl':acc.length+(rs.length+1)<1000000:=hl;have h2:=aeT acc (zD e nn x / b) c;obtain⟨y5,y6,ih⟩:=aeU (m:=m) (A:=A) hc e b nn rs (zz acc (zD e nn x / b) c) (some x) (some (.int (zD e nn x / b))) (by omega);refine⟨y5,y6,?_⟩;have s:=ao1 (m:=m) (A:=A) (R:=some x) (acc:=acc) (k:=zD e nn x / b) hc (by omega);have ga:aaH 2 (qB (jB 5) (qB (jB 6) Q9)) (aci e b nn x) (Q4 m A (some (.dict ((.none,.none)::r))) acc n x5 x6)=some (Q4 m A (some (.dict ((.none,.none)::r))) acc n (some x) (some (.int (zD e nn x / b)))):=rfl;rw[List.map_cons,jC,ga,zzD,s,zzD];exact ih
noncomputable def Jh(u e l b:Int)(a:Nat)(n:Int):List Int:=((jF u l).filter (okL e b (zy u e l b a) n)).map fun x=>zD e n x / b
noncomputable def adU(u e l b:Int)(a:Nat)(kv:KI):KI:=kv.foldl (fun acc p=>(Jh u e l b a p.1).foldl (fun x k=>zz x k (qU kv p.1)) acc) []
theorem amR{u e l b:Int}(h:okN u e l b=true)(a:Nat)(ha:a<4){r:List (PyData×PyData)}{n c:Int}(hc:zO r n=some (.int c)){acc:KI}(hacc:acc.length+(jF u l).length<1000000){x5 x6:OP}:
  ∃y5 y6,Qd.1 (Q4 (some (jk u e l b)) (some (.int (a:Int))) (some (.dict ((.none,.none)::r))) acc n x5 x6)=
   some (.nx (Q4 (some (jk u e l b)) (some (.int (a:Int))) (some (.dict ((.none,.none)::r))) ((Jh u e l b a n).foldl (fun x k=>zz x k c) acc) n y5 y6)):=by
 have h1:=amE (e:=e) (n:=n) h a ha;have hfl:((jF u l).filter (okL e b (zy u e l b a) n)).length<=(jF u l).length:=List.length_filter_le _ _;obtain⟨y5,y6,lp⟩:=aeU (m:=some (jk u e l b)) (A:=some (.int (a:Int))) hc e b n ((jF u l).filter (okL e b (zy u e l b a) n)) acc x5 x6 (by omega);refine⟨y5,y6,?_⟩;simp only[Qd];refine(jq (ρ1:=Q4 (some (jk u e l b)) (some (.int (a:Int))) (some (.dict ((.none,.none)::r))) ((Jh u e l b a n).foldl (fun x k=>zz x k c) acc) n y5 y6) ?_).trans rfl;simp only[Jm,itL,Za,jA,jm,jw,lkp,hid,Q4,zzF,zzG,zzA,zzB,zzC,zzD,zzE,h1];exact lp
theorem ahk(u e l b:Int)(a:Nat)(kv:KI)(c:Int->Int):∀(ps:KI) (acc:KI),(ps.foldl (fun acc p=>(Jh u e l b a p.1).foldl (fun x k=>zz x k (c p.1)) acc) acc).length<=acc.length+ps.length*(jF u l).length
 | [],acc=>by simp
 | p::ps,acc=>by
  rw[List.foldl_cons];have h1:=ahk u e l b a kv c ps ((Jh u e l b a p.1).foldl (fun x k=>zz x k (c p.1)) acc);have h2:=adT (c p.1) (Jh u e l b a p.1) acc;have h3:(Jh u e l b a p.1).length<=(jF u l).length:=by unfold Jh;rw[List.length_map];exact List.length_filter_le _ _
  have h4:(ps.length+1)*(jF u l).length=ps.length*(jF u l).length+(jF u l).length:=by rw[Nat.succ_mul]
  rw[List.length_cons,h4];omega
theorem acj{u e l b:Int}(h:okN u e l b=true)(a:Nat)(ha:a<4)(kv:KI):∀(ps:KI) (acc:KI) (x4 x5 x6:OP),(∀p∈ps,p∈kv)->acc.length+(ps.length+1)*(jF u l).length<1000000->
  ∃y4 y5 y6,jC (jB 4) Qd.1 (ps.map fun p=> .int p.1) [some (jk u e l b),some (.int (a:Int)),some (dI kv),some (dI acc),x4,x5,x6]=
   some (.nx [some (jk u e l b),some (.int (a:Int)),some (dI kv),some (dI (ps.foldl (fun acc p=>(Jh u e l b a p.1).foldl (fun x k=>zz x k (qU kv p.1)) acc) acc)),y4,y5,y6])
 | [],acc,x4,x5,x6,_,_=>⟨x4,x5,x6,rfl⟩
 | p::ps,acc,x4,x5,x6,hp,hl2=>by
  have e4:(ps.length+1+1)*(jF u l).length=(ps.length+1)*(jF u l).length+(jF u l).length:=by rw[Nat.succ_mul]
  have hl3:acc.length+(ps.length+1+1)*(jF u l).length<1000000:=hl2;obtain⟨c,hc⟩:=acT (hp p List.mem_cons_self);have hv:zO (enc kv) p.1=some (.int (qU kv p.1)):=by rw[QZ,hc];unfold qU;rw[hc];rfl
  obtain⟨y5,y6,s⟩:=amR (e:=e) h a ha (r:=enc kv) (n:=p.1) hv (acc:=acc) (x5:=x5) (x6:=x6) (by
   have:(jF u l).length<=(ps.length+1)*(jF u l).length:=Nat.le_mul_of_pos_left _ (by omega);omega)
  have h2:=adT (qU kv p.1) (Jh u e l b a p.1) acc;have h3:(Jh u e l b a p.1).length<=(jF u l).length:=by unfold Jh;rw[List.length_map];exact List.length_filter_le _ _
  obtain⟨z4,z5,z6,ih⟩:=acj (e:=e) h a ha kv ps ((Jh u e l b a p.1).foldl (fun x k=>zz x k (qU kv p.1)) acc) (some (.int p.1)) y5 y6 (fun q hq=>hp q (List.mem_cons_of_mem _ hq)) (by omega);refine⟨z4,z5,z6,?_⟩;rw[List.map_cons,jC];simp only[jB,zzF,zzG,zzD];have s':Qd.1 [some (jk u e l b),some (.int (a:Int)),some (dI kv),some (dI acc),some (.int p.1),x5,x6]=_:=s;rw[s',zzD];exact ih
theorem aiu{u e l b:Int}(h:okN u e l b=true)(a:Nat)(ha:a<4)(kv:KI)(hk:(kv.length+1)*(jF u l).length<1000000):
  acI [jk u e l b,.int (a:Int),dI kv]=some (dI (adU u e l b a kv)):=by
 refine jP rfl ?_;obtain⟨y4,y5,y6,lp⟩:=acj (e:=e) h a ha kv kv [] none none none (fun _ h=>h) (by simpa using hk);show acH.1 [some (jk u e l b),some (.int (a:Int)),some (dI kv),none,none,none,none]=_
 have pr:(BX.qM (dI kv)).map (fun r=>r.map (·.1))=some (kv.map fun p=>PyData.int p.1):=by
  show some ((enc kv).map (·.1))=_;simp[enc,List.map_map,Function.comp_def]
 have q:jH (Jm (fun ρ=>itD (lkp 2) (hid (some 3) ρ)) (jB 4) Qd.1) (jH (qK (lkp 3)) qC) [some (jk u e l b),some (.int (a:Int)),some (dI kv),some (dI []),none,none,none]=some (.rt (dI (adU u e l b a kv))):=by
  refine(jq (ρ1:=[some (jk u e l b),some (.int (a:Int)),some (dI kv),some (dI (adU u e l b a kv)),y4,y5,y6]) ?_).trans rfl;simp only[Jm,itD,lkp,hid,zzF,zzG,zzA,zzB,zzC,zzD,pr];exact lp
 simp only[acH,act,cst,zzD,List.length_cons,List.length_nil,zzF,zzG];rw[if_pos (by decide)];have q':jH (Jm (fun ρ=>itD (lkp 2) (hid (some 3) ρ)) (jB 4) Qd.1) (jH (qK (lkp 3)) qC) [some (jk u e l b),some (.int (a:Int)),some (dI kv),some (.dict [(.none,.none)]),none,none,none]=some (.rt (dI (adU u e l b a kv))):=q;rw[q'];rfl
theorem aay(p:Int×Int)(kv:KI)(x:Int):j6 (p::kv) x=if p.1=x then some p.2 else j6 kv x:=by
 by_cases h:p.1=x<;>simp[j6,h,List.find?_cons]
theorem aeV{kv:KI}{k:Int}(h:¬ kv.any (fun p=>decide (p.1=k))=true):j6 kv k=none:=by
 have:kv.find? (fun p=>decide (p.1=k))=none:=by
  rw[List.find?_eq_none];intro p hp z;exact h (List.any_eq_true.mpr ⟨p,hp,z⟩)
 simp[j6,this]
noncomputable def ndK(kv:KI):Prop:=(kv.map (·.1)).Nodup
theorem amS{kv:KI}{k v:Int}(h:ndK kv):ndK (acw kv k v):=by
 unfold acw;by_cases c:kv.any (fun p=>decide (p.1=k))=true
 ·rw[if_pos c]
  unfold ndK at h ⊢
  have:(kv.map fun p=>if p.1=k then (p.1,v) else p).map (·.1)=kv.map (·.1):=by
   rw[List.map_map];apply List.map_congr_left;intro p _;by_cases q:p.1=k<;>simp[q]
  rw[this];exact h
 ·rw[if_neg c]
  unfold ndK at h ⊢;rw[List.map_append,List.nodup_append];refine⟨h,by simp,?_⟩;intro x hx y hy;have hy':y=k:=by simpa using hy
  subst hy';intro z;subst z;obtain⟨p,hp,e⟩:=List.mem_map.mp hx;exact c (List.any_eq_true.mpr ⟨p,hp,by simpa using e⟩)
theorem ajn(c:Int):∀(ks:List Int) (acc:KI),ndK acc->ndK (ks.foldl (fun a k=>zz a k c) acc)
 | [],acc,h=>h
 |k::ks,acc,h=>ajn c ks _ (amS h)
theorem ahl:∀{kv:KI}{p:Int×Int},ndK kv->p∈kv->qU kv p.1=p.2
 | [],p,_,h=>by simp at h
 | q::kv,p,hn,h=>by
  unfold ndK at hn;rw[List.map_cons,List.nodup_cons]at hn;unfold qU;rw[aay];rcases List.mem_cons.mp h with rfl | h
  ·simp
  ·have:¬ q.1=p.1:=fun z=>hn.1 (List.mem_map.mpr ⟨p,h,z.symm⟩)
   rw[if_neg this];exact ahl hn.2 h
noncomputable def smK(kv:KI)(f:Int->Int):Int:=(kv.map fun p=>p.2*f p.1).sum
theorem ajo(k v:Int)(f:Int->Int):∀kv:KI,ndK kv->kv.any (fun p=>decide (p.1=k))=true->smK (kv.map fun p=>if p.1=k then (p.1,v) else p) f=smK kv f+(v-qU kv k)*f k
 | [],_,h=>by simp at h
 | p::kv,hn,h=>by
  unfold ndK at hn;rw[List.map_cons,List.nodup_cons]at hn;by_cases h1:p.1=k
  ·have hid:kv.map (fun p=>if p.1=k then (p.1,v) else p)=kv:=by
    conv=>rhs;rw[←List.map_id kv]
    apply List.map_congr_left;intro q hq;have:¬ q.1=k:=fun z=>hn.1 (List.mem_map.mpr ⟨q,hq,z.trans h1.symm⟩);simp[this]
   rw[List.map_cons,hid];have g:qU (p::kv) k=p.2:=by unfold qU;rw[aay,if_pos h1];rfl
   rw[g];simp only[h1,zzM,smK,List.map_cons,List.sum_cons,Int.sub_mul];omega
  ·have c:kv.any (fun p=>decide (p.1=k))=true:=by simpa[h1]using h
   have ih:=ajo k v f kv hn.2 c;have g:qU (p::kv) k=qU kv k:=by unfold qU;rw[aay,if_neg h1]
   rw[List.map_cons,if_neg h1,g];simp only[smK,List.map_cons,List.sum_cons]at ih ⊢;rw[ih];omega
theorem ao2{kv:KI}{k c:Int}{f:Int->Int}(h:ndK kv):smK (zz kv k c) f=smK kv f+c*f k:=by
 unfold zz acw;by_cases q:kv.any (fun p=>decide (p.1=k))=true
 ·rw[if_pos q,ajo k _ f kv h q]
  have:qU kv k+c-qU kv k=c:=by omega
  rw[this]
 ·rw[if_neg q]
  have g:qU kv k=0:=by unfold qU;rw[aeV q];rfl
  rw[g];simp[smK]
theorem ahm(c:Int)(f:Int->Int):∀(ks:List Int) (acc:KI),ndK acc->smK (ks.foldl (fun a k=>zz a k c) acc) f=smK acc f+c*(ks.map f).sum
 | [],acc,_=>by simp
 | k::ks,acc,h=>by
  rw[List.foldl_cons,ahm c f ks (zz acc k c) (amS h),ao2 h,List.map_cons,List.sum_cons,Int.mul_add];omega
theorem adV(p:PyData->Bool)(h:PyData->Int):∀rs:LP,((rs.filter p).map h).sum=(rs.map fun r=>if p r=true then h r else 0).sum
 | []=>rfl
 | r::rs=>by
  rw[List.map_cons,List.sum_cons,←adV p h rs];by_cases c:p r=true
  ·rw[List.filter_cons_of_pos c,if_pos c,List.map_cons,List.sum_cons]
  ·rw[List.filter_cons_of_neg c,if_neg c];omega
theorem Zr{u e l n:Int}(C:Chk u e l)(h0:0<=n)(h1:n<=u*e+l):1<=cnt u e l n:=by
 have:=C.dig n.toNat (by omega);rw[show((n.toNat:Nat):Int)=n by omega]at this;obtain⟨r,hr,q⟩:=List.any_eq_true.mp this;have:r∈(jF u l).filter fun r=>jr e r==n:=List.mem_filter.mpr ⟨hr,q⟩;have:=List.length_pos_of_mem this;unfold cnt;omega
theorem JE{u e l n:Int}(C:Chk u e l)(h:n<0∨u*e+l<n):cnt u e l n=0:=by
 have:(jF u l).filter (fun r=>jr e r==n)=[]:=by
  rw[List.filter_eq_nil_iff];intro r hr z;have z':jr e r=n:=by simpa using z
  have:=C.rng r hr;omega
 unfold cnt;rw[this];rfl
theorem abE{u e l:Int}(C:Chk u e l):(Qm u e l).length=(u*e+l+1).toNat:=by rw[C.lst];simp
theorem adW{u e l:Int}(C:Chk u e l)(m:Nat):(Qm u e l)[m]?=if m<(u*e+l+1).toNat then some (cnt u e l m) else none:=by
 rw[C.lst,List.getElem?_map];by_cases h:m<(u*e+l+1).toNat
 ·rw[if_pos h,List.getElem?_range h];rfl
 ·rw[if_neg h]
  have:(List.range (u*e+l+1).toNat)[m]?=none:=by simp;omega
  rw[this];rfl
section
variable {u e l b:Int}
noncomputable def CN(u e l b:Int):Nat->Int->Int
 |0,n=>if n=0 then 1 else 0
 |r+1,n=>((jF u l).map fun x=>if (n-jr e x) % b=0/\0<=n-jr e x then CN u e l b r ((n-jr e x) / b) else 0).sum
theorem aeW(f:PyData->Int):∀ks:LP,(∀k∈ks,f k=0)->(ks.map f).sum=0
 | [],_=>rfl
 |k::ks,h=>by rw[List.map_cons,List.sum_cons,h k List.mem_cons_self,aeW f ks fun x hx=>h x (List.mem_cons_of_mem _ hx)];rfl
theorem akw(h:okN u e l b=true){x:PyData}(hx:x∈jF u l):0<=jr e x/\jr e x<=u*e+l:=by
 obtain⟨a1,a2,a3,a4,a5,a6,a7,a8,a9,a10⟩:=jQ h;rw[Qw]at hx;obtain⟨p,hp,rfl⟩:=List.mem_map.mp hx;have ok:=ahc hp;obtain⟨q1,q2,q3,q4⟩:=zu ok;have w0:=ajf a3 ok;refine⟨w0,?_⟩;have:=Int.mul_le_mul_of_nonneg_right q2 (show 0<=e by omega);show p.1*e+p.2<=u*e+l;omega
theorem ajp(h:okN u e l b=true):∀(r:Nat) (k:Int),zy u e l b r<k->CN u e l b r k=0
 | 0,k,hk=>by
  have:zy u e l b 0=0:=rfl;show(if k=0 then (1:Int) else 0)=0;rw[if_neg (by omega)]
 | r+1,k,hk=>by
  obtain⟨a1,a2,a3,a4,a5,a6,a7,a8,a9,a10⟩:=jQ h;refine aeW _ _ fun x hx=>?_;obtain⟨w0,w1⟩:=akw h hx;by_cases hc:(k-jr e x) % b=0/\0<=k-jr e x
  ·rw[if_pos hc]
   refine ajp h r _ ?_;rw[ait]at hk;have e1:wt e (u,l)=u*e+l:=rfl;rw[e1]at hk;have hd:=Int.mul_ediv_add_emod (k-jr e x) b;rw[hc.1,Int.mul_comm]at hd;exact Int.lt_of_mul_lt_mul_right (show zy u e l b r*b<(k-jr e x) / b*b by omega) (by omega)
  ·rw[if_neg hc]
theorem akx(h:okN u e l b=true)(a:Nat)(n:Int):((Jh u e l b a n).map (CN u e l b a)).sum=CN u e l b (a+1) n:=by
 obtain⟨a1,a2,a3,a4,a5,a6,a7,a8,a9,a10⟩:=jQ h;unfold Jh;rw[List.map_map,adV];show _=((jF u l).map fun x=>if (n-jr e x) % b=0/\0<=n-jr e x then CN u e l b a ((n-jr e x) / b) else 0).sum
 congr 1
 refine List.map_congr_left fun x hx=>?_;by_cases hc:(n-jr e x) % b=0/\0<=n-jr e x
 ·rw[if_pos hc]
  by_cases hM:n-jr e x<=b*zy u e l b a
  ·have ok:okL e b (zy u e l b a) n x=true:=by
    simp only[okL,zD,Bool.and_eq_true];exact⟨decide_eq_true hc.1,decide_eq_true hc.2,decide_eq_true hM⟩
   rw[if_pos ok];rfl
  ·have ok:¬ okL e b (zy u e l b a) n x=true:=by
    simp only[okL,zD,Bool.and_eq_true];exact fun z=>hM (of_decide_eq_true z.2.2)
   rw[if_neg ok];refine(ajp h a _ ?_).symm;have hd:=Int.mul_ediv_add_emod (n-jr e x) b;rw[hc.1]at hd;exact Int.lt_of_mul_lt_mul_left (show b*zy u e l b a<b*((n-jr e x) / b) by omega) (by omega)
 ·have ok:¬ okL e b (zy u e l b a) n x=true:=by
   simp only[okL,zD,Bool.and_eq_true];exact fun z=>hc ⟨of_decide_eq_true z.1,of_decide_eq_true z.2.1⟩
  rw[if_neg ok,if_neg hc]
theorem ahn(a:Nat)(g f:Int->Int):∀(ps acc:KI),ndK acc->ndK (ps.foldl (fun acc p=>(Jh u e l b a p.1).foldl (fun x k=>zz x k (g p.1)) acc) acc)/\smK (ps.foldl (fun acc p=>(Jh u e l b a p.1).foldl (fun x k=>zz x k (g p.1)) acc) acc) f=smK acc f+(ps.map fun p=>g p.1*((Jh u e l b a p.1).map f).sum).sum
 | [],acc,hn=>⟨hn,by simp⟩
 | p::ps,acc,hn=>by
  obtain⟨h1,h2⟩:=ahn a g f ps ((Jh u e l b a p.1).foldl (fun x k=>zz x k (g p.1)) acc) (ajn _ _ _ hn);refine⟨h1,?_⟩;rw[List.foldl_cons,h2,ahm _ _ _ _ hn,List.map_cons,List.sum_cons];omega
theorem amT(h:okN u e l b=true)(a:Nat){kv:KI}(hn:ndK kv):ndK (adU u e l b a kv)/\smK (adU u e l b a kv) (CN u e l b a)=smK kv (CN u e l b (a+1)):=by
 obtain⟨h1,h2⟩:=ahn (u:=u) (e:=e) (l:=l) (b:=b) a (qU kv) (CN u e l b a) kv [] (by simp[ndK]);refine⟨h1,?_⟩;show smK (kv.foldl _ []) _=_;rw[h2];have e0:smK [] (CN u e l b a)=0:=rfl;rw[e0,Int.zero_add];unfold smK
 congr 1
 refine List.map_congr_left fun p hp=>?_;rw[akx h,ahl hn hp]
theorem ajq:∀{kv:KI},ndK kv->smK kv (CN u e l b 0)=qU kv 0
 | [],_=>rfl
 | p::kv,hn=>by
  have hn':ndK kv:=by unfold ndK at hn ⊢;rw[List.map_cons]at hn;exact(List.nodup_cons.mp hn).2
  have hne:p.1∉kv.map (·.1):=by unfold ndK at hn;rw[List.map_cons]at hn;exact(List.nodup_cons.mp hn).1
  have ih:=ajq hn'
  have e1:smK (p::kv) (CN u e l b 0)=p.2*(if p.1=0 then 1 else 0)+smK kv (CN u e l b 0):=by
   unfold smK;rw[List.map_cons,List.sum_cons];rfl
  rw[e1,ih];unfold qU;rw[aay];by_cases h0:p.1=0
  ·rw[if_pos h0,if_pos h0]
   have:j6 kv 0=none:=aeV fun z=>by
    obtain⟨q,hq,hq2⟩:=List.any_eq_true.mp z;exact hne (List.mem_map.mpr ⟨q,hq,by rw[h0];simpa using hq2⟩)
   rw[this];simp
  ·rw[if_neg h0,if_neg h0]
   simp
theorem aqX{kv kv':KI}{a:Nat}{R N:OP}(g:acI [jk u e l b,.int (a:Int),dI kv]=some (dI kv')):adF.1 [some (jk u e l b),R,N,some (dI kv),some (.int (a:Int))]=some (.nx [some (jk u e l b),R,N,some (dI kv'),some (.int (a:Int))]):=by
 simp only[adF,jH,qV,jA,jm,jw,lkp,jB,zzA,zzB,zzC,zzD,zzE,g,zzF,zzG,qC]
theorem amU{m:PyData}{rr n s:Int}{R:LP}{D:KI}{x4:OP}(ga:QE [m,.int rr,.int n]=some .none)(s1:QJ (.int rr) (.int 1)=some (.int s))(rg:alO [.int s,.int (-1),.int (-1)]=some R)(hl:jC (jB 4) adF.1 R [some m,some (.int rr),some (.int n),some (dI [(n,1)]),none]=some (.nx [some m,some (.int rr),some (.int n),some (dI D),x4])):
  aml.1 [some m,some (.int rr),some (.int n),none,none]=some (.rt (.int (qU D 0))):=by
 have ng:aod (.int 1)=some (.int (-1)):=rfl;have g2:=ajj D 0 0;simp only[aml];refine(jq (ρ1:=[some m,some (.int rr),some (.int n),none,none]) ?_).trans ?_
 ·simp only[zg,jA,jm,jw,lkp,zzA,zzB,zzC,zzD,zzE,ga]
 refine(jq (ρ1:=[some m,some (.int rr),some (.int n),some (dI [(n,1)]),none]) ?_).trans ?_
 ·rfl
 refine(jq (ρ1:=[some m,some (.int rr),some (.int n),some (dI D),x4]) ?_).trans ?_
 ·simp only[Jm,jm,jw,op2,lkp,cst,zzA,zzB,zzC,zzD,zzE,s1,ng,rg]
  exact hl
 simp only[jH,qK,zk,lkp,cst,zzA,zzB,zzC,zzD,zzE,g2];rfl
theorem aky(h:okN u e l b=true)(a:Nat)(kv:KI):(adU u e l b a kv).length<=kv.length*(rp u l).length:=by
 have:=ahk u e l b a kv (qU kv) kv [];rw[List.length_nil,Nat.zero_add,←ais]at this;exact this
theorem afX(H:zh=true)(h:okN u e l b=true){r:Nat}(h1:1<=r)(h3:r<=3){n:Int}(h0:0<=n)(hn:n<=99999):agX [jk u e l b,.int (r:Int),.int n]=some (.int (CN u e l b r n)):=by
 have ga:=akt H h (r:=(r:Int)) (n:=n) (by omega) (by omega) h0 hn
 obtain⟨ρ',hl,hI⟩:=ZZ (ga:=jB 4) (F:=adF.1) (fun i ρ=>∃D x4,ρ=[some (jk u e l b),some (.int (r:Int)),some (.int n),some (dI D),x4]/\ndK D/\smK D (CN u e l b (r-i))=CN u e l b r n/\D.length<=48 ^ i) ((List.range r).map fun (j:Nat)=> .int (((r-(j+1):Nat):Int))) 0
  [some (jk u e l b),some (.int (r:Int)),some (.int n),some (dI [(n,1)]),none] ⟨_,_,rfl,by simp[ndK],by simp[smK],by simp⟩ (fun j d ρ hd hi=>by
   obtain ⟨hj,rfl⟩:=amN hd;obtain ⟨D,x4,rfl,hD,hS,hlen⟩:=hi;rw [Nat.zero_add] at hS hlen;have hk:=amK h (j:=j) (by omega) hlen;rw [ais] at hk;have g:=aiu h (r - (j+1)) (by omega) D hk;obtain ⟨s1,s2⟩:=amT h (r - (j+1)) hD;exact ⟨_,_,rfl,aqX g,_,_,rfl,s1,by rw [Nat.zero_add,s2,show r - (j+1)+1=r - j by omega]; exact hS,by rw [Nat.zero_add]; exact ahg h hlen (aky h _ _)⟩)
 obtain⟨D,x4,rfl,hD,hS,hlen⟩:=hI;rw[List.length_map,List.length_range,Nat.zero_add,Nat.sub_self,ajq hD]at hS;rw[←hS];exact jP rfl (amU ga rfl (aku h1 h3) hl)
end
theorem amV:okD .none=true:=by simp[okD,PyData.canLay0,PyData.depth]
theorem ajr(d:Option Int):okD (ofO d)=true:=by
 cases d with
 |none=>exact amV
 |some v=>exact aav v
theorem ao3(x y:Option Int):PyData.eqv (ofO x) (ofO y)=decide (x=y):=by
 cases x with
 | none=>
  cases y with
  |none=>rfl
  |some v=>rfl
 | some i=>
  cases y with
  |none=>rfl
  | some j=>
   show PyData.eqv (.int i) (.int j)=_;rw[aax];by_cases h:i=j<;>simp[h]
theorem aqY(x y:Option Int):dNe (ofO x) (ofO y)=some (.bool (!decide (x=y))):=by
 unfold dNe;rw[if_pos ⟨ajr x,ajr y⟩,ao3]
theorem acU(H:zh=true){u e l b:Int}(h:okN u e l b=true):aaE [jk u e l b]=some (.int (u*e+l)):=by
 obtain⟨a1,a2,a3,a4,a5,a6,a7,a8,a9,a10⟩:=jQ h;rw[amz a1 (by omega) (by omega) (by omega),(Zq H h).most]
theorem ab5(H:zh=true){u e l b:Int}(ho:okN u e l b=true):JN [jk u e l b]=some (.list ((Qm u e l).map .int)):=by
 obtain⟨a1,a2,a3,a4,a5,a6,a7,a8,a9,a10⟩:=jQ ho;have C:=Zq H ho;have g1:=Jp (ag6 H ho);have g2:=acU H ho;have g3:=JB (u:=u) (e:=e) (l:=l) (b:=b) a1 (by omega) (by omega) (by omega);have hue:=a5;have g4:=aje (u:=u) (e:=e) (l:=l) (b:=b) (by omega) (jF u l) (List.replicate (u*e+l+1).toNat 0) fun r hr=>⟨hr,(C.rng r hr).1,by rw[List.length_replicate];have:=C.rng r hr;omega⟩;have nr:noLs (jF u l)=true:=aeJ _ _;have nm:noL (jk u e l b)=true:=by simp[jk,noL,noLs]
 cases hR:jF u l with
 | nil=>
  exfalso;have:=ZQ (u+1).toNat (l+1).toNat;rw[show zH (u+1).toNat (l+1).toNat=[] from hR]at this;have h0:0<(u+1).toNat*(l+1).toNat:=Nat.mul_pos (by omega) (by omega);simp at this;omega
 | cons r rs=>
  have hmem:r∈jF u l:=by rw[hR];exact List.mem_cons_self
  obtain⟨i,j,_,_,rfl⟩:=ab4 hmem;rw[hR]at g3 g4 nr;simp only[JN,nm,zzM,g1,g2,g3,nr,g4,zzE];rw[if_pos ⟨by omega,by omega,trivial⟩];simp only[Qm,hR]
noncomputable def Qj(u e l u' e' l':Int):Option Nat:=(List.range ((if u'*e'+l'>u*e+l then u'*e'+l' else u*e+l)+1).toNat).find? fun n=>cnt u e l n != cnt u' e' l' n
noncomputable def sgl(u e l b:Int):Bool:=decide (Qm u e l=List.replicate b.toNat 1)
theorem zJ{u e l b:Int}(h:okN u e l b=true):0<=u*e+l/\u*e+l<=26:=by
 obtain⟨a1,a2,a3,a4,a5,a6,a7,a8,a9,a10⟩:=jQ h;omega
section
variable {u e l b u' e' l' b':Int}
theorem aho(p:PyData->Bool):∀rs:LP,(rs.map fun r=>if p r=true then (1:Int) else 0).sum=((rs.filter p).length:Nat)
 | []=>rfl
 | r::rs=>by
  rw[List.map_cons,List.sum_cons,aho p rs,List.filter_cons];by_cases h:p r=true
  ·rw[if_pos h,if_pos h,List.length_cons];omega
  ·rw[if_neg h,if_neg h];omega
theorem as2(h:okN u e l b=true)(n:Int):CN u e l b 1 n=cnt u e l n:=by
 obtain⟨a1,a2,a3,a4,a5,a6,a7,a8,a9,a10⟩:=jQ h;unfold cnt;rw[←aho];show((jF u l).map fun x=>if (n-jr e x) % b=0/\0<=n-jr e x then (if (n-jr e x) / b=0 then (1:Int) else 0) else 0).sum=_
 congr 1
 apply List.map_congr_left;intro x _;generalize jr e x=w;by_cases hw:w=n
 ·subst hw
  rw[if_pos (by simp)];simp
 ·have hb:¬ ((w==n)=true):=by simpa using hw
  rw[if_neg hb];by_cases c:(n-w) % b=0/\0<=n-w
  ·rw[if_pos c,if_neg]
   intro z;have:=Int.mul_ediv_add_emod (n-w) b;rw[z,c.1,Int.mul_zero]at this;omega
  ·rw[if_neg c]
end
theorem amW(H:zh=true){u e l b n:Int}(h:okN u e l b=true)(h0:0<=n)(hn:n<=99999):agX [jk u e l b,.int 1,.int n]=some (.int (cnt u e l n)):=by
 have g:=afX H h (r:=1) (by omega) (by omega) h0 hn;rw[as2 h]at g;exact g
theorem Q5(H:zh=true){u e l b u' e' l' b':Int}(h:okN u e l b=true)(h':okN u' e' l' b'=true):qY [jk u e l b,jk u' e' l' b']=some .none:=by
 have c1:=Jp (ag6 H h);have c2:=Jp (ag6 H h');simp[qY,jx,aeN,jE,jH,zg,jA,jm,jw,lkp,c1,c2,qC]
theorem acV(i j:Int):dNe (.int i) (.int j)=some (.bool (i != j)):=by
 simp[dNe,aav,aax,bne]
theorem amX(H:zh=true){u e l b u' e' l' b':Int}(h:okN u e l b=true)(h':okN u' e' l' b'=true):aaN [jk u e l b,jk u' e' l' b']=some (.bool (decide (b=b')&&decide (Qm u e l=Qm u' e' l'))):=by
 have c0:=Q5 H h h';have c1:=ab5 H h;have c2:=ab5 H h';refine jP rfl ?_;show adC.1 [some (jk u e l b),some (jk u' e' l' b')]=_;simp only[adC,jH,zg,qK,aeg,op2,jA,jm,jw,lkp,cst,zzA,zzB,zzC,zzD,zzE,c0,c1,c2,ix3,qk,ag9,asB];by_cases q:b=b'<;>simp[q]
theorem ao4(H:zh=true){u e l b u' e' l' b' n:Int}(h:okN u e l b=true)(h':okN u' e' l' b'=true)(h3:0<=n)(h4:n<=99999):
  aao.1 [some (jk u e l b),some (jk u' e' l' b'),some (.int n)]=if (cnt u e l n != cnt u' e' l' n)=true then some (.rt (.int n)) else some (.nx [some (jk u e l b),some (jk u' e' l' b'),some (.int n)]):=by
 have c1:=amW H h h3 h4;have c2:=amW H h' h3 h4;simp only[aao,jH,ifS,tst,qK,op2,jA,jm,jw,lkp,cst,zzA,zzB,zzC,zzD,zzE,c1,c2,acV,asB];by_cases q:(cnt u e l n != cnt u' e' l' n)=true
 ·rw[if_pos q,if_pos q];rfl
 ·rw[if_neg q,if_neg q];rfl
theorem aeX(H:zh=true){u e l b u' e' l' b':Int}(h:okN u e l b=true)(h':okN u' e' l' b'=true):∀(ns:List Nat) (x:OP),(∀n∈ns,n<=99999)->
  ∃y,jC (jB 2) aao.1 (ns.map fun (n:Nat)=> .int (n:Int)) [some (jk u e l b),some (jk u' e' l' b'),x]=match ns.find? fun (n:Nat)=>cnt u e l n != cnt u' e' l' n with
   |some n=>some (.rt (.int (n:Int)))
   |none=>some (.nx [some (jk u e l b),some (jk u' e' l' b'),y])
 | [],x,_=>⟨x,rfl⟩
 | n::ns,x,hs=>by
  obtain⟨y,ih⟩:=aeX H h h' ns (some (.int (n:Int))) fun m hm=>hs m (List.mem_cons_of_mem _ hm);have s:=ao4 H h h' (n:=(n:Int)) (by omega) (by have:=hs n List.mem_cons_self;omega);refine⟨y,?_⟩;rw[List.map_cons,jC];simp only[jB,zzF,zzG,zzD,s];by_cases q:(cnt u e l (n:Int) != cnt u' e' l' (n:Int))=true
  ·have fp:(n::ns).find? (fun (n:Nat)=>cnt u e l n != cnt u' e' l' n)=some n:=List.find?_cons_of_pos q
   rw[if_pos q,fp];rfl
  ·have fp:(n::ns).find? (fun (n:Nat)=>cnt u e l n != cnt u' e' l' n)=ns.find? (fun (n:Nat)=>cnt u e l n != cnt u' e' l' n):=List.find?_cons_of_neg q
   rw[if_neg q,fp,zzD];exact ih
noncomputable def ahp:Option Nat->PyData
 |some n=> .int (n:Int)
 |none=> .none
theorem ahq(n:Nat):zj 0 n=(List.range n).map fun (k:Nat)=>PyData.int (k:Int):=by simp[zj]
theorem aiv(H:zh=true){u e l b u' e' l':Int}(h:okN u e l b=true)(h':okN u' e' l' b=true):Jf [jk u e l b,jk u' e' l' b]=some (ahp (Qj u e l u' e' l')):=by
 have c0:=Q5 H h h';have m1:=acU H h;have m2:=acU H h';obtain⟨b1,b2⟩:=zJ h;obtain⟨b3,b4⟩:=zJ h';refine jP rfl ?_;show QQ.1 [some (jk u e l b),some (jk u' e' l' b),none]=_;generalize hM:(if u'*e'+l'>u*e+l then u'*e'+l' else u*e+l)=M;have hM2:0<=M/\M<=26:=by rw[←hM];split<;>omega
 have mx:aa1 [.int (u*e+l),.int (u'*e'+l')]=some (.int M):=by rw[←hM];rfl
 have rg:Zx [.int (M+1)]=some (zj 0 (M+1).toNat):=abA (by omega) (by omega);obtain⟨y,lp⟩:=aeX H h h' (List.range (M+1).toNat) none fun n hn=>by have:=List.mem_range.mp hn;omega
 simp only[QQ];refine(jq (ρ1:=[some (jk u e l b),some (jk u' e' l' b),none]) ?_).trans ?_
 ·simp only[zg,jA,jm,jw,lkp,zzA,zzB,zzC,zzD,zzE,c0]
 refine(jq (ρ1:=[some (jk u e l b),some (jk u' e' l' b),none]) ?_).trans ?_
 ·have ne:(b != b)=false:=by simp
  simp only[ifS,tst,op2,lkp,cst,zzA,zzB,zzC,zzD,ix3,acV,asB,ne,zzL,zzN,qC]
 have fr:Jm (fun ρ=>(jm (op2 qD (jA aa1 (jm (jA aaE (jm (lkp 0) jw)) (jm (jA aaE (jm (lkp 1) jw)) jw))) (cst (.int 1))) jw ρ).bind Zx) (jB 2) aao.1 [some (jk u e l b),some (jk u' e' l' b),none]=jC (jB 2) aao.1 (zj 0 (M+1).toNat) [some (jk u e l b),some (jk u' e' l' b),none]:=by
  simp only[Jm,jA,jm,jw,op2,lkp,cst,zzA,zzB,zzC,zzD,zzE,m1,m2,mx,add_int,rg]
 rw[ahq,lp]at fr;have pn:Qj u e l u' e' l'=(List.range (M+1).toNat).find? fun (n:Nat)=>cnt u e l n != cnt u' e' l' n:=by unfold Qj;rw[hM]
 rw[pn];cases q:(List.range (M+1).toNat).find? fun (n:Nat)=>cnt u e l n != cnt u' e' l' n with
 | some n=>
  rw[q]at fr;simp only[jH,fr,zzD,ahp]
 | none=>
  rw[q]at fr;simp only[jH,fr,zzD,ahp,qK,cst,zzE]
theorem amY(H:zh=true){u e l b u' e' l' b' n:Int}{r:Nat}(h:okN u e l b=true)(h':okN u' e' l' b'=true)(h1:1<=r)(h2:r<=3)(h3:0<=n)(h4:n<=99999):
  Zl [jk u e l b,jk u' e' l' b',.int (r:Int),.int n]=some (.bool (CN u e l b r n != CN u' e' l' b' r n)):=by
 have c0:=Q5 H h h';have c1:=afX H h h1 h2 h3 h4;have c2:=afX H h' h1 h2 h3 h4;refine jP rfl ?_;show abW.1 [some (jk u e l b),some (jk u' e' l' b'),some (.int (r:Int)),some (.int n)]=_;simp only[abW,jH,zg,qK,op2,jA,jm,jw,lkp,zzA,zzB,zzC,zzD,zzE,c0,c1,c2,acV]
theorem abF:∀(ns:List Int) (a:Int),let m:=ns.foldl (fun a b=>if decide (b>a) then b else a) a
  a<=m/\(∀x∈ns,x<=m)/\(m=a∨m∈ns)
 | [],a=>⟨Int.le_refl _,by simp,.inl rfl⟩
 | b::ns,a=>by
  obtain⟨h1,h2,h3⟩:=abF ns (if decide (b>a) then b else a);show a<=ns.foldl _ (if decide (b>a) then b else a)/\(∀x∈b::ns,x<=ns.foldl _ (if decide (b>a) then b else a))/\(ns.foldl _ (if decide (b>a) then b else a)=a∨ns.foldl _ (if decide (b>a) then b else a)∈b::ns);generalize ns.foldl (fun a b=>if decide (b>a) then b else a) (if decide (b>a) then b else a)=m at h1 h2 h3;by_cases c:b>a
  ·simp only[c,decide_true,zzM]at h1 h3
   refine⟨by omega,fun x hx=>?_,?_⟩
   ·rcases List.mem_cons.mp hx with rfl | hx
    ·exact h1
    ·exact h2 x hx
   ·rcases h3 with h3 | h3
    ·exact .inr (by rw[h3];exact List.mem_cons_self)
    ·exact .inr (List.mem_cons_of_mem _ h3)
  ·simp only[c,decide_false]at h1 h3
   refine⟨h1,fun x hx=>?_,?_⟩
   ·rcases List.mem_cons.mp hx with rfl | hx
    ·have:a<=m:=h1;omega
    ·exact h2 x hx
   ·rcases h3 with h3 | h3
    ·exact .inl h3
    ·exact .inr (List.mem_cons_of_mem _ h3)
theorem zR(ns:List Int):j5 (ns.map PyData.int)=some ns:=by
 have:=aaR (fun x:Int=>x) ns;simpa using this
theorem akz(H:zh=true){u e l b:Int}(h:okN u e l b=true):Qs [jk u e l b]=some (.bool (sgl u e l b)):=by
 obtain⟨a1,a2,a3,a4,a5,a6,a7,a8,a9,a10⟩:=jQ h;have C:=Zq H h;have c1:=ab5 H h;have c2:=acU H h;have hl:=abE C;obtain⟨b1,b2⟩:=zJ h
 have pos:∀x∈Qm u e l,1<=x:=fun x hx=>by
  rw[C.lst]at hx;obtain⟨k,hk,rfl⟩:=List.mem_map.mp hx;have:=List.mem_range.mp hk;exact Zr C (by omega) (by omega)
 have key:∃M,adf (fun i j=>decide (i>j)) [.list ((Qm u e l).map .int)]=some (.int M)/\((decide (M=1)&&decide (u*e+l<b))=sgl u e l b):=by
  cases hc:Qm u e l with
  |nil=>rw[hc]at hl;simp at hl;omega
  | cons x xs=>
   obtain⟨h1,h2,h3⟩:=abF xs x;refine⟨xs.foldl (fun a b=>if decide (b>a) then b else a) x,?_,?_⟩
   ·unfold adf
    simp only[zR,zzD,zV,zzE]
   ·generalize xs.foldl (fun a b=>if decide (b>a) then b else a) x=M at h1 h2 h3
    rw[hc]at pos hl;unfold sgl;rw[hc,←Bool.decide_and];apply decide_eq_decide.mpr;constructor
    ·rintro⟨q1,q2⟩
     subst q1;have hb:b.toNat=(x::xs).length:=by rw[hl];omega
     rw[hb];apply List.eq_replicate_iff.mpr;refine⟨rfl,fun y hy=>?_⟩;have:=pos y hy;rcases List.mem_cons.mp hy with rfl | hy
     ·omega
     ·have:=h2 y hy;omega
    ·intro q
     have ql:(x::xs).length=b.toNat:=by rw[q];simp
     have all1:∀y∈x::xs,y=1:=by rw[q];intro y hy;exact(List.mem_replicate.mp hy).2
     refine⟨?_,by omega⟩;rcases h3 with h3 | h3
     ·rw[h3];exact all1 x List.mem_cons_self
     ·exact all1 _ (List.mem_cons_of_mem _ h3)
 obtain⟨M,k1,k2⟩:=key;refine jP rfl ?_;show abr.1 [some (jk u e l b)]=_;have lt:qR (fun i j=>decide (i<j)) (.int (u*e+l)) (.int b)=some (.bool (decide (u*e+l<b))):=rfl;simp only[abr,jH,qK,aeg,op2,jA,jm,jw,lkp,cst,zzA,zzC,zzD,zzE,c1,c2,k1,ix3,qk,asB,lt];rw[←k2];by_cases q:M=1<;>simp[q]
theorem akA{u e l u' e' l':Int}(C:Chk u e l)(C':Chk u' e' l')(hb:0<=u*e+l)(hb':0<=u'*e'+l')(h:Qj u e l u' e' l'=none):u*e+l=u'*e'+l'/\∀k,cnt u e l k=cnt u' e' l' k:=by
 unfold Qj at h;rw[List.find?_eq_none]at h;generalize hM:(if u'*e'+l'>u*e+l then u'*e'+l' else u*e+l)=M at h;have hM1:u*e+l<=M/\u'*e'+l'<=M:=by rw[←hM];split<;>omega
 have same:∀k:Int,0<=k->k<=M->cnt u e l k=cnt u' e' l' k:=fun k k0 k1=>by
  have:=h k.toNat (List.mem_range.mpr (by omega));rw[show((k.toNat:Nat):Int)=k by omega]at this;simpa using this
 have hm:u*e+l=u'*e'+l':=by
  rcases Int.lt_trichotomy (u*e+l) (u'*e'+l')with z | z | z
  ·have p:=Zr C' hb' (Int.le_refl _)
   have q:=JE C (n:=u'*e'+l') (.inr z);have:=same _ hb' hM1.2;omega
  ·exact z
  ·have p:=Zr C hb (Int.le_refl _)
   have q:=JE C' (n:=u*e+l) (.inr z);have:=same _ hb hM1.1;omega
 refine⟨hm,fun k=>?_⟩;by_cases k0:0<=k
 ·by_cases k1:k<=M
  ·exact same k k0 k1
  ·rw[JE C (.inr (by omega)),JE C' (.inr (by omega))]
 ·rw[JE C (.inl (by omega)),JE C' (.inl (by omega))]
theorem akB{u e l u' e' l':Int}(C:Chk u e l)(C':Chk u' e' l')(hm:u*e+l=u'*e'+l')(hc:∀k,cnt u e l k=cnt u' e' l' k):Qm u e l=Qm u' e' l':=by
 rw[C.lst,C'.lst,hm];apply List.map_congr_left;intro k _;exact hc k
theorem ao5{u e l u' e' l':Int}(C:Chk u e l)(C':Chk u' e' l')(hb:0<=u*e+l)(hb':0<=u'*e'+l')(h:Qm u e l=Qm u' e' l'):u*e+l=u'*e'+l'/\∀k,cnt u e l k=cnt u' e' l' k:=by
 have l1:=abE C;have l2:=abE C';rw[h]at l1;have hm:u*e+l=u'*e'+l':=by omega
 refine⟨hm,fun k=>?_⟩;by_cases k0:0<=k/\k<=u*e+l
 ·have g1:=adW C k.toNat
  have g2:=adW C' k.toNat;rw[h]at g1;rw[g1,if_pos (by omega),if_pos (by omega),show((k.toNat:Nat):Int)=k by omega]at g2;exact Option.some.inj g2
 ·rw[JE C (by omega),JE C' (by omega)]
theorem akC{u e l u' e' l':Int}(C:Chk u e l)(C':Chk u' e' l')(hb:0<=u*e+l)(hb':0<=u'*e'+l'):decide (Qm u e l=Qm u' e' l')=(Qj u e l u' e' l').isNone:=by
 cases hp:Qj u e l u' e' l' with
 | none=>
  obtain⟨h1,h2⟩:=akA C C' hb hb' hp;simp[akB C C' h1 h2]
 | some n=>
  have:¬ Qm u e l=Qm u' e' l':=fun z=>by
   obtain⟨_,h2⟩:=ao5 C C' hb hb' z;unfold Qj at hp;have:=List.find?_some hp;simp[h2]at this
  simp[this]
section
variable {u e l b u' e' l' b':Int}
theorem akD(H:zh=true)(h:okN u e l b=true)(hs:sgl u e l b=true):u*e+l+1=b/\∀k:Int,0<=k->k<b->cnt u e l k=1:=by
 obtain⟨a1,a2,a3,a4,a5,a6,a7,a8,a9,a10⟩:=jQ h;have C:=Zq H h;have hs:=of_decide_eq_true hs;have hl:=abE C;rw[hs,List.length_replicate]at hl;obtain⟨b1,b2⟩:=zJ h;have hN:u*e+l+1=b:=by omega
 refine⟨hN,fun k k0 k1=>?_⟩;have:=adW C k.toNat;rw[hs,if_pos (by omega),List.getElem?_replicate,if_pos (by omega),show((k.toNat:Nat):Int)=k by omega]at this;exact(Option.some.inj this).symm
end
theorem apK(ds:LP)(k:Nat):ado ds none (some (k:Int))=ds.take k:=by
 unfold ado;rw[HT.sIx_none,HT.sIx_nat,List.drop_zero,Nat.sub_zero];by_cases h:k<=ds.length
 ·rw[Nat.min_eq_left h]
 ·rw[Nat.min_eq_right (by omega),List.take_of_length_le (by omega),List.take_of_length_le (by omega)]
theorem ao6(ds:LP)(k:Nat):ado ds (some (k:Int)) none=ds.drop k:=by
 unfold ado;rw[HT.sIx_none,HT.sIx_nat];by_cases h:k<=ds.length
 ·rw[Nat.min_eq_left h,List.take_of_length_le (by rw[List.length_drop];omega)]
 ·rw[Nat.min_eq_right (by omega),List.drop_of_length_le (by omega),List.drop_of_length_le (by omega),List.take_nil]
theorem as3(u e l b:Int):abd (jk u e l b) none (some 2)=some (.tuple [.int u,.int e]):=by
 show some (PyData.tuple (ado [.int u,.int e,.int l,.int b] none (some ((2:Nat):Int))))=_;rw[apK];rfl
theorem aqZ(u e l b:Int):abd (jk u e l b) (some 3) none=some (.tuple [.int b]):=by
 show some (PyData.tuple (ado [.int u,.int e,.int l,.int b] (some ((3:Nat):Int)) none))=_;rw[ao6];rfl
theorem adX(x y:Bool):dNe (.bool x) (.bool y)=some (.bool (x != y)):=by
 cases x<;>cases y<;>rfl
theorem amZ(x y:Option Nat):dNe (ahp x) (ahp y)=some (.bool (!decide (x=y))):=by
 cases x with
 | none=>cases y with
  |none=>rfl
  |some n=>simp[ahp,dNe,okD,PyData.canLay0,PyData.depth,PyData.eqv]
 | some m=>cases y with
  |none=>simp[ahp,dNe,okD,PyData.canLay0,PyData.depth,PyData.eqv]
  | some n=>
   show dNe (.int (m:Int)) (.int (n:Int))=_;rw[acV];by_cases h:m=n
   ·subst h;simp
   ·have h':¬ (m:Int)=n:=by omega
    simp[h,bne_iff_ne.mpr h']
section
variable {u e l b u' e' l' b':Int}
noncomputable def ajs(u e l b d:Int):PyData:=if u=0 then jk 0 (1+d) l b else if e=1/\l<4 then jk l 1 u b else jk u e l b
theorem ar9(a b c d:PyData):few [a,b,c,d]=true:=zf (by simp)
theorem am0{S:PyData}{d:Int}(dr:Qe [S,.int 30,.int 16]=some (.int d)):ag0 [S,jk u e l b]=some (ajs u e l b d):=by
 have a1:qD (.int 1) (.int d)=some (.int (1+d)):=rfl;have q0:=qk u 0;have q1:=qk e 1;have c4:qR (fun i j=>decide (i<j)) (.int l) (.int 4)=some (.bool (decide (l<4))):=rfl;refine jP rfl ?_;show ajb.1 [some S,some (jk u e l b),none,none,none,none]=_;simp only[ajb];refine(jq (ρ1:=[some S,some (jk u e l b),some (.int u),some (.int e),some (.int l),some (.int b)]) rfl).trans ?_;unfold ajs;by_cases hu:u=0
 ·rw[decide_eq_true hu]at q0
  rw[if_pos hu];have f4:=ar9 (.int 0) (.int (1+d)) (.int l) (.int b);simp only[jH,ifS,tst,op2,jA,jm,jw,QG,qK,lkp,cst,zzA,zzB,zzC,zzD,zzE,q0,asB,zzM,dr,a1,f4,jk]
 rw[decide_eq_false hu]at q0;rw[if_neg hu];refine(jq (ρ1:=[some S,some (jk u e l b),some (.int u),some (.int e),some (.int l),some (.int b)]) ?_).trans ?_
 ·simp only[ifS,tst,op2,lkp,cst,zzA,zzB,zzC,zzD,zzE,q0,asB,zzL,zzN,qC]
 by_cases he:e=1
 ·rw[decide_eq_true he]at q1
  by_cases hl:l<4
  ·rw[decide_eq_true hl]at c4
   rw[if_pos ⟨he,hl⟩];have f4:=ar9 (.int l) (.int 1) (.int u) (.int b);simp only[jH,ifS,Zw,tst,op2,jm,jw,QG,qK,lkp,cst,zzA,zzB,zzC,zzD,zzE,q1,c4,asB,zzM,f4,jk]
  ·rw[decide_eq_false hl]at c4
   rw[if_neg fun z=>hl z.2];simp only[jH,ifS,Zw,tst,op2,qK,lkp,cst,zzA,zzB,zzC,zzD,zzE,q1,c4,asB,zzM,zzL,zzN,qC]
 ·rw[decide_eq_false he]at q1
  rw[if_neg fun z=>he z.1];simp only[jH,ifS,Zw,tst,op2,qK,lkp,cst,zzA,zzB,zzC,zzD,zzE,q1,asB,zzM,zzL,zzN,qC]
theorem ao7(o:okM u e l b=true){d:Int}(d0:0<=d)(d1:d<16):∃u' e' l',ajs u e l b d=jk u' e' l' b/\okN u' e' l' b=true:=by
 have o':=o;simp only[okM,Bool.and_eq_true,decide_eq_true_eq]at o';obtain⟨⟨⟨⟨⟨⟨⟨⟨⟨h1,h2⟩,h3⟩,h4⟩,h5⟩,h6⟩,h7⟩,h8⟩,h9⟩,h10⟩:=o';unfold ajs;by_cases hu:u=0
 ·rw[if_pos hu]
  refine⟨_,_,_,rfl,?_⟩;rw[hu,Int.zero_mul]at h10;simp only[okN,Bool.and_eq_true,decide_eq_true_eq,Int.zero_mul];exact⟨⟨⟨⟨⟨⟨⟨⟨⟨by omega,by omega⟩,by omega⟩,by omega⟩,.inl trivial⟩,by omega⟩,by omega⟩,by omega⟩,by omega⟩,by omega⟩
 rw[if_neg hu];by_cases he:e=1/\l<4
 ·rw[if_pos he]
  refine⟨_,_,_,rfl,?_⟩;rw[he.1,Int.mul_one]at h10;simp only[okN,Bool.and_eq_true,decide_eq_true_eq,Int.mul_one];omega
 ·rw[if_neg he]
  exact⟨_,_,_,rfl,acS o⟩
theorem am1(h:okM u e l b=true):okN u e (l+1) b=true:=by
 simp only[okM,okN,Bool.and_eq_true,decide_eq_true_eq]at h ⊢;omega
end
section
variable {u e l b:Int}{ps qs:List (Int×Int)}
theorem acW{xs ys:LP}(hx:xs≠[]∨True)(hl:xs.length+ys.length<10000):qD (.tuple xs) (.tuple ys)=some (.tuple (xs++ys)):=by
 cases xs with
 |nil=>rfl
 | cons x xs=>
  have hf:few ((x::xs)++ys)=true:=zf (by rw[List.length_append];exact hl);show(if few ((x::xs)++ys)=true then some (PyData.tuple ((x::xs)++ys)) else none)=_;rw[if_pos hf]
theorem afY(i j:Int):dNe (.int i) (.int j)=some (.bool (!decide (i=j))):=by
 have:(i==j)=decide (i=j):=rfl;simp only[dNe,aav,aax,and_self,zzM,this]
theorem adY{N:List Str}{n:Nat}{F:Rho->Option Str}{ds:LP}(hl:ds.length=n):Jx N n F ds=F (jE N ds):=by
 unfold Jx;rw[if_pos hl]
end
noncomputable def whB(a b:Int):PyData->Bool
 |.int i=>decide (a<=i)&&decide (i<=b)
 |_=>false
theorem Z0(d:PyData)(hd:noD d=true)(a b:Int):j0 [d,.int a,.int b]=some (.bool (whB a b d)):=by
 cases d with
 |int i=>exact qj i a b
 |dict k=>simp[noD]at hd
 |_=>simp[j0,jx,abl,jE,jH,ifS,orB,tst,lkp,acq,tyn,asB,Ql,chn,qR,qK,qC,whB,cst]
theorem akE{d:PyData}(h:qO [d]=some (.bool false)):qP [d]=none:=by
 simp[qP,jx,afF,jE,jH,ifS,Ql,tst,asB,jA,jm,jw,lkp,h,ah3]
theorem akF{d:PyData}(h:qO [d]=some (.bool false)):zC [d]=some ("NoManner":Str):=by
 refine(adY rfl).trans ?_;show abZ.1 [some d]=_;simp[abZ,ifX,Ql,tst,asB,jA,jm,jw,lkp,h]
theorem akG{d:PyData}(h:qO [d]=some (.bool true)):zC [d]=none:=by
 refine(adY rfl).trans ?_;show abZ.1 [some d]=_;simp[abZ,ifX,Ql,tst,asB,jA,jm,jw,lkp,h,aop]
theorem as4{i j:Int}(h:-1000<=i/\i<=1000):JL (.int i) (.int j)=some (.int (i*j)):=by
 show(if (-(2 ^ 64)<i/\i<2 ^ 64)∨(-(2 ^ 64)<j/\j<2 ^ 64) then some (PyData.int (i*j)) else none)=_;rw[if_pos (.inl ⟨by omega,by omega⟩)]
theorem as5{i j:Int}(h:-1000<=j/\j<=1000):JL (.int i) (.int j)=some (.int (i*j)):=by
 show(if (-(2 ^ 64)<i/\i<2 ^ 64)∨(-(2 ^ 64)<j/\j<2 ^ 64) then some (PyData.int (i*j)) else none)=_;rw[if_pos (.inr ⟨by omega,by omega⟩)]
section
variable {u e l b:Int}
theorem ack(h:okN u e l b=true){S:PyData}:∀(qs:List (Int×Int)) (acc:Int) (x y:OP),
  ∃x' y',jC (aaH 2 (qB (jB 3) (qB (jB 4) Q9))) abu.1 (qs.map pr) [some (jk u e l b),some S,some (.int acc),x,y]=some (.nx [some (jk u e l b),some S,some (.int (qs.foldl (fun n p=>n*b+wt e p) acc)),x',y'])
 | [],acc,x,y=>⟨x,y,rfl⟩
 | q::qs,acc,x,y=>by
  obtain⟨a1,a2,a3,a4,a5,a6,a7,a8,a9,a10⟩:=jQ h;have m1:JL (.int b) (.int acc)=some (.int (b*acc)):=as4 (by omega);have m2:JL (.int q.1) (.int e)=some (.int (q.1*e)):=as5 (by omega)
  have step:abu.1 [some (jk u e l b),some S,some (.int acc),some (.int q.1),some (.int q.2)]=some (.nx [some (jk u e l b),some S,some (.int (acc*b+wt e q)),some (.int q.1),some (.int q.2)]):=by
   have:acc*b+wt e q=b*acc+q.1*e+q.2:=by unfold wt;rw[Int.mul_comm acc b];omega
   rw[this];simp only[abu,jH,qV,op2,lkp,cst,jB,zzA,zzB,zzC,zzD,zzE,ix3,ix1,m1,m2,add_int,zzF,zzG,qC]
  obtain⟨x',y',hy⟩:=ack h (S:=S) qs (acc*b+wt e q) (some (.int q.1)) (some (.int q.2));refine⟨x',y',?_⟩;rw[List.map_cons];have ga:aaH 2 (qB (jB 3) (qB (jB 4) Q9)) (pr q) [some (jk u e l b),some S,some (.int acc),x,y]=some [some (jk u e l b),some S,some (.int acc),some (.int q.1),some (.int q.2)]:=rfl;simp only[jC,ga,zzD,step];exact hy
theorem aiw(h:okN u e l b=true)(ps:List (Int×Int)):afO [jk u e l b,qA ps]=some (.int (val b e ps)):=by
 obtain⟨x',y',hy⟩:=ack h (S:=qA ps) ps 0 none none;refine jP rfl ?_;show acQ.1 [some (jk u e l b),some (qA ps),none,none,none]=_;simp only[acQ];refine(jq (ρ1:=[some (jk u e l b),some (qA ps),some (.int 0),none,none]) rfl).trans ?_;refine(jq (ρ1:=[some (jk u e l b),some (qA ps),some (.int (val b e ps)),x',y']) ?_).trans rfl;show(itS (lkp 1) _).bind _=_;rw[show itS (lkp 1) [some (jk u e l b),some (qA ps),some (.int 0),none,none]=some (ps.map pr) from rfl];exact hy
theorem ao8(i n:Nat):(zj 0 n).map (fun d=>PyData.tuple [.int (i:Int),d])=zm i n:=by
 simp[zj,zm]
theorem aaz(hu:0<=u)(hu':u<50)(hl:0<=l)(hl':l<50):aaQ [jk u e l b]=some (.list (jF u l)):=by
 have r1:Zx [.int (u+1)]=some (zj 0 (u+1).toNat):=abA (by omega) (by omega);have r2:Zx [.int (l+1)]=some (zj 0 (l+1).toNat):=abA (by omega) (by omega);have f2:few (zj 0 (l+1).toNat)=true:=zf (by simp[zj];omega)
 obtain⟨ρ',hl1,hI⟩:=ZZ (ga:=jB 2) (F:=afP.1) (fun i ρ=>i<=(u+1).toNat->∃x,ρ=[some (jk u e l b),some (.list (zH i (l+1).toNat)),x]) (zj 0 (u+1).toNat) 0 [some (jk u e l b),some (.list []),none] (fun _=>⟨none,rfl⟩) (fun j d ρ hd hi=>by
  obtain ⟨hj,rfl⟩:=adO hd;rw [Nat.zero_add] at hi ⊢;obtain ⟨x,rfl⟩:=hi (by omega)
  have cm:jU (jB 0) Zy (QG (jm (lkp 1) (jm (lkp 0) jw))) (zj 0 (l+1).toNat) [none,some (.int (j:Int))]=some (zm j (l+1).toNat):=by
   rw [aaa (fun d=>PyData.tuple [.int (j:Int),d]),ao8];intro d hd;have f1:few [PyData.int (j:Int),d]=true:=zf (by simp);simp only [QG,jm,jw,lkp,zzG,zzA,zzB,zzC,zzD,zzE,f1,zzM]
  have ad:qD (.list (zH j (l+1).toNat)) (.list (zm j (l+1).toNat))=some (.list (zH (j+1) (l+1).toNat)):=by
   rw [Zh];show (if few (zH j (l+1).toNat++zm j (l+1).toNat)=true then some (PyData.list (zH j (l+1).toNat++zm j (l+1).toNat)) else none)=_;rw [if_pos];refine zf ?_;rw [List.length_append,ZQ,afD];have:j*(l+1).toNat<=50*50:=Nat.mul_le_mul (by omega) (by omega);omega
  refine ⟨_,_,rfl,?_,fun _=>⟨some (.int (j:Int)),rfl⟩⟩;simp only [afP,jH,qV,op2,zG,lkp,cst,jm,jw,jB,abO,List.map_cons,List.map_nil,zzA,zzB,zzC,zzD,zzH,zzE,ix2,add_int,r2,f2,zzM,cm,ad,zzF,zzG,qC])
 rw[abD,Nat.zero_add]at hI;obtain⟨x,rfl⟩:=hI (Nat.le_refl _);refine jP rfl ?_;show afQ.1 [some (jk u e l b),none,none]=_;simp only[afQ];refine(jq (ρ1:=[some (jk u e l b),some (.list []),none]) rfl).trans ?_;refine(jq (ρ1:=[some (jk u e l b),some (.list (zH (u+1).toNat (l+1).toNat)),x]) ?_).trans rfl;simp only[Jm,jm,jw,op2,lkp,cst,zzA,zzB,zzC,zzD,zzE,ix0,add_int,r1];exact hl1
end
noncomputable def bdP(p:Int×Int):Int:=p.1+p.2
section
variable {u e l b:Int}
theorem aq0(p:Int×Int):aea [pr p]=some (.int (bdP p)):=by
 show some (PyData.int ([p.1,p.2].sum))=_;simp[bdP]
theorem ahr{ft:Rho->Option Bool}{fe:RP}(t:Int×Int->Bool)(g:Int×Int->PyData){τ:Rho}(h1:∀p,ft (some (pr p)::τ)=some (t p))(h2:∀p,fe (some (pr p)::τ)=some (g p)):∀(ps:List (Int×Int)) (x:OP),jU (jB 0) ft fe (ps.map pr) (x::τ)=some ((ps.filter t).map g)
 | [],x=>rfl
 | p::ps,x=>by
  have ih:=ahr t g h1 h2 ps (some (pr p));simp only[List.map_cons,jU,jB,zzD,zzG,h1,h2,ih];by_cases hp:t p=true
  ·simp[hp,List.filter_cons]
  ·simp[hp,List.filter_cons]
end
theorem jX{N:List Str}{n:Nat}{F:Rho->Option Str}{ds:LP}{c:Option Str}(hl:ds.length=n)(h:F (jE N ds)=c):Jx N n F ds=c:=(adY hl).trans h
theorem aq1{d:PyData}(hd:noD d=true)(w:whB 0 99999 d=false):Qq [d]=none/\acL [d]=some ("NoNumber":Str):=by
 have gw:=Z0 d hd 0 99999;rw[w]at gw;constructor
 ·simp[Qq,jx,acC,jE,jH,ifS,Ql,tst,asB,cst,jA,jm,jw,lkp,gw,ah3]
 ·refine jX rfl ?_
  show acK.1 [some d]=_;simp[acK,orX,ifX,Ql,tst,asB,cst,jA,jm,jw,lkp,gw]
theorem ajt{d:PyData}(hd:noD d=true)(w:whB 1 4 d=false):qg [d]=none/\Jg [d]=some ("NoNumber":Str):=by
 have gw:=Z0 d hd 1 4;rw[w]at gw;constructor
 ·simp[qg,jx,ZS,jE,jH,ifS,Ql,tst,asB,cst,jA,jm,jw,lkp,gw,ah3]
 ·refine jX rfl ?_
  show QR.1 [some d]=_;simp[QR,orX,ifX,Ql,tst,asB,cst,jA,jm,jw,lkp,gw]
theorem ao9{i:Int}(h:1<=i/\i<=4):qg [.int i]=some .none/\Jg [.int i]=none:=by
 have gw:=qj i 1 4;rw[decide_eq_true h.1,decide_eq_true h.2]at gw;constructor
 ·simp[qg,jx,ZS,jE,jH,ifS,Ql,tst,asB,cst,jA,jm,jw,lkp,gw,qC]
 ·refine jX rfl ?_
  show QR.1 [some (.int i)]=_;simp[QR,orX,ifX,Ql,tst,asB,cst,jA,jm,jw,lkp,gw,aop]
theorem am2{ds:LP}(h:ds.length<50):few ds=true:=zf (by omega)
theorem fw1{a:PyData}:few [a]=true:=am2 (by simp)
theorem fw2{a b:PyData}:few [a,b]=true:=am2 (by simp)
theorem fw3{a b c:PyData}:few [a,b,c]=true:=am2 (by simp)
theorem fw4{a b c d:PyData}:few [a,b,c,d]=true:=am2 (by simp)
theorem fw5{a b c d e:PyData}:few [a,b,c,d,e]=true:=am2 (by simp)
theorem Js{α:Type}(x:Unit->Option α):(none:Option α).orElse x=x ():=rfl
theorem Jt{α:Type}(a:α)(x:Unit->Option α):(some a).orElse x=some a:=rfl
noncomputable def shl(n:Nat)(d:PyData):Prop:=d.canLay0=true/\d.depth<=n
noncomputable abbrev SL:=List (List (Int×Int))
noncomputable def eS(ss:SL):PyData:= .list (ss.map qA)
theorem am3{ds:LP}(h:ds.length<1000000):few ds=true:=decide_eq_true h
section
variable {m r n:PyData}{c:Str}
theorem apL(g:QE [m,r,n]=none)(x:adH [m,r,n]=some c):agX [m,r,n]=none/\aoJ [m,r,n]=some c:=by
 constructor
 ·simp[agX,jx,aml,jE,jH,zg,jA,jm,jw,lkp,g]
 ·refine jX rfl ?_
  show aoI.1 [some m,some r,some n,none,none]=_;simp[aoI,orX,jA,jm,jw,lkp,x]
theorem apa(g:qP [m]=some .none)(x:zC [m]=none)(g2:qg [r]=none)(x2:Jg [r]=some c):QE [m,r,n]=none/\adH [m,r,n]=some c:=by
 constructor
 ·simp[QE,jx,adB,jE,jH,zg,jA,jm,jw,lkp,g,g2]
 ·refine jX rfl ?_
  show ab0.1 [some m,some r,some n]=_;simp[ab0,orX,nxX,zg,jA,jm,jw,lkp,g,x,g2,x2]
theorem apb(g:qP [m]=some .none)(x:zC [m]=none)(g2:qg [r]=some .none)(x2:Jg [r]=none)(g3:Qq [n]=none)(x3:acL [n]=some c):QE [m,r,n]=none/\adH [m,r,n]=some c:=by
 constructor
 ·simp[QE,jx,adB,jE,jH,zg,jA,jm,jw,lkp,g,g2,g3]
 ·refine jX rfl ?_
  show ab0.1 [some m,some r,some n]=_;simp[ab0,orX,nxX,zg,jA,jm,jw,lkp,g,x,g2,x2,g3,x3]
end
noncomputable def JF(R:List (Int×Int))(A:SL):SL:=A.flatMap fun s=>R.map fun p=>s++[p]
noncomputable def Q6(u l:Int):Nat->SL
 |0=>[[]]
 |k+1=>JF (rp u l) (Q6 u l k)
theorem ahs(R:List (Int×Int)):∀A:SL,(JF R A).length=A.length*R.length
 | []=>by simp[JF]
 | s::A=>by
  have:=ahs R A;unfold JF at*;rw[List.flatMap_cons,List.length_append,this,List.length_map,List.length_cons,Nat.succ_mul];omega
theorem am4(s:List (Int×Int))(p:Int×Int)(hl:s.length<100):qD (qA s) (.tuple [pr p])=some (qA (s++[p])):=by
 have:=acW (xs:=s.map pr) (ys:=[pr p]) (.inr trivial) (by rw[List.length_map];simp;omega);unfold qA;rw[List.map_append];exact this
theorem am5(s:List (Int×Int))(hl:s.length<100)(R:List (Int×Int)):jU (jB 0) Zy (op2 qD (lkp 1) (QG (jm (lkp 0) jw))) (R.map pr) [none,some (qA s)]=some ((R.map fun p=>s++[p]).map qA):=by
 have:=ahr (τ:=[some (qA s)]) (fun _=>true) (fun p=>qA (s++[p])) (ft:=Zy) (fe:=op2 qD (lkp 1) (QG (jm (lkp 0) jw))) (fun p=>rfl) (fun p=>by
  have f1:few [pr p]=true:=zf (by simp);dsimp? [f1,am4 s p hl]) R none
 rw[this,List.filter_eq_self.mpr fun _ _=>rfl,List.map_map];rfl
theorem acX{xs ys:LP}(h:xs.length+ys.length<100000):qD (.list xs) (.list ys)=some (.list (xs++ys)):=by
 show(if few (xs++ys)=true then some (PyData.list (xs++ys)) else none)=_;rw[if_pos (am3 (by rw[List.length_append];omega))]
section
variable {u e l b:Int}
theorem apc(h:okN u e l b=true){R F k:OP}{acc:SL}{s:List (Int×Int)}(hs:s.length<100)(ha:acc.length<90000):afR.1 [some (jk u e l b),R,F,k,some (eS acc),some (qA s)]=some (.nx [some (jk u e l b),R,F,k,some (eS (acc++(rp u l).map fun p=>s++[p])),some (qA s)]):=by
 obtain⟨a1,a2,a3,a4,a5,a6,a7,a8,a9,a10⟩:=jQ h;have lr:=aaz (e:=e) (b:=b) a1 (show u<50 by omega) (show 0<=l by omega) (show l<50 by omega);have fw:=abz (u:=u) (l:=l) (by omega) (by omega);rw[Qw]at lr fw;have rc:=am5 s hs (rp u l);have h48:=ZY h
 have ad:qD (eS acc) (.list (((rp u l).map fun p=>s++[p]).map qA))=some (eS (acc++(rp u l).map fun p=>s++[p])):=by
  unfold eS;rw[List.map_append];exact acX (by simp only[List.length_map];omega)
 generalize jk u e l b=M at*;generalize qA s=S at*;generalize eS acc=AC at*;dsimp? [afR,zG,itS,items,abO,List.map_cons,List.map_nil,lr,fw,rc,ad]
theorem akH(h:okN u e l b=true){R F k:OP}(A:SL):∀(acc:SL) (x:OP),(∀s∈A,s.length<100)->acc.length+A.length*(rp u l).length<90000->∃y,jC (jB 5) afR.1 (A.map qA) [some (jk u e l b),R,F,k,some (eS acc),x]=some (.nx [some (jk u e l b),R,F,k,some (eS (acc++JF (rp u l) A)),y]):=by
 induction A with
 |nil=>intro acc x _ _;exact⟨x,by simp[jC,JF]⟩
 | cons s A ih=>
  intro acc x hA hl;rw[List.length_cons,Nat.succ_mul]at hl;obtain⟨y,hy⟩:=ih (acc++(rp u l).map fun p=>s++[p]) (some (qA s)) (fun t ht=>hA t (List.mem_cons_of_mem _ ht)) (by rw[List.length_append,List.length_map];omega);refine⟨y,?_⟩;have st:=apc h (R:=R) (F:=F) (k:=k) (acc:=acc) (hA s List.mem_cons_self) (by omega);have ga:jB 5 (qA s) [some (jk u e l b),R,F,k,some (eS acc),x]=some [some (jk u e l b),R,F,k,some (eS acc),some (qA s)]:=rfl;rw[List.map_cons];simp only[jC,ga,zzD,st];rw[hy];simp[JF]
theorem zK:∀(k:Nat) (t:List (Int×Int)),t∈Q6 u l k↔t.length=k/\t.all (okP u l)=true
 | 0,t=>by
  constructor
  ·intro ht
   rw[List.mem_singleton.mp ht];exact⟨rfl,rfl⟩
  ·rintro⟨h1,_⟩
   rw[List.eq_nil_of_length_eq_zero h1];exact List.mem_singleton.mpr rfl
 | k+1,t=>by
  show t∈JF (rp u l) (Q6 u l k)↔_;unfold JF;rw[List.mem_flatMap];constructor
  ·rintro⟨s,hs,ht⟩
   obtain⟨p,hp,rfl⟩:=List.mem_map.mp ht;obtain⟨k1,k2⟩:=(zK k s).mp hs;refine⟨by rw[List.length_append,k1];rfl,?_⟩;rw[List.all_append,k2];simp[ahc hp]
  ·rintro⟨h1,h2⟩
   have hne:t≠[]:=fun z=>by rw[z]at h1;cases h1
   have e:=(List.dropLast_concat_getLast hne).symm;rw[e,List.all_append,Bool.and_eq_true]at h2;refine⟨t.dropLast,(zK k _).mpr ⟨by rw[List.length_dropLast,h1];omega,h2.1⟩,List.mem_map.mpr ⟨t.getLast hne,amG (by simpa using h2.2),e.symm⟩⟩
theorem aht(k:Nat):(Q6 u l k).length=(rp u l).length ^ k:=by
 induction k with
 |zero=>rfl
 |succ k ih=>show(JF (rp u l) (Q6 u l k)).length=_;rw[ahs,ih,Nat.pow_succ]
theorem am6(h:okN u e l b=true){R x4 x5:OP}{k:PyData}{A:SL}(hA:∀s∈A,s.length<100)(hl:A.length*48<90000):∃y4 y5,adK.1 [some (jk u e l b),R,some (eS A),some k,x4,x5]=some (.nx [some (jk u e l b),R,some (eS (JF (rp u l) A)),some k,y4,y5]):=by
 have h48:=ZY h;have hm:A.length*(rp u l).length<=A.length*48:=Nat.mul_le_mul_left _ h48;obtain⟨y,hy⟩:=akH h (R:=R) (F:=some (eS A)) (k:=some k) A [] x5 hA (by simp;omega);rw[List.nil_append]at hy;refine⟨some (eS (JF (rp u l) A)),y,?_⟩;have it:items (eS A)=some (A.map qA):=rfl;have n0:(PyData.list [])=eS []:=rfl;simp only[adK];refine(jq (ρ1:=[some (jk u e l b),R,some (eS A),some k,some (eS []),x5]) rfl).trans ?_;refine(jq (ρ1:=[some (jk u e l b),R,some (eS A),some k,some (eS (JF (rp u l) A)),y]) ?_).trans ?_
 ·generalize jk u e l b=M at*
  generalize hq:eS A=Q at*;dsimp? [Jm,itS,it];exact hy
 generalize jk u e l b=M at*;generalize eS (JF (rp u l) A)=Q at*;generalize eS A=Q2 at*;dsimp? [zzA]
theorem akI{M Q:PyData}{rr:Int}{RR:LP}{y3 y4 y5:OP}(rg:Zx [.int rr]=some RR)(lp:jC (jB 3) adK.1 RR [some M,some (.int rr),some (.list [.tuple []]),none,none,none]=some (.nx [some M,some (.int rr),some Q,y3,y4,y5])):ag1 [M,.int rr]=some Q:=by
 refine jP rfl ?_;show ajc.1 [some M,some (.int rr),none,none,none,none]=_;simp only[ajc];refine(jq (ρ1:=[some M,some (.int rr),some (.list [.tuple []]),none,none,none]) rfl).trans ?_;refine(jq (ρ1:=[some M,some (.int rr),some Q,y3,y4,y5]) ?_).trans ?_
 ·dsimp? [Jm,rg]
  exact lp
 dsimp? [zzA]
theorem apd(h:okN u e l b=true)(j:Nat)(hj:j<2):(Q6 u l j).length*48<90000:=by
 have h48:=ZY h;rw[aht];generalize (rp u l).length=k at*;rcases (show j=0∨j=1 by omega)with rfl|rfl
 ·rw[Nat.pow_zero];omega
 ·rw[Nat.pow_one];omega
theorem am7(h:okN u e l b=true){r:Nat}(hr:r<=2):ag1 [jk u e l b,.int (r:Int)]=some (eS (Q6 u l r)):=by
 obtain⟨ρ',lp,y3,y4,y5,e'⟩:=ZZ (ga:=jB 3) (F:=adK.1) (fun i ρ=>∃y3 y4 y5,ρ=[some (jk u e l b),some (.int (r:Int)),some (eS (Q6 u l i)),y3,y4,y5]) (zj 0 r) 0
  [some (jk u e l b),some (.int (r:Int)),some (.list [.tuple []]),none,none,none] ⟨none,none,none,rfl⟩ (fun j d ρ hd hi=>by
   obtain ⟨hj,rfl⟩:=adO hd;obtain ⟨x3,x4,x5,rfl⟩:=hi;rw [Nat.zero_add];obtain ⟨y4,y5,st⟩:=am6 h (R:=some (.int (r:Int))) (x4:=x4) (x5:=x5) (k:= .int (j:Int)) (A:=Q6 u l j) (fun s hs=>by have:=((zK j s).mp hs).1; omega) (apd h j (by omega));exact ⟨_,_,rfl,st,_,_,_,rfl⟩)
 rw[abD,Nat.zero_add]at e';subst e';exact akI (afV (by omega)) lp
theorem ahu(s:List (Int×Int)):∀x:OP,jU (jB 0) Zy (jA aea (jm (lkp 0) jw)) (s.map pr) [x]=some (s.map fun p=> .int (bdP p)):=by
 induction s with
 |nil=>intro x;rfl
 | cons p s ih=>
  intro x;have ih:=ih (some (pr p));have g:=aq0 p;rw[List.map_cons];generalize pr p=Z at*;dsimp? [jU,Zy,g,ih,List.map_cons]
theorem am8(ns:List Int):aea [.list (ns.map .int)]=some (.int ns.sum):=by
 show(j5 (ns.map PyData.int)).map _=_;rw[zR];rfl
end
section
variable {α:Type}
noncomputable abbrev KV(α:Type):=List (Int×α)
noncomputable def zE(f:α->PyData)(kv:KV α):List (PyData×PyData):=kv.map fun p=>(.int p.1,f p.2)
noncomputable def dV(f:α->PyData)(kv:KV α):PyData:= .dict ((.none,.none)::zE f kv)
noncomputable def jN(kv:KV α)(k:Int):Option α:=(kv.find? fun p=>decide (p.1=k)).map (·.2)
noncomputable def adZ(kv:KV α)(k:Int)(v:α):KV α:=if kv.any (fun p=>decide (p.1=k))=true then kv.map (fun p=>if p.1=k then (p.1,v) else p) else kv++[(k,v)]
theorem ab6(f:α->PyData)(kv:KV α)(k:Int):zO (zE f kv) k=(jN kv k).map f:=by
 induction kv with
 |nil=>rfl
 | cons p kv ih=>
  by_cases h:p.1=k
  ·simp[zO,zE,jN,isI,h]
  ·have e1:zO (zE f (p::kv)) k=zO (zE f kv) k:=by simp[zO,zE,isI,h,List.find?_cons]
   have e2:jN (p::kv) k=jN kv k:=by simp[jN,h,List.find?_cons]
   rw[e1,e2,ih]
theorem akJ(f:α->PyData)(kv:KV α)(k:Int)(v:α):aef (zE f kv) k (f v)=zE f (adZ kv k v):=by
 have h1:(zE f kv).any (fun p=>isI k p.1)=kv.any fun p=>decide (p.1=k):=by simp[zE,List.any_map,Function.comp_def,isI]
 unfold aef adZ;rw[h1];by_cases c:kv.any (fun p=>decide (p.1=k))=true
 ·rw[if_pos c,if_pos c]
  simp only[zE,List.map_map];apply List.map_congr_left;intro p _;by_cases h:p.1=k<;>simp[isI,h]
 ·rw[if_neg c,if_neg c]
  simp[zE]
theorem zv(p:Int×α)(kv:KV α)(x:Int):jN (p::kv) x=if p.1=x then some p.2 else jN kv x:=by
 by_cases h:p.1=x<;>simp[jN,List.find?_cons,h]
theorem ahv(k:Int)(v:α)(x:Int):∀kv:KV α,jN (kv.map fun p=>if p.1=k then (p.1,v) else p) x=if x=k then (if kv.any (fun p=>decide (p.1=k))=true then some v else none) else jN kv x
 | []=>by simp[jN]
 | p::kv=>by
  rw[List.map_cons,zv,zv,ahv k v x kv];by_cases hp:p.1=k
  ·by_cases hx:x=k
   ·subst hx;simp[hp]
   ·have hkx:¬ k=x:=fun z=>hx z.symm
    simp[hp,hx,hkx]
  ·by_cases hx:x=k
   ·subst hx;rw[List.any_cons,decide_eq_false hp,Bool.false_or];simp[hp]
   ·by_cases hq:p.1=x<;>simp[hp,hx,hq]
theorem ahw(k:Int)(v:α)(x:Int):∀kv:KV α,jN (kv++[(k,v)]) x=if kv.any (fun p=>decide (p.1=x))=true then jN kv x else if k=x then some v else none
 | []=>by rw[List.nil_append,zv];simp[jN]
 | p::kv=>by
  rw[List.cons_append,zv,zv,ahw k v x kv];by_cases hp:p.1=x
  ·simp[hp]
  ·rw[List.any_cons,decide_eq_false hp,Bool.false_or,if_neg hp,if_neg hp]
theorem ad0(kv:KV α)(k:Int)(v:α)(x:Int):jN (adZ kv k v) x=if x=k then some v else jN kv x:=by
 unfold adZ;by_cases c:kv.any (fun p=>decide (p.1=k))=true
 ·rw[if_pos c,ahv,if_pos c]
 ·rw[if_neg c,ahw]
  by_cases hx:x=k
  ·subst hx
   rw[if_neg c,if_pos rfl,if_pos rfl]
  ·have hkx:¬ k=x:=fun z=>hx z.symm
   rw[if_neg hx,if_neg hkx];by_cases c':kv.any (fun p=>decide (p.1=x))=true
   ·rw[if_pos c']
   ·rw[if_neg c']
    unfold jN
    rw[List.find?_eq_none.mpr fun p hp=>by
     have:=fun z=>c' (List.any_eq_true.mpr ⟨p,hp,z⟩);exact this]
    rfl
theorem ad1(kv:KV α)(k:Int)(v:α):(adZ kv k v).length<=kv.length+1:=by
 unfold adZ;split<;>simp
theorem am9{kv:KV α}{p:Int×α}(h:p∈kv):∃v,jN kv p.1=some v:=by
 unfold jN;cases hf:kv.find? fun q=>decide (q.1=p.1)with
 |none=>exact absurd (List.find?_eq_none.mp hf p h) (by simp)
 |some q=>exact⟨_,rfl⟩
theorem ape{kv:KV α}{k:Int}{v:α}(h:jN kv k=some v):∃p∈kv,p.1=k:=by
 unfold jN at h;cases hf:kv.find? fun q=>decide (q.1=k)with
 |none=>rw[hf]at h;cases h
 |some q=>exact⟨q,List.mem_of_find?_eq_some hf,by simpa using List.find?_some hf⟩
theorem aju(f:α->PyData)(kv:KV α):(BX.qM (dV f kv)).map (fun r=>r.map (·.1))=some (kv.map fun p=>PyData.int p.1):=by
 show some ((zE f kv).map (·.1))=_;simp[zE,List.map_map,Function.comp_def]
theorem ana{f:α->PyData}{kv:KV α}{k:Int}{v:α}(hl:kv.length<1000000):adk (some (dV f kv)) (some (f v)) (some (.int k))=some (dV f (adZ kv k v)):=by
 have hle:(zE f kv).length<1000000:=by simp only[zE,List.length_map];omega
 show(if (zE f kv).length<1000000 then some (PyData.dict ((.none,.none)::aef (zE f kv) k (f v))) else none)=_;rw[if_pos hle,akJ];rfl
theorem afZ{f:α->PyData}{kv:KV α}{k:Int}{v:α}(h:jN kv k=some v):QC (dV f kv) (.int k)=some (f v):=by
 show zO (zE f kv) k=_;rw[ab6,h];rfl
end
theorem aq2{tt:Rho->Option Bool}{A:RO}{ρ:Rho}(h:tt ρ=some false):ifS tt A (fun ρ=>some (.nx ρ)) ρ=some (.nx ρ):=by
 show(tt ρ).bind _=_;rw[h];rfl
theorem aaM{i:Nat}{f:RP}{ρ:Rho}{d:PyData}(h:f ρ=some d):qV f (jB i) ρ=some (.nx (ρ.set i (some d))):=by
 show(f ρ).bind _=_;rw[h];rfl
theorem JI{g:PyData->PyData->OP}{f1 f2:RP}{ρ:Rho}{x y z:PyData}(h1:f1 ρ=some x)(h2:f2 ρ=some y)(h3:g x y=some z):op2 g f1 f2 ρ=some z:=by
 show(f1 ρ).bind _=_;rw[h1,zzD,h2,zzD,h3]
theorem Qy{fi:Rho->Option (LP)}{cap:List (Option Nat)}{ga:PyData->Rho->Option Rho}{ft:Rho->Option Bool}{fe:RP}{ρ:Rho}{ds ys:LP}(h1:fi ρ=some ds)(hf:few ds=true)(h2:jU ga ft fe ds (abO cap ρ)=some ys):zG fi cap ga ft fe ρ=some (.list ys):=by
 show(fi ρ).bind _=_;rw[h1,zzD,if_pos hf,h2];rfl
theorem af0{g:LP->OP}{fs:Rho->Option (LP)}{ρ:Rho}{ds:LP}{d:PyData}(h1:fs ρ=some ds)(h2:g ds=some d):jA g fs ρ=some d:=by
 show(fs ρ).bind _=_;rw[h1,zzD,h2]
theorem ahx{f:RP}{fs:Rho->Option (LP)}{ρ:Rho}{d:PyData}{ds:LP}(h1:f ρ=some d)(h2:fs ρ=some ds):jm f fs ρ=some (d::ds):=by
 unfold jm;rw[h1,zzD,h2];rfl
theorem anb{f:RP}{ρ:Rho}{c:Bool}(h:f ρ=some (.bool c)):tst f ρ=some c:=by
 show(f ρ).bind _=_;rw[h];rfl
theorem anc{i:Nat}{f:RP}{G:RO}{ρ:Rho}{d c:PyData}(h1:f ρ=some d)(h2:i < ρ.length)(h3:G (ρ.set i (some d))=some (.rt c)):act i f G ρ=some (.rt c):=by
 show(f ρ).bind _=_;rw[h1,zzD,if_pos h2,h3];rfl
theorem aq3{F:RO}{ρ:Rho}{d:PyData}(h:F ρ=some (.rt d)):agJ F ρ=some (.rt d):=by
 unfold agJ;rw[h]
theorem af1{fi:Rho->Option (LP)}{ga:PyData->Rho->Option Rho}{F:RO}{ρ:Rho}{ds:LP}{o:Option Out}(h1:fi ρ=some ds)(h2:jC ga F ds ρ=o):Jm fi ga F ρ=o:=by
 show(fi ρ).bind _=_;rw[h1,zzD];exact h2
theorem ane{f:RP}{G:RO}{ρ:Rho}{d:PyData}(h:f ρ=some d):jH (qK f) G ρ=some (.rt d):=by
 unfold jH qK;rw[h];rfl
noncomputable abbrev rfd(i:Int):PyData:= .tuple [.str "refused",.int i]
theorem qt:zt [JG "NoManner"]=some (rfd 0):=by kernel_rfl
theorem qv:("NoManner":Str)∈zI:=by decide
theorem zw:zt [JG "NoNumber"]=some (rfd 2):=by kernel_rfl
theorem zx:("NoNumber":Str)∈zI:=by decide
theorem j7:dIx (.list [fnD "are_alike",fnD "parting"]) (.int 0)=some (fnD "are_alike"):=rfl
theorem qw:dIx (.list [fnD "are_alike",fnD "parting"]) (.int 1)=some (fnD "parting"):=rfl
theorem qm:Zu "are_alike" (fnD "parting")=false:=by decide
theorem qJ:Zu "parting" (fnD "are_alike")=false:=by decide
theorem zb:dIx (.list [fnD "parts",fnD "thriftier"]) (.int 0)=some (fnD "parts"):=rfl
theorem j8:dIx (.list [fnD "parts",fnD "thriftier"]) (.int 1)=some (fnD "thriftier"):=rfl
theorem zL:Zu "parts" (fnD "thriftier")=false:=by decide
theorem qo:Zu "thriftier" (fnD "parts")=false:=by decide
theorem asa{m k r n d:PyData}(g:aaN [m,k]=some d):jT [.int 0,m,k,r,n]=some d:=by
 have q4:dEq (.int 0) (.int 4)=some (.bool false):=by rw[qk];rfl
 have q2:qR (fun i j=>decide (i<j)) (.int 0) (.int 2)=some (.bool true):=rfl;have s2:QJ (.int 0) (.int 2)=some (.int (-2)):=rfl;refine jP rfl ?_;show qE.1 [some (.int 0),some m,some k,some r,some n,none]=_;dsimp? [qE,Zf,q4,q2,s2,j7,qw,zb,j8,qm,qJ,zL,qo,qI,Js,Jt,orD,aaL,J1,fw2,g]
theorem anf{m k r n d:PyData}{c:Str}(g:aaN [m,k]=none)(x:afM [m,k]=some c)(hc:c∈zI)(hr:zt [JG c]=some d):jT [.int 0,m,k,r,n]=some d:=by
 have q4:dEq (.int 0) (.int 4)=some (.bool false):=by rw[qk];rfl
 have q2:qR (fun i j=>decide (i<j)) (.int 0) (.int 2)=some (.bool true):=rfl;have s2:QJ (.int 0) (.int 2)=some (.int (-2)):=rfl;refine jP rfl ?_;show qE.1 [some (.int 0),some m,some k,some r,some n,none]=_;have hb:lkp 5 ((ZN 6).set 5 (some (JG c)))=some (JG c):=rfl;unfold lkp at hb;dsimp? [qE,Zf,q4,q2,s2,j7,qw,zb,j8,qm,qJ,zL,qo,qI,Js,Jt,orD,aaL,J1,fw2,g,x,hc,hb,hr]
theorem asb{m k r n d:PyData}(g:Jf [m,k]=some d):jT [.int 1,m,k,r,n]=some d:=by
 have q4:dEq (.int 1) (.int 4)=some (.bool false):=by rw[qk];rfl
 have q2:qR (fun i j=>decide (i<j)) (.int 1) (.int 2)=some (.bool true):=rfl;have s2:QJ (.int 1) (.int 2)=some (.int (-1)):=rfl;refine jP rfl ?_;show qE.1 [some (.int 1),some m,some k,some r,some n,none]=_;dsimp? [qE,Zf,q4,q2,s2,j7,qw,zb,j8,qm,qJ,zL,qo,qI,Js,Jt,orD,aaL,J1,fw2,g]
theorem aix{m k r n d:PyData}{c:Str}(g:Jf [m,k]=none)(x:ZT [m,k]=some c)(hc:c∈zI)(hr:zt [JG c]=some d):jT [.int 1,m,k,r,n]=some d:=by
 have q4:dEq (.int 1) (.int 4)=some (.bool false):=by rw[qk];rfl
 have q2:qR (fun i j=>decide (i<j)) (.int 1) (.int 2)=some (.bool true):=rfl;have s2:QJ (.int 1) (.int 2)=some (.int (-1)):=rfl;refine jP rfl ?_;show qE.1 [some (.int 1),some m,some k,some r,some n,none]=_;have hb:lkp 5 ((ZN 6).set 5 (some (JG c)))=some (JG c):=rfl;unfold lkp at hb;dsimp? [qE,Zf,q4,q2,s2,j7,qw,zb,j8,qm,qJ,zL,qo,qI,Js,Jt,orD,aaL,J1,fw2,g,x,hc,hb,hr]
theorem asc{m k r n d:PyData}(g:Zl [m,k,r,n]=some d):jT [.int 2,m,k,r,n]=some d:=by
 have q4:dEq (.int 2) (.int 4)=some (.bool false):=by rw[qk];rfl
 have q2:qR (fun i j=>decide (i<j)) (.int 2) (.int 2)=some (.bool false):=rfl;have s2:QJ (.int 2) (.int 2)=some (.int 0):=rfl;refine jP rfl ?_;show qE.1 [some (.int 2),some m,some k,some r,some n,none]=_;dsimp? [qE,Zf,q4,q2,s2,j7,qw,zb,j8,qm,qJ,zL,qo,qI,Js,Jt,orD,aaL,J1,fw2,g]
theorem af2{m k r n d:PyData}{c:Str}(g:Zl [m,k,r,n]=none)(x:adI [m,k,r,n]=some c)(hc:c∈zI)(hr:zt [JG c]=some d):jT [.int 2,m,k,r,n]=some d:=by
 have q4:dEq (.int 2) (.int 4)=some (.bool false):=by rw[qk];rfl
 have q2:qR (fun i j=>decide (i<j)) (.int 2) (.int 2)=some (.bool false):=rfl;have s2:QJ (.int 2) (.int 2)=some (.int 0):=rfl;refine jP rfl ?_;show qE.1 [some (.int 2),some m,some k,some r,some n,none]=_;have hb:lkp 5 ((ZN 6).set 5 (some (JG c)))=some (JG c):=rfl;unfold lkp at hb;dsimp? [qE,Zf,q4,q2,s2,j7,qw,zb,j8,qm,qJ,zL,qo,qI,Js,Jt,orD,aaL,J1,fw2,g,x,hc,hb,hr]
theorem apM{m k r n d:PyData}(g:Je [m,k,r,n]=some d):jT [.int 3,m,k,r,n]=some d:=by
 have q4:dEq (.int 3) (.int 4)=some (.bool false):=by rw[qk];rfl
 have q2:qR (fun i j=>decide (i<j)) (.int 3) (.int 2)=some (.bool false):=rfl;have s2:QJ (.int 3) (.int 2)=some (.int 1):=rfl;refine jP rfl ?_;show qE.1 [some (.int 3),some m,some k,some r,some n,none]=_;dsimp? [qE,Zf,q4,q2,s2,j7,qw,zb,j8,qm,qJ,zL,qo,qI,Js,Jt,orD,aaL,J1,fw2,g]
theorem ad2{m k r n d:PyData}{c:Str}(g:Je [m,k,r,n]=none)(x:aap [m,k,r,n]=some c)(hc:c∈zI)(hr:zt [JG c]=some d):jT [.int 3,m,k,r,n]=some d:=by
 have q4:dEq (.int 3) (.int 4)=some (.bool false):=by rw[qk];rfl
 have q2:qR (fun i j=>decide (i<j)) (.int 3) (.int 2)=some (.bool false):=rfl;have s2:QJ (.int 3) (.int 2)=some (.int 1):=rfl;refine jP rfl ?_;show qE.1 [some (.int 3),some m,some k,some r,some n,none]=_;have hb:lkp 5 ((ZN 6).set 5 (some (JG c)))=some (JG c):=rfl;unfold lkp at hb;dsimp? [qE,Zf,q4,q2,s2,j7,qw,zb,j8,qm,qJ,zL,qo,qI,Js,Jt,orD,aaL,J1,fw2,g,x,hc,hb,hr]
theorem asd{m k r n d:PyData}(g:Qs [m]=some d):jT [.int 4,m,k,r,n]=some d:=by
 have q4:dEq (.int 4) (.int 4)=some (.bool true):=by rw[qk];rfl
 have q2:qR (fun i j=>decide (i<j)) (.int 4) (.int 2)=some (.bool false):=rfl;have s2:QJ (.int 4) (.int 2)=some (.int 2):=rfl;refine jP rfl ?_;show qE.1 [some (.int 4),some m,some k,some r,some n,none]=_;dsimp? [qE,Zf,q4,q2,s2,j7,qw,zb,j8,qm,qJ,zL,qo,qI,Js,Jt,orD,aaL,J1,fw2,g]
theorem aq4{m k r n d:PyData}{c:Str}(g:Qs [m]=none)(x:acO [m]=some c)(hc:c∈zI)(hr:zt [JG c]=some d):jT [.int 4,m,k,r,n]=some d:=by
 have q4:dEq (.int 4) (.int 4)=some (.bool true):=by rw[qk];rfl
 have q2:qR (fun i j=>decide (i<j)) (.int 4) (.int 2)=some (.bool false):=rfl;have s2:QJ (.int 4) (.int 2)=some (.int 2):=rfl;refine jP rfl ?_;show qE.1 [some (.int 4),some m,some k,some r,some n,none]=_;have hb:lkp 5 ((ZN 6).set 5 (some (JG c)))=some (JG c):=rfl;unfold lkp at hb;dsimp? [qE,Zf,q4,q2,s2,j7,qw,zb,j8,qm,qJ,zL,qo,qI,Js,Jt,orD,aaL,J1,fw2,g,x,hc,hb,hr]
section
variable {m k r n:PyData}{c:Str}
theorem aq5(g:qP [m]=none)(x:zC [m]=some c):qY [m,k]=none/\JK [m,k]=some c:=by
 constructor
 ·simp[qY,jx,aeN,jE,jH,zg,jA,jm,jw,lkp,g]
 ·refine jX rfl ?_
  show acg.1 [some m,some k]=_;simp[acg,orX,nxX,zg,jA,jm,jw,lkp,g,x]
theorem aq6(g:qP [m]=some .none)(x:zC [m]=none)(g2:qP [k]=none)(x2:zC [k]=some c):qY [m,k]=none/\JK [m,k]=some c:=by
 constructor
 ·simp[qY,jx,aeN,jE,jH,zg,jA,jm,jw,lkp,g,g2]
 ·refine jX rfl ?_
  show acg.1 [some m,some k]=_;simp[acg,orX,nxX,zg,jA,jm,jw,lkp,g,x,g2,x2]
theorem ang(g:qP [m]=some .none)(x:zC [m]=none)(x2:zC [k]=none):JK [m,k]=none:=by
 refine jX rfl ?_;show acg.1 [some m,some k]=_;simp[acg,orX,nxX,zg,jA,jm,jw,lkp,g,x,x2]
theorem acY(g:qY [m,k]=none)(x:JK [m,k]=some c):aaN [m,k]=none/\afM [m,k]=some c:=by
 constructor
 ·simp[aaN,jx,adC,jE,jH,zg,jA,jm,jw,lkp,g]
 ·refine jX rfl ?_
  show afL.1 [some m,some k]=_;simp[afL,orX,jA,jm,jw,lkp,x]
theorem aaA(g:qY [m,k]=none)(x:JK [m,k]=some c):Jf [m,k]=none/\ZT [m,k]=some c:=by
 constructor
 ·simp[Jf,jx,QQ,jE,jH,zg,jA,jm,jw,lkp,g]
 ·refine jX rfl ?_
  show QS.1 [some m,some k,none]=_;simp[QS,orX,jA,jm,jw,lkp,x]
theorem acZ(g:qY [m,k]=none)(x:JK [m,k]=some c):Zl [m,k,r,n]=none/\adI [m,k,r,n]=some c:=by
 constructor
 ·simp[Zl,jx,abW,jE,jH,zg,jA,jm,jw,lkp,g]
 ·refine jX rfl ?_
  show ab1.1 [some m,some k,some r,some n]=_;simp[ab1,orX,jA,jm,jw,lkp,x]
theorem abG(g:qY [m,k]=none)(x:JK [m,k]=some c):Je [m,k,r,n]=none/\aap [m,k,r,n]=some c:=by
 constructor
 ·simp[Je,jx,Zk,jE,jH,zg,jA,jm,jw,lkp,g]
 ·refine jX rfl ?_
  show Qt.1 [some m,some k,some r,some n,none,none,none]=_;simp[Qt,orX,jA,jm,jw,lkp,x]
theorem ajv(b:qY [m,k]=some .none)(t:JK [m,k]=none)(g:agX [m,r,n]=none)(x:aoJ [m,r,n]=some c):Zl [m,k,r,n]=none/\adI [m,k,r,n]=some c:=by
 constructor
 ·simp[Zl,jx,abW,jE,jH,zg,qK,op2,jA,jm,jw,lkp,b,g]
 ·refine jX rfl ?_
  show ab1.1 [some m,some k,some r,some n]=_;simp[ab1,orX,nxX,zg,jA,jm,jw,lkp,b,t,x]
theorem anh(b:qY [m,k]=some .none)(t:JK [m,k]=none)(g:qg [r]=none)(x:Jg [r]=some c):Je [m,k,r,n]=none/\aap [m,k,r,n]=some c:=by
 constructor
 ·simp[Je,jx,Zk,jE,jH,zg,jA,jm,jw,lkp,b,g]
 ·refine jX rfl ?_
  show Qt.1 [some m,some k,some r,some n,none,none,none]=_;simp[Qt,orX,nxX,zg,jA,jm,jw,lkp,b,t,g,x]
theorem ahy(b:qY [m,k]=some .none)(t:JK [m,k]=none)(g:qg [r]=some .none)(x:Jg [r]=none)(w:j0 [n,.int 0,.int 999]=some (.bool false)):Je [m,k,r,n]=none/\aap [m,k,r,n]=some ("NoNumber":Str):=by
 constructor
 ·simp[Je,jx,Zk,jE,jH,zg,ifS,Ql,tst,asB,ah3,jA,jm,jw,lkp,cst,b,g,w]
 ·refine jX rfl ?_
  show Qt.1 [some m,some k,some r,some n,none,none,none]=_;simp[Qt,orX,nxX,zg,ifX,Ql,tst,asB,jA,jm,jw,lkp,cst,b,t,g,x,w]
theorem akK{q q':PyData}(b:qY [m,k]=some .none)(t:JK [m,k]=none)(i1:dIx m (.int 3)=some q)(i2:dIx k (.int 3)=some q')(w:dNe q q'=some (.bool true)):Jf [m,k]=none/\ZT [m,k]=some ("NoNumber":Str):=by
 constructor
 ·simp[Jf,jx,QQ,jE,jH,zg,ifS,tst,op2,asB,ah3,jA,jm,jw,lkp,cst,b,i1,i2,w]
 ·refine jX rfl ?_
  show QS.1 [some m,some k,none]=_;simp[QS,orX,nxX,zg,ifX,tst,op2,asB,jA,jm,jw,lkp,cst,b,t,i1,i2,w]
theorem ahz(g:qP [m]=none)(x:zC [m]=some c):Qs [m]=none/\acO [m]=some c:=by
 have h1:JN [m]=none:=by
  simp[JN,g]
 have h2:afN [m]=some c:=by
  refine jX rfl ?_;show acM.1 [some m,none,none]=_;simp[acM,orX,jA,jm,jw,lkp,x]
 constructor
 ·simp[Qs,jx,abr,jE,jH,qK,aeg,op2,jA,jm,jw,lkp,h1]
 ·refine jX rfl ?_
  show acN.1 [some m]=_;simp[acN,orX,jA,jm,jw,lkp,h2]
end
theorem noM(a b c:Int):qO [.tuple [.int a,.int b,.int c]]=some (.bool false):=by
 refine jP rfl ?_;show QN.1 [some (.tuple [.int a,.int b,.int c]),none,none,none]=_;dsimp? [QN];rfl
theorem apN(a b c:Int):qP [.tuple [.int a,.int b,.int c]]=none/\zC [.tuple [.int a,.int b,.int c]]=some ("NoManner":Str):=⟨akE (noM a b c),akF (noM a b c)⟩
theorem ajw(H:zh=true){u e l b:Int}(h:okN u e l b=true):qP [jk u e l b]=some .none/\zC [jk u e l b]=none:=⟨Jp (ag6 H h),akG (ag6 H h)⟩
section
variable {α:Type}
theorem ajx{kv:KV α}(k:Int)(v:α)(h:(kv.map (·.1)).Nodup):((adZ kv k v).map (·.1)).Nodup:=by
 unfold adZ;by_cases c:kv.any (fun p=>decide (p.1=k))=true
 ·rw[if_pos c,List.map_map]
  have:((fun p:Int×α=>p.1)∘fun p=>if p.1=k then (p.1,v) else p)=fun p=>p.1:=by
   funext p;show(if p.1=k then (p.1,v) else p).1=p.1;split<;>rfl
  rw[this];exact h
 ·rw[if_neg c,List.map_append]
  refine List.nodup_append.mpr ⟨h,by simp,fun a ha b hb e=>?_⟩;have hb:b=k:=by simpa using hb
  obtain⟨p,hp,he⟩:=List.mem_map.mp ha;exact c (List.any_eq_true.mpr ⟨p,hp,by simp only[decide_eq_true_eq];rw[he,e,hb]⟩)
end
noncomputable def Qk(kv:KV Int)(w:Int):KV Int:=adZ kv w ((jN kv w).getD 0+1)
theorem ahA(x:Int):∀(ws:List Int) (kv:KV Int),(jN (ws.foldl Qk kv) x).getD 0=(jN kv x).getD 0+((ws.filter fun w=>w==x).length:Int)
 | [],kv=>by simp
 | w::ws,kv=>by
  rw[List.foldl_cons,ahA x ws];unfold Qk;rw[ad0];by_cases h:x=w
  ·subst h
   rw[if_pos rfl,List.filter_cons_of_pos (by simp),List.length_cons];show(_+1:Int)+_=_;rw[Int.natCast_add];omega
  ·rw[if_neg h,List.filter_cons_of_neg (by simpa using fun z:w=x=>h z.symm)]
theorem ahB(x:Int):∀(ws:List Int) (kv:KV Int),(jN (ws.foldl Qk kv) x).isSome=((jN kv x).isSome||ws.contains x)
 | [],kv=>by simp
 | w::ws,kv=>by
  rw[List.foldl_cons,ahB x ws];unfold Qk;rw[ad0];by_cases h:x=w
  ·subst h;simp
  ·rw[if_neg h]
   have:(w::ws).contains x=ws.contains x:=by simp[h]
   rw[this]
theorem ajy:∀(ws:List Int) (kv:KV Int),(kv.map (·.1)).Nodup->((ws.foldl Qk kv).map (·.1)).Nodup
 | [],kv,h=>h
 |w::ws,kv,h=>ajy ws _ (ajx _ _ h)
theorem ahC:∀(ws:List Int) (kv:KV Int),(ws.foldl Qk kv).length<=kv.length+ws.length
 | [],kv=>by simp
 | w::ws,kv=>by
  have h1:=ahC ws (Qk kv w);have h2:=ad1 kv w ((jN kv w).getD 0+1);rw[List.foldl_cons,List.length_cons];unfold Qk at h1 ⊢;omega
theorem af3{α:Type}(f:α->PyData)(kv:KV α)(k:Int)(z:PyData):JZ (dV f kv) (.int k) z=some (((jN kv k).map f).getD z):=by
 show some ((zO (zE f kv) k).getD z)=_;rw[ab6]
theorem ad3(kv:KV Int)(k z:Int):JZ (dV PyData.int kv) (.int k) (.int z)=some (.int ((jN kv k).getD z)):=by
 rw[af3];cases jN kv k<;>rfl
section
variable {u e l b:Int}
theorem ase(h:okN u e l b=true){kv:KV Int}(hl:kv.length<1000){p:Int×Int}(hp:okP u l p=true){x:OP}:aar.1 [some (jk u e l b),some (dV .int kv),some (.int p.1),some (.int p.2),x]=some (.nx [some (jk u e l b),some (dV .int (Qk kv (wt e p))),some (.int p.1),some (.int p.2),some (.int (wt e p))]):=by
 obtain⟨q1,q2,q3,q4⟩:=zu hp;obtain⟨a1,a2,a3,a4,a5,a6,a7,a8,a9,a10⟩:=jQ h;have m1:JL (.int p.1) (.int e)=some (.int (p.1*e)):=qx ⟨by omega,by omega⟩;have g2:=ad3 kv (wt e p) 0;have pm:adk (some (dV .int kv)) (some (.int ((jN kv (wt e p)).getD 0+1))) (some (.int (wt e p)))=some (dV .int (Qk kv (wt e p))):=ana (f:=PyData.int) (by omega);simp only[aar]
 have e1:brw (some 1) (op2 qD (op2 JL (lkp 2) (op2 dIx (lkp 0) (cst (.int 1)))) (lkp 3)) [some (jk u e l b),some (dV .int kv),some (.int p.1),some (.int p.2),x]=some (.int (wt e p)):=by
  dsimp? [brw,hid,okB,acs,aee,aib,ix1,m1,add_int];rfl
 refine(jq (ρ1:=[some (jk u e l b),some (dV .int kv),some (.int p.1),some (.int p.2),some (.int (wt e p))]) ?_).trans ?_
 ·simp only[qV,e1,jB,zzD,zzE,zzF,zzG]
 generalize wt e p=W at*;refine(jq (ρ1:=[some (jk u e l b),some (dV .int (Qk kv W)),some (.int p.1),some (.int p.2),some (.int W)]) ?_).trans rfl
 have e2:brw (some 1) (op2 qD (zk (lkp 1) (lkp 4) (cst (.int 0))) (cst (.int 1))) [some (jk u e l b),some (dV .int kv),some (.int p.1),some (.int p.2),some (.int W)]=some (.int ((jN kv W).getD 0+1)):=by
  dsimp? [brw,hid,okB,acs,aee,aib,zk,g2,add_int];rfl
 have e3:brw (some 1) (lkp 4) [some (jk u e l b),some (dV .int kv),some (.int p.1),some (.int p.2),some (.int W)]=some (.int W):=rfl;show(adk (some (dV .int kv)) _ _).map _=_;rw[e2,e3,pm];rfl
theorem ajz(h:okN u e l b=true):∀(ps:List (Int×Int)) (kv:KV Int) (x2 x3 x4:OP),(∀p∈ps,okP u l p=true)->kv.length+ps.length<1000->
  ∃y2 y3 y4,jC (aaH 2 (qB (jB 2) (qB (jB 3) Q9))) aar.1 (ps.map pr) [some (jk u e l b),some (dV .int kv),x2,x3,x4]=some (.nx [some (jk u e l b),some (dV .int ((ps.map (wt e)).foldl Qk kv)),y2,y3,y4])
 | [],kv,x2,x3,x4,_,_=>⟨x2,x3,x4,rfl⟩
 | p::ps,kv,x2,x3,x4,hp,hl=>by
  rw[List.length_cons]at hl;have s:=ase h (kv:=kv) (x:=x4) (by omega) (hp p List.mem_cons_self);have h2:=ad1 kv (wt e p) ((jN kv (wt e p)).getD 0+1);obtain⟨y2,y3,y4,ih⟩:=ajz h ps (Qk kv (wt e p)) (some (.int p.1)) (some (.int p.2)) (some (.int (wt e p))) (fun q hq=>hp q (List.mem_cons_of_mem _ hq)) (by unfold Qk;omega);refine⟨y2,y3,y4,?_⟩;rw[List.map_cons,jC];have ga:aaH 2 (qB (jB 2) (qB (jB 3) Q9)) (pr p) [some (jk u e l b),some (dV .int kv),x2,x3,x4]=some [some (jk u e l b),some (dV .int kv),some (.int p.1),some (.int p.2),x4]:=rfl;rw[ga,zzD,s,zzD,List.map_cons,List.foldl_cons];exact ih
noncomputable def jZ(u e l:Int):KV Int:=((rp u l).map (wt e)).foldl Qk []
theorem Z3(h:okN u e l b=true):Qg [jk u e l b]=some (dV .int (jZ u e l)):=by
 obtain⟨a1,a2,a3,a4,a5,a6,a7,a8,a9,a10⟩:=jQ h;have lr:=aaz (e:=e) (b:=b) a1 (show u<50 by omega) (show 0<=l by omega) (show l<50 by omega);rw[Qw]at lr;have h48:=ZY h;obtain⟨y2,y3,y4,lp⟩:=ajz h (rp u l) [] none none none (fun p hp=>ahc hp) (by simp;omega);refine jP rfl ?_;show aby.1 [some (jk u e l b),none,none,none,none]=_;simp only[aby];refine anc (d:= .dict [(.none,.none)]) rfl (by show 1<5;decide) ?_;refine(jq (ρ1:=[some (jk u e l b),some (dV .int (jZ u e l)),y2,y3,y4]) ?_).trans rfl;refine af1 (ds:=(rp u l).map pr) ?_ lp;dsimp? [itS,items,brw,hid,okB,acs,aee,aib,lr]
theorem abH(h:okN u e l b=true)(x:Int):(jN (jZ u e l) x).getD 0=cnt u e l x:=by
 unfold jZ;rw[ahA];show(0:Int)+_=_;rw[Int.zero_add];unfold cnt;rw[Qw,List.filter_map,List.length_map,List.filter_map,List.length_map];rfl
theorem ani(x:Int):(jN (jZ u e l) x).isSome=((rp u l).map (wt e)).contains x:=by
 unfold jZ;rw[ahB];simp[jN]
theorem af4:((jZ u e l).map (·.1)).Nodup:=ajy _ _ List.nodup_nil
theorem anj(h:okN u e l b=true):(jZ u e l).length<=48:=by
 have h1:=ahC ((rp u l).map (wt e)) [];have h2:=ZY h;rw[List.length_map,List.length_nil]at h1;unfold jZ;omega
theorem ajA{α:Type}{kv:KV α}{k:Int}:k∈kv.map (·.1)↔(jN kv k).isSome=true:=by
 constructor
 ·intro h
  obtain⟨p,hp,rfl⟩:=List.mem_map.mp h;obtain⟨v,e⟩:=am9 hp;rw[e];rfl
 ·intro h
  obtain⟨v,e⟩:=Option.isSome_iff_exists.mp h;obtain⟨p,hp,rfl⟩:=ape e;exact List.mem_map.mpr ⟨p,hp,rfl⟩
end
theorem JU{A:Type}(enc:A->PyData){ft:Rho->Option Bool}{fe:RP}(t:A->Bool)(g:A->PyData){τ:Rho}:∀(ps:List A) (x:OP),(∀p∈ps,ft (some (enc p)::τ)=some (t p))->(∀p∈ps,t p=true->fe (some (enc p)::τ)=some (g p))->jU (jB 0) ft fe (ps.map enc) (x::τ)=some ((ps.filter t).map g)
 | [],x,_,_=>rfl
 | p::ps,x,h1,h2=>by
  have ih:=JU enc t g ps (some (enc p)) (fun q hq=>h1 q (List.mem_cons_of_mem _ hq)) (fun q hq=>h2 q (List.mem_cons_of_mem _ hq));have g1:=h1 p List.mem_cons_self;have g2:=h2 p List.mem_cons_self;rw[List.map_cons,jU];show(Option.bind (some (some (enc p)::τ)) _)=_;rw[zzD,g1,zzD];cases hp:t p with
  |true=>rw[if_pos rfl,g2 hp,zzD,ih,List.filter_cons_of_pos hp];rfl
  |false=>rw[if_neg Bool.false_ne_true,ih,List.filter_cons_of_neg (by rw[hp];exact Bool.false_ne_true)]
noncomputable abbrev LS:=Int×Int
noncomputable def qq(q:LS):PyData:= .tuple [.int q.1,.int q.2]
noncomputable def aaS(kv:KV LS)(n v:Int):KV LS:=adZ kv n (((jN kv n).getD (0,999)).1+1,if v<((jN kv n).getD (0,999)).2 then v else ((jN kv n).getD (0,999)).2)
noncomputable def ank{A:Type}(nu be:A->Int)(kv:KV LS)(S:List A):Prop:=∀x,(jN kv x=none/\∀t∈S,nu t≠x)∨∃c m,jN kv x=some (c,m)/\c=((S.filter fun t=>decide (nu t=x)).length:Int)/\(∃t∈S,nu t=x/\be t=m)/\∀t∈S,nu t=x->m<=be t
theorem ank.step{A:Type}{nu be:A->Int}{kv:KV LS}{S:List A}(h:ank nu be kv S)(t:A)(ht:be t<999):ank nu be (aaS kv (nu t) (be t)) (S++[t]):=by
 intro x;unfold aaS;rw[ad0];by_cases hx:x=nu t
 ·subst hx
  rw[if_pos rfl]
  right
  refine⟨_,_,rfl,?_⟩;rcases h (nu t)with ⟨h1,h2⟩ | ⟨c,m,h1,h2,⟨q,hq1,hq2,hq3⟩,h4⟩
  ·rw[h1]
   refine⟨?_,⟨t,by simp,rfl,?_⟩,fun q hq hn=>?_⟩
   ·rw[List.filter_append,List.filter_eq_nil_iff.mpr fun q hq=>by simpa using h2 q hq]
    simp
   ·show be t=if be t<999 then be t else 999
    rw[if_pos ht]
   ·rcases List.mem_append.mp hq with z | z
    ·exact absurd hn (h2 q z)
    ·rw[List.mem_singleton.mp z]
     show(if be t<999 then be t else 999)<=be t;rw[if_pos ht];exact Int.le_refl _
  ·rw[h1]
   refine⟨?_,?_,fun q hq hn=>?_⟩
   ·rw[List.filter_append,List.length_append]
    show c+1=_;rw[h2];simp
   ·show ∃q∈S++[t],nu q=nu t/\be q=if be t<m then be t else m
    by_cases hlt:be t<m
    ·exact⟨t,by simp,rfl,by rw[if_pos hlt]⟩
    ·exact⟨q,List.mem_append_left _ hq1,hq2,by rw[if_neg hlt];exact hq3⟩
   ·show(if be t<m then be t else m)<=be q
    rcases List.mem_append.mp hq with z | z
    ·have:=h4 q z hn
     split<;>omega
    ·rw[List.mem_singleton.mp z]
     split<;>omega
 ·rw[if_neg hx]
  rcases h x with ⟨h1,h2⟩ | ⟨c,m,h1,h2,⟨q,hq1,hq2,hq3⟩,h4⟩
  ·refine .inl ⟨h1,fun q hq=>?_⟩
   rcases List.mem_append.mp hq with z | z
   ·exact h2 q z
   ·rw[List.mem_singleton.mp z];exact fun e=>hx e.symm
  ·refine .inr ⟨c,m,h1,?_,⟨q,List.mem_append_left _ hq1,hq2,hq3⟩,fun q hq hn=>?_⟩
   ·rw[List.filter_append,h2]
    have:[t].filter (fun t=>decide (nu t=x))=[]:=by simp;exact fun e=>hx e.symm
    rw[this,List.append_nil]
   ·rcases List.mem_append.mp hq with z | z
    ·exact h4 q z hn
    ·rw[List.mem_singleton.mp z]at hn;exact absurd hn.symm hx
theorem anl(kv:KV LS)(k:Int):JZ (dV qq kv) (.int k) (.tuple [.int 0,.int 999])=some (qq ((jN kv k).getD (0,999))):=by
 rw[af3];cases jN kv k<;>rfl
section
variable {u e l b:Int}
theorem asf(h:okN u e l b=true){R M:OP}{kv:KV LS}(hl:kv.length<100000){t:List (Int×Int)}(ht:t.length<100){x5 x6 x7:OP}:∃y6 y7,ZV.1 [some (jk u e l b),R,M,some (dV qq kv),some (qA t),x5,x6,x7]=some (.nx [some (jk u e l b),R,M,some (dV qq (aaS kv (val b e t) (bds t))),some (qA t),some (.int (val b e t)),y6,y7]):=by
 have gv:=aiw h t;have g2:=anl kv (val b e t);have pm:adk (some (dV qq kv)) (some (qq (((jN kv (val b e t)).getD (0,999)).1+1,if bds t<((jN kv (val b e t)).getD (0,999)).2 then bds t else ((jN kv (val b e t)).getD (0,999)).2))) (some (.int (val b e t)))=some (dV qq (aaS kv (val b e t) (bds t))):=ana (f:=qq) (by omega);have sc:=ahu t none;have fs:few (t.map pr)=true:=zf (by rw[List.length_map];omega)
 have sm:aea [.list (t.map fun p=>PyData.int (bdP p))]=some (.int (bds t)):=by
  have:=am8 (t.map bdP);rw[List.map_map]at this;exact this
 generalize ((jN kv (val b e t)).getD (0,999))=Z at*;obtain⟨c,m⟩:=Z;refine⟨some (.int c),some (.int m),?_⟩;generalize val b e t=N at*;generalize bds t=B at*;simp only at pm;simp only[ZV];have mn:aca [.int m,.int B]=some (.int (if B<m then B else m)):=rfl;refine(jq (ρ1:=[some (jk u e l b),R,M,some (dV qq kv),some (qA t),some (.int N),x6,x7]) ?_).trans ?_
 ·refine aaM (i:=5) (d:= .int N) ?_
  dsimp? [brw,hid,okB,acs,aee,aib,gv]
 refine(jq (ρ1:=[some (jk u e l b),R,M,some (dV qq kv),some (qA t),some (.int N),some (.int c),some (.int m)]) ?_).trans ?_
 ·have e2:brw (some 3) (zk (lkp 3) (lkp 5) (cst (.tuple [.int 0,.int 999]))) [some (jk u e l b),R,M,some (dV qq kv),some (qA t),some (.int N),x6,x7]=some (qq (c,m)):=by
   dsimp? [brw,hid,okB,acs,aee,aib,zk,g2];rfl
  simp only[qV,e2,zzD];rfl
 refine(jq (ρ1:=[some (jk u e l b),R,M,some (dV qq (aaS kv N B)),some (qA t),some (.int N),some (.int c),some (.int m)]) ?_).trans rfl;have it:items (qA t)=some (t.map pr):=rfl
 have e4:zG (itS (lkp 4)) [none] (jB 0) Zy (jA aea (jm (lkp 0) jw)) [some (jk u e l b),R,M,none,some (qA t),some (.int N),some (.int c),some (.int m)]=some (.list (t.map fun p=>PyData.int (bdP p))):=by
  refine Qy (ds:=t.map pr) ?_ fs sc;dsimp? [itS,it]
 have e2:brw (some 3) (QG (jm (op2 qD (lkp 6) (cst (.int 1))) (jm (jA aca (jm (lkp 7) (jm (jA aea (jm (zG (itS (lkp 4)) [none] (jB 0) Zy (jA aea (jm (lkp 0) jw))) jw)) jw))) jw))) [some (jk u e l b),R,M,some (dV qq kv),some (qA t),some (.int N),some (.int c),some (.int m)]=some (qq (c+1,if B<m then B else m)):=by
  generalize zG (itS (lkp 4)) [none] (jB 0) Zy (jA aea (jm (lkp 0) jw))=CC at*;dsimp? [brw,hid,okB,acs,aee,aib,e4,sm,mn,add_int,fw2];rfl
 have e3:brw (some 3) (lkp 5) [some (jk u e l b),R,M,some (dV qq kv),some (qA t),some (.int N),some (.int c),some (.int m)]=some (.int N):=rfl;show(adk (some (dV qq kv)) _ _).map _=_;rw[e2,e3,pm];rfl
theorem ajB(h:okN u e l b=true){R M:OP}:∀(ts S:SL) (kv:KV LS) (x4 x5 x6 x7:OP),(∀t∈ts,t.length<100/\bds t<999)->kv.length+ts.length<100000->ank (val b e) bds kv S->(kv.map (·.1)).Nodup->
  ∃kv' y4 y5 y6 y7,jC (jB 4) ZV.1 (ts.map qA) [some (jk u e l b),R,M,some (dV qq kv),x4,x5,x6,x7]=some (.nx [some (jk u e l b),R,M,some (dV qq kv'),y4,y5,y6,y7])/\ank (val b e) bds kv' (S++ts)/\(kv'.map (·.1)).Nodup/\kv'.length<=kv.length+ts.length
 | [],S,kv,x4,x5,x6,x7,_,_,hi,hn=>⟨kv,x4,x5,x6,x7,rfl,by rw[List.append_nil];exact hi,hn,by simp⟩
 | t::ts,S,kv,x4,x5,x6,x7,ht,hl,hi,hn=>by
  rw[List.length_cons]at hl;obtain⟨t1,t2⟩:=ht t List.mem_cons_self;obtain⟨z6,z7,s⟩:=asf h (R:=R) (M:=M) (kv:=kv) (x5:=x5) (x6:=x6) (x7:=x7) (by omega) t1;have hp:(aaS kv (val b e t) (bds t)).length<=kv.length+1:=ad1 _ _ _;obtain⟨kv',y4,y5,y6,y7,i1,i2,i3,i4⟩:=ajB h (R:=R) (M:=M) ts (S++[t]) (aaS kv (val b e t) (bds t)) (some (qA t)) (some (.int (val b e t))) z6 z7 (fun q hq=>ht q (List.mem_cons_of_mem _ hq)) (by omega) (hi.step t t2) (ajx _ _ hn);refine⟨kv',y4,y5,y6,y7,?_,?_,i3,by rw[List.length_cons];omega⟩
  ·rw[List.map_cons,jC]
   have ga:jB 4 (qA t) [some (jk u e l b),R,M,some (dV qq kv),x4,x5,x6,x7]=some [some (jk u e l b),R,M,some (dV qq kv),some (qA t),x5,x6,x7]:=rfl;rw[ga,zzD,s,zzD];exact i1
  ·rw[List.append_assoc]at i2
   exact i2
theorem ad4:∀kv:KV LS,Zg (kv.map fun p=>PyData.tuple [.int p.1,qq p.2])=some (zE qq kv)
 | []=>rfl
 | p::kv=>by
  rw[List.map_cons];show(Zg _).map _=_;rw[ad4 kv];rfl
theorem akL{kv:KV LS}(hn:(kv.map (·.1)).Nodup):afB [.list (kv.map fun p=>PyData.tuple [.int p.1,qq p.2])]=some (dV qq kv):=by
 have e:j5 ((zE qq kv).map (·.1))=some (kv.map (·.1)):=by
  have:=zR (kv.map (·.1));rw[List.map_map]at this;rw[show(zE qq kv).map (·.1)=kv.map (PyData.int∘(·.1)) by simp[zE,List.map_map,Function.comp_def]];exact this
 show(Zg _).bind _=_;rw[ad4,zzD];show(j5 _).bind _=_;rw[e,zzD];show(if (kv.map (·.1)).Nodup then _ else _)=_;rw[if_pos hn];rfl
theorem ad5{α:Type}{kv:KV α}(hn:(kv.map (·.1)).Nodup){p:Int×α}(hp:p∈kv):jN kv p.1=some p.2:=by
 induction kv with
 |nil=>cases hp
 | cons q kv ih=>
  rw[List.map_cons,List.nodup_cons]at hn;rw[zv];rcases List.mem_cons.mp hp with rfl | hp
  ·rw[if_pos rfl]
  ·rw[if_neg fun z=>hn.1 (by rw[z];exact List.mem_map.mpr ⟨p,hp,rfl⟩)]
   exact ih hn.2 hp
theorem aaT{α:Type}(M:Int):∀(kv:KV α) (x:Int),jN (kv.filter fun p=>decide (p.1<=M)) x=if x<=M then jN kv x else none
 | [],x=>by simp[jN]
 | p::kv,x=>by
  by_cases hp:p.1<=M
  ·rw[List.filter_cons_of_pos (by simpa using hp),zv,zv,aaT M kv x]
   by_cases hx:p.1=x
   ·subst hx;simp[hp]
   ·simp[hx]
  ·rw[List.filter_cons_of_neg (by simpa using hp),aaT M kv x,zv]
   by_cases hx:x<=M
   ·have:p.1≠x:=fun z=>hp (by omega)
    simp[hx,this]
   ·simp[hx]
theorem apf{m E D R:PyData}{rr M:Int}{ts keys outs:LP}{y4 y5 y6 y7:OP}(la:ag1 [m,.int rr]=some E)(it:items E=some ts)
  (lp:jC (jB 4) ZV.1 ts [some m,some (.int rr),some (.int M),some (.dict [(.none,.none)]),none,none,none,none]=some (.nx [some m,some (.int rr),some (.int M),some D,y4,y5,y6,y7]))
  (kd:(qM D).map (fun r=>r.map (·.1))=some keys) (fk:few keys=true) (cp:jU (jB 0) (tst (op2 (qR fun i j=>decide (i<=j)) (lkp 0) (lkp 2))) (QG (jm (lkp 0) (jm (op2 QC (lkp 1) (lkp 0)) jw))) keys [none,some D,some (.int M)]=some outs)
  (dl:afB [.list outs]=some R):Zo [m,.int rr,.int M]=some R:=by
 refine jP rfl ?_;show acR.1 [some m,some (.int rr),some (.int M),none,none,none,none,none]=_;simp only[acR];refine anc (d:= .dict [(.none,.none)]) rfl (by show 3<8;decide) ?_;refine(jq (ρ1:=[some m,some (.int rr),some (.int M),some D,y4,y5,y6,y7]) ?_).trans ?_
 ·refine af1 (ds:=ts) ?_ lp
  dsimp? [itS,brw,hid,okB,acs,aee,aib,la,it]
 refine aq3 (ane ?_);refine af0 (ahx (d:= .list outs) ?_ rfl) dl;refine Qy (ds:=keys) ?_ fk cp;dsimp? [itD,kd]
theorem apg{kv:KV LS}(i2:(kv.map (·.1)).Nodup){M:Int}:jU (jB 0) (tst (op2 (qR fun i j=>decide (i<=j)) (lkp 0) (lkp 2))) (QG (jm (lkp 0) (jm (op2 QC (lkp 1) (lkp 0)) jw))) (kv.map fun p=>PyData.int p.1) [none,some (dV qq kv),some (.int M)]=some ((kv.filter fun p=>decide (p.1<=M)).map fun p=>PyData.tuple [.int p.1,qq p.2]):=
 JU (fun p:Int×LS=>PyData.int p.1) (fun p=>decide (p.1<=M)) (fun p=>PyData.tuple [.int p.1,qq p.2]) kv none (fun p hp=>rfl) (fun p hp _=>by
  have g:=afZ (f:=qq) (ad5 i2 hp);generalize qq p.2=Z at*;dsimp? [g,fw2])
theorem aph(h:okN u e l b=true){r:Nat}(hr:r<=2):(Q6 u l r).length<=2304:=by
 rw[aht];have h48:=ZY h;have h1:(rp u l).length ^ r<=48 ^ r:=Nat.pow_le_pow_left h48 r;have h2:(48:Nat) ^ r<=48 ^ 2:=Nat.pow_le_pow_right (by omega) hr;omega
theorem aiy(h:okN u e l b=true){r:Nat}(hr:r<=2)(hb:∀t∈Q6 u l r,bds t<999){M:Int}:∃kv:KV LS,Zo [jk u e l b,.int (r:Int),.int M]=some (dV qq kv)/\∀x,x<=M->(jN kv x=none/\∀t∈Q6 u l r,val b e t≠x)∨∃c m,jN kv x=some (c,m)/\c=(((Q6 u l r).filter fun t=>decide (val b e t=x)).length:Int)/\(∃t∈Q6 u l r,val b e t=x/\bds t=m)/\∀t∈Q6 u l r,val b e t=x->m<=bds t:=by
 have la:=am7 h hr;have hlen:=aph h hr;obtain⟨kv,y4,y5,y6,y7,lp,i1,i2,i3⟩:=ajB h (R:=some (.int (r:Int))) (M:=some (.int M)) (Q6 u l r) [] [] none none none none (fun t ht=>⟨by have:=((zK r t).mp ht).1;omega,hb t ht⟩) (by simp;omega) (fun x=> .inl ⟨rfl,fun t ht=>nomatch ht⟩) List.nodup_nil;rw[List.nil_append]at i1;rw[List.length_nil,Nat.zero_add]at i3;refine⟨kv.filter fun p=>decide (p.1<=M),?_,fun x hx=>?_⟩
 ·exact apf la rfl lp (aju qq kv) (am3 (by rw[List.length_map];omega)) (apg i2) (akL (i2.sublist (List.Sublist.map _ List.filter_sublist)))
 ·rw[aaT,if_pos hx]
  exact i1 x
end
theorem apO{A B:Type}(f:A->B->Bool)(s:A)(g:B->Nat):∀R:List B,((R.map fun p=>(s,p)).filter fun q=>f q.1 q.2).length+(R.map g).sum=(R.map fun p=>if f s p=true then g p+1 else g p).sum
 | []=>rfl
 | p::R=>by
  have ih:=apO f s g R;rw[List.map_cons,List.map_cons,List.map_cons,List.sum_cons,List.sum_cons,←ih];cases hf:f s p with
  |true=>rw[List.filter_cons_of_pos (by exact hf),List.length_cons,if_pos rfl];omega
  |false=>rw[List.filter_cons_of_neg (by show ¬ f s p=true;rw[hf];exact Bool.false_ne_true),if_neg Bool.false_ne_true];omega
theorem apP{B:Type}:∀R:List B,(R.map fun _=>(0:Nat)).sum=0
 | []=>rfl
 |p::R=>by rw[List.map_cons,List.sum_cons,apP R]
theorem ahD{A B:Type}(f:A->B->Bool)(R:List B):∀S:List A,((S.flatMap fun s=>R.map fun p=>(s,p)).filter fun q=>f q.1 q.2).length=((R.map fun p=>(S.filter fun s=>f s p).length).sum)
 | []=>(apP R).symm
 | s::S=>by
  rw[List.flatMap_cons,List.filter_append,List.length_append,ahD f R S,apO]
  congr 1
  apply List.map_congr_left;intro p _;cases hf:f s p with
  |true=>rw[if_pos rfl,List.filter_cons_of_pos (p:=fun s=>f s p) hf];rfl
  |false=>rw[if_neg Bool.false_ne_true,List.filter_cons_of_neg (p:=fun s=>f s p) (by rw[hf];exact Bool.false_ne_true)]
section
variable {u e l b:Int}
theorem akM(R:List (Int×Int))(A:SL):JF R A=(A.flatMap fun s=>R.map fun p=>(s,p)).map fun q=>q.1++[q.2]:=by
 unfold JF;rw[List.map_flatMap]
 congr 1
 funext s;rw[List.map_map];rfl
theorem api(h:okN u e l b=true){r:Nat}{t:List (Int×Int)}(ht:t∈Q6 u l r):0<=val b e t:=by
 obtain⟨a1,a2,a3,a4,a5,a6,a7,a8,a9,a10⟩:=jQ h;exact aiq h ((zK r t).mp ht).2
theorem asg(p:Int×Int->Nat):∀R:List (Int×Int),((R.map p).sum:Int)=(R.map fun x=>(p x:Int)).sum
 | []=>rfl
 |x::R=>by rw[List.map_cons,List.sum_cons,List.map_cons,List.sum_cons,Int.natCast_add,asg p R]
theorem af5(h:okN u e l b=true):∀(r:Nat) (n:Int),(((Q6 u l r).filter fun t=>decide (val b e t=n)).length:Int)=CN u e l b r n
 | 0,n=>by
  show((([[]]:SL).filter fun t=>decide (val b e t=n)).length:Int)=if n=0 then 1 else 0
  have e0:val b e []=0:=rfl;by_cases hn:n=0
  ·subst hn
   rw[if_pos rfl,List.filter_cons_of_pos (by simp[e0])];rfl
  ·rw[if_neg hn,List.filter_cons_of_neg (by rw[e0];simpa using fun z=>hn z.symm)];rfl
 | r+1,n=>by
  obtain⟨a1,a2,a3,a4,a5,a6,a7,a8,a9,a10⟩:=jQ h;show(((JF (rp u l) (Q6 u l r)).filter fun t=>decide (val b e t=n)).length:Int)=_;rw[akM,List.filter_map,List.length_map]
  have e1:((fun t=>decide (val b e t=n))∘fun q:List (Int×Int)×(Int×Int)=>q.1++[q.2])=fun q=>(fun s p=>decide (val b e s*b+wt e p=n)) q.1 q.2:=by
   funext q;show decide (val b e (q.1++[q.2])=n)=_;rw[ZX]
  rw[e1,ahD (fun s p=>decide (val b e s*b+wt e p=n)),asg];show _=((jF u l).map fun x=>if (n-jr e x) % b=0/\0<=n-jr e x then CN u e l b r ((n-jr e x) / b) else 0).sum;rw[Qw,List.map_map]
  congr 1
  apply List.map_congr_left;intro p _;show _=if (n-wt e p) % b=0/\0<=n-wt e p then CN u e l b r ((n-wt e p) / b) else 0
  by_cases c:(n-wt e p) % b=0/\0<=n-wt e p
  ·rw[if_pos c,←af5 h r]
   congr 2
   apply List.filter_congr;intro s _;rw[decide_eq_decide];have hd:=Int.mul_ediv_add_emod (n-wt e p) b;rw[c.1]at hd;constructor
   ·intro z
    have:val b e s*b=n-wt e p:=by omega
    rw[←this,Int.mul_ediv_cancel _ (by omega)]
   ·intro z
    rw[z,Int.mul_comm];omega
  ·rw[if_neg c]
   have:(Q6 u l r).filter (fun s=>decide (val b e s*b+wt e p=n))=[]:=by
    rw[List.filter_eq_nil_iff];intro s hs z;have z:val b e s*b+wt e p=n:=by simpa using z
    refine c ⟨?_,?_⟩
    ·rw[show n-wt e p=val b e s*b by omega,Int.mul_emod_left]
    ·have:=Int.mul_nonneg (api h hs) (show 0<=b by omega)
     omega
   rw[this];rfl
theorem aq7{t:List (Int×Int)}(hu:u<=3)(hl:l<=11)(ht:t.all (okP u l)=true):bds t<=14*(t.length:Int):=by
 induction t with
 |nil=>exact Int.le_refl _
 | cons p t ih=>
  rw[List.all_cons,Bool.and_eq_true]at ht;obtain⟨q1,q2,q3,q4⟩:=zu ht.1;have:=ih ht.2;rw[ahf,List.length_cons];unfold bd;rw[Int.natCast_add];omega
theorem ahE(h:okN u e l b=true){r:Nat}(hr:r<=2):∃kv:KV LS,Zo [jk u e l b,.int (r:Int),.int 999]=some (dV qq kv)/\∀x,x<=999->jN kv x=(LB u e l b r x).map fun m=>(CN u e l b r x,m):=by
 obtain⟨a1,a2,a3,a4,a5,a6,a7,a8,a9,a10⟩:=jQ h
 obtain⟨kv,g,sp⟩:=aiy h hr (fun t ht=>by
  obtain ⟨h1,h2⟩:=(zK r t).mp ht;have:=aq7 (u:=u) (l:=l) a2 a7 h2;omega) (M:=999)
 refine⟨kv,g,fun x hx=>?_⟩;have lm:=afW u e l b r x;rcases sp x hx with ⟨h1,h2⟩ | ⟨c,m,h1,h2,⟨t,t1,t2,t3⟩,h4⟩
 ·rw[h1]
  cases hL:LB u e l b r x with
  |none=>rfl
  | some v=>
   obtain⟨t,t1,t2,t3,_⟩:=lm.1 v hL;exact absurd t3 (h2 t ((zK r t).mpr ⟨t1,t2⟩))
 ·rw[h1]
  obtain⟨k1,k2⟩:=(zK r t).mp t1;obtain⟨v,e1,e2⟩:=lm.2 m ⟨t,k1,k2,t2,t3⟩;obtain⟨q,q1,q2,q3,q4⟩:=lm.1 v e1;have:=h4 q ((zK r q).mpr ⟨q1,q2⟩) q3;have hv:v=m:=by omega
  rw[e1,hv,h2,af5 h];rfl
theorem apj(h:okN u e l b=true){r:Nat}{x:Int}(hL:LB u e l b r x=none):CN u e l b r x=0:=by
 rw[←af5 h,List.filter_eq_nil_iff.mpr fun t ht z=>?_]
 ·rfl
 ·have z:val b e t=x:=by simpa using z
  obtain⟨k1,k2⟩:=(zK r t).mp ht;obtain⟨v,e1,_⟩:=(afW u e l b r x).2 (bds t) ⟨t,k1,k2,z,rfl⟩;rw[hL]at e1;cases e1
end
theorem anm:∀(N:Nat) (xs:List Int),xs.Nodup->(∀x∈xs,0<=x/\x<(N:Int))->xs.length<=N
 | 0,xs,_,h=>by
  cases xs with
  |nil=>exact Nat.le_refl _
  |cons x xs=>have:=h x List.mem_cons_self;omega
 | N+1,xs,hn,h=>by
  have ih:=anm N (xs.erase (N:Int)) (hn.erase _) fun x hx=>by
   obtain⟨h1,h2⟩:=hn.mem_erase_iff.mp hx;have:=h x h2;omega
  by_cases hm:(N:Int)∈xs
  ·rw[List.length_erase_of_mem hm]at ih;omega
  ·rw[List.erase_of_not_mem hm]at ih;omega
theorem ann{ns:List Int}{v:Int}(h1:v∈ns)(h2:∀x∈ns,x<=v):zV (fun i j=>decide (i>j)) ns=some v:=by
 cases ns with
 |nil=>exact nomatch h1
 | cons n ns=>
  obtain⟨k2,k3,k1⟩:=abF ns n;show(some (ns.foldl (fun a b=>if decide (b>a) then b else a) n))=_;generalize ns.foldl (fun a b=>if decide (b>a) then b else a) n=m at*
  have a1:v<=m:=by
   rcases List.mem_cons.mp h1 with rfl | z
   ·exact k2
   ·exact k3 v z
  have a2:m<=v:=by
   rcases k1 with z | z
   ·rw[z];exact h2 n List.mem_cons_self
   ·exact h2 m (List.mem_cons_of_mem _ z)
  rw[show m=v by omega]
theorem apQ(d:PyData)(r:LP)(h:r.length<1000):dIx (.list (d::r)) (.int 0)=some d:=by
 have e1:ixN (r.length+1) 0=some 0:=by unfold ixN;simp
 simp only[dIx,atI,List.length_cons,e1];rw[if_pos (by omega)];rfl
theorem ahF{α:Type}(f:α->PyData)(kv:KV α):adw [dV f kv]=some (.list ((kv.map (·.1)).map .int)):=by
 have e:j5 ((zE f kv).map (·.1))=some (kv.map (·.1)):=by
  have:=zR (kv.map (·.1));rw[List.map_map]at this;rw[show(zE f kv).map (·.1)=kv.map (PyData.int∘(·.1)) by simp[zE,List.map_map,Function.comp_def]];exact this
 show(j5 ((zE f kv).map (·.1))).map _=_;rw[e];rfl
theorem apk{α:Type}(f:α->PyData)(kv:KV α):agL [dV f kv]=(zV (fun i j=>decide (i>j)) (kv.map (·.1))).map .int:=by
 have e:j5 ((zE f kv).map (·.1))=some (kv.map (·.1)):=by
  have:=zR (kv.map (·.1));rw[List.map_map]at this;rw[show(zE f kv).map (·.1)=kv.map (PyData.int∘(·.1)) by simp[zE,List.map_map,Function.comp_def]];exact this
 show(j5 ((zE f kv).map (·.1))).bind _=_;rw[e];rfl
theorem ano{L:List Int}{P:Int->Bool}{N:Nat}(hs:L.Pairwise (fun a b=>a<=b))(h1:∀n:Nat,n<N->P n=true->(n:Int)∈L)(h2:∀x∈L,0<=x/\x<(N:Int)):(L.filter P).head?=((List.range N).find? fun (n:Nat)=>P n).map fun (n:Nat)=>(n:Int):=by
 cases hf:(List.range N).find? fun (n:Nat)=>P n with
 | none=>
  have h0:=List.find?_eq_none.mp hf
  have:L.filter P=[]:=List.filter_eq_nil_iff.mpr fun x hx=>by
   obtain⟨a,b⟩:=h2 x hx;have:=h0 x.toNat (List.mem_range.mpr (by omega));rw[show((x.toNat:Nat):Int)=x by omega]at this;exact this
  rw[this];rfl
 | some n=>
  have p0:P n=true:=List.find?_some (p:=fun (n:Nat)=>P n) hf;have hn:n<N:=List.mem_range.mp (List.mem_of_find?_eq_some hf)
  have hmin:∀m:Nat,m<n->P m=false:=fun m hm=>by
   obtain⟨_,i,hi,e1,e2⟩:=List.find?_eq_some_iff_getElem.mp hf;rw[List.getElem_range]at e1;subst e1;have:=e2 m hm;rw[List.getElem_range]at this;simpa using this
  have hm:=h1 n hn p0;have hmf:(n:Int)∈L.filter P:=List.mem_filter.mpr ⟨hm,p0⟩;cases hL:L.filter P with
  |nil=>rw[hL]at hmf;cases hmf
  | cons x xs=>
   have hx:x∈L.filter P:=by rw[hL];exact List.mem_cons_self
   obtain⟨hx1,hx2⟩:=List.mem_filter.mp hx;have hps:(x::xs).Pairwise (fun a b=>a<=b):=by rw[←hL];exact hs.sublist List.filter_sublist
   have hle:x<=n:=by
    rw[hL]at hmf;rcases List.mem_cons.mp hmf with z | z
    ·omega
    ·exact(List.pairwise_cons.mp hps).1 _ z
   obtain⟨x0,x1⟩:=h2 x hx1
   have:¬ x.toNat<n:=fun z=>by
    have:=hmin x.toNat z;rw[show((x.toNat:Nat):Int)=x by omega,hx2]at this;cases this
   show some x=some (n:Int);rw[show x=(n:Int) by omega]
section
variable {u e l b u' e' l' b':Int}
theorem aaB(H:zh=true)(h:okN u e l b=true){x:Int}(hx:x∈(jZ u e l).map (·.1)):0<=x/\x<=u*e+l:=by
 have:=ajA.mp hx;rw[ani]at this;have hm:x∈(rp u l).map (wt e):=by simpa using this
 obtain⟨p,hp,rfl⟩:=List.mem_map.mp hm;have:=(Zq H h).rng (pr p) (by rw[Qw];exact List.mem_map.mpr ⟨p,hp,rfl⟩);exact this
theorem QA(H:zh=true)(h:okN u e l b=true){x:Int}(hx:cnt u e l x≠0):x∈(jZ u e l).map (·.1):=by
 refine ajA.mpr ?_;rw[←abH h]at hx;cases hf:jN (jZ u e l) x with
 |none=>rw[hf]at hx;exact absurd rfl hx
 |some v=>rfl
theorem ac0(H:zh=true)(h:okN u e l b=true):((jZ u e l).map (·.1)).length<=27:=by
 have hb:=zJ h;exact anm 27 _ af4 fun x hx=>by have:=aaB H h hx;omega
noncomputable def unl(u e l u' e' l':Int):List Int:=(Jy ((jZ u e l).map (·.1)++(jZ u' e' l').map (·.1))).filter fun x=>!decide (cnt u e l x=cnt u' e' l' x)
theorem ahG(H:zh=true)(h:okN u e l b=true)(h':okN u' e' l' b'=true):(unl u e l u' e' l').head?=(Qj u e l u' e' l').map fun (n:Nat)=>(n:Int):=by
 have hb:=zJ h;have hb':=zJ h';have hp:=zQ ((jZ u e l).map (·.1)++(jZ u' e' l').map (·.1));have:=ano (P:=fun x=>!decide (cnt u e l x=cnt u' e' l' x)) (N:=((if u'*e'+l'>u*e+l then u'*e'+l' else u*e+l)+1).toNat) (Ze ((jZ u e l).map (·.1)++(jZ u' e' l').map (·.1))) (fun n hn hP=>hp.mem_iff.mpr ?_) (fun x hx=>?_)
 ·unfold unl Qj
  rw[this]
  congr 2
 ·have hP:cnt u e l n≠cnt u' e' l' n:=by simpa using hP
  rw[List.mem_append];by_cases z:cnt u e l n=0
  ·exact .inr (QA H h' fun z'=>hP (by rw[z,z']))
  ·exact .inl (QA H h z)
 ·have hx:=List.mem_append.mp (hp.mem_iff.mp hx)
  rcases hx with hx | hx
  ·have:=aaB H h hx
   split<;>omega
  ·have:=aaB H h' hx
   split<;>omega
theorem apl(H:zh=true)(h:okN u e l b=true)(h':okN u' e' l' b'=true):decide (Qm u e l=Qm u' e' l')=decide (unl u e l u' e' l'=[]):=by
 rw[akC (Zq H h) (Zq H h') (zJ h).1 (zJ h').1];have:=ahG H h h';cases hu:unl u e l u' e' l' with
 | nil=>
  rw[hu]at this;cases hp:Qj u e l u' e' l' with
  |none=>rfl
  |some n=>rw[hp]at this;cases this
 | cons x xs=>
  rw[hu]at this;cases hp:Qj u e l u' e' l' with
  |none=>rw[hp]at this;cases this
  |some n=>rfl
theorem apm(H:zh=true)(h:okN u e l b=true)(h':okN u' e' l' b'=true):dIx (.list ((unl u e l u' e' l').map .int++[.none])) (.int 0)=some (ahp (Qj u e l u' e' l')):=by
 have:=ahG H h h';cases hu:unl u e l u' e' l' with
 | nil=>
  rw[hu]at this;cases hp:Qj u e l u' e' l' with
  |none=>rfl
  |some n=>rw[hp]at this;cases this
 | cons x xs=>
  rw[hu]at this;cases hp:Qj u e l u' e' l' with
  |none=>rw[hp]at this;cases this
  | some n=>
   rw[hp]at this;have:x=(n:Int):=Option.some.inj this;rw[this]
   have hl:(unl u e l u' e' l').length<=54:=by
    unfold unl;have k1:=ac0 H h;have k2:=ac0 H h';have:=List.length_filter_le (fun x=>!decide (cnt u e l x=cnt u' e' l' x)) (Jy ((jZ u e l).map (·.1)++(jZ u' e' l').map (·.1)));rw[(zQ _).length_eq,List.length_append]at this;omega
   rw[hu,List.length_cons]at hl;have:=apQ (PyData.int (n:Int)) (xs.map PyData.int++[.none]) (by rw[List.length_append,List.length_map];simp;omega);exact this
theorem aq8(H:zh=true)(h:okN u e l b=true):∃M,zV (fun i j=>decide (i>j)) ((jZ u e l).map (·.2))=some M/\zV (fun i j=>decide (i>j)) ((jZ u e l).map (·.1))=some (u*e+l)/\(decide (M=1)&&decide (u*e+l<b))=sgl u e l b:=by
 obtain⟨a1,a2,a3,a4,a5,a6,a7,a8,a9,a10⟩:=jQ h;have C:=Zq H h;obtain⟨b1,b2⟩:=zJ h;have hk:u*e+l∈(jZ u e l).map (·.1):=QA H h (by have:=Zr C b1 (Int.le_refl _);omega)
 have hv:∀p∈jZ u e l,p.2=cnt u e l p.1:=fun p hp=>by
  have:=ad5 af4 hp;rw[←abH h,this];rfl
 have pos:∀x∈(jZ u e l).map (·.2),1<=x:=fun x hx=>by
  obtain⟨p,hp,rfl⟩:=List.mem_map.mp hx;rw[hv p hp];obtain⟨r0,r1⟩:=aaB H h (List.mem_map.mpr ⟨p,hp,rfl⟩);exact Zr C r0 r1
 have mx:=ann hk fun x hx=>(aaB H h hx).2
 have all:∀k:Int,0<=k->k<=u*e+l->cnt u e l k∈(jZ u e l).map (·.2):=fun k k0 k1=>by
  have:=QA H h (x:=k) (by have:=Zr C k0 k1;omega);obtain⟨p,hp,rfl⟩:=List.mem_map.mp this;exact List.mem_map.mpr ⟨p,hp,hv p hp⟩
 generalize hV:(jZ u e l).map (·.2)=V at*;cases V with
 |nil=>have:=all 0 (Int.le_refl _) b1;cases this
 | cons x xs=>
  obtain⟨h1,h2,h3⟩:=abF xs x;refine⟨xs.foldl (fun a b=>if decide (b>a) then b else a) x,rfl,mx,?_⟩;generalize xs.foldl (fun a b=>if decide (b>a) then b else a) x=M at h1 h2 h3
  have hM:∀y∈x::xs,y<=M:=fun y hy=>by
   rcases List.mem_cons.mp hy with rfl | hy
   ·exact h1
   ·exact h2 y hy
  rw[←Bool.decide_and];unfold sgl;apply decide_eq_decide.mpr;constructor
  ·rintro⟨q1,q2⟩
   rw[C.lst];apply List.eq_replicate_iff.mpr;refine⟨by simp;omega,fun y hy=>?_⟩;obtain⟨k,hk',rfl⟩:=List.mem_map.mp hy;have hk':=List.mem_range.mp hk';have c1:=Zr C (n:=(k:Int)) (by omega) (by omega);have c2:=hM _ (all k (by omega) (by omega));omega
  ·intro q
   obtain⟨s1,s2⟩:=akD H h (by unfold sgl;exact decide_eq_true q);refine⟨?_,by omega⟩
   have hm:M∈x::xs:=by
    rcases h3 with z | z
    ·rw[z];exact List.mem_cons_self
    ·exact List.mem_cons_of_mem _ z
   rw[←hV]at hm;obtain⟨p,hp,rfl⟩:=List.mem_map.mp hm;rw[hv p hp];obtain⟨r0,r1⟩:=aaB H h (List.mem_map.mpr ⟨p,hp,rfl⟩);exact s2 _ r0 (by omega)
theorem akN{kv:KV Int}(hn:(kv.map (·.1)).Nodup):jU (jB 0) Zy (op2 QC (lkp 1) (lkp 0)) (kv.map fun p=>PyData.int p.1) [none,some (dV .int kv)]=some ((kv.map (·.2)).map .int):=by
 have:=JU (fun p:Int×Int=>PyData.int p.1) (ft:=Zy) (fe:=op2 QC (lkp 1) (lkp 0)) (fun _=>true) (fun p=>PyData.int p.2) (τ:=[some (dV .int kv)]) kv none (fun p hp=>rfl) (fun p hp _=>by
  have g:=afZ (f:=PyData.int) (ad5 hn hp);dsimp? [g])
 rw[this,List.filter_eq_self.mpr fun _ _=>rfl,List.map_map];rfl
theorem ash{m one D:PyData}{M N b:Int}{c:Bool}{keys vs:LP}{x2 x3:OP}(gc:Qg [m]=some D)(kd:(qM D).map (fun r=>r.map (·.1))=some keys)(fk:few keys=true)(cp:jU (jB 0) Zy (op2 QC (lkp 1) (lkp 0)) keys [none,some D]=some vs)(mx:adf (fun i j=>decide (i>j)) [.list vs]=some (.int M))(mk:agL [D]=some (.int N))(i3:dIx m (.int 3)=some (.int b))(hs:(decide (M=1)&&decide (N<b))=c)(gs:Qs [m]=some (.bool c)):
  ∃y2 y3,qT.1 [some one,some m,x2,x3]=some (.nx [some one,some m,y2,y3]):=by
 have t4:=asd (k:=m) (r:= .int 1) (n:= .int 0) gs;have ne:dNe (.bool c) (.bool c)=some (.bool false):=by rw[adX];simp
 have q1:dEq (.int M) (.int 1)=some (.bool (decide (M=1))):=qk _ _;have q2:qR (fun i j=>decide (i<j)) (.int N) (.int b)=some (.bool (decide (N<b))):=rfl;refine⟨some D,some (.bool c),?_⟩;simp only[qT];refine(jq (ρ1:=[some one,some m,some D,x3]) ?_).trans ?_
 ·dsimp? [gc]
 refine(jq (ρ1:=[some one,some m,some D,some (.bool c)]) (aaM (i:=3) (d:= .bool c) ?_)).trans ?_
 ·have e1:op2 dEq (jA (adf fun i j=>decide (i>j)) (jm (zG (itD (lkp 2)) [none,some 2] (jB 0) Zy (op2 QC (lkp 1) (lkp 0))) jw)) (cst (.int 1)) [some one,some m,some D,x3]=some (.bool (decide (M=1))):=by
   refine JI (af0 (ahx (d:= .list vs) (Qy (ds:=keys) ?_ fk cp) rfl) mx) rfl q1;dsimp? [itD,kd]
  have e2:op2 (qR fun i j=>decide (i<j)) (jA agL (jm (lkp 2) jw)) (op2 dIx (lkp 1) (cst (.int 3))) [some one,some m,some D,x3]=some (.bool (decide (N<b))):=by
   refine JI (af0 rfl mk) (JI rfl rfl i3) q2
  unfold aeg;rw[e1,zzD];show(if decide (M=1)=true then _ else _)=_;rw[←hs];by_cases hM:M=1
  ·rw[if_pos (decide_eq_true hM),e2,decide_eq_true hM,Bool.true_and]
  ·rw[if_neg (by simpa using hM),decide_eq_false hM,Bool.false_and]
 refine(jq (ρ1:=[some one,some m,some D,some (.bool c)]) ?_).trans rfl;dsimp? [t4,ne]
theorem af6(H:zh=true)(h:okN u e l b=true){one:PyData}{x2 x3:OP}:∃y2 y3,qT.1 [some one,some (jk u e l b),x2,x3]=some (.nx [some one,some (jk u e l b),y2,y3]):=by
 obtain⟨M,v1,v2,v3⟩:=aq8 H h;have hl:=anj h;refine ash (Z3 h) (aju PyData.int (jZ u e l)) (zf (by rw[List.length_map];omega)) (akN af4) (M:=M) ?_ (N:=u*e+l) ?_ (ix3 u e l b) v3 (akz H h)
 ·show(j5 (((jZ u e l).map (·.2)).map PyData.int)).bind _=_
  rw[zR,zzD,v1];rfl
 ·rw[apk,v2];rfl
theorem asi:okN 1 1 1 3=true:=by decide
theorem asj:okN 1 5 4 10=true:=by decide
theorem ask:okN 1 5 5 10=true:=by decide
theorem af7{m:PyData}(s1:∀x2 x3,∃y2 y3,qT.1 [some m,some m,x2,x3]=some (.nx [some m,some m,y2,y3]))(s2:∀x2 x3,∃y2 y3,qT.1 [some m,some (jk 1 1 1 3),x2,x3]=some (.nx [some m,some (jk 1 1 1 3),y2,y3]))
  (s3:∀x2 x3,∃y2 y3,qT.1 [some m,some (jk 1 5 4 10),x2,x3]=some (.nx [some m,some (jk 1 5 4 10),y2,y3])) (s4:∀x2 x3,∃y2 y3,qT.1 [some m,some (jk 1 5 5 10),x2,x3]=some (.nx [some m,some (jk 1 5 5 10),y2,y3])):QY [m]=some (.bool true):=by
 obtain⟨a2,a3,p1⟩:=s1 none none;obtain⟨b2,b3,p2⟩:=s2 a2 a3;obtain⟨c2,c3,p3⟩:=s3 b2 b3;obtain⟨d2,d3,p4⟩:=s4 c2 c3;refine jP rfl ?_;show aau.1 [some m,none,none,none]=_;simp only[aau];refine(jq (ρ1:=[some m,some (jk 1 5 5 10),d2,d3]) ?_).trans rfl;refine af1 (ds:=[m,jk 1 1 1 3,jk 1 5 4 10,jk 1 5 5 10]) ?_ ?_
 ·dsimp? [itS,items,fw4]
  rfl
 ·rw[jC]
  show(qT.1 [some m,some m,none,none]).bind _=_;rw[p1,zzD];show jC _ _ _ _=_;rw[jC];rw[show jB 1 (jk 1 1 1 3) [some m,some (m),a2,a3]=some [some m,some (jk 1 1 1 3),a2,a3] from rfl,zzD,p2,zzD];show jC _ _ _ _=_;rw[jC];rw[show jB 1 (jk 1 5 4 10) [some m,some (jk 1 1 1 3),b2,b3]=some [some m,some (jk 1 5 4 10),b2,b3] from rfl,zzD,p3,zzD];show jC _ _ _ _=_;rw[jC];rw[show jB 1 (jk 1 5 5 10) [some m,some (jk 1 5 4 10),c2,c3]=some [some m,some (jk 1 5 5 10),c2,c3] from rfl,zzD,p4,zzD];rfl
theorem af8(H:zh=true)(h:okN u e l b=true):QY [jk u e l b]=some (.bool true):=
 af7 (fun _ _=>af6 H h) (fun _ _=>af6 H asi) (fun _ _=>af6 H asj) (fun _ _=>af6 H ask)
end
theorem rg4:Zx [.int 4]=some [.int 0,.int 1,.int 2,.int 3]:=by kernel_rfl
theorem rg5:Zx [.int 5]=some [.int 0,.int 1,.int 2,.int 3,.int 4]:=by kernel_rfl
theorem asl:agA (.list [.tuple [.str "refused",.int 2]]) (.int 5)=some (.list [rfd 2,rfd 2,rfd 2,rfd 2,rfd 2]):=by kernel_rfl
theorem asm:agA (.list [.tuple [.str "refused",.int 0]]) (.int 4)=some (.list [rfd 0,rfd 0,rfd 0,rfd 0]):=by kernel_rfl
theorem asn:agA (.list [.tuple [.str "refused",.int 0]]) (.int 5)=some (.list [rfd 0,rfd 0,rfd 0,rfd 0,rfd 0]):=by kernel_rfl
theorem as6:dNe (.list [rfd 2,rfd 2,rfd 2,rfd 2,rfd 2]) (.list [rfd 2,rfd 2,rfd 2,rfd 2,rfd 2])=some (.bool false):=by kernel_rfl
theorem as7:dNe (.list [rfd 0,rfd 0,rfd 0,rfd 0]) (.list [rfd 0,rfd 0,rfd 0,rfd 0])=some (.bool false):=by kernel_rfl
theorem as8:dEq (.list [rfd 0,rfd 0,rfd 0,rfd 0,rfd 0]) (.list [rfd 0,rfd 0,rfd 0,rfd 0,rfd 0])=some (.bool true):=by kernel_rfl
theorem aso:qD (.list [rfd 2,rfd 2]) (.list [rfd 2,rfd 2,rfd 2])=some (.list [rfd 2,rfd 2,rfd 2,rfd 2,rfd 2]):=by kernel_rfl
theorem af9{m k m3 k3 r O:PyData}
  (a1:jT [.int 2,m,k,r,O]=some (rfd 2)) (a2:jT [.int 3,m,k,r,O]=some (rfd 2)) (a3:jT [.int 3,m,k,r,.int 1000]=some (rfd 2)) (a4:jT [.int 2,m,k,.int 5,.int 0]=some (rfd 2)) (a5:jT [.int 3,m,k,.int 0,.int 0]=some (rfd 2)) (a6:jT [.int 3,m,k,r,.int 0]=some .none)
  (s1:abd k none (some 3)=some k3) (s2:abd m none (some 3)=some m3)
  (b0:jT [.int 0,m,k3,O,O]=some (rfd 0)) (b1:jT [.int 1,m,k3,O,O]=some (rfd 0)) (b2:jT [.int 2,m,k3,O,O]=some (rfd 0)) (b3:jT [.int 3,m,k3,O,O]=some (rfd 0))
  (c0:jT [.int 0,m3,k,O,O]=some (rfd 0)) (c1:jT [.int 1,m3,k,O,O]=some (rfd 0)) (c2:jT [.int 2,m3,k,O,O]=some (rfd 0)) (c3:jT [.int 3,m3,k,O,O]=some (rfd 0)) (c4:jT [.int 4,m3,k,O,O]=some (rfd 0)):
  QW [m,k,r,O]=some (.bool true):=by
 have nn:alQ .none .none=some (.bool false):=rfl;have f5:∀a b c d e:PyData,few [a,b,c,d,e]=true:=fun _ _ _ _ _=>fw5;have f4:∀a b c d:PyData,few [a,b,c,d]=true:=fun _ _ _ _=>fw4
 have cp1:jU (jB 0) Zy (jA jT (jm (lkp 0) (jm (lkp 1) (jm (ZO (lkp 3) (cst (.int 3))) (jm (lkp 2) (jm (lkp 2) jw)))))) [.int 0,.int 1,.int 2,.int 3] [none,some m,some O,some k]=some [rfd 0,rfd 0,rfd 0,rfd 0]:=by
  have i3:inI (.int 3)=some 3:=rfl;dsimp? [jU,Zy,ZO,i3,s1,b0,b1,b2,b3]
 have cp2:jU (jB 0) Zy (jA jT (jm (lkp 0) (jm (ZO (lkp 3) (cst (.int 3))) (jm (lkp 1) (jm (lkp 2) (jm (lkp 2) jw)))))) [.int 0,.int 1,.int 2,.int 3,.int 4] [none,some k,some O,some m]=some [rfd 0,rfd 0,rfd 0,rfd 0,rfd 0]:=by
  have i3:inI (.int 3)=some 3:=rfl;dsimp? [jU,Zy,ZO,i3,s2,c0,c1,c2,c3,c4]
 refine jP rfl ?_;show aat.1 [some m,some k,some r,some O,none]=_;simp only[aat];refine(jq (ρ1:=[some m,some k,some r,some O,some (.list [rfd 2,rfd 2])]) ?_).trans ?_
 ·dsimp? [a1,a2,fw2]
 refine(jq (ρ1:=[some m,some k,some r,some O,some (.list [rfd 2,rfd 2,rfd 2,rfd 2,rfd 2])]) ?_).trans ?_
 ·have ad:=aso
  dsimp? [a3,a4,a5,fw3,ad]
 refine(jq (ρ1:=[some m,some k,some r,some O,some (.list [rfd 2,rfd 2,rfd 2,rfd 2,rfd 2])]) (aq2 ?_)).trans ?_
 ·have rp:=asl
  have ne:=as6;dsimp? [a6,nn,rp,ne]
 refine(jq (ρ1:=[some m,some k,some r,some O,some (.list [rfd 2,rfd 2,rfd 2,rfd 2,rfd 2])]) (aq2 (anb (JI (Qy (ds:=[.int 0,.int 1,.int 2,.int 3]) ?_ fw4 cp1) (JI rfl rfl asm) as7)))).trans ?_
 ·have rg:=rg4
  dsimp? [rg]
 refine ane (JI (Qy (ds:=[.int 0,.int 1,.int 2,.int 3,.int 4]) ?_ fw5 cp2) (JI rfl rfl asn) as8);have rg:=rg5;dsimp? [rg]
section
variable {u e l b u' e' l' b':Int}
theorem aq9:abd (jk u e l b) none (some 3)=some (.tuple [.int u,.int e,.int l]):=by
 have:ado [.int u,.int e,.int l,.int b] none (some ((3:Nat):Int))=[.int u,.int e,.int l]:=by rw[apK];rfl
 show some (PyData.tuple (ado [.int u,.int e,.int l,.int b] none (some 3)))=_;rw[show(3:Int)=((3:Nat):Int) from rfl,this]
theorem ajC(h:okN u e l b=true)(r:Nat):LB u e l b r 0=some 0:=by
 obtain⟨a1,a2,a3,a4,a5,a6,a7,a8,a9,a10⟩:=jQ h
 have z:Sp u e l b r 0 0:=by
  refine⟨List.replicate r (0,0),List.length_replicate,?_,?_,?_⟩
  ·rw[List.all_eq_true]
   intro p hp;rw[(List.mem_replicate.mp hp).2];show okP u l (0,0)=true;simp[okP];omega
  ·induction r with
   |zero=>rfl
   |succ r ih=>rw[List.replicate_succ',ZX,ih];simp[wt]
  ·induction r with
   |zero=>rfl
   |succ r ih=>rw[List.replicate_succ',adP,ih];rfl
 have lm:=afW u e l b r 0;obtain⟨v,e1,e2⟩:=lm.2 0 z;have:=amO (lm.1 v e1);rw[e1,show v=0 by omega]
theorem anp(h:okN u e l b=true)(h':okN u' e' l' b'=true)(r:Nat):ahj u e l b u' e' l' b' r 0=none:=by
 unfold ahj
 have:(List.range (0+1)).find? (fun (n:Nat)=>Q3 u e l b u' e' l' b' r n)=none:=by
  rw[List.find?_eq_none];intro n hn;have hn:=List.mem_range.mp hn;have e0:n=0:=by omega
  subst e0;unfold Q3;show ¬ JD (LB u e l b r 0) (LB u' e' l' b' r 0)=true;rw[ajC h,ajC h'];simp[JD]
 rw[this];rfl
theorem ara(q:Int)(h0:0<=q)(h4:q<4):∃O,dIx (.list [.int (-1),.int 100000,.none,.bool true]) (.int q)=some O/\noD O=true/\whB 0 99999 O=false/\whB 0 999 O=false:=by
 have:q=0∨q=1∨q=2∨q=3:=by omega
 rcases this with rfl|rfl|rfl|rfl
 ·exact⟨_,rfl,rfl,rfl,rfl⟩
 ·exact⟨_,rfl,rfl,rfl,rfl⟩
 ·exact⟨_,rfl,rfl,rfl,rfl⟩
 ·exact⟨_,rfl,rfl,rfl,rfl⟩
theorem aga(H:zh=true)(h:okN u e l b=true)(h':okN u' e' l' b'=true){r:Nat}(h1:1<=r)(h3:r<=2){O:PyData}(o1:noD O=true)(o2:whB 0 99999 O=false)(o3:whB 0 999 O=false):QW [jk u e l b,jk u' e' l' b',.int (r:Int),O]=some (.bool true):=by
 obtain⟨m1,m2⟩:=ajw H h;obtain⟨k1,k2⟩:=ajw H h';have bn:=Q5 H h h';have bt:=ang (k:=jk u' e' l' b') m1 m2 k2;obtain⟨r1,r2⟩:=ao9 (i:=(r:Int)) (by omega);obtain⟨n1,n2⟩:=aq1 o1 o2;obtain⟨q1,q2⟩:=apb m1 m2 r1 r2 n1 n2;obtain⟨w1,w2⟩:=apL q1 q2;obtain⟨p1,p2⟩:=ajv bn bt w1 w2;obtain⟨t1,t2⟩:=ahy (r:= .int (r:Int)) (n:=O) bn bt r1 r2 (by rw[Z0 O o1,o3]);obtain⟨t3,t4⟩:=ahy (r:= .int (r:Int)) (n:= .int 1000) bn bt r1 r2 (by rw[qj];rfl);obtain⟨v1,v2⟩:=ajt (d:= .int 5) rfl rfl;obtain⟨v3,v4⟩:=ajt (d:= .int 0) rfl rfl;obtain⟨q3,q4⟩:=apa (n:= .int 0) m1 m2 v1 v2;obtain⟨w3,w4⟩:=apL q3 q4;obtain⟨p3,p4⟩:=ajv bn bt w3 w4;obtain⟨t5,t6⟩:=anh (n:= .int 0) bn bt v3 v4;have t7:=adS H h h' h1 (show r<=3 by omega) (M:=0) (by omega);rw[anp h h']at t7;obtain⟨x1,x2⟩:=apN u' e' l';obtain⟨y1,y2⟩:=apN u e l;obtain⟨z1,z2⟩:=aq6 m1 m2 x1 x2;obtain⟨z3,z4⟩:=aq5 (k:=jk u' e' l' b') y1 y2
 refine af9 (af2 p1 p2 zx zw) (ad2 t1 t2 zx zw) (ad2 t3 t4 zx zw) (af2 p3 p4 zx zw) (ad2 t5 t6 zx zw) (apM t7) aq9 aq9
  (anf (acY z1 z2).1 (acY z1 z2).2 qv qt) (aix (aaA z1 z2).1 (aaA z1 z2).2 qv qt) (af2 (acZ z1 z2).1 (acZ z1 z2).2 qv qt) (ad2 (abG z1 z2).1 (abG z1 z2).2 qv qt)
  (anf (acY z3 z4).1 (acY z3 z4).2 qv qt) (aix (aaA z3 z4).1 (aaA z3 z4).2 qv qt) (af2 (acZ z3 z4).1 (acZ z3 z4).2 qv qt) (ad2 (abG z3 z4).1 (abG z3 z4).2 qv qt) (aq4 (ahz y1 y2).1 (ahz y1 y2).2 qv qt)
end
theorem agb{tt:Rho->Option Bool}{A:RO}{ρ ρ':Rho}{c:Bool}(h:tt ρ=some c)(h1:c=true->A ρ=some (.nx ρ'))(h2:c=false->ρ'=ρ):ifS tt A qC ρ=some (.nx ρ'):=by
 show(tt ρ).bind _=_;rw[h,zzD];cases c with
 |true=>exact h1 rfl
 |false=>rw[h2 rfl];rfl
theorem apR{α:Type}{f:α->PyData}{kv:KV α}{k:Int}:adm false (.int k) (dV f kv)=some (.bool (jN kv k).isSome):=by
 show some (PyData.bool (if false=true then _ else (zO (zE f kv) k).isSome))=_;rw[if_neg Bool.false_ne_true,ab6];cases jN kv k<;>rfl
noncomputable abbrev fN(S m k:PyData)(w:OP):Rho:=[some S,some m,some k,w,none,none,none,none,none,none,none,none,none,none,none]
theorem anq{S m k0 k1 k2 k3 k T A1 A2 A3 A4 V2 V4 D D' P HD HD' x12 O L1 Q1 Q2:PyData}{w b b' lo rr M N2 N5 n1 n2 mxx wd rd q M1 Lb:Int}{c0 c1 c2 c3 B1 B2 B3:Bool}{K1 K2 K3 K4 U UN RR R1 R2:LP}
  (g0:Zm [S,.int 0]=some m) (g1:Zm [S,.int 10]=some k0) (g2:Qe [S,.int 20,.int 5]=some (.int w))
  (q0:dEq (.int w) (.int 0)=some (.bool c0)) (e0:c0=true->m=k1) (e0':c0=false->k1=k0)
  (q1:dEq (.int w) (.int 1)=some (.bool c1)) (i2:dIx m (.int 2)=some (.int lo)) (lt:qR (fun i j=>decide (i<j)) (.int lo) (.int 12)=some (.bool true)) (s2:abd m none (some 2)=some A1) (p1:qD (.int lo) (.int 1)=some L1) (p2:qD A1 (.tuple [L1])=some A2) (s3:abd m (some 3) none=some A3) (p3:qD A2 A3=some V2) (e1:c1=true->k2=V2) (e1':c1=false->k2=k1)
  (q2:dEq (.int w) (.int 2)=some (.bool c2)) (gt:c2=true->ag0 [S,m]=some T) (e2:c2=true->k3=T) (e2':c2=false->k3=k2)
  (q3:dEq (.int w) (.int 3)=some (.bool c3)) (i3:dIx m (.int 3)=some (.int b)) (p4:QJ (.int b) (.int 1)=some (.int Lb)) (p5:aa1 [.int 2,.int Lb]=some (.int M1)) (s4:abd m none (some 3)=some A4) (p6:qD A4 (.tuple [.int M1])=some V4) (e3:c3=true->k=V4) (e3':c3=false->k=k3)
  (gc:Qg [m]=some D) (gc':Qg [k]=some D') (ld:adw [D]=some (.list K1)) (ld':adw [D']=some (.list K2)) (ad:qD (.list K1) (.list K2)=some (.list K3)) (so:afw [.list K3]=some (.list K4)) (fk:few K4=true)
  (cp:jU (jB 0) (tst (op2 dNe (zk (lkp 1) (lkp 0) (cst (.int 0))) (zk (lkp 2) (lkp 0) (cst (.int 0))))) (lkp 0) K4 [none,some D,some D']=some U)
  (t0:jT [.int 0,m,k,.int 1,.int 0]=some (.bool (B1&&B2))) (i3':dIx k (.int 3)=some (.int b')) (qb:dEq (.int b) (.int b')=some (.bool B1)) (qu:dEq (.list U) (.list [])=some (.bool B2))
  (nb:dNe (.int b) (.int b')=some (.bool (!B1))) (au:qD (.list U) (.list [.none])=some (.list UN)) (hP:B1=true->dIx (.list UN) (.int 0)=some P) (hP':B1=false->P= .tuple [.str "refused",.int 2]) (t1:jT [.int 1,m,k,.int 1,.int 0]=some P) (np:dNe P P=some (.bool false)) (gs:QY [m]=some (.bool true))
  (r1:aaQ [m]=some Q1) (r2:aaQ [k]=some Q2) (l1:afi [Q1]=some (.int n1)) (l2:afi [Q2]=some (.int n2)) (mx:aa1 [.int n1,.int n2]=some (.int mxx)) (lt15:qR (fun i j=>decide (i<j)) (.int mxx) (.int 15)=some (.bool B3)) (dio:afA [.bool B3]=some (.int wd)) (a1:qD (.int 1) (.int wd)=some (.int (1+wd))) (d21:Qe [S,.int 21,.int (1+wd)]=some (.int rd)) (a2:qD (.int 1) (.int rd)=some (.int rr))
  (d22:Qe [S,.int 22,.int 60]=some (.int M)) (h1:Zo [m,.int rr,.int 999]=some HD) (h2:Zo [k,.int rr,.int 999]=some HD') (f2:aa0 (.int M) (.int 2)=some (.int N2)) (f5:aa0 (.int M) (.int 5)=some (.int N5))
  (lp:jC (jB 12) ag4.1 [.int M,.int N2,.int N5] [some S,some m,some k,some (.int w),some D,some D',some (.list U),some P,some (.int rr),some (.int M),some HD,some HD',none,none,none]=some (.nx [some S,some m,some k,some (.int w),some D,some D',some (.list U),some P,some (.int rr),some (.int M),some HD,some HD',some x12,none,none]))
  (am:qD (.int M) (.int 1)=some (.int (M+1))) (rg:Zx [.int (M+1)]=some RR) (fr:few RR=true) (cp1:jU (jB 0) (Zw (tst (op2 (adm false) (lkp 0) (lkp 1))) (tst (op2 (adm false) (lkp 0) (lkp 2)))) (lkp 0) RR [none,some HD,some HD']=some R1)
  (fr1:few R1=true) (cp2:jU (jB 0) (tst (op2 (qR fun i j=>decide (i>j)) (op2 dIx (op2 QC (lkp 1) (lkp 0)) (cst (.int 1))) (op2 dIx (op2 QC (lkp 2) (lkp 0)) (cst (.int 1))))) (lkp 0) R1 [none,some HD,some HD']=some R2)
  {U2:LP} {P2:PyData} (t3:jT [.int 3,m,k,.int rr,.int M]=some P2) (au2:qD (.list R2) (.list [.none])=some (.list U2)) (ix2:dIx (.list U2) (.int 0)=some P2) (np2:dNe P2 P2=some (.bool false))
  (d23:Qe [S,.int 23,.int 4]=some (.int q)) (ixo:dIx (.list [.int (-1),.int 100000,.none,.bool true]) (.int q)=some O) (gr:QW [m,k,.int rr,O]=some (.bool true)):
  amv.1 [some S,none,none,none,none,none,none,none,none,none,none,none,none,none,none]=some (.rt (.bool true)):=by
 have j2:inI (.int 2)=some 2:=rfl;have j3:inI (.int 3)=some 3:=rfl;have ng:aod (.int 1)=some (.int (-1)):=rfl;simp only[amv];refine(jq (ρ1:=[some S,some m,none,none,none,none,none,none,none,none,none,none,none,none,none]) ?_).trans ?_
 ·dsimp? [g0]
 refine(jq (ρ1:=[some S,some m,some k0,none,none,none,none,none,none,none,none,none,none,none,none]) ?_).trans ?_
 ·dsimp? [g1]
 refine(jq (ρ1:=[some S,some m,some k0,some (.int w),none,none,none,none,none,none,none,none,none,none,none]) ?_).trans ?_
 ·dsimp? [g2]
 refine(jq (ρ1:=[some S,some m,some k1,some (.int w),none,none,none,none,none,none,none,none,none,none,none]) ?_).trans ?_
 ·refine agb (c:=c0) ?_ (fun z=>?_) (fun z=>by rw[e0' z])
  ·dsimp? [q0]
  ·rw[←e0 z];rfl
 refine(jq (ρ1:=[some S,some m,some k2,some (.int w),none,none,none,none,none,none,none,none,none,none,none]) ?_).trans ?_
 ·refine agb (c:=c1) ?_ (fun z=>?_) (fun z=>by rw[e1' z])
  ·cases c1<;>dsimp? [q1,i2,lt]
  ·rw[e1 z]
   dsimp? [ZO,aac,j2,j3,s2,s3,i2,p1,p2,p3,fw1]
 refine(jq (ρ1:=[some S,some m,some k3,some (.int w),none,none,none,none,none,none,none,none,none,none,none]) ?_).trans ?_
 ·refine agb (c:=c2) ?_ (fun z=>?_) (fun z=>by rw[e2' z])
  ·dsimp? [q2]
  ·rw[e2 z]
   have gt:=gt z;dsimp? [gt]
 refine(jq (ρ1:=[some S,some m,some k,some (.int w),none,none,none,none,none,none,none,none,none,none,none]) ?_).trans ?_
 ·refine agb (c:=c3) ?_ (fun z=>?_) (fun z=>by rw[e3' z])
  ·dsimp? [q3]
  ·rw[e3 z]
   dsimp? [ZO,j3,s4,i3,p4,p5,p6,fw1]
 refine(jq (ρ1:=[some S,some m,some k,some (.int w),some D,none,none,none,none,none,none,none,none,none,none]) ?_).trans ?_
 ·dsimp? [gc]
 refine(jq (ρ1:=[some S,some m,some k,some (.int w),some D,some D',none,none,none,none,none,none,none,none,none]) ?_).trans ?_
 ·dsimp? [gc']
 refine(jq (ρ1:=[some S,some m,some k,some (.int w),some D,some D',some (.list U),none,none,none,none,none,none,none,none]) ?_).trans ?_
 ·refine aaM (i:=6) (d:= .list U) (Qy (ds:=K4) ?_ fk cp)
  have it:items (.list K4)=some K4:=rfl;dsimp? [itS,ld,ld',ad,so,it]
 refine(jq (ρ1:=[some S,some m,some k,some (.int w),some D,some D',some (.list U),none,none,none,none,none,none,none,none]) ?_).trans ?_
 ·refine aq2 (anb (JI (x:= .bool (B1&&B2)) (y:= .bool (B1&&B2)) (af0 rfl t0) ?_ (by rw[adX];simp)))
  have x1:op2 dEq (op2 dIx (lkp 1) (cst (.int 3))) (op2 dIx (lkp 2) (cst (.int 3))) [some S,some m,some k,some (.int w),some D,some D',some (.list U),none,none,none,none,none,none,none,none]=some (.bool B1):=JI (JI rfl rfl i3) (JI rfl rfl i3') qb;have x2:op2 dEq (lkp 6) (aaY jw) [some S,some m,some k,some (.int w),some D,some D',some (.list U),none,none,none,none,none,none,none,none]=some (.bool B2):=JI rfl rfl qu;unfold aeg;rw[x1,zzD];cases B1 with
  |true=>rw[show asB (.bool true)=some true from rfl,zzD,if_pos rfl,x2];rfl
  |false=>rfl
 refine(jq (ρ1:=[some S,some m,some k,some (.int w),some D,some D',some (.list U),some P,none,none,none,none,none,none,none]) ?_).trans ?_
 ·refine aaM (i:=7) (d:=P) ?_
  cases B1 with
  | true=>
   have nb:dNe (.int b) (.int b')=some (.bool false):=nb;have hP:=hP rfl;dsimp? [i3,i3',nb,au,hP]
  | false=>
   have nb:dNe (.int b) (.int b')=some (.bool true):=nb;have hP:=hP' rfl;subst hP;dsimp? [i3,i3',nb]
 refine(jq (ρ1:=[some S,some m,some k,some (.int w),some D,some D',some (.list U),some P,none,none,none,none,none,none,none]) ?_).trans ?_
 ·dsimp? [t1,np]
 refine(jq (ρ1:=[some S,some m,some k,some (.int w),some D,some D',some (.list U),some P,none,none,none,none,none,none,none]) ?_).trans ?_
 ·dsimp? [gs]
 refine(jq (ρ1:=[some S,some m,some k,some (.int w),some D,some D',some (.list U),some P,some (.int rr),none,none,none,none,none,none]) ?_).trans ?_
 ·dsimp? [r1,r2,l1,l2,mx,lt15,dio,a1,d21,a2]
 refine(jq (ρ1:=[some S,some m,some k,some (.int w),some D,some D',some (.list U),some P,some (.int rr),some (.int M),none,none,none,none,none]) ?_).trans ?_
 ·dsimp? [d22]
 refine(jq (ρ1:=[some S,some m,some k,some (.int w),some D,some D',some (.list U),some P,some (.int rr),some (.int M),some HD,none,none,none,none]) ?_).trans ?_
 ·dsimp? [h1]
 refine(jq (ρ1:=[some S,some m,some k,some (.int w),some D,some D',some (.list U),some P,some (.int rr),some (.int M),some HD,some HD',none,none,none]) ?_).trans ?_
 ·dsimp? [h2]
 refine(jq (ρ1:=[some S,some m,some k,some (.int w),some D,some D',some (.list U),some P,some (.int rr),some (.int M),some HD,some HD',some x12,none,none]) ?_).trans ?_
 ·refine af1 (ds:=[.int M,.int N2,.int N5]) ?_ lp
  dsimp? [itS,items,f2,f5,fw3]
 refine(jq (ρ1:=[some S,some m,some k,some (.int w),some D,some D',some (.list U),some P,some (.int rr),some (.int M),some HD,some HD',some x12,some (.list R1),none]) ?_).trans ?_
 ·refine aaM (i:=13) (d:= .list R1) (Qy (ds:=RR) ?_ fr cp1)
  dsimp? [am,rg]
 refine(jq (ρ1:=[some S,some m,some k,some (.int w),some D,some D',some (.list U),some P,some (.int rr),some (.int M),some HD,some HD',some x12,some (.list R2),none]) ?_).trans ?_
 ·refine aaM (i:=13) (d:= .list R2) (Qy (ds:=R1) ?_ fr1 cp2)
  have it:items (.list R1)=some R1:=rfl;dsimp? [itS,it]
 refine(jq (ρ1:=[some S,some m,some k,some (.int w),some D,some D',some (.list U),some P,some (.int rr),some (.int M),some HD,some HD',some x12,some (.list R2),none]) ?_).trans ?_
 ·dsimp? [t3,au2,ix2,np2]
 refine(jq (ρ1:=[some S,some m,some k,some (.int w),some D,some D',some (.list U),some P,some (.int rr),some (.int M),some HD,some HD',some x12,some (.list R2),some O]) ?_).trans ?_
 ·dsimp? [ng,fw4,d23,ixo]
 dsimp? [gr]
theorem anr{S m k D D' HD HD' X1 X2:PyData}{U P:OP}{w rr M n a b:Int}(t2:jT [.int 2,m,k,.int rr,.int n]=some (.bool (a != b)))(g1:JZ HD (.int n) (.tuple [.int 0])=some X1)(g2:JZ HD' (.int n) (.tuple [.int 0])=some X2)(i1:dIx X1 (.int 0)=some (.int a))(i2:dIx X2 (.int 0)=some (.int b)):
  ag4.1 [some S,some m,some k,some (.int w),some D,some D',U,P,some (.int rr),some (.int M),some HD,some HD',some (.int n),none,none]=some (.nx [some S,some m,some k,some (.int w),some D,some D',U,P,some (.int rr),some (.int M),some HD,some HD',some (.int n),none,none]):=by
 have ne:dNe (.int a) (.int b)=some (.bool (a != b)):=by
  rw[afY];by_cases h:a=b<;>simp[h]
 have nb:dNe (.bool (a != b)) (.bool (a != b))=some (.bool false):=by rw[adX];simp
 simp only[ag4];refine(jq (ρ1:=[some S,some m,some k,some (.int w),some D,some D',U,P,some (.int rr),some (.int M),some HD,some HD',some (.int n),none,none]) ?_).trans rfl;dsimp? [zk,t2,g1,g2,i1,i2,ne,nb]
theorem apn{S m k D D' HD HD':PyData}{U P:OP}{w rr M n1 n2 n3:Int}(h:∀n,n=n1∨n=n2∨n=n3->∃a b X1 X2,jT [.int 2,m,k,.int rr,.int n]=some (.bool (a != b))/\JZ HD (.int n) (.tuple [.int 0])=some X1/\JZ HD' (.int n) (.tuple [.int 0])=some X2/\dIx X1 (.int 0)=some (.int a)/\dIx X2 (.int 0)=some (.int b)):
  jC (jB 12) ag4.1 [.int n1,.int n2,.int n3] [some S,some m,some k,some (.int w),some D,some D',U,P,some (.int rr),some (.int M),some HD,some HD',none,none,none]=some (.nx [some S,some m,some k,some (.int w),some D,some D',U,P,some (.int rr),some (.int M),some HD,some HD',some (.int n3),none,none]):=by
 obtain⟨a,b,X1,X2,t,g1,g2,i1,i2⟩:=h n1 (.inl rfl);obtain⟨a',b',Y1,Y2,t',g1',g2',i1',i2'⟩:=h n2 (.inr (.inl rfl));obtain⟨a'',b'',Z1,Z2,t'',g1'',g2'',i1'',i2''⟩:=h n3 (.inr (.inr rfl));have s1:=anr (S:=S) (D:=D) (D':=D') (U:=U) (P:=P) (w:=w) (M:=M) t g1 g2 i1 i2;have s2:=anr (S:=S) (D:=D) (D':=D') (U:=U) (P:=P) (w:=w) (M:=M) t' g1' g2' i1' i2';have s3:=anr (S:=S) (D:=D) (D':=D') (U:=U) (P:=P) (w:=w) (M:=M) t'' g1'' g2'' i1'' i2'';rw[jC,show jB 12 (.int n1) [some S,some m,some k,some (.int w),some D,some D',U,P,some (.int rr),some (.int M),some HD,some HD',none,none,none]=some [some S,some m,some k,some (.int w),some D,some D',U,P,some (.int rr),some (.int M),some HD,some HD',some (.int n1),none,none] from rfl,zzD,s1,zzD];show jC _ _ _ _=_;rw[jC,show jB 12 (.int n2) [some S,some m,some k,some (.int w),some D,some D',U,P,some (.int rr),some (.int M),some HD,some HD',some (.int n1),none,none]=some [some S,some m,some k,some (.int w),some D,some D',U,P,some (.int rr),some (.int M),some HD,some HD',some (.int n2),none,none] from rfl,zzD,s2,zzD];show jC _ _ _ _=_;rw[jC,show jB 12 (.int n3) [some S,some m,some k,some (.int w),some D,some D',U,P,some (.int rr),some (.int M),some HD,some HD',some (.int n2),none,none]=some [some S,some m,some k,some (.int w),some D,some D',U,P,some (.int rr),some (.int M),some HD,some HD',some (.int n3),none,none] from rfl,zzD,s3,zzD];rfl
section
variable {u e l b u' e' l' b':Int}
theorem apS(h:okN u e l b=true){r:Nat}{kv:KV LS}{n:Int}(hf:jN kv n=(LB u e l b r n).map fun m=>(CN u e l b r n,m)):∃X,JZ (dV qq kv) (.int n) (.tuple [.int 0])=some X/\dIx X (.int 0)=some (.int (CN u e l b r n)):=by
 rw[af3,hf];cases hL:LB u e l b r n with
 |none=>exact⟨_,rfl,by rw[apj h hL];rfl⟩
 |some v=>exact⟨_,rfl,rfl⟩
theorem ans(h:okN u e l b=true)(h':okN u' e' l' b'=true)(ks:List Int):jU (jB 0) (tst (op2 dNe (zk (lkp 1) (lkp 0) (cst (.int 0))) (zk (lkp 2) (lkp 0) (cst (.int 0))))) (lkp 0) (ks.map PyData.int) [none,some (dV .int (jZ u e l)),some (dV .int (jZ u' e' l'))]=some ((ks.filter fun x=>!decide (cnt u e l x=cnt u' e' l' x)).map .int):=
 JU PyData.int (fun x=>!decide (cnt u e l x=cnt u' e' l' x)) PyData.int ks none (fun x _=>by
  have g1:=ad3 (jZ u e l) x 0;have g2:=ad3 (jZ u' e' l') x 0;rw [abH h] at g1;rw [abH h'] at g2;have ne:=afY (cnt u e l x) (cnt u' e' l' x);generalize dV PyData.int (jZ u e l)=A at*;generalize dV PyData.int (jZ u' e' l')=B at*;dsimp? [zk,g1,g2,ne]) (fun x _ _=>rfl)
theorem ant{α:Type}{f:α->PyData}{kv kv':KV α}(N:Nat):jU (jB 0) (Zw (tst (op2 (adm false) (lkp 0) (lkp 1))) (tst (op2 (adm false) (lkp 0) (lkp 2)))) (lkp 0) (zj 0 N) [none,some (dV f kv),some (dV f kv')]=some (((List.range N).filter fun (n:Nat)=>(jN kv n).isSome&&(jN kv' n).isSome).map fun (n:Nat)=> .int (n:Int)):=by
 rw[ahq];refine JU (fun (n:Nat)=>PyData.int (n:Int)) (ft:=Zw (tst (op2 (adm false) (lkp 0) (lkp 1))) (tst (op2 (adm false) (lkp 0) (lkp 2)))) (fe:=lkp 0) (τ:=[some (dV f kv),some (dV f kv')]) (fun n=>(jN kv n).isSome&&(jN kv' n).isSome) (fun (n:Nat)=>PyData.int (n:Int)) (List.range N) none (fun n _=>?_) (fun n _ _=>rfl);have g1:=apR (f:=f) (kv:=kv) (k:=(n:Int));have g2:=apR (f:=f) (kv:=kv') (k:=(n:Int));generalize dV f kv=A at*;generalize dV f kv'=B at*;cases h1:(jN kv n).isSome with
 |true=>rw[h1]at g1;dsimp? [g1,g2];rfl
 |false=>rw[h1]at g1;dsimp? [g1];rfl
theorem akO{kv kv':KV LS}(ns:List Nat)(hk:∀n∈ns,(jN kv n).isSome=true/\(jN kv' n).isSome=true):jU (jB 0) (tst (op2 (qR fun i j=>decide (i>j)) (op2 dIx (op2 QC (lkp 1) (lkp 0)) (cst (.int 1))) (op2 dIx (op2 QC (lkp 2) (lkp 0)) (cst (.int 1))))) (lkp 0) (ns.map fun (n:Nat)=>PyData.int (n:Int)) [none,some (dV qq kv),some (dV qq kv')]=some ((ns.filter fun (n:Nat)=>JD ((jN kv n).map (·.2)) ((jN kv' n).map (·.2))).map fun (n:Nat)=> .int (n:Int)):=by
 refine JU (fun (n:Nat)=>PyData.int (n:Int)) (ft:=tst (op2 (qR fun i j=>decide (i>j)) (op2 dIx (op2 QC (lkp 1) (lkp 0)) (cst (.int 1))) (op2 dIx (op2 QC (lkp 2) (lkp 0)) (cst (.int 1))))) (fe:=lkp 0) (τ:=[some (dV qq kv),some (dV qq kv')]) (fun n=>JD ((jN kv n).map (·.2)) ((jN kv' n).map (·.2))) (fun (n:Nat)=>PyData.int (n:Int)) ns none (fun n hn=>?_) (fun n _ _=>rfl);obtain⟨k1,k2⟩:=hk n hn;obtain⟨⟨c,v⟩,f1⟩:=Option.isSome_iff_exists.mp k1;obtain⟨⟨c',v'⟩,f2⟩:=Option.isSome_iff_exists.mp k2;have g1:=afZ (f:=qq) f1;have g2:=afZ (f:=qq) f2;have i1:dIx (qq (c,v)) (.int 1)=some (.int v):=rfl;have i2:dIx (qq (c',v')) (.int 1)=some (.int v'):=rfl;rw[f1,f2];generalize dV qq kv=A at*;generalize dV qq kv'=B at*;have gt:qR (fun i j=>decide (i>j)) (.int v) (.int v')=some (.bool (decide (v>v'))):=rfl;dsimp? [g1,g2,i1,i2,gt];rfl
theorem apo{N:Nat}{p:Nat->Bool}(hl:N<=999):dIx (.list ((((List.range N).filter p).map fun (n:Nat)=>PyData.int (n:Int))++[.none])) (.int 0)=some (ofO (((List.range N).find? p).map fun (n:Nat)=>(n:Int))):=by
 have hh:((List.range N).filter p).head?=(List.range N).find? p:=List.head?_filter ..;have hle:=List.length_filter_le p (List.range N);rw[List.length_range]at hle;rw[←hh];cases hf:(List.range N).filter p with
 |nil=>rfl
 | cons x xs=>
  rw[hf,List.length_cons]at hle;exact apQ (PyData.int (x:Int)) ((xs.map fun (n:Nat)=>PyData.int (n:Int))++[.none]) (by rw[List.length_append,List.length_map];simp;omega)
theorem ahH{N:Nat}{kv kv':KV LS}{u e l b u' e' l' b':Int}{r:Nat}(hN:N<=1000)(s:∀x,x<=999->jN kv x=(LB u e l b r x).map fun m=>(CN u e l b r x,m))(s':∀x,x<=999->jN kv' x=(LB u' e' l' b' r x).map fun m=>(CN u' e' l' b' r x,m)):
  ((List.range N).filter fun (n:Nat)=>(jN kv n).isSome&&(jN kv' n).isSome).filter (fun (n:Nat)=>JD ((jN kv n).map (·.2)) ((jN kv' n).map (·.2)))=(List.range N).filter fun (n:Nat)=>Q3 u e l b u' e' l' b' r n:=by
 rw[List.filter_filter];apply List.filter_congr;intro n hn;have hn:=List.mem_range.mp hn;rw[s n (by omega),s' n (by omega)];unfold Q3;cases LB u e l b r n with
 |none=>rfl
 | some v=>
  cases LB u' e' l' b' r n with
  |none=>rfl
  |some v'=>show(JD (some v) (some v')&&true)=_;rw[Bool.and_true]
theorem anu(h:okN u e l b=true):okN u e l (if b-1>2 then b-1 else 2)=true:=by
 simp only[okN,Bool.and_eq_true,decide_eq_true_eq]at h ⊢;obtain⟨⟨⟨⟨⟨⟨⟨⟨⟨h1,h2⟩,h3⟩,h4⟩,h5⟩,h6⟩,h7⟩,h8⟩,h9⟩,h10⟩:=h;have hp:0<=u*e:=Int.mul_nonneg h1 (by omega);refine⟨⟨⟨⟨⟨⟨⟨⟨⟨h1,h2⟩,h3⟩,h4⟩,h5⟩,h6⟩,h7⟩,?_⟩,?_⟩,?_⟩<;>split<;>omega
theorem anv{ns:List Int}(hn:ns.length<1000000)(o:okM u e l b=true)(o':okN u' e' l' b'=true){w:Int}(w0:0<=w)(w5:w<5):∃a c d f T k1 k2 k3,okN a c d f=true/\
  (decide (w=0)=true->jk u e l b=k1)/\(decide (w=0)=false->k1=jk u' e' l' b')/\
  (decide (w=1)=true->k2=jk u e (l+1) b)/\(decide (w=1)=false->k2=k1)/\
  (decide (w=2)=true->ag0 [scr ns,jk u e l b]=some T)/\(decide (w=2)=true->k3=T)/\(decide (w=2)=false->k3=k2)/\
  (decide (w=3)=true->jk a c d f=jk u e l (if b-1>2 then b-1 else 2))/\(decide (w=3)=false->jk a c d f=k3):=by
 have hc:w=0∨w=1∨w=2∨w=3∨w=4:=by omega
 have h:=acS o;rcases hc with rfl|rfl|rfl|rfl|rfl
 ·exact⟨u,e,l,b,.none,_,_,_,h,fun _=>rfl,fun z=>absurd z (by decide),fun z=>absurd z (by decide),fun _=>rfl,fun z=>absurd z (by decide),fun z=>absurd z (by decide),fun _=>rfl,fun z=>absurd z (by decide),fun _=>rfl⟩
 ·exact⟨u,e,l+1,b,.none,_,_,_,am1 o,fun z=>absurd z (by decide),fun _=>rfl,fun _=>rfl,fun z=>absurd z (by decide),fun z=>absurd z (by decide),fun z=>absurd z (by decide),fun _=>rfl,fun z=>absurd z (by decide),fun _=>rfl⟩
 ·obtain⟨d,dr,d0,d1⟩:=za ns hn 30 16 (by omega) (by omega)
  obtain⟨a,c,f,t1,t2⟩:=ao7 o d0 d1;have gt:=am0 (u:=u) (e:=e) (l:=l) (b:=b) dr;rw[t1]at gt;exact⟨a,c,f,b,_,_,_,_,t2,fun z=>absurd z (by decide),fun _=>rfl,fun z=>absurd z (by decide),fun _=>rfl,fun _=>gt,fun _=>rfl,fun z=>absurd z (by decide),fun z=>absurd z (by decide),fun _=>rfl⟩
 ·exact⟨u,e,l,_,.none,_,_,_,anu h,fun z=>absurd z (by decide),fun _=>rfl,fun z=>absurd z (by decide),fun _=>rfl,fun z=>absurd z (by decide),fun z=>absurd z (by decide),fun _=>rfl,fun _=>rfl,fun z=>absurd z (by decide)⟩
 ·exact⟨u',e',l',b',.none,_,_,_,o',fun z=>absurd z (by decide),fun _=>rfl,fun z=>absurd z (by decide),fun _=>rfl,fun z=>absurd z (by decide),fun z=>absurd z (by decide),fun _=>rfl,fun z=>absurd z (by decide),fun _=>rfl⟩
theorem as9(n1 n2:Int):∃W B3 mxx,aa1 [.int n1,.int n2]=some (.int mxx)/\qR (fun i j=>decide (i<j)) (.int mxx) (.int 15)=some (.bool B3)/\afA [.bool B3]=some (.int W)/\(W=0∨W=1):=by
 have key:∀c:Bool,(if c=true then (1:Int) else 0)=0∨(if c=true then (1:Int) else 0)=1:=fun c=>by cases c<;>simp
 exact⟨_,_,_,rfl,rfl,rfl,key _⟩
theorem arb(H:zh=true)(h:okN u e l b=true)(h':okN u' e' l' b'=true):∃P,jT [.int 1,jk u e l b,jk u' e' l' b',.int 1,.int 0]=some P/\dNe P P=some (.bool false)/\(decide (b=b')=true->dIx (.list ((unl u e l u' e' l').map .int++[.none])) (.int 0)=some P)/\(decide (b=b')=false->P= .tuple [.str "refused",.int 2]):=by
 by_cases hb:b=b'
 ·subst hb
  refine⟨_,asb (aiv H h h'),by rw[amZ];simp,fun _=>apm H h h',fun z=>by simp at z⟩
 ·obtain⟨m1,m2⟩:=ajw H h
  obtain⟨k1,k2⟩:=ajw H h';obtain⟨p1,p2⟩:=akK (Q5 H h h') (ang (k:=jk u' e' l' b') m1 m2 k2) (ix3 u e l b) (ix3 u' e' l' b') (by rw[afY,decide_eq_false hb];rfl);exact⟨_,aix p1 p2 zx zw,by kernel_rfl,fun z=>absurd (of_decide_eq_true z) hb,fun _=>rfl⟩
theorem akP(H:zh=true)(ns:List Int)(hn:ns.length<1000000):aoK [scr ns]=some (.bool true):=by
 obtain⟨u,e,l,b,g0,om⟩:=adM ns hn 0 (by omega);obtain⟨u0,e0,l0,b0,g1,om0⟩:=adM ns hn 10 (by omega);obtain⟨w,g2,w0,w5⟩:=za ns hn 20 5 (by omega) (by omega);have h:=acS om;obtain⟨u',e',l',b',T,k1,k2,k3,h',x1,x2,x3,x4,x5,x6,x7,x8,x9⟩:=anv hn om (acS om0) w0 w5;obtain⟨a1,a2,a3,a4,a5,a6,a7,a8,a9,a10⟩:=jQ h;obtain⟨c1,c2,c3,c4,c5,c6,c7,c8,c9,c10⟩:=jQ h';have lr:=aaz (e:=e) (b:=b) a1 (show u<50 by omega) (show 0<=l by omega) (show l<50 by omega);have lr':=aaz (e:=e') (b:=b') c1 (show u' < 50 by omega) (show 0<=l' by omega) (show l' < 50 by omega);have k27:=ac0 H h;have k27':=ac0 H h';obtain⟨P,t1,np,hP,hP'⟩:=arb H h h';obtain⟨n1,l1⟩:∃n1,afi [.list (jF u l)]=some (.int n1):=⟨_,rfl⟩;obtain⟨n2,l2⟩:∃n2,afi [.list (jF u' l')]=some (.int n2):=⟨_,rfl⟩;obtain⟨W,B3,mxx,mx,lt15,dio,hll⟩:=as9 n1 n2;obtain⟨rd,d21,r0,r1⟩:=za ns hn 21 (1+W) (by omega) (by omega);obtain⟨M,d22,M0,M1⟩:=za ns hn 22 60 (by omega) (by omega);obtain⟨q,d23,q0,q1⟩:=za ns hn 23 4 (by omega) (by omega);obtain⟨O,ixo,o1,o2,o3⟩:=ara q q0 q1;obtain⟨r,hr⟩:∃r:Nat,1+rd=(r:Int):=⟨(1+rd).toNat,by omega⟩;obtain⟨Mn,hM⟩:∃n:Nat,M=(n:Int):=⟨M.toNat,by omega⟩;subst hM;have r1':1<=r:=by omega
 have r2':r<=2:=by omega
 obtain⟨kv,lh,sp⟩:=ahE h r2';obtain⟨kv',lh',sp'⟩:=ahE h' r2'
 have parts:∀n:Int,0<=n->n<=60->∃x y X1 X2,jT [.int 2,jk u e l b,jk u' e' l' b',.int (r:Int),.int n]=some (.bool (x != y))/\JZ (dV qq kv) (.int n) (.tuple [.int 0])=some X1/\JZ (dV qq kv') (.int n) (.tuple [.int 0])=some X2/\dIx X1 (.int 0)=some (.int x)/\dIx X2 (.int 0)=some (.int y):=fun n n0 n1=>by
  have t:=asc (amY H h h' r1' (show r<=3 by omega) n0 (by omega));obtain⟨X1,y1,y2⟩:=apS h (sp n (by omega));obtain⟨X2,y3,y4⟩:=apS h' (sp' n (by omega));exact⟨_,_,X1,X2,t,y1,y3,y2,y4⟩
 have N2:(0:Int)<=(Mn:Int) / 2/\(Mn:Int) / 2<=60:=by omega
 have N5:(0:Int)<=(Mn:Int) / 5/\(Mn:Int) / 5<=60:=by omega
 have lp:=apn (S:=scr ns) (D:=dV .int (jZ u e l)) (D':=dV .int (jZ u' e' l')) (U:=some (.list ((unl u e l u' e' l').map .int))) (P:=some P) (w:=w) (M:=(Mn:Int)) (n1:=(Mn:Int)) (n2:=(Mn:Int) / 2) (n3:=(Mn:Int) / 5) fun n hn=>by
  have hn':0<=n/\n<=60:=by
   rcases hn with z | z | z
   ·rw[z];omega
   ·rw[z];exact N2
   ·rw[z];exact N5
  exact parts n hn'.1 hn'.2
 have hc1:=ant (f:=qq) (kv:=kv) (kv':=kv') (Mn+1)
 have hc2:=akO (kv:=kv) (kv':=kv') ((List.range (Mn+1)).filter fun (n:Nat)=>(jN kv n).isSome&&(jN kv' n).isSome) fun n hn=>by
  have:=(List.mem_filter.mp hn).2;simpa using this
 rw[ahH (by omega) sp sp']at hc2;have du:=apo (N:=Mn+1) (p:=fun (n:Nat)=>Q3 u e l b u' e' l' b' r n) (by omega);have tt:=apM (adS H h h' r1' (show r<=3 by omega) (M:=Mn) (by omega));have gr:=aga H h h' r1' r2' o1 o2 o3
 have fl:((List.range (Mn+1)).filter fun (n:Nat)=>(jN kv n).isSome&&(jN kv' n).isSome).length<=Mn+1:=by
  have:=List.length_filter_le (fun (n:Nat)=>(jN kv n).isSome&&(jN kv' n).isSome) (List.range (Mn+1));rw[List.length_range]at this;exact this
 have fl2:((List.range (Mn+1)).filter fun (n:Nat)=>Q3 u e l b u' e' l' b' r n).length<=Mn+1:=by
  have:=List.length_filter_le (fun (n:Nat)=>Q3 u e l b u' e' l' b' r n) (List.range (Mn+1));rw[List.length_range]at this;exact this
 have alk:=asa (r:= .int 1) (n:= .int 0) (amX H h h');rw[apl H h h']at alk
 have uLen:(unl u e l u' e' l').length<=54:=by
  unfold unl;have:=List.length_filter_le (fun x=>!decide (cnt u e l x=cnt u' e' l' x)) (Jy ((jZ u e l).map (·.1)++(jZ u' e' l').map (·.1)));rw[(zQ _).length_eq,List.length_append]at this;omega
 have sl:(Jy ((jZ u e l).map (·.1)++(jZ u' e' l').map (·.1))).length<=54:=by
  rw[(zQ _).length_eq,List.length_append];omega
 have so:afw [.list (((jZ u e l).map (·.1)++(jZ u' e' l').map (·.1)).map PyData.int)]=some (.list ((Jy ((jZ u e l).map (·.1)++(jZ u' e' l').map (·.1))).map .int)):=by
  show(j5 _).bind _=_;rw[zR,zzD,if_pos (by rw[List.length_append];omega)]
 have ad:qD (.list (((jZ u e l).map (·.1)).map PyData.int)) (.list (((jZ u' e' l').map (·.1)).map PyData.int))=some (.list (((jZ u e l).map (·.1)++(jZ u' e' l').map (·.1)).map PyData.int)):=by
  rw[List.map_append]
  exact acX (by
   have z1:=k27;have z2:=k27';rw [List.length_map] at z1 z2;rw [List.length_map,List.length_map,List.length_map,List.length_map]; omega)
 have rg:Zx [.int ((Mn:Int)+1)]=some (zj 0 (Mn+1)):=afV (n:=Mn+1) (by omega);refine jP rfl ?_;show amv.1 [some (scr ns),none,none,none,none,none,none,none,none,none,none,none,none,none,none]=_;have au2:=acX (xs:=((List.range (Mn+1)).filter fun (n:Nat)=>Q3 u e l b u' e' l' b' r n).map fun (n:Nat)=>PyData.int (n:Int)) (ys:=[.none]) (by rw[List.length_map];simp;omega);have au:=acX (xs:=(unl u e l u' e' l').map PyData.int) (ys:=[.none]) (by rw[List.length_map];simp;omega);have qu:dEq (.list ((unl u e l u' e' l').map .int)) (.list [])=some (.bool (decide (unl u e l u' e' l'=[]))):=ag9 _ [];have cpU:=ans h h' (Jy ((jZ u e l).map (·.1)++(jZ u' e' l').map (·.1)));have fk:few ((Jy ((jZ u e l).map (·.1)++(jZ u' e' l').map (·.1))).map PyData.int)=true:=zf (by rw[List.length_map];omega);have fR:few (zj 0 (Mn+1))=true:=zf (by rw[abD];omega);have fR1:few (((List.range (Mn+1)).filter fun (n:Nat)=>(jN kv n).isSome&&(jN kv' n).isSome).map fun (n:Nat)=>PyData.int (n:Int))=true:=zf (by rw[List.length_map];omega)
 have lt:qR (fun i j=>decide (i<j)) (.int l) (.int 12)=some (.bool true):=by
  show some (PyData.bool (decide (l<12)))=_;rw[decide_eq_true (by omega)]
 have p2:qD (.tuple [.int u,.int e]) (.tuple [.int (l+1)])=some (.tuple [.int u,.int e,.int (l+1)]):=acW (.inr trivial) (by simp);have p3:qD (.tuple [.int u,.int e,.int (l+1)]) (.tuple [.int b])=some (jk u e (l+1) b):=acW (.inr trivial) (by simp);have p6:qD (.tuple [.int u,.int e,.int l]) (.tuple [.int (if b-1>2 then b-1 else 2)])=some (jk u e l (if b-1>2 then b-1 else 2)):=acW (.inr trivial) (by simp);have p4:QJ (.int b) (.int 1)=some (.int (b-1)):=rfl;have p5:aa1 [.int 2,.int (b-1)]=some (.int (if b-1>2 then b-1 else 2)):=rfl;have a1':qD (.int 1) (.int W)=some (.int (1+W)):=rfl;have a2':qD (.int 1) (.int rd)=some (.int (r:Int)):=by rw[←hr];rfl
 have am:qD (.int (Mn:Int)) (.int 1)=some (.int ((Mn:Int)+1)):=rfl;have np2:dNe (ofO (ahj u e l b u' e' l' b' r Mn)) (ofO (ahj u e l b u' e' l' b' r Mn))=some (.bool false):=by rw[aqY];simp
 have f2:aa0 (.int (Mn:Int)) (.int 2)=some (.int ((Mn:Int) / 2)):=Qh (by omega) (by omega);have f5:aa0 (.int (Mn:Int)) (.int 5)=some (.int ((Mn:Int) / 5)):=Qh (by omega) (by omega);have i2:=ix2 u e l b;have i3:=ix3 u e l b;have i3':=ix3 u' e' l' b';have sT:=as3 u e l b;have sF:=aqZ u e l b;have s4:=aq9 (u:=u) (e:=e) (l:=l) (b:=b);have gc:=Z3 h;have gc':=Z3 h';have ld:=ahF PyData.int (jZ u e l);have ld':=ahF PyData.int (jZ u' e' l');have gs:=af8 H h;have du:dIx (.list ((((List.range (Mn+1)).filter fun (n:Nat)=>Q3 u e l b u' e' l' b' r n).map fun (n:Nat)=>PyData.int (n:Int))++[.none])) (.int 0)=some (ofO (ahj u e l b u' e' l' b' r Mn)):=du;have cpU:jU (jB 0) (tst (op2 dNe (zk (lkp 1) (lkp 0) (cst (.int 0))) (zk (lkp 2) (lkp 0) (cst (.int 0))))) (lkp 0) ((Jy ((jZ u e l).map (·.1)++(jZ u' e' l').map (·.1))).map PyData.int) [none,some (dV .int (jZ u e l)),some (dV .int (jZ u' e' l'))]=some ((unl u e l u' e' l').map .int):=cpU;generalize ((List.range (Mn+1)).filter fun (n:Nat)=>Q3 u e l b u' e' l' b' r n).map (fun (n:Nat)=>PyData.int (n:Int))=R2 at*;generalize ((List.range (Mn+1)).filter fun (n:Nat)=>(jN kv n).isSome&&(jN kv' n).isSome).map (fun (n:Nat)=>PyData.int (n:Int))=R1 at*;generalize zj 0 (Mn+1)=RR at*;generalize ofO (ahj u e l b u' e' l' b' r Mn)=P2 at*;generalize decide (unl u e l u' e' l'=[])=B2 at*;generalize (unl u e l u' e' l').map PyData.int=UU at*;generalize (Jy ((jZ u e l).map (·.1)++(jZ u' e' l').map (·.1))).map PyData.int=K4 at*;generalize ((jZ u e l).map (·.1)++(jZ u' e' l').map (·.1)).map PyData.int=K3 at*;generalize ((jZ u e l).map (·.1)).map PyData.int=K1 at*;generalize ((jZ u' e' l').map (·.1)).map PyData.int=K2 at*;generalize dV PyData.int (jZ u e l)=D at*;generalize dV PyData.int (jZ u' e' l')=D' at*;generalize dV qq kv=HD at*;generalize dV qq kv'=HD' at*;have eqb:=qk b b';have neb:=afY b b';have w0':=qk w 0;have w1':=qk w 1;have w2':=qk w 2;have w3':=qk w 3;generalize decide (b=b')=B1 at*;have p1:=add_int l 1;generalize jk u e (l+1) b=V2 at*;generalize jk u e l (if b-1>2 then b-1 else 2)=V4 at*
 generalize jk u e l b=m at*;generalize jk u' e' l' b'=k at*;generalize jk u0 e0 l0 b0=k0 at*;generalize scr ns=S at*;generalize (r:Int)=rr at*
 exact anq g0 g1 g2 w0' x1 x2 w1' i2 lt sT p1 p2 sF p3 x3 x4 w2' x5 x6 x7 w3' i3 p4 p5 s4 p6 x8 x9
  gc gc' ld ld' ad so fk cpU alk i3' eqb qu neb au hP hP' t1 np gs
  lr lr' l1 l2 mx lt15 dio a1' d21 a2' d22 lh lh' f2 f5 lp am rg fR hc1 fR1 hc2 tt au2 du np2 d23 ixo gr
end
end Rods
end
section
namespace BX
open PySem L2
open PyProof.Rows hiding St
theorem jW.thr{P:Program}{w:World}{K:Fg}{mg:SV}{base h:Heap}{x:Str}{st:Stmt}{ps:List Str}{k n:Nat}{g:LP->Option Str}(T:jW K x st)(X:K.In h)(G:h.Ns mainGlobals mg)
  (pa:ju x st ps) (ok:∀f fd,Fun K x x st f fd->FnOk P w K mg base (CXt P w) k f fd ps (aj7 K mg n g)):zB P w K mg base x ps k n g:=by
 obtain⟨f,oc,od,an,kV,doc,pm,Kc,ct,osl,a,l,c,kp⟩:=T;have F1:=afb (st:=st) l c kp;exact⟨f,_,ok f _ F1,PySem.W.mg_of X G a,kp,F1.binds pa⟩
theorem jW.hdl{P:Program}{w:World}{K:Fg}{mg:SV}{base h:Heap}{x:Str}{st:Stmt}{ps:List Str}{k n:Nat}{g:LP->OP}(T:jW K x st)(X:K.In h)(G:h.Ns mainGlobals mg)
  (pa:ju x st ps) (ok:∀f fd,Fun K x x st f fd->FnH P w K mg base k f fd ps (Pur K n g)):acB P w K mg base x ps k n g:=by
 obtain⟨f,oc,od,an,kV,doc,pm,Kc,ct,osl,a,l,c,kp⟩:=T;have F1:=afb (st:=st) l c kp;exact⟨f,_,ok f _ F1,PySem.W.mg_of X G a,kp,F1.binds pa⟩
end BX
namespace Rods
open PySem L2 BX
open PyProof.Rows hiding St
structure Tops(K:Fg):Prop where
 isWhole:jW K "is_whole" abj
 rodWorth:jW K "rod_worth" aaf
 beads:jW K "beads" afC
 allRods:jW K "all_rods" abk
 hasAll:jW K "has_all_digits" aag
 isManner:jW K "is_manner" aah
 check:jW K "check_manner" adx
 most:jW K "most_on_rod" agS
 counts:jW K "counts" abm
 chkRods:jW K "check_rods" J9
 chkNum:jW K "check_number" Jd
 asked:jW K "check_asked" Jz
 num:jW K "number_on" JP
 full:jW K "full_rods" aaj
 last:jW K "last_rods" JQ
 both:jW K "check_both" Qa
 alike:jW K "are_alike" adz
 one:jW K "one_rod_more" JA
 upTo:jW K "least_up_to" aeO
 thrift:jW K "thriftier" Zj
 cell:jW K "_law_cell" ai9
 drawn:jW K "_law_drawn" afJ
 manner:jW K "_law_manner" acE
 longer:jW K "longer_ways" Qr
 how:jW K "how_many" Qb
 single:jW K "is_single" abp
 parting:jW K "parting" Qc
 parts:jW K "parts" adD
 turned:jW K "_law_turned" acF
 LValue:jW K "_law_value" aaq
 LRods:jW K "_law_rods" aaP
 LAll:jW K "_law_all" abw
 LRefused:jW K "_law_refused" JR
 LTold:jW K "_law_told" ab3
 LCounts:jW K "_law_counts" QU
 LLeast:jW K "_law_least" Qu
 LRefuses:jW K "_law_refuses" JT
 LSingles:jW K "_law_singles" Jo
 law:jW K "law" afS
structure Consts(K:Fg)(mg:SV):Prop where
 b:Bare mg
 least:GC K mg "LEAST_PARTS" (.tuple [.int 0,.int 1,.int 0,.int 2])
 most:GC K mg "MOST_PARTS" (.tuple [.int 3,.int 16,.int 12,.int 16])
 mostRods:GC K mg "MOST_RODS" (.int 4)
 mostNumber:GC K mg "MOST_NUMBER" (.int 99999)
 mostAsked:GC K mg "MOST_ASKED" (.int 999)
 errT:ErrT K mg "BeadError" zI
theorem aiz:ju "is_whole" abj ["thing","least","most"]:=fun _ _ _ _ _ _ us hl=>by obtain⟨v0,v1,v2,rfl⟩:=ad8 us hl;rfl
theorem ahI:ju "rod_worth" aaf ["manner","rod"]:=fun _ _ _ _ _ _ us hl=>by obtain⟨v0,v1,rfl⟩:=acm us hl;rfl
theorem anw:ju "beads" afC ["rod"]:=fun _ _ _ _ _ _ us hl=>by obtain⟨v0,rfl⟩:=aaF us hl;rfl
theorem aiA:ju "all_rods" abk ["manner"]:=fun _ _ _ _ _ _ us hl=>by obtain⟨v0,rfl⟩:=aaF us hl;rfl
theorem akQ:ju "has_all_digits" aag ["manner"]:=fun _ _ _ _ _ _ us hl=>by obtain⟨v0,rfl⟩:=aaF us hl;rfl
theorem ahJ:ju "is_manner" aah ["thing"]:=fun _ _ _ _ _ _ us hl=>by obtain⟨v0,rfl⟩:=aaF us hl;rfl
theorem ahK:ju "check_manner" adx ["thing"]:=fun _ _ _ _ _ _ us hl=>by obtain⟨v0,rfl⟩:=aaF us hl;rfl
theorem app:ju "most_on_rod" agS ["manner"]:=fun _ _ _ _ _ _ us hl=>by obtain⟨v0,rfl⟩:=aaF us hl;rfl
theorem aeY:ju "counts" abm ["manner"]:=fun _ _ _ _ _ _ us hl=>by obtain⟨v0,rfl⟩:=aaF us hl;rfl
theorem ad6:ju "check_rods" J9 ["rods"]:=fun _ _ _ _ _ _ us hl=>by obtain⟨v0,rfl⟩:=aaF us hl;rfl
theorem aeZ:ju "check_number" Jd ["number"]:=fun _ _ _ _ _ _ us hl=>by obtain⟨v0,rfl⟩:=aaF us hl;rfl
theorem ahL:ju "check_asked" Jz ["manner","rods","number"]:=fun _ _ _ _ _ _ us hl=>by obtain⟨v0,v1,v2,rfl⟩:=ad8 us hl;rfl
theorem arc:ju "number_on" JP ["manner","setting"]:=fun _ _ _ _ _ _ us hl=>by obtain⟨v0,v1,rfl⟩:=acm us hl;rfl
theorem apq:ju "full_rods" aaj ["manner","rods"]:=fun _ _ _ _ _ _ us hl=>by obtain⟨v0,v1,rfl⟩:=acm us hl;rfl
theorem apr:ju "last_rods" JQ ["manner","ahead","number"]:=fun _ _ _ _ _ _ us hl=>by obtain⟨v0,v1,v2,rfl⟩:=ad8 us hl;rfl
theorem ajD:ju "check_both" Qa ["one","other"]:=fun _ _ _ _ _ _ us hl=>by obtain⟨v0,v1,rfl⟩:=acm us hl;rfl
theorem ahM:ju "are_alike" adz ["one","other"]:=fun _ _ _ _ _ _ us hl=>by obtain⟨v0,v1,rfl⟩:=acm us hl;rfl
theorem ard:ju "one_rod_more" JA ["manner","fewest","most"]:=fun _ _ _ _ _ _ us hl=>by obtain⟨v0,v1,v2,rfl⟩:=ad8 us hl;rfl
theorem aps:ju "least_up_to" aeO ["manner","rods","most"]:=fun _ _ _ _ _ _ us hl=>by obtain⟨v0,v1,v2,rfl⟩:=ad8 us hl;rfl
theorem ae0:ju "thriftier" Zj ["one","other","rods","most"]:=fun _ _ _ _ _ _ us hl=>by obtain⟨v0,v1,v2,v3,rfl⟩:=anM us hl;rfl
theorem apt:ju "_law_cell" ai9 ["_law_script","_law_k"]:=fun _ _ _ _ _ _ us hl=>by obtain⟨v0,v1,rfl⟩:=acm us hl;rfl
theorem anx:ju "_law_drawn" afJ ["_law_script","_law_k","_law_many"]:=fun _ _ _ _ _ _ us hl=>by obtain⟨v0,v1,v2,rfl⟩:=ad8 us hl;rfl
theorem akR:ju "_law_manner" acE ["_law_script","_law_at"]:=fun _ _ _ _ _ _ us hl=>by obtain⟨v0,v1,rfl⟩:=acm us hl;rfl
theorem akS:ju "longer_ways" Qr ["manner","ahead","ways"]:=fun _ _ _ _ _ _ us hl=>by obtain⟨v0,v1,v2,rfl⟩:=ad8 us hl;rfl
theorem anz:ju "how_many" Qb ["manner","rods","number"]:=fun _ _ _ _ _ _ us hl=>by obtain⟨v0,v1,v2,rfl⟩:=ad8 us hl;rfl
theorem ae1:ju "is_single" abp ["manner"]:=fun _ _ _ _ _ _ us hl=>by obtain⟨v0,rfl⟩:=aaF us hl;rfl
theorem ad7:ju "parting" Qc ["one","other"]:=fun _ _ _ _ _ _ us hl=>by obtain⟨v0,v1,rfl⟩:=acm us hl;rfl
theorem ahN:ju "parts" adD ["one","other","rods","number"]:=fun _ _ _ _ _ _ us hl=>by obtain⟨v0,v1,v2,v3,rfl⟩:=anM us hl;rfl
theorem akT:ju "_law_turned" acF ["_law_script","_law_manner_here"]:=fun _ _ _ _ _ _ us hl=>by obtain⟨v0,v1,rfl⟩:=acm us hl;rfl
theorem akU:ju "_law_value" aaq ["_law_manner_here","_law_setting_here"]:=fun _ _ _ _ _ _ us hl=>by obtain⟨v0,v1,rfl⟩:=acm us hl;rfl
theorem anA:ju "_law_rods" aaP ["_law_manner_here"]:=fun _ _ _ _ _ _ us hl=>by obtain⟨v0,rfl⟩:=aaF us hl;rfl
theorem apu:ju "_law_all" abw ["_law_manner_here","_law_rods_here"]:=fun _ _ _ _ _ _ us hl=>by obtain⟨v0,v1,rfl⟩:=acm us hl;rfl
theorem ahO:ju "_law_refused" JR ["_law_e"]:=fun _ _ _ _ _ _ us hl=>by obtain⟨v0,rfl⟩:=aaF us hl;rfl
theorem anB:ju "_law_told" ab3 ["_law_way","_law_one","_law_other","_law_rods_here","_law_number"]:=fun _ _ _ _ _ _ us hl=>by obtain⟨v0,v1,v2,v3,v4,rfl⟩:=asG us hl;rfl
theorem aiB:ju "_law_counts" QU ["_law_manner_here"]:=fun _ _ _ _ _ _ us hl=>by obtain⟨v0,rfl⟩:=aaF us hl;rfl
theorem akV:ju "_law_least" Qu ["_law_manner_here","_law_rods_here","_law_most"]:=fun _ _ _ _ _ _ us hl=>by obtain⟨v0,v1,v2,rfl⟩:=ad8 us hl;rfl
theorem ahP:ju "_law_refuses" JT ["_law_one","_law_other","_law_rods_here","_law_odd"]:=fun _ _ _ _ _ _ us hl=>by obtain⟨v0,v1,v2,v3,rfl⟩:=anM us hl;rfl
theorem ahQ:ju "_law_singles" Jo ["_law_one"]:=fun _ _ _ _ _ _ us hl=>by obtain⟨v0,rfl⟩:=aaF us hl;rfl
theorem ata(HT:zh=true){P:Program}{w:World}{K:Fg}{h:Heap}{mg:SV}{base:Heap}(X:K.In h)(G:h.Ns mainGlobals mg)(T:Tops K)(C:Consts K mg):CLaw P w K mg base:=by
 have c_isWhole:jl P w K mg base "is_whole" ["thing","least","most"] 1 3 j0:=T.isWhole.callee X G aiz fun f fd F=>jL F aik fun Kc A Ko s H E hr=>abl.2 P w K mg base f Kc A Ko s H E C.b hr;have c_rodWorth:jl P w K mg base "rod_worth" ["manner","rod"] 1 2 qe:=T.rodWorth.callee X G ahI fun f fd F=>jL F agP fun Kc A Ko s H E hr=>abT.2 P w K mg base f Kc A Ko s H E trivial hr;have c_beads:jl P w K mg base "beads" ["rod"] 1 1 abU:=T.beads.callee X G anw fun f fd F=>jL F amf fun Kc A Ko s H E hr=>ail.2 P w K mg base f Kc A Ko s H E trivial hr;have c_allRods:jl P w K mg base "all_rods" ["manner"] 1 1 qX:=T.allRods.callee X G aiA fun f fd F=>aim F C.b;have c_hasAll:jl P w K mg base "has_all_digits" ["manner"] 2 1 abn:=T.hasAll.callee X G akQ fun f fd F=>jL F aeK fun Kc A Ko s H E hr=>afE.2 P w K mg base f Kc A Ko s H E ⟨C.b,c_allRods,c_rodWorth⟩ hr;have c_isManner:jl P w K mg base "is_manner" ["thing"] 3 1 qO:=T.isManner.callee X G ahJ fun f fd F=>jL F Qp fun Kc A Ko s H E hr=>QN.2 P w K mg base f Kc A Ko s H E ⟨C.b,C.least,C.most,c_isWhole,c_hasAll⟩ hr;have c_check:jl P w K mg base "check_manner" ["thing"] 4 1 qP:=T.check.callee X G ahK fun f fd F=>jL F agT fun Kc A Ko s H E hr=>afF.2 P w K mg base f Kc A Ko s H E ⟨c_isManner⟩ hr;have c_most:jl P w K mg base "most_on_rod" ["manner"] 2 1 aaE:=T.most.callee X G app fun f fd F=>jL F aoA fun Kc A Ko s H E hr=>amg.2 P w K mg base f Kc A Ko s H E ⟨C.b,c_allRods,c_rodWorth⟩ hr;have c_counts:jl P w K mg base "counts" ["manner"] 5 1 JN:=T.counts.callee X G aeY fun f fd F=>akn F ⟨c_check,c_most,c_allRods,c_rodWorth⟩;have c_chkRods:jl P w K mg base "check_rods" ["rods"] 2 1 qg:=T.chkRods.callee X G ad6 fun f fd F=>jL F adA fun Kc A Ko s H E hr=>ZS.2 P w K mg base f Kc A Ko s H E ⟨c_isWhole,C.mostRods⟩ hr;have c_chkNum:jl P w K mg base "check_number" ["number"] 2 1 Qq:=T.chkNum.callee X G aeZ fun f fd F=>jL F aeM fun Kc A Ko s H E hr=>acC.2 P w K mg base f Kc A Ko s H E ⟨c_isWhole,C.mostNumber⟩ hr;have c_asked:jl P w K mg base "check_asked" ["manner","rods","number"] 5 3 QE:=T.asked.callee X G ahL fun f fd F=>jL F agU fun Kc A Ko s H E hr=>adB.2 P w K mg base f Kc A Ko s H E ⟨c_check,c_chkRods,c_chkNum⟩ hr
 have c_num:jl P w K mg base "number_on" ["manner","setting"] 2 2 aoD:=T.num.callee X G arc fun f fd F=>jL F afG fun Kc A Ko s H E hr=>aoC.2 P w K mg base f Kc A Ko s H E ⟨c_rodWorth⟩ hr;have c_full:jl P w K mg base "full_rods" ["manner","rods"] 1 2 ami:=T.full.callee X G apq fun f fd F=>jL F aoE fun Kc A Ko s H E hr=>ai3.2 P w K mg base f Kc A Ko s H E trivial hr;have c_last:jl P w K mg base "last_rods" ["manner","ahead","number"] 3 3 amj:=T.last.callee X G apr fun f fd F=>jL F aak fun Kc A Ko s H E hr=>ai5.2 P w K mg base f Kc A Ko s H E ⟨c_allRods,c_rodWorth,c_num,c_full⟩ hr;have c_both:jl P w K mg base "check_both" ["one","other"] 5 2 qY:=T.both.callee X G ajD fun f fd F=>jL F ai6 fun Kc A Ko s H E hr=>aeN.2 P w K mg base f Kc A Ko s H E ⟨c_check⟩ hr;have c_alike:jl P w K mg base "are_alike" ["one","other"] 6 2 aaN:=T.alike.callee X G ahM fun f fd F=>jL F agV fun Kc A Ko s H E hr=>adC.2 P w K mg base f Kc A Ko s H E ⟨c_both,c_counts⟩ hr
 have g_alike:GC K mg "are_alike" (fnD "are_alike"):=by
  obtain⟨f,oc,od,an,kV,doc,pm,Kc,ct,osl,a,_⟩:=T.alike;exact⟨.ref f,.ref f,PySem.W.mg_of X G a,rfl,fun H=>⟨f,rfl,.inr (.inr (.inl ⟨_,rfl,a⟩))⟩⟩
 have c_one:jl P w K mg base "one_rod_more" ["manner","fewest","most"] 2 3 aoG:=T.one.callee X G ard fun f fd F=>jL F abV fun Kc A Ko s H E hr=>aoF.2 P w K mg base f Kc A Ko s H E ⟨C.b,c_allRods,c_rodWorth,c_beads⟩ hr;have c_upTo:jl P w K mg base "least_up_to" ["manner","rods","most"] 3 3 agW:=T.upTo.callee X G aps fun f fd F=>jL F acD fun Kc A Ko s H E hr=>ai8.2 P w K mg base f Kc A Ko s H E ⟨C.b,c_one⟩ hr;have c_thrift:jl P w K mg base "thriftier" ["one","other","rods","most"] 6 4 Je:=T.thrift.callee X G ae0 fun f fd F=>jL F QO fun Kc A Ko s H E hr=>Zk.2 P w K mg base f Kc A Ko s H E ⟨C.b,c_both,c_chkRods,c_isWhole,c_upTo,C.mostAsked⟩ hr
 have g_thrift:GC K mg "thriftier" (fnD "thriftier"):=by
  obtain⟨f,oc,od,an,kV,doc,pm,Kc,ct,osl,a,_⟩:=T.thrift;exact⟨.ref f,.ref f,PySem.W.mg_of X G a,rfl,fun H=>⟨f,rfl,.inr (.inr (.inl ⟨_,rfl,a⟩))⟩⟩
 have c_cell:jl P w K mg base "_law_cell" ["_law_script","_law_k"] 1 2 agZ:=T.cell.callee X G apt fun f fd F=>jL F aoH fun Kc A Ko s H E hr=>aja.2 P w K mg base f Kc A Ko s H E C.b hr;have c_drawn:jl P w K mg base "_law_drawn" ["_law_script","_law_k","_law_many"] 2 3 Qe:=T.drawn.callee X G anx fun f fd F=>jL F adG fun Kc A Ko s H E hr=>ain.2 P w K mg base f Kc A Ko s H E ⟨c_cell⟩ hr;have c_manner:jl P w K mg base "_law_manner" ["_law_script","_law_at"] 3 2 Zm:=T.manner.callee X G akR fun f fd F=>jL F Jn fun Kc A Ko s H E hr=>acJ.2 P w K mg base f Kc A Ko s H E ⟨C.b,c_drawn⟩ hr;have c_longer:jl P w K mg base "longer_ways" ["manner","ahead","ways"] 4 3 acI:=T.longer.callee X G akS fun f fd F=>jL F QP fun Kc A Ko s H E hr=>acH.2 P w K mg base f Kc A Ko s H E ⟨c_last⟩ hr;have c_how:jl P w K mg base "how_many" ["manner","rods","number"] 6 3 agX:=T.how.callee X G anz fun f fd F=>jL F adE fun Kc A Ko s H E hr=>aml.2 P w K mg base f Kc A Ko s H E ⟨C.b,c_asked,c_longer⟩ hr;have c_single:jl P w K mg base "is_single" ["manner"] 6 1 Qs:=T.single.callee X G ae1 fun f fd F=>jL F aeP fun Kc A Ko s H E hr=>abr.2 P w K mg base f Kc A Ko s H E ⟨C.b,c_counts,c_most⟩ hr;have c_parting:jl P w K mg base "parting" ["one","other"] 7 2 Jf:=T.parting.callee X G ad7 fun f fd F=>jL F aaO fun Kc A Ko s H E hr=>QQ.2 P w K mg base f Kc A Ko s H E ⟨C.b,c_both,c_most,c_how⟩ hr
 have g_parting:GC K mg "parting" (fnD "parting"):=by
  obtain⟨f,oc,od,an,kV,doc,pm,Kc,ct,osl,a,_⟩:=T.parting;exact⟨.ref f,.ref f,PySem.W.mg_of X G a,rfl,fun H=>⟨f,rfl,.inr (.inr (.inl ⟨_,rfl,a⟩))⟩⟩
 have c_parts:jl P w K mg base "parts" ["one","other","rods","number"] 7 4 Zl:=T.parts.callee X G ahN fun f fd F=>jL F agY fun Kc A Ko s H E hr=>abW.2 P w K mg base f Kc A Ko s H E ⟨c_both,c_how⟩ hr
 have g_parts:GC K mg "parts" (fnD "parts"):=by
  obtain⟨f,oc,od,an,kV,doc,pm,Kc,ct,osl,a,_⟩:=T.parts;exact⟨.ref f,.ref f,PySem.W.mg_of X G a,rfl,fun H=>⟨f,rfl,.inr (.inr (.inl ⟨_,rfl,a⟩))⟩⟩
 have c_turned:jl P w K mg base "_law_turned" ["_law_script","_law_manner_here"] 4 2 ag0:=T.turned.callee X G akT fun f fd F=>jL F abt fun Kc A Ko s H E hr=>ajb.2 P w K mg base f Kc A Ko s H E ⟨c_drawn⟩ hr;have x_check:zB P w K mg base "check_manner" ["thing"] 4 1 zC:=T.check.thr X G ahK fun f fd F=>JH F agT fun Kc A Ko s H E hr=>abZ.2 P w K mg base f Kc A Ko s H E ⟨c_isManner,(C.errT.err (by decide))⟩ hr;have x_chkRods:zB P w K mg base "check_rods" ["rods"] 2 1 Jg:=T.chkRods.thr X G ad6 fun f fd F=>JH F adA fun Kc A Ko s H E hr=>QR.2 P w K mg base f Kc A Ko s H E ⟨c_isWhole,C.mostRods,(C.errT.err (by decide))⟩ hr;have x_chkNum:zB P w K mg base "check_number" ["number"] 2 1 acL:=T.chkNum.thr X G aeZ fun f fd F=>JH F aeM fun Kc A Ko s H E hr=>acK.2 P w K mg base f Kc A Ko s H E ⟨c_isWhole,C.mostNumber,(C.errT.err (by decide))⟩ hr;have x_asked:zB P w K mg base "check_asked" ["manner","rods","number"] 5 3 adH:=T.asked.thr X G ahL fun f fd F=>JH F agU fun Kc A Ko s H E hr=>ab0.2 P w K mg base f Kc A Ko s H E ⟨c_chkRods,c_check,x_check,x_chkRods,x_chkNum⟩ hr;have x_how:zB P w K mg base "how_many" ["manner","rods","number"] 6 3 aoJ:=T.how.thr X G anz fun f fd F=>JH F adE fun Kc A Ko s H E hr=>aoI.2 P w K mg base f Kc A Ko s H E ⟨x_asked⟩ hr;have x_both:zB P w K mg base "check_both" ["one","other"] 5 2 JK:=T.both.thr X G ajD fun f fd F=>JH F ai6 fun Kc A Ko s H E hr=>acg.2 P w K mg base f Kc A Ko s H E ⟨c_check,x_check⟩ hr;have x_alike:zB P w K mg base "are_alike" ["one","other"] 6 2 afM:=T.alike.thr X G ahM fun f fd F=>JH F agV fun Kc A Ko s H E hr=>afL.2 P w K mg base f Kc A Ko s H E ⟨x_both⟩ hr;have x_counts:zB P w K mg base "counts" ["manner"] 5 1 afN:=T.counts.thr X G aeY fun f fd F=>JH F aai fun Kc A Ko s H E hr=>acM.2 P w K mg base f Kc A Ko s H E ⟨x_check⟩ hr;have x_single:zB P w K mg base "is_single" ["manner"] 6 1 acO:=T.single.thr X G ae1 fun f fd F=>JH F aeP fun Kc A Ko s H E hr=>acN.2 P w K mg base f Kc A Ko s H E ⟨C.b,x_counts⟩ hr;have x_parting:zB P w K mg base "parting" ["one","other"] 7 2 ZT:=T.parting.thr X G ad7 fun f fd F=>JH F aaO fun Kc A Ko s H E hr=>QS.2 P w K mg base f Kc A Ko s H E ⟨c_both,x_both,(C.errT.err (by decide))⟩ hr
 have x_parts:zB P w K mg base "parts" ["one","other","rods","number"] 7 4 adI:=T.parts.thr X G ahN fun f fd F=>JH F agY fun Kc A Ko s H E hr=>ab1.2 P w K mg base f Kc A Ko s H E ⟨c_both,x_both,x_how⟩ hr;have x_thrift:zB P w K mg base "thriftier" ["one","other","rods","most"] 6 4 aap:=T.thrift.thr X G ae0 fun f fd F=>JH F QO fun Kc A Ko s H E hr=>Qt.2 P w K mg base f Kc A Ko s H E ⟨c_isWhole,c_chkRods,c_both,C.mostAsked,x_both,x_chkRods,(C.errT.err (by decide))⟩ hr;have c_LValue:jl P w K mg base "_law_value" ["_law_manner_here","_law_setting_here"] 1 2 afO:=T.LValue.callee X G akU fun f fd F=>jL F QT fun Kc A Ko s H E hr=>acQ.2 P w K mg base f Kc A Ko s H E ⟨trivial⟩ hr;have c_LRods:jl P w K mg base "_law_rods" ["_law_manner_here"] 1 1 aaQ:=T.LRods.callee X G anA fun f fd F=>jL F abv fun Kc A Ko s H E hr=>afQ.2 P w K mg base f Kc A Ko s H E ⟨C.b⟩ hr;have c_LAll:jl P w K mg base "_law_all" ["_law_manner_here","_law_rods_here"] 2 2 ag1:=T.LAll.callee X G apu fun f fd F=>jL F Zn fun Kc A Ko s H E hr=>ajc.2 P w K mg base f Kc A Ko s H E ⟨C.b,c_LRods⟩ hr;have h_LRefused:acB P w K mg base "_law_refused" ["_law_e"] 1 1 zt:=T.LRefused.hdl X G ahO fun f fd F=>asX F ZU fun Kc A Ko s H E hr=>aeR.2 P w K mg base f Kc A Ko s H E ⟨C.b,C.errT⟩ hr;have c_LTold:jl P w K mg base "_law_told" ["_law_way","_law_one","_law_other","_law_rods_here","_law_number"] 8 5 jT:=T.LTold.callee X G anB fun f fd F=>alW F ag2 fun Kc A Ko s H E hr=>qE.2 P w K mg base f Kc A Ko s H E ⟨c_single,c_alike,c_parting,c_parts,c_thrift,g_alike,g_parting,g_parts,g_thrift,x_single,x_alike,x_parting,x_parts,x_thrift,h_LRefused,C.errT⟩ hr;have c_LCounts:jl P w K mg base "_law_counts" ["_law_manner_here"] 2 1 Qg:=T.LCounts.callee X G aiB fun f fd F=>jL F Qf fun Kc A Ko s H E hr=>aby.2 P w K mg base f Kc A Ko s H E ⟨c_LRods⟩ hr;have c_LLeast:jl P w K mg base "_law_least" ["_law_manner_here","_law_rods_here","_law_most"] 3 3 Zo:=T.LLeast.callee X G akV fun f fd F=>jL F JS fun Kc A Ko s H E hr=>acR.2 P w K mg base f Kc A Ko s H E ⟨C.b,c_LAll,c_LValue⟩ hr;have c_LRefuses:jl P w K mg base "_law_refuses" ["_law_one","_law_other","_law_rods_here","_law_odd"] 9 4 QW:=T.LRefuses.callee X G ahP fun f fd F=>jL F ZW fun Kc A Ko s H E hr=>aat.2 P w K mg base f Kc A Ko s H E ⟨C.b,c_LTold⟩ hr
 have c_LSingles:jl P w K mg base "_law_singles" ["_law_one"] 9 1 QY:=T.LSingles.callee X G ahQ fun f fd F=>jL F Qv fun Kc A Ko s H E hr=>aau.2 P w K mg base f Kc A Ko s H E ⟨C.b,c_LCounts,c_LTold⟩ hr;exact⟨C.b,c_manner,c_drawn,c_turned,c_LCounts,c_LTold,c_LSingles,c_LRods,c_LLeast,c_LRefuses⟩
theorem are(HT:zh=true){P:Program}{w:World}{K:Fg}{h:Heap}{mg:SV}{fa:Addr}(X:K.In h)(G:h.Ns mainGlobals mg)(hfa:mg "law"=some (.ref fa))(T:Tops K)(C:Consts K mg):
  ∃fd:FuncData,(∀(s:Shared) (v:Value),BindsTo s fd ⟨[v],[]⟩ [("_law_script",v)])/\∀base:Heap,K.In base->base.Ns mainGlobals mg->FnOk P w K mg base CX0 10 fa fd ["_law_script"] (Pur K 1 aoK):=by
 have Q:∀base:Heap,CLaw P w K mg base:=fun base=>ata HT X G T C;obtain⟨f,oc,od,an,kV,doc,pm,Kc,ct,osl,a,l,c,kp⟩:=T.law;have e:=hfa.symm.trans (PySem.W.mg_of X G a);cases e;have F1:=afb (st:=afS) l c kp;exact⟨_,fun s v=> .of_eq rfl,fun base _ _=>jL F1 qQ fun Kc A Ko s H E hr=>amv.2 P w K mg base fa Kc A Ko s H E (Q base) hr⟩
theorem asp(HT:zh=true)(K:Fg)(H:Hp)(a:Addr)(ns:List Int)(hl:ns.length<=63)(hS:SqL K H a (ns.map V.int)):Pur K 1 aoK [.ref a] H (fun v _=>v= .bl true) fun _ _ _=>False:=
 ⟨[scr ns],.bool true,rfl,⟨_,_,rfl,⟨a,rfl,.inl ⟨ns,hS,rfl⟩⟩,rfl⟩,akP HT ns (by omega),fun v H' _ r=>r⟩
theorem atb(HT:zh=true){l:PySem.W.OpenLaw}{q:Program}{loose:List Str}{XP:(SV)->Heap->Prop}{YP:World->Heap->Prop}{d:DefRec}{K:Params->Fg}(hn:l.most=some 63)(hdf:d.params.defaults=[])
  (hY:∀(w:World) (h:Heap),YP w h->(K w.params).In h) (hnm:d.name="law")
  (F:∀(w:World) (mg:SV) (h:Heap),(K w.params).In h->h.Ns mainGlobals mg->Tops (K w.params)/\Consts (K w.params) mg):
  PySem.W.WalkO q loose XP YP l.row.toRowW d [] (fun f vs=>PySem.call f vs):=
 L2.anT (n:=63) (k:=10) (x:="_law_script") (CX:=fun _=>CX0) (sp:=fun w=>Pur (K w.params) 1 aoK) hn (by decide) hdf ⟨rfl,by decide,by decide⟩ hY (fun w mg fa h KX G hm=>by
  obtain ⟨T,C⟩:=F w mg h KX G;rw [hnm] at hm;exact are HT KX G hm T C) (fun w H a ns hl _ hS=>asp HT (K w.params) H a ns hl hS) fun _ _ _ _ _ z=>z
theorem apv{K:Fg}{mg:SV}{h:Heap}(X:K.In h)(G:h.Ns mainGlobals mg)(z1:PySem.W.nsIn K mainGlobals "isinstance"=some none)(z2:PySem.W.nsIn K mainGlobals "bool"=some none)(z3:PySem.W.nsIn K mainGlobals "int"=some none)(z4:PySem.W.nsIn K mainGlobals "tuple"=some none)(z5:PySem.W.nsIn K mainGlobals "zip"=some none)(z6:PySem.W.nsIn K mainGlobals "range"=some none)(z7:PySem.W.nsIn K mainGlobals "all"=some none)(z8:PySem.W.nsIn K mainGlobals "len"=some none)(z9:PySem.W.nsIn K mainGlobals "max"=some none)(z10:PySem.W.nsIn K mainGlobals "min"=some none)(z11:PySem.W.nsIn K mainGlobals "sum"=some none)(z12:PySem.W.nsIn K mainGlobals "sorted"=some none)(z13:PySem.W.nsIn K mainGlobals "abs"=some none)(z14:PySem.W.nsIn K mainGlobals "list"=some none)(z15:PySem.W.nsIn K mainGlobals "enumerate"=some none)(z16:PySem.W.nsIn K mainGlobals "ValueError"=some none)(z17:PySem.W.nsIn K mainGlobals "str"=some none)(z18:PySem.W.nsIn K mainGlobals "set"=some none)(z19:PySem.W.nsIn K mainGlobals "dict"=some none):Bare mg:=
 have f:∀{x:Str},PySem.W.nsIn K mainGlobals x=some none->mg x=none:=fun z=>PySem.W.mg_none_of X G z
 ⟨f z1,f z2,f z3,f z4,f z5,f z6,f z7,f z8,f z9,f z10,f z11,f z12,f z13,f z14,f z15,f z16,f z17,f z18,f z19⟩
theorem gc4{K:Fg}{mg:SV}{h:Heap}{x:Str}{a:Addr}{od:Option Addr}{n:Nat}{osl:Array (Option Value)}{i1 i2 i3 i4:Int}{t1 t2 t3 t4:Tok}(X:K.In h)(G:h.Ns mainGlobals mg)(e:PySem.W.nsIn K mainGlobals x=some (some (.ref a)))
  (l:K.lookup a=some ⟨.type "tuple",od,.seq #[.int i1 t1,.int i2 t2,.int i3 t3,.int i4 t4] n,osl⟩):GC K mg x (.tuple [.int i1,.int i2,.int i3,.int i4]):=
 alF X G e l rfl ⟨_,_,[.int i1,.int i2,.int i3,.int i4],rfl,(by show 4<=sizeLine;rw[sizeLine_eq];decide),.cons ⟨_,rfl⟩ (.cons ⟨_,rfl⟩ (.cons ⟨_,rfl⟩ (.cons ⟨_,rfl⟩ .nil))),fun H=>⟨_,_,rfl,rfl,_,_,rfl,rfl,_,_,rfl,rfl,_,_,rfl,rfl,rfl⟩⟩
theorem gcI{K:Fg}{mg:SV}{h:Heap}{x:Str}{i:Int}{t:Tok}(X:K.In h)(G:h.Ns mainGlobals mg)(e:PySem.W.nsIn K mainGlobals x=some (some (.int i t))):GC K mg x (.int i):=
 ⟨.int i,_,PySem.W.mg_of X G e,⟨t,rfl⟩,fun H=>rfl⟩
theorem apw{K:Fg}{mg:SV}{h:Heap}{y:Str}{cs:List Str}(X:K.In h)(G:h.Ns mainGlobals mg)(q:afz K y cs=true):ErrT K mg y cs:=
 ⟨q,fun c C e=>PySem.W.mg_of X G (ai1 e)⟩
end Rods
def PySem.W.Fast.tw740736040974763891:Unit:=()
def PySem.W.Fast.tw1552706103623643905:Unit:=()
def PySem.W.Fast.tw915802894790623003:Unit:=()
def PySem.W.Fast.tw5012118122704736375:Unit:=()
def PySem.W.Fast.tw18424636463087480956:Unit:=()
def PySem.W.Fast.tw3218747397769149411:Unit:=()
def PySem.W.Fast.tw8077993137974943877:Unit:=()
def PySem.W.Fast.tw4481888183581001642:Unit:=()
def PySem.W.Fast.tw17098587652178387988:Unit:=()
open PySem PySem.W PyProof.Rows
set_option maxRecDepth 100000 in
set_option maxHeartbeats 0 in
theorem PySem.Challenge.cw_beadrods_k40_alike_holds : PySem.Challenge.rw_beadrods_k40_alike.Holds := by
  w_on; o_law; k_head; (case hw => w_witness2)
  k_fill
  refine Rods.atb Rods.allN_true (l := PySem.Challenge.rw_beadrods_k40_alike) rfl rfl (fun w h Y => PySem.W.kIn_of Y) rfl ?F
  case F =>
    intro w mg h KX G
    refine ⟨⟨?f1, ?f2, ?f3, ?f4, ?f5, ?f6, ?f7, ?f8, ?f9, ?f10, ?f11, ?f12, ?f13, ?f14, ?f15, ?f16, ?f17, ?f18, ?f19, ?f20, ?f21, ?f22, ?f23, ?f24, ?f25, ?f26, ?f27, ?f28, ?f29, ?f30, ?f31, ?f32, ?f33, ?f34, ?f35, ?f36, ?f37, ?f38, ?f39⟩, ⟨?b, ?c1, ?c2, ?c3, ?c4, ?c5, ?et⟩⟩
    case b => refine' Rods.apv KX G ?_ ?_ ?_ ?_ ?_ ?_ ?_ ?_ ?_ ?_ ?_ ?_ ?_ ?_ ?_ ?_ ?_ ?_ ?_ <;> k_is
    case c1 =>
      refine' Rods.gc4 KX G ?a ?l
      (case a => k_is); (case l => k_is)
    case c2 =>
      refine' Rods.gc4 KX G ?a ?l
      (case a => k_is); (case l => k_is)
    case c3 =>
      refine' Rods.gcI KX G ?a
      (case a => k_is)
    case c4 =>
      refine' Rods.gcI KX G ?a
      (case a => k_is)
    case c5 =>
      refine' Rods.gcI KX G ?a
      (case a => k_is)
    case et => exact Rods.apw KX G (by kernel_rfl)
    all_goals
      refine' BX.alE ?a ?l ?c ?k
      (case a => k_is); (case l => k_is); (case c => k_is); (case k => k_is)
#print axioms PySem.Challenge.cw_beadrods_k40_alike_holds
end
