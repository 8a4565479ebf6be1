import PyProof.Rows.All
import Wide.All
import OpenK.AllK
import Wide.FinOn
import Lean
import PyProof.EqAt
import PyProof.EqKinds
import PyProof.TupleCall
import PyProof.DictWalks
import PyProof.ListMulRoad
import PyProof.Rows.Range3
import PyProof.StationsW
import OpenK.KOwn
import PyProof.ExcBaseAll.ValueError
import PyProof.MaxThree
import KE.KIsAll
import KE.KIsNot
import PyProof.RulesAs
import PyProof.ExcArgsOwn
import PyProof.ExcAttrAll.ValueError
import KE.KRevSl
import KE.KDictOf
import KE.KDictList
import PyProof.AttrMissHeap
import PyProof.Rows.DictListVals
import PyProof.Rows.SetFrom
import PyProof.SetRoads
import PySem.Challenge.RW_beadrods_k23_whole_slips
set_option Elab.async false
set_option linter.all false
set_option maxRecDepth 100000
set_option maxHeartbeats 4000000
abbrev Fg:=PySem.W.Frag
abbrev SV:=PySem.Str->Option PySem.Value
abbrev OP:=Option PySem.PyData
abbrev LP:=List PySem.PyData
abbrev SP0:=PySem.Shared->Prop
theorem zzA{α : Type _}{a : α}{l : List α} : (a :: l)[0]? = some a := rfl
theorem zzB{α : Type _}{a : α}{i : Nat}{l : List α} : (a :: l)[i + 1]? = l[i]? := rfl
theorem zzC{α : Type _}{o : Option α} : (some o).join = o := rfl
theorem zzD{α β : Type _}(a : α)(f : α → Option β) : (some a).bind f = f a := rfl
theorem zzE{α β : Type _}(a : α)(f : α → β) : Option.map f (some a) = some (f a) := rfl
theorem zzF{α : Type _}{x : α}{xs : List α}{i : Nat}{a : α} : (x :: xs).set (i + 1) a = x :: xs.set i a := rfl
theorem zzG{α : Type _}{x : α}{xs : List α}{a : α} : (x :: xs).set 0 a = a :: xs := rfl
theorem zzH{α β : Type _}(f : α → Option β) : (none : Option α).bind f = none := rfl
theorem zzI{α β : Type _}(f : α → β) : Option.map f (none : Option α) = none := rfl
theorem zzJ : (!true) = false := rfl
theorem zzK : (!false) = true := rfl
theorem zzL : (false = true) = False := Bool.false_eq_true
theorem zzM{α : Sort _}{x : Decidable True}(a b : α) : ite True a b = a := if_true a b
theorem zzN{α : Sort _}{x : Decidable False}(a b : α) : ite False a b = b := if_false a b
section
namespace L2
open PySem PySem.Spec PyProof.Rows
noncomputable abbrev Key:=Sum Int Str
noncomputable def Zi:Key->Value->Bool
 |.inl k,v=>Value.isInt k v
 |.inr x,v=>Value.isStrOf x v
noncomputable def ai3(w:World):Key->Int
 |.inl k=>hashInt k
 |.inr x=>hashStr w x
theorem jV:∀{k:Key}{v:Value},Zi k v=true->(∃i t,k=Sum.inl i/\v=Value.int i t)∨(∃x t,k=Sum.inr x/\v=Value.str x t)
 | .inl i,v,h=>by
  obtain⟨t,e⟩:=Value.isInt_shape (k:=i) (v:=v) h;exact .inl ⟨i,t,rfl,e⟩
 | .inr x,v,h=>by
  obtain⟨t,e⟩:=Value.isStrOf_shape (x:=x) (v:=v) h;exact .inr ⟨x,t,rfl,e⟩
theorem acQ(i:Int)(t:Tok):Zi (.inl i) (.int i t)=true:=by simp[Zi,Value.isInt]
theorem acR(x:Str)(t:Tok):Zi (.inr x) (.str x t)=true:=by simp[Zi,Value.isStrOf]
theorem agW(a b:Int):decide ((Sum.inl a:Key)=Sum.inl b)=(a==b):=by
 by_cases e:a=b
 ·subst e;simp
 ·have h:¬ (Sum.inl a:Key)=Sum.inl b:=fun q=>e (Sum.inl.inj q)
  rw[decide_eq_false h];exact(beq_eq_false_iff_ne.mpr e).symm
theorem agX(a b:Str):decide ((Sum.inr a:Key)=Sum.inr b)=decide (a=b):=by
 by_cases e:a=b
 ·subst e;simp
 ·have h:¬ (Sum.inr a:Key)=Sum.inr b:=fun q=>e (Sum.inr.inj q)
  rw[decide_eq_false h,decide_eq_false e]
theorem agY(a:Int)(b:Str):decide ((Sum.inl a:Key)=Sum.inr b)=false:=decide_eq_false (fun q=>nomatch q)
theorem agZ(a:Str)(b:Int):decide ((Sum.inr a:Key)=Sum.inl b)=false:=decide_eq_false (fun q=>nomatch q)
noncomputable def qO(prog:Program)(w:World):PySem.KeyKind prog w Key where
 is:=Zi
 hash:=ai3 w
 inj:=fun v a b ha hb=>by
  rcases jV ha with ⟨i,t,rfl,rfl⟩ | ⟨x,t,rfl,rfl⟩
  ·rcases jV hb with ⟨j,u,rfl,e⟩ | ⟨y,u,rfl,e⟩
   ·injection e with e1 _;rw[e1]
   ·exact nomatch e
  ·rcases jV hb with ⟨j,u,rfl,e⟩ | ⟨y,u,rfl,e⟩
   ·exact nomatch e
   ·injection e with e1 _;rw[e1]
 byValue:=fun k v h=>by
  rcases jV h with ⟨i,t,rfl,rfl⟩ | ⟨x,t,rfl,rfl⟩<;>rfl
 pyHash:=fun hv h=>by
  rcases jV hv with ⟨i,t,rfl,rfl⟩ | ⟨x,t,rfl,rfl⟩
  ·exact wpAny_pyHash_int h
  ·exact wpAny_pyHash_str h
 eqBool:=fun hu hv h=>by
  rcases jV hu with ⟨i,t,rfl,rfl⟩ | ⟨x,t,rfl,rfl⟩
  ·rcases jV hv with ⟨j,u,rfl,rfl⟩ | ⟨y,u,rfl,rfl⟩
   ·rw[agW]at h;exact wpAny_eqBool_int h
   ·rw[agY]at h;exact SeqAt.EqAt.int_str i t y u _ _ _ _ h
  ·rcases jV hv with ⟨j,u,rfl,rfl⟩ | ⟨y,u,rfl,rfl⟩
   ·rw[agZ]at h;exact SeqAt.EqAt.str_int x t j u _ _ _ _ h
   ·rw[agX]at h;exact wpAny_eqBool_str h
 «strs»:=fun k x t v h=>by
  rcases jV h with ⟨i,u,rfl,e⟩ | ⟨y,u,rfl,e⟩
  ·exact nomatch e
  ·injection e with e1 _
   subst e1;cases v<;>rfl
theorem aaq(prog:Program)(w:World)(i:Int)(t:Tok):(qO prog w).is (.inl i) (.int i t)=true:=acQ i t
theorem aar(prog:Program)(w:World)(x:Str)(t:Tok):(qO prog w).is (.inr x) (.str x t)=true:=acR x t
inductive V where
 |non | bl (b:Bool) | int (i:Int) | str (x:Str) | byt (b:Array UInt8) | flt (b:UInt64) | ref (a:Addr) | ty (n:String)
 deriving DecidableEq
noncomputable def jO:V->Value->Prop
 |.non,u=>u=Value.none
 |.bl b,u=>u=Value.bool b
 |.int i,u=>∃t,u=Value.int i t
 |.str x,u=>∃t,u=Value.str x t
 |.byt b,u=>∃t,u=Value.bytes b t
 |.flt b,u=>∃t,u=Value.float b t
 |.ref a,u=>u=Value.ref a
 |.ty n,u=>u=Value.type n
noncomputable abbrev jx:List V->List Value->Prop:=Paired jO
theorem jx.length{xs:List V}{us:List Value}(r:jx xs us):xs.length=us.length:=Paired.length r
theorem jx.get:∀{xs:List V}{us:List Value}{i:Nat}{x:V},jx xs us->xs[i]?=some x->∃u,us[i]?=some u/\jO x u
 |_,_,_,_,.nil,e=>by simp at e
 |_,_,0,_,.cons r _,e=>by simp at e;subst e;exact⟨_,rfl,r⟩
 | _,_,i+1,x,.cons _ t,e=>by
  obtain⟨u,h1,h2⟩:=jx.get (i:=i) (x:=x) t (by simpa using e);exact⟨u,by simpa using h1,h2⟩
theorem jx.set{x:V}{u:Value}(r:jO x u):∀{xs:List V}{us:List Value} (i:Nat),jx xs us->jx (xs.set i x) (us.set i u)
 |_,_,_,.nil=> .nil
 |_,_,0,.cons _ t=> .cons r t
 |_,_,i+1,.cons q t=> .cons q (jx.set r i t)
theorem jx.append:∀{xs ys:List V}{us ws:List Value},jx xs us->jx ys ws->jx (xs++ys) (us++ws)
 |_,_,_,_,.nil,s=>s
 |_,_,_,_,.cons r t,s=> .cons r (jx.append t s)
theorem jx.take:∀{xs:List V}{us:List Value} (n:Nat),jx xs us->jx (xs.take n) (us.take n)
 |_,_,0,_=> .nil
 |_,_,_+1,.nil=> .nil
 |_,_,n+1,.cons r t=> .cons r (jx.take n t)
theorem jx.drop:∀{xs:List V}{us:List Value} (n:Nat),jx xs us->jx (xs.drop n) (us.drop n)
 |_,_,0,r=>r
 |_,_,_+1,.nil=> .nil
 |_,_,n+1,.cons _ t=>jx.drop n t
noncomputable def aas:Option V->Option Value->Prop
 |some v,some u=>jO v u
 |none,none=>True
 |_,_=>False
noncomputable def KV{κ:Type}:List (κ×V)->List (κ×Value)->Prop:=Paired fun (p:κ×V) (q:κ×Value)=>p.1=q.1/\jO p.2 q.2
noncomputable def kV:Key->V
 |.inl i=> .int i
 |.inr x=> .str x
inductive HO where
 |lst (xs:List V)
 |tup (xs:List V)
 |dK (kvs:List (Key×V)) | dT (kvs:List (List Key×V))
 |set (S:Int->Bool) (n:Nat)
 |ins (C dx:Addr) (fs:List (Str×V))
 |own (x:Addr)
 |xd (fs:List (Str×V))
 |met (f x:Addr)
 |rng (lo hi:Int)
 |frz (o:Obj) (u:HO)
 |tbl (ps:Array Value)
 |ext (φ:Heap->Prop)
noncomputable abbrev Hp:=Addr->Option HO
noncomputable def upd(H:Hp)(a:Addr)(o:HO):Hp:=fun b=>if b=a then some o else H b
theorem jr{H:Hp}{a:Addr}{o:HO}:upd H a o a=some o:=by unfold upd;rw[if_pos rfl]
theorem jm{H:Hp}{a b:Addr}{o:HO}(h:b≠a):upd H a o b=H b:=by unfold upd;rw[if_neg h]
theorem ab8{H:Hp}{a:Addr}{o u:HO}:upd (upd H a o) a u=upd H a u:=by
 funext b;unfold upd;split<;>rfl
theorem j7{H:Hp}{a b:Addr}{o:HO}(h:H a=some o)(h':H b=none):a≠b:=by
 intro e;subst e;rw[h]at h';cases h'
section
variable (P:Program)(w:World)
noncomputable def qw(H:Hp)(h:Heap)(a:Addr):HO->Prop
 |.lst xs=>xs.length<=sizeLine/\∃(its:List Value) (n:Nat),jx xs its/\h.get? a=some { cls:= .type "list",data:= .seq its.toArray n }
 |.tup xs=>xs.length<=sizeLine/\∃its:List Value,jx xs its/\IsTup h a its.toArray
 |.dK kvs=>kvs.length<=sizeLine/\(a==sysModules)=false/\∃vs,KV kvs vs/\h.DictOf (qO P w) a vs
 | .dT kvs=>kvs.length<=sizeLine/\(a==sysModules)=false/\∃xs:List (List Key×Addr×Value),
   Paired (fun (p:List Key×V) (q:List Key×Addr×Value)=>p.1=q.1/\H q.2.1=some (.tup (p.1.map kV))/\jO p.2 q.2.2) kvs xs/\
   ∃o es ep,h.get? a=some o/\o.ExactDict/\o.data= .dict es ep/\es.toList=xs.map (entryOfKey (tupleKind (qO P w)))/\(xs.map (·.1)).Nodup
 |.set S n=>h.SetOf (intKind P w) a S n
 | .ins C dx fs=>H dx=some (.own a)/\fs.length<=1000/\dx≠a/\h.get? a=some (PySem.W.instObj C dx)/\
   ∃mA,h.Ns1 dx mA/\(∀f,aas (fs.lookup f) (mA f))/\PySem.Within mA (fs.map (·.1))
 |.own _=>∃o,h.get? a=some o
 |.xd fs=>∃mA,h.Ns1 a mA/\∀f,aas (fs.lookup f) (mA f)
 |.rng lo hi=>∃t u v,h.get? a=some { cls:= .type "range",data:= .fields #[.int lo t,.int hi u,.int 1 v] }
 |.frz o u=>h.get? a=some o/\qw H h a u
 |.tbl ps=>h.get? a=some { cls:= .none,data:= .fields ps }
 |.met f x=>h.get? a=some (PySem.W.methodObj (.ref f) (.ref x))
 |.ext φ=>φ h/\(∃o,h.get? a=some o)/\∀h1 h2:Heap,φ h1->(∀o,h1.get? a=some o->h2.get? a=some o)->φ h2
noncomputable def HOk(H:Hp)(h:Heap):Prop:=∀a o,H a=some o->qw P w H h a o
end
section
variable {P:Program}{w:World}{H H':Hp}{h h':Heap}{a:Addr}{o:HO}
theorem qw.lt(x:qw P w H h a o):a<h.objs.size:=by
 cases o with
 |lst xs=>obtain⟨_,_,_,_,e⟩:=x;exact Heap.lt_size e
 |tup xs=>obtain⟨_,_,_,p⟩:=x;exact p.lt
 |dK kvs=>obtain⟨_,_,_,_,o,_,_,e,_⟩:=x;exact Heap.lt_size e
 |dT kvs=>obtain⟨_,_,_,_,o,_,_,e,_⟩:=x;exact Heap.lt_size e
 |set S n=>obtain⟨o,_,_,_,e,_⟩:=x;exact Heap.lt_size e
 |ins C dx fs=>obtain⟨_,_,_,e,_⟩:=x;exact Heap.lt_size e
 |own y=>obtain⟨_,e⟩:=x;exact Heap.lt_size e
 |xd fs=>obtain⟨_,⟨_,_,_,e,_⟩,_⟩:=x;exact Heap.lt_size e
 |rng lo hi=>obtain⟨_,_,_,e⟩:=x;exact Heap.lt_size e
 |frz ob u=>obtain⟨e,_⟩:=x;exact Heap.lt_size e
 |tbl ps=>exact Heap.lt_size (show h.get? a=some _ from x)
 |met f y=>exact Heap.lt_size (show h.get? a=some _ from x)
 |ext φ=>obtain⟨_,⟨_,e⟩,_⟩:=x;exact Heap.lt_size e
theorem Paired.mapP{α β:Type}{F G:α->β->Prop}:∀{l₁:List α}{l₂:List β},Paired F l₁ l₂->(∀a b,F a b->G a b)->Paired G l₁ l₂
 |_,_,.nil,_=> .nil
 |_,_,.cons r t,f=> .cons (f _ _ r) (Paired.mapP t f)
theorem qw.stay(x:qw P w H h a o)(k:∀b u,(b=a∨H b=some (.own a))->h.get? b=some u->h'.get? b=some u)
  (ho:∀b,H b=some (.own a)->H' b=some (.own a)) (ht:∀b xs,H b=some (.tup xs)->H' b=some (.tup xs)):qw P w H' h' a o:=by
 induction o with
 |lst xs=>obtain⟨z,its,n,r,e⟩:=x;exact⟨z,its,n,r,k _ _ (.inl rfl) e⟩
 |tup xs=>obtain⟨z,its,r,ob,e,c⟩:=x;exact⟨z,its,r,ob,k _ _ (.inl rfl) e,c⟩
 |dK kvs=>obtain⟨z,y,vs,r,ob,es,ep,e,c⟩:=x;exact⟨z,y,vs,r,ob,es,ep,k _ _ (.inl rfl) e,c⟩
 | dT kvs=>
  obtain⟨z,y,xs,r,ob,es,ep,e,c⟩:=x;exact⟨z,y,xs,Paired.mapP r fun p q z=>⟨z.1,ht _ _ z.2.1,z.2.2⟩,ob,es,ep,k _ _ (.inl rfl) e,c⟩
 |set S n=>obtain⟨ob,es,ep,t,e,c⟩:=x;exact⟨ob,es,ep,t,k _ _ (.inl rfl) e,c⟩
 | ins C dx fs=>
  obtain⟨d,z,ne,e,mA,⟨od,es,ep,e2,c⟩,r⟩:=x;exact⟨ho _ d,z,ne,k _ _ (.inl rfl) e,mA,⟨od,es,ep,k _ _ (.inr d) e2,c⟩,r⟩
 |own y=>obtain⟨ob,e⟩:=x;exact⟨ob,k _ _ (.inl rfl) e⟩
 |xd fs=>obtain⟨mA,⟨od,es,ep,e,c⟩,r⟩:=x;exact⟨mA,⟨od,es,ep,k _ _ (.inl rfl) e,c⟩,r⟩
 |rng lo hi=>obtain⟨t,u,v,e⟩:=x;exact⟨t,u,v,k _ _ (.inl rfl) e⟩
 |frz ob u ih=>obtain⟨e,q⟩:=x;exact⟨k _ _ (.inl rfl) e,ih q⟩
 | tbl ps=>
  have e:h.get? a=some { cls:= .none,data:= .fields ps }:=x;show h'.get? a=some { cls:= .none,data:= .fields ps };exact k a _ (.inl rfl) e
 | met f y=>
  have e:h.get? a=some (PySem.W.methodObj (.ref f) (.ref y)):=x;show h'.get? a=some (PySem.W.methodObj (.ref f) (.ref y));exact k a _ (.inl rfl) e
 |ext φ=>obtain⟨p,⟨o,e⟩,st⟩:=x;exact⟨st _ _ p fun o q=>k _ _ (.inl rfl) q,⟨o,k _ _ (.inl rfl) e⟩,st⟩
theorem HOk.lt(x:HOk P w H h)(e:H a=some o):a<h.objs.size:=(x a o e).lt
theorem HOk.fresh(x:HOk P w H h)(e:h.objs.size<=a):H a=none:=by
 cases q:H a with
 |none=>rfl
 |some u=>exact absurd (Nat.lt_of_lt_of_le (x.lt q) e) (Nat.lt_irrefl _)
theorem HOk.kept(x:HOk P w H h)(k:∀b u,h.get? b=some u->h'.get? b=some u):HOk P w H h':=fun a o e=>
 (x a o e).stay (fun b u _ q=>k b u q) (fun _ q=>q) fun _ _ q=>q
theorem HOk.laid(x:HOk P w H h)(k:∀b u,h.get? b=some u->h'.get? b=some u)(hp:h.objs.size<=a)(new:qw P w (upd H a o) h' a o):HOk P w (upd H a o) h':=fun b u e=>by
 have hn:=x.fresh hp;by_cases hb:b=a
 ·subst hb;rw[jr]at e;cases e;exact new
 ·rw[jm hb]at e
  exact(x b u e).stay (fun c v _ q=>k c v q) (fun c q=>by rw[jm (j7 q hn)];exact q) fun c xs q=>by rw[jm (j7 q hn)];exact q
end
noncomputable def Rd(H:Hp)(a:Addr)(u:HO):Prop:=H a=some u∨∃o,H a=some (.frz o u)
theorem Rd.of{H:Hp}{a:Addr}{u:HO}(h:H a=some u):Rd H a u:= .inl h
theorem Rd.ok{P:Program}{w:World}{H:Hp}{h:Heap}{a:Addr}{u:HO}(r:Rd H a u)(x:HOk P w H h):qw P w H h a u:=by
 rcases r with r | ⟨o,r⟩
 ·exact x a u r
 ·obtain⟨_,q⟩:=x a _ r
  exact q
noncomputable def Mut:Option HO->Prop
 |some (.lst _)=>True
 |some (.dK _)=>True
 |some (.dT _)=>True
 |some (.set _ _)=>True
 |some (.ins _ _ _)=>True
 |some (.ext _)=>True
 |_=>False
section
variable {P:Program}{w:World}{H:Hp}{h h':Heap}{x e:Addr}{o':HO}
theorem HOk.write(ok:HOk P w H h)(mu:Mut (H x))(he:e=x∨H e=some (.own x))(k:∀b u,b≠e->h.get? b=some u->h'.get? b=some u)(heo:∃u,h'.get? e=some u)
  (new:qw P w (upd H x o') h' x o'):HOk P w (upd H x o') h':=fun b u q=>by
 have nown:∀c y,H c=some (.own y)->c≠x:=fun c y r z=>by subst z;rw[r]at mu;exact mu
 have ntup:∀c xs,H c=some (.tup xs)->c≠x:=fun c xs r z=>by subst z;rw[r]at mu;exact mu
 by_cases hb:b=x
 ·subst hb;rw[jr]at q;cases q;exact new
 ·rw[jm hb]at q
  by_cases hbe:b=e
  ·have q':H b=some (.own x):=by
    rcases he with z | z
    ·exact absurd (hbe.trans z) hb
    ·rw[hbe];exact z
   rw[q]at q';cases q';obtain⟨v,hv⟩:=heo;exact⟨v,by rw[hbe];exact hv⟩
  ·refine(ok b u q).stay (fun c v hc r=>k c v ?_ r) (fun c r=>by rw[jm (nown c b r)];exact r) fun c xs r=>by rw[jm (ntup c xs r)];exact r
   rcases hc with rfl | hc
   ·exact hbe
   ·rintro rfl
    rcases he with z | z
    ·exact nown c b hc z
    ·rw[hc]at z;cases z;exact hb rfl
end
structure Un(fs ex:List Addr)(H H':Hp)(h h':Heap):Prop where
 keep:∀b o,h.get? b=some o->H b=none->b∉fs->b∉ex->h'.get? b=some o
 slot:∀b o,h.get? b=some o->H b=none->b∈fs->b∉ex->∃sl,h'.get? b=some { o with slots:=sl }
 free:∀b o,h.get? b=some o->H b=none->b∉ex->H' b=none
 there:∀b o,h.get? b=some o->b∉ex->∃o',h'.get? b=some o'
 tups:∀b xs,H b=some (.tup xs)->H' b=some (.tup xs)
 frzs:∀b o u,H b=some (.frz o u)->H' b=some (.frz o u)
 tbls:∀b ps,H b=some (.tbl ps)->∃more,H' b=some (.tbl (ps++more))
section
variable {fs fs' ex ex':List Addr}{H H1 H2:Hp}{h h1 h2 h':Heap}{a x e:Addr}{o:HO}
theorem Un.any(u:Un fs ex H H1 h h1){b:Addr}{ob:Obj}(q:h.get? b=some ob)(n:H b=none)(hx:b∉ex):∃sl,h1.get? b=some { ob with slots:=sl }:=by
 by_cases hb:b∈fs
 ·exact u.slot b ob q n hb hx
 ·exact⟨ob.slots,u.keep b ob q n hb hx⟩
theorem Un.trans(a:Un fs ex H H1 h h1)(b:Un fs ex H1 H2 h1 h2):Un fs ex H H2 h h2 where
 keep:=fun c ob q n hc hx=>b.keep c ob (a.keep c ob q n hc hx) (a.free c ob q n hx) hc hx
 slot:=fun c ob q n hc hx=>by
  obtain⟨sl,e1⟩:=a.slot c ob q n hc hx;obtain⟨sl',e2⟩:=b.slot c _ e1 (a.free c ob q n hx) hc hx;exact⟨sl',e2⟩
 free:=fun c ob q n hx=>by
  obtain⟨o',e1⟩:=a.there c ob q hx;exact b.free c o' e1 (a.free c ob q n hx) hx
 there:=fun c ob q hx=>by
  obtain⟨o',e1⟩:=a.there c ob q hx;exact b.there c o' e1 hx
 tups:=fun c xs q=>b.tups c xs (a.tups c xs q)
 frzs:=fun c ob xs q=>b.frzs c ob xs (a.frzs c ob xs q)
 tbls:=fun c ps q=>by
  obtain⟨m1,e1⟩:=a.tbls c ps q;obtain⟨m2,e2⟩:=b.tbls c _ e1;exact⟨m1++m2,by rw[e2,Array.append_assoc]⟩
theorem Un.kept(k:∀b u,h.get? b=some u->h'.get? b=some u):Un fs ex H H h h':=
 ⟨fun b ob q _ _ _=>k b ob q,fun b ob q _ _ _=>⟨ob.slots,k b ob q⟩,fun _ _ _ n _=>n,fun b ob q _=>⟨ob,k b ob q⟩,fun _ _ q=>q,fun _ _ _ q=>q,fun _ ps q=>⟨#[],by rw[q];simp⟩⟩
theorem Un.refl:Un fs ex H H h h:=Un.kept fun _ _ q=>q
theorem Un.laid(k:∀b u,h.get? b=some u->h'.get? b=some u)(hp:h.objs.size<=a)(hn:H a=none):Un fs ex H (upd H a o) h h' where
 keep:=fun b u q _ _ _=>k b u q
 slot:=fun b u q _ _ _=>⟨u.slots,k b u q⟩
 free:=fun b u q n _=>by rw[jm (Nat.ne_of_lt (Nat.lt_of_lt_of_le (Heap.lt_size q) hp))];exact n
 there:=fun b u q _=>⟨u,k b u q⟩
 tups:=fun b xs q=>by rw[jm (j7 q hn)];exact q
 frzs:=fun b u xs q=>by rw[jm (j7 q hn)];exact q
 tbls:=fun b ps q=>⟨#[],by rw[jm (j7 q hn),q];simp⟩
theorem Un.write(mu:Mut (H x))(he:e=x∨H e=some (.own x))(k:∀b u,b≠e->h.get? b=some u->h'.get? b=some u)(heo:∃u,h'.get? e=some u):Un fs ex H (upd H x o) h h':=by
 have hx:∀b,H b=none->b≠x:=fun b n z=>by subst z;rw[n]at mu;exact mu
 have hb:∀b,H b=none->b≠e:=fun b n z=>by
  subst z;rcases he with r | r
  ·exact hx b n r
  ·rw[n]at r;cases r
 have hm:∀b u,H b=some u->¬ Mut (some u)->b≠x:=fun b u q nm z=>by subst z;rw[q]at mu;exact nm mu
 refine⟨fun b u q n _ _=>k b u (hb b n) q,fun b u q n _ _=>⟨u.slots,k b u (hb b n) q⟩,fun b u q n _=>by rw[jm (hx b n)];exact n,fun b u q _=>?_,
  fun b xs q=>by rw [jm (hm b _ q fun z=>z)]; exact q,fun b u xs q=>by rw [jm (hm b _ q fun z=>z)]; exact q,fun b ps q=>⟨#[],by rw [jm (hm b _ q fun z=>z),q]; simp⟩⟩
 by_cases hbe:b=e
 ·subst hbe;exact heo
 ·exact⟨u,k b u hbe q⟩
theorem Un.mono(u:Un fs ex H H1 h h1)(hs:∀b∈fs,b∈fs')(hx:∀b∈ex,b∈ex'):Un fs' ex' H H1 h h1:=
 ⟨fun b ob q n hb he=>u.keep b ob q n (fun z=>hb (hs b z)) fun z=>he (hx b z),fun _ _ q n _ he=>u.any q n fun z=>he (hx _ z),fun b ob q n he=>u.free b ob q n fun z=>he (hx b z),fun b ob q he=>u.there b ob q fun z=>he (hx b z),u.tups,u.frzs,u.tbls⟩
end
noncomputable def trk(h:Heap)(H:Hp):List Addr:=(List.range h.objs.size).filter fun a=>(H a).isSome
noncomputable def ZI(h:Heap)(H:Hp):Heap:=PySem.W.hideAll h (trk h H)
theorem acS(h:Heap)(H:Hp):(ZI h H).objs.size=h.objs.size:=PySem.W.hideAll_size _ _
theorem adI{h:Heap}{H:Hp}{b:Addr}{o:Obj}(e:h.get? b=some o)(n:H b=none):(ZI h H).get? b=some o:=
 PySem.W.hideAll_get _ e fun hm=>by
  have q:(H b).isSome=true:=(List.mem_filter.mp hm).2;rw[n]at q;simp at q
theorem afn{h:Heap}{H:Hp}{b:Addr}{o:Obj}(e:(ZI h H).get? b=some o):h.get? b=some o/\H b=none:=by
 have e':h.get? b=some o:=PySem.W.of_hideAll (trk h H) e;refine⟨e',?_⟩;cases q:H b with
 |none=>rfl
 | some x=>
  have hm:b∈trk h H:=List.mem_filter.mpr ⟨List.mem_range.mpr (Heap.lt_size e'),by simp[q]⟩;have z:(ZI h H).get? b=none:=PySem.W.hideAll_none (trk h H) hm;rw[z]at e;cases e
noncomputable def afo(g h:Heap)(L:Addr):List (Addr×Obj):=(List.range h.objs.size).filterMap fun a=>if a=L∨(g.get? a).isSome=true then none else (h.get? a).map fun o=>(a,o)
noncomputable def rest(g h:Heap)(L d:Addr):List (Addr×Obj):=(afo g h L).filter fun p=>decide (p.1≠d)
structure Mod(K:Fg)(mg:SV)(base:Heap):Prop where
 kin:K.In base
 glob:base.Ns mainGlobals mg
 blt:∃mb,base.Ns builtinsNs mb/\∀x:Str,x≠"__name__"->mb x=bootBuiltins x
 nolimit:base.NoLimit
structure Cx where
 prog:Program
 w:World
 K:Fg
 mg:SV
 base:Heap
 A:Around
 N:List Str
 s₀:Shared
 H₀:Hp
 env:Env
 Ko:List Env
 stack:List Env
 ex:List Addr
 fn:Str->Bool
 calm:Bool
 pn:List (Addr×Obj)
 xe:Value->SP0
noncomputable def frs(l:List Env):List Addr:=l.filterMap (·.frame)
noncomputable abbrev Cx.fs(X:Cx):List Addr:=frs X.Ko
noncomputable def Vis(sc:Scope)(x:Str):Prop:=sc.names.lookup x=some .local∨sc.names.lookup x=some .cell∨sc.names.lookup x=some .free
noncomputable def Loc(sc:Scope)(x:Str):Prop:=sc.names.lookup x=some .local∨sc.names.lookup x=some .cell
noncomputable def ai4(env:Env)(h:Heap)(m:SV)(x:Str)(u:Value):Prop:=
 (env.kindOf x=some .local/\m x=some u)∨((env.kindOf x=some .cell∨env.kindOf x=some .free)/\∃c,env.cells.lookup x=some c/\h.IsCell c (some u))
structure Cx.Ok(X:Cx):Prop where
 mod:Mod X.K X.mg X.base
 kind:X.env.scope.kind= .function
 glob:X.env.globals=mainGlobals
 blt:X.env.builtins=builtinsNs
 above:X.s₀.heap.objs.size<=X.env.locals
 inj:∀x y c,X.env.cells.lookup x=some c->X.env.cells.lookup y=some c->x=y
 has:∀x,(X.env.kindOf x=some .cell∨X.env.kindOf x=some .free)->∃c,X.env.cells.lookup x=some c
 cab:∀x c,X.fn x=true->X.env.cells.lookup x=some c->X.s₀.heap.objs.size<=c
 hd:X.calm=true->X.A.handled=none
 frames:X.A.frames=some X.stack
 stk:X.stack=X.Ko∨(X.stack=X.env::X.Ko/\X.env.frame=some X.env.locals)
 exf:∀b∈X.ex,b≠X.env.locals/\∀x c,X.env.cells.lookup x=some c->c≠b
 bs:∀b o,X.base.get? b=some o->X.s₀.heap.get? b=some o/\X.H₀ b=none
 bsz:X.base.objs.size<=X.s₀.heap.objs.size
 noex:∀b o,X.base.get? b=some o->b∉X.ex
 exfs:∀b∈X.ex,b∉X.fs
 funs:X.s₀.heap.FunFrames X.base X.Ko
 frf:∀b∈X.fs,X.H₀ b=none
structure Inv(X:Cx)(Kp:List (Addr×Obj))(σ:List (Option V))(H:Hp)(s:Shared):Prop where
 ok:X.Ok
 os:s.os=X.s₀.os
 bare:AllBare s.gens
 base:Un X.fs X.ex X.H₀ H X.s₀.heap s.heap
 loc:∃m,s.heap.Ns X.env.locals m/\∀(i:Nat) (x:Str) (v:V),X.N[i]?=some x->σ[i]?=some (some v)->Vis X.env.scope x->∃u,jO v u/\ai4 X.env s.heap m x u
 cell:∀x c,X.env.cells.lookup x=some c->∃v,s.heap.IsCell c v
 free:H X.env.locals=none
 freeC:∀x c,X.env.cells.lookup x=some c->H c=none
 pin:∀p∈X.pn++Kp,s.heap.get? p.1=some p.2/\H p.1=none/\p.1≠X.env.locals/\p.1∉X.fs/\∀v,p.2.data ≠ .cell v
 hok:HOk X.prog X.w H s.heap
 len:σ.length=X.N.length
section
variable {X:Cx}{Kp:List (Addr×Obj)}{σ:List (Option V)}{H H':Hp}{s:Shared}{h':Heap}
theorem Cx.Ok.nofr(ok:X.Ok){b:Addr}{o:Obj}(e:X.base.get? b=some o):b∉X.fs:=fun hb=>by
 have:=(ok.funs.mem hb).1;rw[e]at this;cases this
theorem Inv.bs(I:Inv X Kp σ H s):∀b o,X.base.get? b=some o->s.heap.get? b=some o/\H b=none:=fun b o e=>
 ⟨I.base.keep b o (I.ok.bs b o e).1 (I.ok.bs b o e).2 (I.ok.nofr e) (I.ok.noex b o e),I.base.free b o (I.ok.bs b o e).1 (I.ok.bs b o e).2 (I.ok.noex b o e)⟩
theorem Inv.bk(I:Inv X Kp σ H s):∀b o,X.base.get? b=some o->s.heap.get? b=some o:=fun b o e=>(I.bs b o e).1
theorem Inv.mod(I:Inv X Kp σ H s):Mod X.K X.mg X.base:=I.ok.mod
theorem Inv.kIn(I:Inv X Kp σ H s):X.K.In s.heap:=I.ok.mod.kin.keeps I.bk
theorem Inv.nolimit(I:Inv X Kp σ H s):s.heap.NoLimit:=I.ok.mod.nolimit.keeps I.bk
theorem Inv.fr(I:Inv X Kp σ H s):∃m,Fr X.base X.env.locals s.heap m:=
 let ⟨m,hn,_⟩:=I.loc
 ⟨m,hn,I.bk,Nat.le_trans I.ok.bsz I.ok.above⟩
theorem Inv.lt(I:Inv X Kp σ H s):X.env.locals<s.heap.objs.size:=let ⟨_,hn,_⟩:=I.loc;hn.lt
theorem Inv.sz(I:Inv X Kp σ H s):X.s₀.heap.objs.size<=s.heap.objs.size:=Nat.le_trans I.ok.above (Nat.le_of_lt I.lt)
theorem Inv.nofs(I:Inv X Kp σ H s){a:Addr}(h:s.heap.objs.size<=a):a∉X.fs:=fun hb=>by
 obtain⟨_,o,ho,_⟩:=I.ok.funs.mem hb;exact absurd (Nat.lt_of_lt_of_le (Heap.lt_size ho) (Nat.le_trans I.sz h)) (Nat.lt_irrefl _)
theorem Inv.cne(I:Inv X Kp σ H s):∀x c,X.env.cells.lookup x=some c->c≠X.env.locals:=fun x c e z=>by
 obtain⟨v,o,ho,hd⟩:=I.cell x c e;obtain⟨m,⟨o',es,ep,ho',hd',_⟩,_⟩:=I.loc;rw[z,ho']at ho;cases ho;rw[hd']at hd;cases hd
theorem Inv.funs(I:Inv X Kp σ H s):s.heap.FunFrames X.base X.Ko:=by
 have all:∀(l:List Env),(∀b∈frs l,b∈X.fs)->X.s₀.heap.FunFrames X.base l->s.heap.FunFrames X.base l:=by
  intro l
  induction l with
  |nil=>intro _ _;trivial
  | cons env r ih=>
   intro hs hl;obtain⟨hk,⟨L,o,hf,hn,ho,hd⟩,hr⟩:=hl;have hL:L∈X.fs:=hs L (by unfold frs;rw[List.filterMap_cons,hf];exact List.mem_cons_self);obtain⟨sl,e⟩:=I.base.slot L o ho (I.ok.frf L hL) hL fun z=>I.ok.exfs L z hL;exact⟨hk,⟨L,_,hf,hn,e,hd⟩,ih (fun b hb=>hs b (by unfold frs;rw[List.filterMap_cons,hf];exact List.mem_cons_of_mem _ hb)) hr⟩
 exact all X.Ko (fun _ hb=>hb) I.ok.funs
theorem Inv.stack(I:Inv X Kp σ H s):s.heap.FunFrames X.base X.stack:=by
 rcases I.ok.stk with e | ⟨e,hf⟩
 ·rw[e];exact I.funs
 ·rw[e]
  obtain⟨m,hn,_⟩:=I.loc;refine .cons (by rw[I.ok.kind];decide) hf hn ?_ I.funs;exact Heap.get?_none_of_le (Nat.le_trans I.ok.bsz I.ok.above)
theorem Inv.stkSub(I:Inv X Kp σ H s):∀b∈frs X.stack,b∈X.env.locals::X.fs:=fun b hb=>by
 rcases I.ok.stk with e | ⟨e,hf⟩
 ·rw[e]at hb;exact List.mem_cons_of_mem _ hb
 ·rw[e]at hb
  unfold frs at hb;rw[List.filterMap_cons,hf]at hb;exact hb
theorem Inv.stkFree(I:Inv X Kp σ H s):∀b∈frs X.stack,H b=none:=fun b hb=>by
 rcases List.mem_cons.mp (I.stkSub b hb)with e | hb
 ·rw[e];exact I.free
 ·obtain⟨_,o,ho,_⟩:=I.ok.funs.mem hb
  exact I.base.free b o ho (I.ok.frf b hb) fun z=>I.ok.exfs b z hb
theorem Inv.step{g':Array GenState}{t':Nat}{d':Drawn}{ch:List Addr}(I:Inv X Kp σ H s)
  (hch:∀b∈ch,(b∈X.ex∨X.s₀.heap.objs.size<=b)/\b≠X.env.locals/\(∀x c,X.env.cells.lookup x=some c->c≠b)/\∀p∈X.pn++Kp,p.1≠b)
  (keep:∀b o,b≠X.env.locals->b∉X.fs->b∉ch->s.heap.get? b=some o->H b=none->h'.get? b=some o)
  (slot:∀b o,b≠X.env.locals->b∈X.fs->b∉ch->s.heap.get? b=some o->H b=none->∃sl,h'.get? b=some { o with slots:=sl }) (free:∀b o,b∉ch->s.heap.get? b=some o->H b=none->H' b=none)
  (there:∀b o,b∉ch->s.heap.get? b=some o->∃o',h'.get? b=some o')
  (tups:∀b xs,H b=some (.tup xs)->H' b=some (.tup xs)) (frzs:∀b o u,H b=some (.frz o u)->H' b=some (.frz o u)) (tbls:∀b ps,H b=some (.tbl ps)->∃more,H' b=some (.tbl (ps++more)))
  (ns:∀m,s.heap.Ns X.env.locals m->h'.Ns X.env.locals m) (hok:HOk X.prog X.w H' h') (hg:AllBare g'):
  Inv X Kp σ H' { s with heap:=h',gens:=g',drawn:=d',toks:=t' }:=by
 have neL:∀b o,X.s₀.heap.get? b=some o->b≠X.env.locals:=fun b o e=>Nat.ne_of_lt (Nat.lt_of_lt_of_le (Heap.lt_size e) I.ok.above)
 have neC:∀b o,X.s₀.heap.get? b=some o->b∉X.ex->b∉ch:=fun b o e hx hb=>by
  rcases (hch b hb).1 with z | z
  ·exact hx z
  ·exact absurd (Nat.lt_of_lt_of_le (Heap.lt_size e) z) (Nat.lt_irrefl _)
 have cellK:∀x c,X.env.cells.lookup x=some c->∀v,s.heap.IsCell c v->h'.IsCell c v:=fun x c e v ⟨o,ho,hd⟩=>by
  have nch:c∉ch:=fun z=>(hch c z).2.2.1 x c e rfl;by_cases hc:c∈X.fs
  ·obtain⟨sl,q⟩:=slot c o (I.cne x c e) hc nch ho (I.freeC x c e)
   exact⟨_,q,hd⟩
  ·exact⟨o,keep c o (I.cne x c e) hc nch ho (I.freeC x c e),hd⟩
 refine⟨I.ok,I.os,hg,⟨fun b o e n hb hx=>?_,fun b o e n hb hx=>?_,fun b o e n hx=>?_,fun b o e hx=>?_,fun b xs e=>tups b xs (I.base.tups b xs e),fun b o xs e=>frzs b o xs (I.base.frzs b o xs e),fun b ps e=>?_⟩,?_,fun x c e=>?_,?_,fun x c e=>?_,fun p hp=>?_,hok,I.len⟩
 ·exact keep b o (neL b o e) hb (neC b o e hx) (I.base.keep b o e n hb hx) (I.base.free b o e n hx)
 ·obtain⟨sl,e1⟩:=I.base.slot b o e n hb hx
  obtain⟨sl',e2⟩:=slot b _ (neL b o e) hb (neC b o e hx) e1 (I.base.free b o e n hx);exact⟨sl',e2⟩
 ·obtain⟨o',e1⟩:=I.base.there b o e hx
  exact free b o' (neC b o e hx) e1 (I.base.free b o e n hx)
 ·obtain⟨o',e1⟩:=I.base.there b o e hx
  exact there b o' (neC b o e hx) e1
 ·obtain⟨m1,e1⟩:=I.base.tbls b ps e
  obtain⟨m2,e2⟩:=tbls b _ e1;exact⟨m1++m2,by rw[e2,Array.append_assoc]⟩
 ·obtain⟨m,hn,hl⟩:=I.loc
  refine⟨m,ns m hn,fun i x v e1 e2 e3=>?_⟩;obtain⟨u,r,l⟩:=hl i x v e1 e2 e3;refine⟨u,r,?_⟩;rcases l with l | ⟨k,c,e,z⟩
  ·exact .inl l
  ·exact .inr ⟨k,c,e,cellK x c e _ z⟩
 ·obtain⟨v,z⟩:=I.cell x c e
  exact⟨v,cellK x c e v z⟩
 ·obtain⟨m,⟨o,_,_,ho,_⟩,_⟩:=I.loc
  exact free _ o (fun z=>(hch _ z).2.1 rfl) ho I.free
 ·obtain⟨v,o,ho,hd⟩:=I.cell x c e
  exact free c o (fun z=>(hch c z).2.2.1 x c e rfl) ho (I.freeC x c e)
 ·obtain⟨e,n,ne,nf,d⟩:=I.pin p hp
  have nch:p.1∉ch:=fun z=>(hch p.1 z).2.2.2 p hp rfl;exact⟨keep p.1 p.2 ne nf nch e n,free p.1 p.2 nch e n,ne,nf,d⟩
theorem Inv.un{t':Nat}(I:Inv X Kp σ H s)(u:Un X.fs [] H H' s.heap h')(hok:HOk X.prog X.w H' h'):Inv X Kp σ H' { s with heap:=h',toks:=t' }:=by
 obtain⟨m,⟨o,es,ep,ho,r⟩,_⟩:=id I.loc;obtain⟨sl,hL⟩:=u.any ho I.free (by simp)
 exact I.step (g':=s.gens) (d':=s.drawn) (ch:=[]) (fun _ z=>nomatch z) (fun b o _ hb _ e n=>u.keep b o e n hb (by simp)) (fun b o _ hb _ e n=>u.slot b o e n hb (by simp)) (fun b o _ e n=>u.free b o e n (by simp)) (fun b o _ e=>u.there b o e (by simp)) u.tups u.frzs u.tbls (fun m' hm=>by
  obtain ⟨o',es',ep',ho',r'⟩:=hm;rw [ho] at ho'; cases ho';exact ⟨_,es',ep',hL,r'⟩) hok I.bare
theorem Inv.call{g':Array GenState}{t':Nat}{d':Drawn}{ch:List Addr}(I:Inv X Kp σ H s)(u:Un (frs X.stack) ch H H' s.heap h')(hok:HOk X.prog X.w H' h')(hg:AllBare g')
  (hch:∀b∈ch,(b∈X.ex∨X.s₀.heap.objs.size<=b)/\b≠X.env.locals/\(∀x c,X.env.cells.lookup x=some c->c≠b)/\∀p∈X.pn++Kp,p.1≠b):
  Inv X Kp σ H' { s with heap:=h',gens:=g',drawn:=d',toks:=t' }:=by
 obtain⟨m,⟨o,es,ep,ho,r⟩,_⟩:=id I.loc;obtain⟨sl,hL⟩:=u.any ho I.free fun z=>(hch _ z).2.1 rfl
 exact I.step (ch:=ch) hch (fun b o hL hb hc e n=>u.keep b o e n (fun z=>(List.mem_cons.mp (I.stkSub b z)).elim hL hb) hc) (fun b o _ _ hc e n=>u.any e n hc) (fun b o hc e n=>u.free b o e n hc) (fun b o hc e=>u.there b o e hc) u.tups u.frzs u.tbls (fun m' hm=>by
  obtain ⟨o',es',ep',ho',r'⟩:=hm;rw [ho] at ho'; cases ho';exact ⟨_,es',ep',hL,r'⟩) hok hg
theorem Inv.turned{t':Nat}{it:Addr}(I:Inv X Kp σ H s)(k:∀b o,b≠it->s.heap.get? b=some o->h'.get? b=some o)(hn:H it=none)(hL:it≠X.env.locals)
  (h1:it∈X.ex∨X.s₀.heap.objs.size<=it) (h2:∀x c,X.env.cells.lookup x=some c->c≠it) (h3:∀p∈X.pn++Kp,p.1≠it):Inv X Kp σ H { s with heap:=h',toks:=t' }:=by
 have nit:∀b u,H b=some u->b≠it:=fun b u e z=>by rw[z,hn]at e;cases e
 refine I.step (g':=s.gens) (d':=s.drawn) (ch:=[it]) (fun b hb=>?_) (fun b o _ _ hc e _=>k b o (fun z=>hc (by simp[z])) e) (fun b o _ _ hc e _=>⟨o.slots,k b o (fun z=>hc (by simp[z])) e⟩) (fun _ _ _ _ n=>n)
  (fun b o hc e=>⟨o,k b o (fun z=>hc (by simp[z])) e⟩) (fun _ _ e=>e) (fun _ _ _ e=>e) (fun b ps e=>⟨#[],by rw[e];simp⟩) (fun m hm=>?_) (fun b u e=>?_) I.bare
 ·have e:b=it:=by simpa using hb
  subst e;exact⟨h1,hL,h2,h3⟩
 ·obtain⟨o,es,ep,ho,r⟩:=hm
  exact⟨o,es,ep,k _ o (Ne.symm hL) ho,r⟩
 ·refine(I.hok b u e).stay (fun c v hc q=>k c v ?_ q) (fun _ q=>q) fun _ _ q=>q
  rcases hc with z | z
  ·rw[z];exact nit b u e
  ·exact nit c _ z
theorem Inv.tok(I:Inv X Kp σ H s)(t:Nat):Inv X Kp σ H { s with toks:=t }:=I.un (h':=s.heap) (t':=t) Un.refl I.hok
theorem Inv.kept{t':Nat}(I:Inv X Kp σ H s)(k:∀b u,s.heap.get? b=some u->h'.get? b=some u):Inv X Kp σ H { s with heap:=h',toks:=t' }:=I.un (Un.kept k) (I.hok.kept k)
theorem Inv.laid{a:Addr}{o:HO}{t':Nat}(I:Inv X Kp σ H s)(k:∀b u,s.heap.get? b=some u->h'.get? b=some u)(hp:s.heap.objs.size<=a)(new:qw X.prog X.w (upd H a o) h' a o):
  Inv X Kp σ (upd H a o) { s with heap:=h',toks:=t' }:=I.un (Un.laid k hp (I.hok.fresh hp)) (I.hok.laid k hp new)
theorem Inv.write{x e:Addr}{o:HO}{t':Nat}(I:Inv X Kp σ H s)(mu:Mut (H x))(he:e=x∨H e=some (.own x))(k:∀b u,b≠e->s.heap.get? b=some u->h'.get? b=some u)(heo:∃u,h'.get? e=some u)
  (new:qw X.prog X.w (upd H x o) h' x o):Inv X Kp σ (upd H x o) { s with heap:=h',toks:=t' }:=I.un (Un.write mu he k heo) (I.hok.write mu he k heo new)
theorem Inv.pins_of{pins':List (Addr×Obj)}(I:Inv X Kp σ H s)(h:∀p∈pins',s.heap.get? p.1=some p.2/\H p.1=none/\p.1≠X.env.locals/\p.1∉X.fs/\∀v,p.2.data ≠ .cell v):Inv X pins' σ H s:=
 ⟨I.ok,I.os,I.bare,I.base,I.loc,I.cell,I.free,I.freeC,fun p hp=>(List.mem_append.mp hp).elim (fun z=>I.pin p (List.mem_append_left _ z)) (h p),I.hok,I.len⟩
theorem aat{N:List Str}(hN:N.Nodup){i j:Nat}{x:Str}(a:N[i]?=some x)(b:N[j]?=some x):i=j:=by
 obtain⟨h1,e1⟩:=List.getElem?_eq_some_iff.mp a;obtain⟨h2,e2⟩:=List.getElem?_eq_some_iff.mp b;exact(List.getElem_inj hN).mp (e1.trans e2.symm)
theorem Zj{M:Model}{A:Around}{E:Value->SP0}{i:Nat}{x:Str}{v:V}{u:Value}{Q:Unit->SP0}(I:Inv X Kp σ H s)(hN:X.N.Nodup)(hi:X.N[i]?=some x)(hx:Loc X.env.scope x)(r:jO v u)
  (h:∀s',Inv X Kp (σ.set i (some v)) H s'->(∃a,Heap.SameBut a s.heap s'.heap/\(a=X.env.locals∨X.env.cells.lookup x=some a))->Q () s') (hf:X.fn x=true∨X.env.scope.names.lookup x=some .local:=by first|exact .inl rfl|exact .inr rfl|assumption):wpAny M A (storeName X.env x u) Q E s:=by
 obtain⟨m,hn,hl⟩:=id I.loc;have hcls:(X.env.scope.kind == .class||(X.env.scope.kind == .module&&X.env.locals != X.env.globals))=false:=by rw[I.ok.kind];rfl
 have hiσ:i < σ.length:=by rw[I.len];exact(List.getElem?_eq_some_iff.mp hi).1
 have cne:=I.cne
 have tracked:∀{a:Addr} {h':Heap},(∃o,s.heap.get? a=some o/\H a=none)->Heap.SameBut a s.heap h'->HOk X.prog X.w H h':=fun {a h'} ha hs b ob e=>by
  obtain⟨_,_,hfree⟩:=ha;refine(I.hok b ob e).stay (fun c w' hc q=>(hs.2 c ?_).trans q) (fun _ q=>q) fun _ _ q=>q
  rintro rfl
  rcases hc with rfl | hc
  ·rw[hfree]at e;cases e
  ·rw[hfree]at hc;cases hc
 rcases hx with hk | hk
 ·refine wpAny_storeName_local hk hn (fun h' hn' hs=>?_) hcls
  obtain⟨oL,_,_,hoL,_⟩:=id hn;refine h _ ⟨I.ok,I.os,I.bare,⟨fun b o e n hb hx=>?_,fun b o e n hb hx=>?_,I.base.free,fun b o e hx=>?_,I.base.tups,I.base.frzs,I.base.tbls⟩,⟨_,hn',fun j y v' e1 e2 e3=>?_⟩,fun y c e=>?_,I.free,I.freeC,fun p hp=>?_,tracked ⟨oL,hoL,I.free⟩ hs,by simpa using I.len⟩ ⟨_,hs,.inl rfl⟩
  ·exact(hs.2 b (Nat.ne_of_lt (Nat.lt_of_lt_of_le (Heap.lt_size e) I.ok.above))).trans (I.base.keep b o e n hb hx)
  ·obtain⟨sl,e1⟩:=I.base.slot b o e n hb hx
   exact⟨sl,(hs.2 b (Nat.ne_of_lt (Nat.lt_of_lt_of_le (Heap.lt_size e) I.ok.above))).trans e1⟩
  ·obtain⟨o',e1⟩:=I.base.there b o e hx
   exact⟨o',(hs.2 b (Nat.ne_of_lt (Nat.lt_of_lt_of_le (Heap.lt_size e) I.ok.above))).trans e1⟩
  ·by_cases hj:j=i
   ·subst hj
    rw[hi]at e1;cases e1;rw[List.getElem?_set_self hiσ]at e2;cases e2;exact⟨u,r,.inl ⟨hk,by simp⟩⟩
   ·rw[List.getElem?_set_ne (Ne.symm hj)]at e2
    obtain⟨u',r',q⟩:=hl j y v' e1 e2 e3;refine⟨u',r',?_⟩;rcases q with ⟨k,e⟩ | ⟨k,c,e,z⟩
    ·refine .inl ⟨k,?_⟩
     have:y≠x:=fun e=>hj (aat hN e1 (e▸hi));simp[this,e]
    ·exact .inr ⟨k,c,e,z.sameBut hs (cne y c e)⟩
  ·obtain⟨w',z⟩:=I.cell y c e
   exact⟨w',z.sameBut hs (cne y c e)⟩
  ·obtain⟨e,n,ne,nf,d⟩:=I.pin p hp
   exact⟨(hs.2 p.1 ne).trans e,n,ne,nf,d⟩
 ·have hfn:X.fn x=true:=by
   rcases hf with z | z
   ·exact z
   ·rw[z]at hk;cases hk
  obtain⟨c,hc⟩:=I.ok.has x (.inl hk);obtain⟨w',z⟩:=I.cell x c hc;refine wpAny_storeName_cell I.ok.kind hk hc z (fun h' hc' hs=>?_);obtain⟨oc,hoc,hocd⟩:=id z;refine h { s with heap:=h' } ⟨I.ok,I.os,I.bare,⟨fun b o e n hb hx=>?_,fun b o e n hb hx=>?_,I.base.free,fun b o e hx=>?_,I.base.tups,I.base.frzs,I.base.tbls⟩,⟨m,hn.sameBut hs (Ne.symm (cne x c hc)),fun j y v' e1 e2 e3=>?_⟩,fun y c' e=>?_,I.free,I.freeC,fun p hp=>?_,tracked ⟨oc,hoc,I.freeC x c hc⟩ hs,by simpa using I.len⟩ ⟨c,hs,.inr hc⟩
  ·exact(hs.2 b (Nat.ne_of_lt (Nat.lt_of_lt_of_le (Heap.lt_size e) (I.ok.cab x c hfn hc)))).trans (I.base.keep b o e n hb hx)
  ·obtain⟨sl,e1⟩:=I.base.slot b o e n hb hx
   exact⟨sl,(hs.2 b (Nat.ne_of_lt (Nat.lt_of_lt_of_le (Heap.lt_size e) (I.ok.cab x c hfn hc)))).trans e1⟩
  ·obtain⟨o',e1⟩:=I.base.there b o e hx
   exact⟨o',(hs.2 b (Nat.ne_of_lt (Nat.lt_of_lt_of_le (Heap.lt_size e) (I.ok.cab x c hfn hc)))).trans e1⟩
  ·by_cases hj:j=i
   ·subst hj
    rw[hi]at e1;cases e1;rw[List.getElem?_set_self hiσ]at e2;cases e2;exact⟨u,r,.inr ⟨.inl hk,c,hc,hc'⟩⟩
   ·rw[List.getElem?_set_ne (Ne.symm hj)]at e2
    obtain⟨u',r',q⟩:=hl j y v' e1 e2 e3;refine⟨u',r',?_⟩;rcases q with q | ⟨k,c',e,z'⟩
    ·exact .inl q
    ·refine .inr ⟨k,c',e,z'.sameBut hs ?_⟩
     rintro rfl
     exact hj (aat hN e1 (I.ok.inj _ _ _ e hc▸hi))
  ·by_cases hcc:c'=c
   ·subst hcc;exact⟨_,hc'⟩
   ·obtain⟨w2,z2⟩:=I.cell y c' e
    exact⟨w2,z2.sameBut hs hcc⟩
  ·obtain⟨e,n,ne,nf,d⟩:=I.pin p hp
   refine⟨(hs.2 p.1 ?_).trans e,n,ne,nf,d⟩;intro q;rw[q,hoc]at e;have q':oc=p.2:=Option.some.inj e;exact d w' (by rw[←q'];exact hocd)
theorem aau{M:Model}{A:Around}{E:Value->SP0}{i:Nat}{x:Str}{v:V}{u:Value}{Q:Unit->SP0}(I:Inv X Kp σ H s)(hN:X.N.Nodup)(hi:X.N[i]?=some x)(hx:Loc X.env.scope x)(r:jO v u)
  (h:∀s',Inv X Kp (σ.set i (some v)) H s'->Q () s') (hf:X.fn x=true∨X.env.scope.names.lookup x=some .local:=by first|exact .inl rfl|exact .inr rfl|assumption):wpAny M A (storeName X.env x u) Q E s:=
 Zj I hN hi hx r (fun s' I' _=>h s' I') hf
theorem Inv.call'{s':Shared}{ch:List Addr}(I:Inv X Kp σ H s)(ho:s'.os=s.os)(u:Un (frs X.stack) ch H H' s.heap s'.heap)(hok:HOk X.prog X.w H' s'.heap)(hg:AllBare s'.gens)
  (hch:∀b∈ch,(b∈X.ex∨X.s₀.heap.objs.size<=b)/\b≠X.env.locals/\(∀x c,X.env.cells.lookup x=some c->c≠b)/\∀p∈X.pn++Kp,p.1≠b):Inv X Kp σ H' s':=by
 obtain⟨h',g',d',t',o'⟩:=s';have e:o'=s.os:=ho;subst e;exact I.call (g':=g') (t':=t') (d':=d') u hok hg hch
end
noncomputable abbrev XK:=Value->Option Addr->Hp->Prop
noncomputable abbrev St:=List (Option V)
noncomputable abbrev VK:=V->Hp->Prop
noncomputable abbrev TE:=St->Hp->VK->Prop
noncomputable abbrev TT:=St->Hp->(Bool->Hp->Prop)->Prop
noncomputable abbrev TA:=St->Hp->(List V->Hp->Prop)->Prop
structure Ends where
 nx:St->Hp->Prop
 rt:VK
 bk:St->Hp->Prop:=fun _ _=>False
 ct:St->Hp->Prop:=fun _ _=>False
noncomputable abbrev TS:=Ends->St->Hp->Prop
noncomputable def EP(X:Cx)(Kp:List (Addr×Obj))(σ:St)(Q:VK)(u:Value)(s':Shared):Prop:=∃v H',Inv X Kp σ H' s'/\jO v u/\Q v H'
noncomputable def TP(X:Cx)(Kp:List (Addr×Obj))(σ:St)(Q:Bool->Hp->Prop)(b:Bool)(s':Shared):Prop:=∃H',Inv X Kp σ H' s'/\Q b H'
noncomputable def AP(X:Cx)(Kp:List (Addr×Obj))(σ:St)(Q:List V->Hp->Prop)(us:List Value)(s':Shared):Prop:=∃vs H',Inv X Kp σ H' s'/\jx vs us/\Q vs H'
noncomputable def SP(X:Cx)(Kp:List (Addr×Obj))(D:Ends)(f:Flow)(s':Shared):Prop:=
 match f with
 |.next=>∃σ' H',Inv X Kp σ' H' s'/\D.nx σ' H'
 |.brk=>∃σ' H',Inv X Kp σ' H' s'/\D.bk σ' H'
 |.cont=>∃σ' H',Inv X Kp σ' H' s'/\D.ct σ' H'
 |.ret u=>∃v σ' H',Inv X Kp σ' H' s'/\jO v u/\D.rt v H'
noncomputable def PE(X:Cx)(e:Expr)(t:TE):Prop:=
 ∀(Kp:List (Addr×Obj)) (s:Shared) (σ:St) (H:Hp) (Q:VK),Inv X Kp σ H s->t σ H Q->wpAny (model X.prog X.w) X.A (eval e X.env) (EP X Kp σ Q) X.xe s
noncomputable def PT(X:Cx)(e:Expr)(t:TT):Prop:=
 ∀(Kp:List (Addr×Obj)) (s:Shared) (σ:St) (H:Hp) (Q:Bool->Hp->Prop),Inv X Kp σ H s->t σ H Q->wpAny (model X.prog X.w) X.A (isTrue e X.env (eval e X.env)) (TP X Kp σ Q) X.xe s
noncomputable def PW(X:Cx)(e:Expr)(t:TT):Prop:=
 ∀(whole:Sem Value) (Kp:List (Addr×Obj)) (s:Shared) (σ:St) (H:Hp) (Q:Bool->Hp->Prop),Inv X Kp σ H s->t σ H Q->wpAny (model X.prog X.w) X.A (isTrue e X.env whole) (TP X Kp σ Q) X.xe s
theorem PW.pt{X:Cx}{e:Expr}{t:TT}(h:PW X e t):PT X e t:=h _
noncomputable def PA(X:Cx)(es:List Expr)(t:TA):Prop:=
 ∀(pos:Pos) (Kp:List (Addr×Obj)) (s:Shared) (σ:St) (H:Hp) (Q:List V->Hp->Prop),Inv X Kp σ H s->t σ H Q->wpAny (model X.prog X.w) X.A (spliced (backTo pos (starEach es X.env))) (AP X Kp σ Q) X.xe s
noncomputable def PS(X:Cx)(st:Stmt)(t:TS):Prop:=
 ∀(Kp:List (Addr×Obj)) (s:Shared) (σ:St) (H:Hp) (D:Ends),Inv X Kp σ H s->t D σ H->wpAny (model X.prog X.w) X.A (exec st X.env) (SP X Kp D) X.xe s
noncomputable def PSs(X:Cx)(st:List Stmt)(t:TS):Prop:=
 ∀(Kp:List (Addr×Obj)) (s:Shared) (σ:St) (H:Hp) (D:Ends),Inv X Kp σ H s->t D σ H->wpAny (model X.prog X.w) X.A (execs st X.env) (SP X Kp D) X.xe s
theorem thn{α:Type}{t:Sem α}{Q Q':α->SP0}{M:Model}{A:Around}{E:Value->SP0}{s:Shared}(h:wpAny M A t Q E s)(hQ:∀a s,Q a s->Q' a s):wpAny M A t Q' E s:=wpAny_mono h hQ fun _ _ x=>x
section
variable {X:Cx}
noncomputable def ah8(i:Nat):TE:=fun σ H Q=>∃v,σ[i]?=some (some v)/\Q v H
noncomputable def tC(v:V):TE:=fun _ H Q=>Q v H
theorem abq{i:Nat}{x:Str}{pos:Pos}(hN:X.N[i]?=some x)(hv:Vis X.env.scope x)(hd:(x==("__debug__":Str))=false:=by decide)(hcd:(x==("__classdict__":Str))=false:=by decide):PE X (.Name x pos) (ah8 i):=by
 intro Kp s σ H Q I h;obtain⟨v,e,h⟩:=h;obtain⟨m,hn,hl⟩:=I.loc;obtain⟨u,r,l⟩:=hl i x v hN e hv;have fin:EP X Kp σ Q u s:=⟨v,H,I,r,h⟩;rcases l with ⟨hk,hm⟩ | ⟨hk,c,hc,hcell⟩
 ·exact wpAny_Name (wpAny_loadName_local I.ok.kind hk hn hm fin) hd
 ·rcases hk with hk | hk
  ·exact wpAny_Name (wpAny_loadName_cell I.ok.kind hk hc hcell fin) hd
  ·exact wpAny_Name (wpAny_loadName_free I.ok.kind hk hc hcell fin hcd) hd
theorem ag0{i j pos}:PE X (.Constant (.int i) j pos) (tC (.int i)):=fun _ _ _ H _ I h=>wpAny_Constant_int ⟨.int i,H,I.tok _,⟨_,rfl⟩,h⟩
theorem ah9{b j pos}:PE X (.Constant (.bool b) j pos) (tC (.bl b)):=fun _ _ _ H _ I h=>Constant_bool ⟨.bl b,H,I,rfl,h⟩
theorem ag1{j pos}:PE X (.Constant .none j pos) (tC .non):=fun _ _ _ H _ I h=>Constant_none ⟨.non,H,I,rfl,h⟩
theorem ag2{x j pos}:PE X (.Constant (.str x) j pos) (tC (.str x)):=fun _ _ _ H _ I h=>Calls.Constant_str ⟨.str x,H,I.tok _,⟨_,rfl⟩,h⟩
noncomputable def Gl(X:Cx)(x:Str):Prop:=X.env.kindOf x=some .globalImplicit
theorem ab9{E:Value->SP0}{Kp:List (Addr×Obj)}{s:Shared}{σ:St}{H:Hp}{x:Str}{u:Value}{pos:Pos}{Q:Value->SP0}(I:Inv X Kp σ H s)(hg:Gl X x)(hm:X.mg x=some u)(h:Q u s)
  (hd:(x==("__debug__":Str))=false:=by decide):wpAny (model X.prog X.w) X.A (eval (.Name x pos) X.env) Q E s:=
 Calls.Name_function_global I.ok.kind hg (Calls.loadGlobal_global (by rw[I.ok.glob];exact I.mod.glob.keeps I.bk) hm h) hd
theorem QG{E:Value->SP0}{Kp:List (Addr×Obj)}{s:Shared}{σ:St}{H:Hp}{x:Str}{u:Value}{pos:Pos}{Q:Value->SP0}(I:Inv X Kp σ H s)(hg:Gl X x)(hm:X.mg x=none)(hv:bootBuiltins x=some u)(h:Q u s)
  (hn:x≠"__name__":=by decide) (hd:(x==("__debug__":Str))=false:=by decide):wpAny (model X.prog X.w) X.A (eval (.Name x pos) X.env) Q E s:=by
 obtain⟨mb,h1,h2⟩:=I.mod.blt;exact Calls.Name_function_global I.ok.kind hg (Calls.loadGlobal_builtin (by rw[I.ok.glob];exact I.mod.glob.keeps I.bk) hm (by rw[I.ok.blt];exact h1.keeps I.bk) ((h2 x hn).trans hv) h) hd
theorem afp{x:Str}{v:V}{u:Value}{pos:Pos}(hg:Gl X x)(hm:X.mg x=some u)(r:jO v u)(hd:(x==("__debug__":Str))=false:=by decide):PE X (.Name x pos) (tC v):=
 fun _ _ _ H _ I h=>ab9 I hg hm ⟨v,H,I,r,h⟩ hd
theorem aca{x:Str}{v:V}{u:Value}{pos:Pos}(hg:Gl X x)(hm:X.mg x=none)(hv:bootBuiltins x=some u)(r:jO v u)(hn:x≠"__name__":=by decide)(hd:(x==("__debug__":Str))=false:=by decide):PE X (.Name x pos) (tC v):=
 fun _ _ _ H _ I h=>QG I hg hm hv ⟨v,H,I,r,h⟩ hn hd
variable {a b:Expr}{ta tb:TE}{pos:Pos}
noncomputable def tB(t:TE):TT:=fun σ H Q=>t σ H fun x H1=>∃c,x= .bl c/\Q c H1
theorem ag3{e:Expr}{t:TE}(h:PE X e t)(he:∀whole,isTrue e X.env whole=(do let v ←whole;standAt e.pos;holding [v] (truthy v)):=by intro _;rfl):PT X e (tB t):=by
 intro Kp s σ H Q I hw;refine isTrue_plain (thn (h Kp s σ H _ I hw) fun v s1 ⟨x,H1,I1,r1,q1⟩=>?_) (he _);obtain⟨d,rfl,q⟩:=q1;cases r1;exact wpAny_truthy_bool ⟨H1,I1,q⟩
variable {tA tB':TT}{rest:List Expr}
noncomputable def ai5(t u:TT):TT:=fun σ H Q=>t σ H fun c H1=>if c=true then u σ H1 Q else Q false H1
noncomputable def tOr(t u:TT):TT:=fun σ H Q=>t σ H fun c H1=>if c=true then Q true H1 else u σ H1 Q
noncomputable def ai6(t:TT):TT:=fun σ H Q=>t σ H fun c H1=>Q (!c) H1
theorem afq(ha:PT X a tA):PW X (.BoolOp .And [a] pos) tA:=by
 intro wh Kp s σ H Q I h;refine isTrue_and (thn (ha Kp s σ H Q I h) fun c s1 e=>?_);cases c with
 |true=>exact isTrue_and_nil e
 |false=>exact e
theorem ag4(ha:PT X a tA):PW X (.BoolOp .Or [a] pos) tA:=by
 intro wh Kp s σ H Q I h;refine isTrue_or (thn (ha Kp s σ H Q I h) fun c s1 e=>?_);cases c with
 |false=>exact isTrue_or_nil e
 |true=>exact e
theorem ag5(ha:PT X a tA)(hb:PW X (.BoolOp .And (b::rest) pos) tB'):PW X (.BoolOp .And (a::b::rest) pos) (ai5 tA tB'):=by
 intro wh Kp s σ H Q I h;refine isTrue_and (thn (ha Kp s σ H _ I h) fun c s1 ⟨H1,I1,q1⟩=>?_);cases c with
 |true=>exact hb wh Kp s1 σ H1 Q I1 q1
 |false=>exact⟨H1,I1,q1⟩
theorem aia(ha:PT X a tA)(hb:PW X (.BoolOp .Or (b::rest) pos) tB'):PW X (.BoolOp .Or (a::b::rest) pos) (tOr tA tB'):=by
 intro wh Kp s σ H Q I h;refine isTrue_or (thn (ha Kp s σ H _ I h) fun c s1 ⟨H1,I1,q1⟩=>?_);cases c with
 |true=>exact⟨H1,I1,q1⟩
 |false=>exact hb wh Kp s1 σ H1 Q I1 q1
theorem ag6(ha:PT X a tA):PT X (.UnaryOp .Not a pos) (ai6 tA):=by
 intro Kp s σ H Q I h;exact isTrue_not (ha Kp s σ H (fun c H1=>Q (!c) H1) I h)
noncomputable def aib(ta tb:TE):TE:=fun σ H Q=>ta σ H fun x H1=>∃c,x= .bl c/\if c=true then tb σ H1 Q else Q (.bl false) H1
theorem ag7{op}{t:TE}(h:PE X a t):PE X (.BoolOp op [a] pos) t:=fun Kp s σ H Q I hw=>BoolOp_one (h Kp s σ H Q I hw)
theorem ag8(ha:PE X a ta)(hb:PE X (.BoolOp .And (b::rest) pos) tb):PE X (.BoolOp .And (a::b::rest) pos) (aib ta tb):=by
 intro Kp s σ H Q I h;refine BoolOp_and (thn (ha Kp s σ H _ I h) fun v s1 ⟨x,H1,I1,r1,q1⟩=>?_);obtain⟨c,rfl,q1⟩:=q1;cases r1;refine wpAny_truthy_bool ?_;cases c with
 |true=>exact hb Kp s1 σ H1 Q I1 q1
 |false=>exact⟨.bl false,H1,I1,rfl,q1⟩
end
noncomputable def SqL(K:Fg)(H:Hp)(a:Addr)(xs:List V):Prop:=
 Rd H a (.lst xs) ∨
  ∃(o:Obj) (its:Array Value) (n:Nat),K.lookup a=some o/\o.cls= .type "list"/\o.dict=none/\o.data= .seq its n/\its.size<=sizeLine/\jx xs its.toList
noncomputable def SqT(K:Fg)(H:Hp)(a:Addr)(xs:List V):Prop:=
 Rd H a (.tup xs) ∨
  ∃(o:Obj) (its:Array Value) (n:Nat),K.lookup a=some o/\o.cls= .type "tuple"/\o.data= .seq its n/\its.size<=sizeLine/\jx xs its.toList
noncomputable def ai7:Value->Option V
 |.none=>some .non
 |.bool b=>some (.bl b)
 |.int i _=>some (.int i)
 |.str x _=>some (.str x)
 |.bytes b _=>some (.byt b)
 |.float b _=>some (.flt b)
 |.ref a=>some (.ref a)
 |.type n=>some (.ty n)
 |_=>none
theorem jO.abs{x:V}{u:Value}(r:jO x u):ai7 u=some x:=by
 cases x with
 |non=>cases r;rfl
 |bl _=>cases r;rfl
 |int _=>obtain⟨t,rfl⟩:=r;rfl
 |str _=>obtain⟨t,rfl⟩:=r;rfl
 |byt _=>obtain⟨t,rfl⟩:=r;rfl
 |flt _=>obtain⟨t,rfl⟩:=r;rfl
 |ref _=>cases r;rfl
 |ty _=>cases r;rfl
theorem jO.inj{x y:V}{u:Value}(r:jO x u)(q:jO y u):x=y:=Option.some.inj (r.abs.symm.trans q.abs)
theorem jx.inj:∀{xs ys:List V}{us:List Value},jx xs us->jx ys us->xs=ys
 |_,_,_,.nil,.nil=>rfl
 |_,_,_,.cons r t,.cons r' t'=>by rw[r.inj r',jx.inj t t']
section
variable {X:Cx}{Kp:List (Addr×Obj)}{σ:St}{H:Hp}{s:Shared}{a:Addr}{xs ys:List V}
theorem SqL.of{K:Fg}(h:H a=some (.lst xs)):SqL K H a xs:= .inl (.inl h)
theorem SqT.of{K:Fg}(h:H a=some (.tup xs)):SqT K H a xs:= .inl (.inl h)
theorem Inv.list(I:Inv X Kp σ H s)(h:SqL X.K H a xs):∃its:List Value,jx xs its/\PlainL s.heap a its.toArray/\xs.length<=sizeLine:=by
 rcases h with h | ⟨o,its,n,hk,hc,hd,hs,hz,r⟩
 ·obtain⟨z,its,n,r,e⟩:=h.ok I.hok
  exact⟨its,r,⟨_,n,e,rfl,rfl,rfl⟩,z⟩
 ·refine⟨its.toList,r,⟨o,n,I.kIn a o hk,hc,hd,by simpa using hs⟩,?_⟩
  have e:=r.length;simp only[Array.length_toList]at e;omega
theorem Inv.tuple(I:Inv X Kp σ H s)(h:SqT X.K H a xs):∃its:List Value,jx xs its/\IsTup s.heap a its.toArray/\xs.length<=sizeLine:=by
 rcases h with h | ⟨o,its,n,hk,hc,hs,hz,r⟩
 ·obtain⟨z,its,r,p⟩:=h.ok I.hok
  exact⟨its,r,p,z⟩
 ·refine⟨its.toList,r,⟨o,I.kIn a o hk,hc,n,by simpa using hs⟩,?_⟩
  have e:=r.length;simp only[Array.length_toList]at e;omega
theorem Inv.list_inj(I:Inv X Kp σ H s)(h:SqL X.K H a xs)(h':SqL X.K H a ys):xs=ys:=by
 obtain⟨its,r,⟨o,n,e,_,_,d⟩,_⟩:=I.list h;obtain⟨its',r',⟨o',n',e',_,_,d'⟩,_⟩:=I.list h';rw[e]at e';cases e';rw[d]at d';injection d' with d1 _
 have:its=its':=by simpa using congrArg Array.toList d1
 subst this;exact r.inj r'
theorem Inv.tuple_inj(I:Inv X Kp σ H s)(h:SqT X.K H a xs)(h':SqT X.K H a ys):xs=ys:=by
 obtain⟨its,r,⟨o,e,_,n,d⟩,_⟩:=I.tuple h;obtain⟨its',r',⟨o',e',_,n',d'⟩,_⟩:=I.tuple h';rw[e]at e';cases e';rw[d]at d';injection d' with d1 _
 have:its=its':=by simpa using congrArg Array.toList d1
 subst this;exact r.inj r'
end
noncomputable abbrev Cx.wish(X:Cx)(E:Value->SP0):Cx:={ X with xe:=E }
noncomputable abbrev Cx.nox(X:Cx):Cx:=X.wish fun _ _=>False
theorem Cx.Ok.wish{X:Cx}(ok:X.Ok)(E:Value->SP0):(X.wish E).Ok:=
 ⟨ok.mod,ok.kind,ok.glob,ok.blt,ok.above,ok.inj,ok.has,ok.cab,ok.hd,ok.frames,ok.stk,ok.exf,ok.bs,ok.bsz,ok.noex,ok.exfs,ok.funs,ok.frf⟩
theorem Cx.Ok.unwish{X:Cx}{E:Value->SP0}(ok:(X.wish E).Ok):X.Ok:=
 ⟨ok.mod,ok.kind,ok.glob,ok.blt,ok.above,ok.inj,ok.has,ok.cab,ok.hd,ok.frames,ok.stk,ok.exf,ok.bs,ok.bsz,ok.noex,ok.exfs,ok.funs,ok.frf⟩
section
variable {X:Cx}{Kp:List (Addr×Obj)}{σ:St}{H:Hp}{s:Shared}{E:Value->SP0}
theorem Inv.wish(I:Inv X Kp σ H s)(E:Value->SP0):Inv (X.wish E) Kp σ H s:=⟨I.ok.wish E,I.os,I.bare,I.base,I.loc,I.cell,I.free,I.freeC,I.pin,I.hok,I.len⟩
theorem Inv.unwish(I:Inv (X.wish E) Kp σ H s):Inv X Kp σ H s:=⟨I.ok.unwish,I.os,I.bare,I.base,I.loc,I.cell,I.free,I.freeC,I.pin,I.hok,I.len⟩
theorem SP.unwish{D:Ends}{f:Flow}{s':Shared}(h:SP (X.wish E) Kp D f s'):SP X Kp D f s':=by
 cases f with
 |next=>obtain⟨σ',H',I,q⟩:=h;exact⟨σ',H',I.unwish,q⟩
 |brk=>obtain⟨σ',H',I,q⟩:=h;exact⟨σ',H',I.unwish,q⟩
 |cont=>obtain⟨σ',H',I,q⟩:=h;exact⟨σ',H',I.unwish,q⟩
 |ret u=>obtain⟨v,σ',H',I,r,q⟩:=h;exact⟨v,σ',H',I.unwish,r,q⟩
theorem PE.nox{e:Expr}{t:TE}(h:PE X.nox e t):PE X e t:=fun Kp s σ H Q I hw=>
 wpAny_mono (h Kp s σ H Q (I.wish _) hw) (fun _ _ ⟨v,H',I',r,q⟩=>⟨v,H',I'.unwish,r,q⟩) fun _ _ z=>False.elim z
theorem PT.nox{e:Expr}{t:TT}(h:PT X.nox e t):PT X e t:=fun Kp s σ H Q I hw=>
 wpAny_mono (h Kp s σ H Q (I.wish _) hw) (fun _ _ ⟨H',I',q⟩=>⟨H',I'.unwish,q⟩) fun _ _ z=>False.elim z
theorem PSs.nox{st:List Stmt}{t:TS}(h:PSs X.nox st t):PSs X st t:=fun Kp s σ H D I hw=>
 wpAny_mono (h Kp s σ H D (I.wish _) hw) (fun _ _ q=>q.unwish) fun _ _ z=>False.elim z
end
section
variable {X:Cx}{st:Stmt}{rest:List Stmt}{t u:TS}{e:Expr}{te:TE}{pos:Pos}
noncomputable def aic:TS:=fun D σ H=>D.nx σ H
noncomputable def ai8(t u:TS):TS:=fun D σ H=>t { D with nx:=u D } σ H
theorem acb:PSs X [] aic:=fun _ _ σ H _ I h=>wpAny_execs_nil ⟨σ,H,I,h⟩
theorem zO(h1:PS X st t)(h2:PSs X rest u):PSs X (st::rest) (ai8 t u):=by
 intro Kp s σ H D I h;refine wpAny_execs_cons (thn (h1 Kp s σ H { D with nx:=u D } I h) fun f s1 q=>?_);cases f with
 | next=>
  obtain⟨σ',H',I',q⟩:=q;exact h2 Kp s1 σ' H' D I' q
 |ret v=>exact q
 |brk=>exact q
 |cont=>exact q
theorem ZJ(h1:PS X st t):PSs X [st] t:=by
 intro Kp s σ H D I h;refine wpAny_execs_cons (thn (h1 Kp s σ H D I h) fun f s1 q=>?_);cases f with
 |next=>exact wpAny_execs_nil q
 |ret v=>exact q
 |brk=>exact q
 |cont=>exact q
theorem Inv.quiet{Kp:List (Addr×Obj)}{σ:St}{H:Hp}{s:Shared}(I:Inv X Kp σ H s):interactive X.env=false:=by simp[interactive,I.ok.kind]
noncomputable def aid(te:TE):TS:=fun D σ H=>te σ H fun _ H1=>D.nx σ H1
theorem ZK(he:PE X e te)(hs:swapsWith e none pos.line X.env=pure false:=by rfl):PS X (.Expr e pos) (aid te):=by
 intro Kp s σ H D I h;exact wpAny_Expr_any (thn (he Kp s σ H _ I h) fun v s1 ⟨x,H1,I1,r1,q1⟩=>⟨σ,H1,I1,q1⟩) I.quiet hs
noncomputable def ai9(te:TE):TS:=fun D σ H=>te σ H D.rt
theorem abr(he:PE X e te):PS X (.Return (some e) pos) (ai9 te):=by
 intro Kp s σ H D I h;exact wpAny_Return_some (thn (he Kp s σ H _ I h) fun v s1 ⟨x,H1,I1,r1,q1⟩=>⟨x,σ,H1,I1,r1,q1⟩)
noncomputable def aja(c:TT)(t u:TS):TS:=fun D σ H=>c σ H fun b H1=>if b=true then t D σ H1 else u D σ H1
theorem aie{c:Expr}{a b:List Stmt}{tc:TT}(hc:PT X c tc)(ha:PSs X a t)(hb:PSs X b u):PS X (.If c a b pos) (aja tc t u):=by
 intro Kp s σ H D I h;refine wpAny_If (thn (hc Kp s σ H _ I h) fun d s1 ⟨H1,I1,q1⟩=>?_);cases d with
 |true=>exact ha Kp s1 σ H1 D I1 q1
 |false=>exact hb Kp s1 σ H1 D I1 q1
noncomputable def adJ:TS:=fun _ _ _=>False
theorem adK:PS X st adJ:=fun _ _ _ _ _ _ h=>h.elim
theorem acT{sts:List Stmt}:PSs X sts adJ:=fun _ _ _ _ _ _ h=>h.elim
end
noncomputable abbrev TG:=V->St->Hp->(St->Hp->Prop)->Prop
noncomputable abbrev TGs:=List V->St->Hp->(St->Hp->Prop)->Prop
noncomputable def PG(X:Cx)(target:Expr)(t:TG):Prop:=
 ∀(Kp:List (Addr×Obj)) (s:Shared) (σ:St) (H:Hp) (v:V) (u:Value) (Q:St->Hp->Prop),Inv X Kp σ H s->jO v u->t v σ H Q->
  wpAny (model X.prog X.w) X.A (assign target X.env u) (fun _ s'=>∃σ' H',Inv X Kp σ' H' s'/\Q σ' H') X.xe s
noncomputable def PGs(X:Cx)(ts:List Expr)(t:TGs):Prop:=
 ∀(Kp:List (Addr×Obj)) (s:Shared) (σ:St) (H:Hp) (vs:List V) (us:List Value) (Q:St->Hp->Prop),Inv X Kp σ H s->jx vs us->t vs σ H Q->
  wpAny (model X.prog X.w) X.A (assignInOrder ((assignEach ts X.env).map (·.2)) us) (fun _ s'=>∃σ' H',Inv X Kp σ' H' s'/\Q σ' H') X.xe s
section
variable {X:Cx}{pos:Pos}
noncomputable def adL(i:Nat):TG:=fun v σ H Q=>Q (σ.set i (some v)) H
theorem Qr{i:Nat}{x:Str}(hN:X.N.Nodup)(hi:X.N[i]?=some x)(hx:Loc X.env.scope x)(hf:X.fn x=true∨X.env.scope.names.lookup x=some .local:=by first|exact .inl rfl|exact .inr rfl|assumption):PG X (.Name x pos) (adL i):=by
 intro Kp s σ H v u Q I r h;exact wpAny_assign_Name (aau I hN hi hx r (fun s' I'=>⟨_,H,I',h⟩) hf)
noncomputable def ajb:TGs:=fun vs σ H Q=>vs=[]/\Q σ H
noncomputable def aif(t:TG)(u:TGs):TGs:=fun vs σ H Q=>∃v r,vs=v::r/\t v σ H fun σ' H'=>u r σ' H' Q
theorem afr:PGs X [] ajb:=by
 intro Kp s σ H vs us Q I r h;obtain⟨e,h⟩:=h;subst e;cases r;exact assignInOrder_nil ⟨σ,H,I,h⟩
theorem adM{e:Expr}{es:List Expr}{t:TG}{u:TGs}(h1:PG X e t)(h2:PGs X es u)
  (hs:(assignEach (e::es) X.env).map (·.2)=assign e X.env::(assignEach es X.env).map (·.2):=by rfl):PGs X (e::es) (aif t u):=by
 intro Kp s σ H vs us Q I r h;obtain⟨v,vr,e1,h⟩:=h;subst e1;cases r with
 | cons r rr=>
  rw[hs];refine assignInOrder_cons (thn (h1 Kp s σ H _ _ _ I r h) fun _ s1 ⟨σ1,H1,I1,q1⟩=>?_);exact h2 Kp s1 σ1 H1 _ _ Q I1 rr q1
noncomputable def ajc(K:Fg)(n:Nat)(t:TGs):TG:=fun v σ H Q=>∃a xs,v= .ref a/\SqT K H a xs/\xs.length=n/\t xs σ H Q
theorem ag9{es:List Expr}{k:Nat}{t:TGs}{n:Nat}(hc:X.calm=true)(h:PGs X es t)
  (hn:(assignEach es X.env).length=n:=by rfl) (hst:(assignEach es X.env).findIdx? (·.1)=none:=by rfl):PG X (.Tuple es k pos) (ajc X.K n t):=by
 intro Kp s σ H v u Q I r hw;obtain⟨a,xs,e1,hq,hl,hw⟩:=hw;subst e1;cases r;obtain⟨its,rv,ht,hz⟩:=I.tuple hq;refine assign_Tuple_tuple (I.ok.hd hc) ht (by simp[hn,←hl,rv.length]) hst fun h' hx=>?_;have I1:Inv X Kp σ H { s with heap:=h' }:=I.kept (t':=s.toks) fun b o e=>hx b o (Nat.ne_of_lt (Heap.lt_size e)) e;exact h Kp _ σ H xs _ Q I1 (by simpa using rv) hw
noncomputable def aha(te:TE)(g:TG):TS:=fun D σ H=>te σ H fun x H1=>g x σ H1 D.nx
theorem ahb{tg e:Expr}{te:TE}{g:TG}(he:PE X e te)(hg:PG X tg g)(hs:swapsWithSole [tg] e pos.line X.env=pure false:=by rfl)(hw:swappedStores [tg] e X.env=pure none:=by rfl)
  (h1:(assignEach [tg] X.env).map (·.2)=[assign tg X.env]:=by rfl):PS X (.Assign [tg] e pos) (aha te g):=by
 intro Kp s σ H D I h;refine wpAny_Assign_stores (thn (he Kp s σ H _ I h) fun v s1 ⟨x,H1,I1,r1,q1⟩=>?_) hs hw;rw[h1];exact thn (hg Kp s1 σ H1 x v _ I1 r1 q1) fun _ s2 q=>q
theorem abt{i:Nat}{x:Str}{e:Expr}{te:TE}{pos':Pos}(hN:X.N.Nodup)(hi:X.N[i]?=some x)(hx:Loc X.env.scope x)(he:PE X e te)(hs:swapsWith e (some (.Name x pos')) pos.line X.env=pure false:=by rfl)(hf:X.fn x=true∨X.env.scope.names.lookup x=some .local:=by first|exact .inl rfl|exact .inr rfl|assumption):
  PS X (.Assign [.Name x pos'] e pos) (aha te (adL i)):=by
 intro Kp s σ H D I h;refine wpAny_Assign_Name (thn (he Kp s σ H _ I h) fun v s1 ⟨y,H1,I1,r1,q1⟩=>?_) hs;exact aau I1 hN hi hx r1 (fun s2 I2=>⟨_,H1,I2,q1⟩) hf
end
section
variable {X:Cx}{pos:Pos}
end
structure It where
 go:Nat->Hp->Prop
 yld:Nat->Hp->V->Hp->Prop
 stop:Nat->Hp->Prop
noncomputable def aav(X:Cx)(Kp:List (Addr×Obj))(H:Hp)(b:Addr):Prop:=
 H b=none/\b≠X.env.locals/\b∉X.fs/\(b∈X.ex∨X.s₀.heap.objs.size<=b)/\(∀x c,X.env.cells.lookup x=some c->c≠b)/\∀p∈X.pn++Kp,p.1≠b
theorem Inv.fpOk{X:Cx}{Kp:List (Addr×Obj)}{σ:St}{H H':Hp}{s:Shared}{b:Addr}(I:Inv X Kp σ H s)(hb:s.heap.objs.size<=b)(hn:H' b=none):aav X Kp H' b:=by
 refine⟨hn,Nat.ne_of_gt (Nat.lt_of_lt_of_le I.lt hb),I.nofs hb,.inr (Nat.le_trans I.sz hb),fun x c e z=>?_,fun p hp z=>?_⟩
 ·obtain⟨v,q⟩:=I.cell x c e
  exact absurd (Nat.lt_of_lt_of_le q.lt (by rw[z];exact hb)) (Nat.lt_irrefl _)
 ·exact absurd (Nat.lt_of_lt_of_le (Heap.lt_size (I.pin p hp).1) (by rw[z];exact hb)) (Nat.lt_irrefl _)
structure Turn(P:Program)(w:World)(K:Fg)(tg:Expr)(J:It)(fp:List Addr)(it:Addr)(tn:Nat->Heap->Prop):Prop where
 mem:it∈fp
 obj:∀i h,tn i h->∀b∈fp,∃o,h.get? b=some o/\∀v,o.data ≠ .cell v
 keep:∀i h h',tn i h->(∀b∈fp,∀o,h.get? b=some o->h'.get? b=some o)->tn i h'
 item:∀(X:Cx),X.prog=P->X.w=w->X.K=K->X.calm=true->∀(i:Nat) (Kp:List (Addr×Obj)) (s:Shared) (σ:St) (H:Hp) (E:Value->SP0),Inv X Kp σ H s->(∀b∈fp,aav X Kp H b)->tn i s.heap->J.go i H->
  wpAny (model P w) X.A (pyNext (.ref it)) (fun r s1=>∃u,r=some u/\
   wpAny (model P w) X.A (letOwnedTupleGo tg (.ref it) u) (fun _ s2=>∃ x H',Inv X Kp σ H' s2/\jO x u/\J.yld i H x H'/\tn (i+1) s2.heap/\∀ b ∈ fp,H' b=none) E s1) E s
 done:∀(X:Cx),X.prog=P->X.w=w->X.K=K->X.calm=true->∀(i:Nat) (Kp:List (Addr×Obj)) (s:Shared) (σ:St) (H:Hp) (E:Value->SP0),Inv X Kp σ H s->(∀b∈fp,aav X Kp H b)->tn i s.heap->J.stop i H->
  wpAny (model P w) X.A (pyNext (.ref it)) (fun r s1=>r=none/\Inv X Kp σ H s1) E s
 self:∀(A:Around) (i:Nat) (s:Shared) (Q:Value->SP0) (E:Value->SP0),tn i s.heap->Q (.ref it) s->wpAny (model P w) A (pyIter (.ref it)) Q E s
noncomputable abbrev TI:=St->Hp->(It->Hp->Prop)->Prop
noncomputable def PIE(X:Cx)(Kp:List (Addr×Obj))(σ:St)(tg:Expr)(R:It->Hp->Prop)(itv:Value)(s2:Shared):Prop:=
 ∃(it:Addr) (fp:List Addr) (tn:Nat->Heap->Prop) (J:It) (H':Hp),itv= .ref it/\Inv X Kp σ H' s2/\Turn X.prog X.w X.K tg J fp it tn/\tn 0 s2.heap/\(∀b∈fp,aav X Kp H' b)/\R J H'
noncomputable def PI(X:Cx)(tg iter:Expr)(wi:TI):Prop:=
 ∀(Kp:List (Addr×Obj)) (s:Shared) (σ:St) (H:Hp) (R:It->Hp->Prop),Inv X Kp σ H s->wi σ H R->
  wpAny (model X.prog X.w) X.A (eval iter X.env) (fun v s1=>wpAny (model X.prog X.w) X.A (pyIter v) (PIE X Kp σ tg R) X.xe s1) X.xe s
theorem adN{M : Model}{A : Around}{E : Value -> Shared -> Prop}{s : Shared}{tg : Expr}{it : Addr}{u : Value}{o : Obj}{n : String}{vs : Array Value}{Q : Unit -> Shared -> Prop}(ho : s.heap.get? it = some o)(hc : o.cls = .type n)(hd : o.data = .fields vs)
    (hn : ["enumerate", "zip", "dict_itemiterator", "dict_reverseitemiterator", "odict_iterator", "itertools.zip_longest", "itertools.pairwise"].contains n = false) (hQ : Q () s) : wpAny M A (letOwnedTupleGo tg (.ref it) u) Q E s := by
  unfold letOwnedTupleGo
  cases tg<;>first
    |exact wpAny_pure hQ
    | (cases u<;>first
        | exact wpAny_pure hQ
        | (refine wpAny_bind (wpAny_load ho ?_)
           rw [hc, hd];show wpAny M A (if (["enumerate", "zip", "dict_itemiterator", "dict_reverseitemiterator", "odict_iterator", "itertools.zip_longest", "itertools.pairwise"].contains n && vs[0]? == some (rawInt _)) = true then _ else _) Q E s;rw [if_neg (by intro h; rw [hn, Bool.false_and] at h; cases h)];exact wpAny_pure hQ))
noncomputable def Itl(K:Fg)(a:Addr):It:=
 ⟨fun i H=>∃xs x,SqL K H a xs/\xs[i]?=some x,fun i H x H'=>H'=H/\∀xs,SqL K H a xs->xs[i]?=some x,fun i H=>∃xs,SqL K H a xs/\xs.length<=i⟩
noncomputable def Itt(K:Fg)(a:Addr):It:=
 ⟨fun i H=>∃xs x,SqT K H a xs/\xs[i]?=some x,fun i H x H'=>H'=H/\∀xs,SqT K H a xs->xs[i]?=some x,fun i H=>∃xs,SqT K H a xs/\xs.length<=i⟩
noncomputable def Itr(lo:Int)(n:Nat):It:=⟨fun i _=>i<n,fun i H x H'=>H'=H/\x= .int (lo+i),fun i _=>n<=i⟩
theorem acU{P:Program}{w:World}{K:Fg}{tg:Expr}(a it:Addr):Turn P w K tg (Itl K a) [it] it (fun i h=>h.IsListIter it a i) where
 mem:=by simp
 obj:=fun i h st b hb=>by
  have e:b=it:=by simpa using hb
  subst e;obtain⟨o,e,c,d⟩:=st;exact⟨o,e,fun v z=>by rw[d]at z;cases z⟩
 keep:=fun i h h' st k=>st.at fun o e=>k it (by simp) o e
 item:=by
  intro X hP hw hK hc i Kp s σ H E I hf st hg;subst hP hw hK;obtain⟨xs,x,hq,hx⟩:=hg;obtain⟨its,rv,p,hz⟩:=I.list hq;obtain⟨u,hu,ru⟩:=rv.get hx;obtain⟨f0,f1,f2,f3,f4,f5⟩:=hf it (by simp);refine wpAny_pyNext_list_item st p.isList (x:=u) (by simpa using hu) fun h' st' sb=>?_;have I1:Inv X Kp σ H { s with heap:=h' }:=I.turned (t':=s.toks) (fun b o hb e=>(sb.2 b hb).trans e) f0 f1 f3 f4 f5;obtain⟨o,e,c,d⟩:=id st';exact⟨u,rfl,adN (s:={ s with heap:=h' }) e c d (by decide) ⟨x,H,I1,ru,⟨rfl,fun ys hy=>by rw[I.list_inj hy hq];exact hx⟩,st',fun b hb=>(hf b hb).1⟩⟩
 done:=by
  intro X hP hw hK hc i Kp s σ H E I hf st hg;subst hP hw hK;obtain⟨xs,hq,hx⟩:=hg;obtain⟨its,rv,p,hz⟩:=I.list hq;obtain⟨f0,f1,f2,f3,f4,f5⟩:=hf it (by simp);have hl:=rv.length;exact wpAny_pyNext_list_end (I.ok.hd hc) st p.isList (by simp;omega) fun h' eb=>⟨rfl,I.turned (t':=s.toks) (fun b o hb e=>eb b o hb e) f0 f1 f3 f4 f5⟩
 self:=fun _ _ _ _ _ st h=>wpAny_pyIter_listiter st h
theorem abu{P:Program}{w:World}{K:Fg}{tg:Expr}(a it:Addr):Turn P w K tg (Itt K a) [it] it (fun i h=>h.IsTupleIter it a i) where
 mem:=by simp
 obj:=fun i h st b hb=>by
  have e:b=it:=by simpa using hb
  subst e;obtain⟨o,e,c,d⟩:=st;exact⟨o,e,fun v z=>by rw[d]at z;cases z⟩
 keep:=fun i h h' st k=>st.at fun o e=>k it (by simp) o e
 item:=by
  intro X hP hw hK hc i Kp s σ H E I hf st hg;subst hP hw hK;obtain⟨xs,x,hq,hx⟩:=hg;obtain⟨its,rv,p,hz⟩:=I.tuple hq;obtain⟨u,hu,ru⟩:=rv.get hx;obtain⟨f0,f1,f2,f3,f4,f5⟩:=hf it (by simp);refine wpAny_pyNext_tuple_item st (show s.heap.IsTuple a its.toArray from p) (x:=u) (by simpa using hu) fun h' st' sb=>?_;have I1:Inv X Kp σ H { s with heap:=h' }:=I.turned (t':=s.toks) (fun b o hb e=>(sb.2 b hb).trans e) f0 f1 f3 f4 f5;obtain⟨o,e,c,d⟩:=id st';exact⟨u,rfl,adN (s:={ s with heap:=h' }) e c d (by decide) ⟨x,H,I1,ru,⟨rfl,fun ys hy=>by rw[I.tuple_inj hy hq];exact hx⟩,st',fun b hb=>(hf b hb).1⟩⟩
 done:=by
  intro X hP hw hK hc i Kp s σ H E I hf st hg;subst hP hw hK;obtain⟨xs,hq,hx⟩:=hg;obtain⟨its,rv,p,hz⟩:=I.tuple hq;obtain⟨f0,f1,f2,f3,f4,f5⟩:=hf it (by simp);have hl:=rv.length;exact wpAny_pyNext_tuple_end (I.ok.hd hc) st (show s.heap.IsTuple a its.toArray from p) (by simp;omega) fun h' eb=>⟨rfl,I.turned (t':=s.toks) (fun b o hb e=>eb b o hb e) f0 f1 f3 f4 f5⟩
 self:=fun _ _ _ _ _ st h=>wpAny_pyIter_tupleiter st h
theorem abv{P:Program}{w:World}{K:Fg}{tg:Expr}(it:Addr)(lo:Int)(n:Nat):Turn P w K tg (Itr lo n) [it] it (fun i h=>IsRangeIter h it (lo+(i:Nat)*1) ((n:Int)-(i:Nat)) 1) where
 mem:=by simp
 obj:=fun i h st b hb=>by
  have e:b=it:=by simpa using hb
  subst e
  exact⟨_,st,fun v z=>by
   have z':Data.fields _=Data.cell v:=z;cases z'⟩
 keep:=fun i h h' st k=>k it (by simp) _ st
 item:=by
  intro X hP hw hK hc i Kp s σ H E I hf st hg;subst hP hw hK;obtain⟨f0,f1,f2,f3,f4,f5⟩:=hf it (by simp);have W:=Walks.range (prog:=X.prog) (w:=X.w) (I.ok.hd hc) it lo 1 n;refine W.item i s _ _ hg st fun v h' tk hv st' kk=>?_;obtain⟨t,rfl⟩:=hv;have I1:Inv X Kp σ H { s with heap:=h',toks:=tk }:=I.turned (fun b o hb e=>kk b o (by simpa using hb) e) f0 f1 f3 f4 f5;refine⟨_,rfl,adN (s:={ s with heap:=h',toks:=tk }) (n:="range_iterator") st' rfl rfl (by decide) ⟨.int (lo+i),H,I1,⟨t,?_⟩,⟨rfl,rfl⟩,st',fun b hb=>(hf b hb).1⟩⟩;rw[Int.mul_one]
 done:=by
  intro X hP hw hK hc i Kp s σ H E I hf st hg;subst hP hw hK;obtain⟨f0,f1,f2,f3,f4,f5⟩:=hf it (by simp);exact wpAny_pyNext_range_end (I.ok.hd hc) st (by have:n<=i:=hg;omega) fun h' eb=>⟨rfl,I.turned (t':=s.toks) (fun b o hb e=>eb b o hb e) f0 f1 f3 f4 f5⟩
 self:=fun _ _ _ _ _ st h=>wpAny_pyIter_rangeiter st h
section
variable {X:Cx}{tg:Expr}
noncomputable def aig(K:Fg)(tl:TE):TI:=fun σ H R=>tl σ H fun x H1=>∃a,x= .ref a/\(∃xs,SqL K H1 a xs)/\R (Itl K a) H1
noncomputable def ajd(K:Fg)(tl:TE):TI:=fun σ H R=>tl σ H fun x H1=>∃a,x= .ref a/\(∃xs,SqT K H1 a xs)/\R (Itt K a) H1
theorem afs{l:Expr}{tl:TE}(hl:PE X l tl):PI X tg l (aig X.K tl):=by
 intro Kp s σ H R I h;refine thn (hl Kp s σ H _ I h) fun v s1 ⟨x,H1,I1,r1,q1⟩=>?_;obtain⟨a,e,⟨xs,hq⟩,q⟩:=q1;subst e;cases r1;obtain⟨its,rv,p,hz⟩:=I1.list hq;refine wpAny_pyIter_list p.isList ?_;refine⟨s1.heap.objs.size,[s1.heap.objs.size],_,_,H1,rfl,I1.kept (t':=s1.toks) fun b o e=>Heap.get?_push_of_some _ e,acU a _,⟨_,Heap.get?_push_size _ rfl,rfl,rfl⟩,fun b hb=>?_,q⟩;have e:b=s1.heap.objs.size:=by simpa using hb
 subst e;exact I1.fpOk (Nat.le_refl _) (I1.hok.fresh (Nat.le_refl _))
theorem ahc{l:Expr}{tl:TE}(hl:PE X l tl):PI X tg l (ajd X.K tl):=by
 intro Kp s σ H R I h;refine thn (hl Kp s σ H _ I h) fun v s1 ⟨x,H1,I1,r1,q1⟩=>?_;obtain⟨a,e,⟨xs,hq⟩,q⟩:=q1;subst e;cases r1;obtain⟨its,rv,p,hz⟩:=I1.tuple hq;refine wpAny_pyIter_tuple (show s1.heap.IsTuple a its.toArray from p) ?_;refine⟨s1.heap.objs.size,[s1.heap.objs.size],_,_,H1,rfl,I1.kept (t':=s1.toks) fun b o e=>Heap.get?_push_of_some _ e,abu a _,⟨_,Heap.get?_push_size _ rfl,rfl,rfl⟩,fun b hb=>?_,q⟩;have e:b=s1.heap.objs.size:=by simpa using hb
 subst e;exact I1.fpOk (Nat.le_refl _) (I1.hok.fresh (Nat.le_refl _))
theorem adO{Kp:List (Addr×Obj)}{σ:St}{H:Hp}{s:Shared}{R:It->Hp->Prop}{E:Value->SP0}{lo hi:Int}{t u v:Tok}{tk:Nat}(I:Inv X Kp σ H s)(h1:-(2 ^ 62)<=lo)(h2:lo<2 ^ 62)(h3:-(2 ^ 62)<=hi)(h4:hi<2 ^ 62)
  (q:R (Itr lo (hi-lo).toNat) H):wpAny (model X.prog X.w) X.A (pyIter (.ref s.heap.objs.size)) (PIE X Kp σ tg R) E { s with heap:=s.heap.push { cls:= .type "range",data:= .fields #[.int lo t,.int hi u,.int 1 v] },toks:=tk }:=by
 refine wpAny_pyIter_range (IsRange.new ..) (small_one h1 h2 h3 h4) ?_;have I1:Inv X Kp σ H { s with heap:=s.heap.push { cls:= .type "range",data:= .fields #[.int lo t,.int hi u,.int 1 v] },toks:=tk }:=I.kept fun b o e=>Heap.get?_push_of_some _ e
 refine⟨(s.heap.push { cls:= .type "range",data:= .fields #[.int lo t,.int hi u,.int 1 v] }).objs.size,[(s.heap.push { cls:= .type "range",data:= .fields #[.int lo t,.int hi u,.int 1 v] }).objs.size],_,_,H,rfl,
  I1.kept (t':=tk) fun b o e=>Heap.get?_push_of_some _ e,abv _ lo (hi - lo).toNat,?_,fun b hb=>?_,q⟩
 ·have e1:lo+((0:Nat):Int)*1=lo:=by simp
  have e2:(((hi-lo).toNat:Nat):Int)-((0:Nat):Int)=Builtin.Range.rangeSize lo hi 1:=by rw[rangeSize_one];split<;>omega
  show IsRangeIter _ _ (lo+((0:Nat):Int)*1) ((((hi-lo).toNat:Nat):Int)-((0:Nat):Int)) 1;rw[e1,e2];exact Heap.get?_push_size _ rfl
 ·have e:b=(s.heap.push { cls:= .type "range",data:= .fields #[.int lo t,.int hi u,.int 1 v] }).objs.size:=by simpa using hb
  subst e;exact I1.fpOk (Nat.le_refl _) (I1.hok.fresh (Nat.le_refl _))
noncomputable def aih(ta:TA):TI:=fun σ H R=>ta σ H fun vs H1=>∃j:Int,vs=[.int j]/\-(2 ^ 62)<=j/\j<2 ^ 62/\R (Itr 0 j.toNat) H1
theorem JZ{a:Expr}{ta:TA}{p pos:Pos}(hg:Gl X "range")(hm:X.mg "range"=none)(ha:PA X [a] ta)(hs:starEach [a] X.env=[(false,eval a X.env)]:=by rfl):PI X tg (.Call (.Name "range" p) [a] [] pos) (aih ta):=by
 intro Kp s σ H R I h;refine Call_ (QG I hg hm boot_range (PyProof.Rows.callWith_type1 (thn (ha pos Kp s σ H _ I h) fun us s1 ⟨vs,H1,I1,r1,q1⟩=>?_) hs rfl));obtain⟨j,e,q1,q2,q⟩:=q1;subst e;cases r1 with
 | cons r rr=>
  cases rr;obtain⟨t,rfl⟩:=r;exact call_range_1 (adO I1 (by omega) (by omega) q1 q2 (by simpa using q))
noncomputable def aje(wi:TI)(g:TG)(tb:TS):TS:=fun D σ H=>wi σ H fun J H1=>∃W:Nat->Nat->St->Hp->Prop,(∃m,W 0 m σ H1)/\∀i m σ H,W i m σ H->
 (J.stop i H/\D.nx σ H)∨(J.go i H/\∃N:St->Hp->Prop,(∀σ' H',N σ' H'->∃m',m' < m/\W (i+1) m' σ' H')/\∀x H',J.yld i H x H'->g x σ H' fun σ2 H2=>tb { D with nx:=N,ct:=N,bk:=D.nx } σ2 H2)
noncomputable def J0(fp:List Addr)(h:Heap):List (Addr×Obj):=fp.filterMap fun b=>(h.get? b).map fun o=>(b,o)
theorem qA{fp:List Addr}{h:Heap}{b:Addr}{o:Obj}(hb:b∈fp)(e:h.get? b=some o):(b,o)∈J0 fp h:=List.mem_filterMap.mpr ⟨b,hb,by rw[e];rfl⟩
theorem acV{fp:List Addr}{h:Heap}{p:Addr×Obj}(hp:p∈J0 fp h):p.1∈fp/\h.get? p.1=some p.2:=by
 obtain⟨b,hb,e⟩:=List.mem_filterMap.mp hp;cases q:h.get? b with
 |none=>rw[q]at e;cases e
 | some o=>
  rw[q]at e;have e':(b,o)=p:=Option.some.inj e;subst e';exact⟨hb,q⟩
theorem Inv.pinned{Kp:List (Addr×Obj)}{σ:St}{H:Hp}{s:Shared}{fp:List Addr}(I:Inv X Kp σ H s)(hf:∀b∈fp,aav X Kp H b)(ho:∀b∈fp,∃o,s.heap.get? b=some o/\∀v,o.data ≠ .cell v):Inv X (Kp++J0 fp s.heap) σ H s:=
 I.pins_of fun p hp=>(List.mem_append.mp hp).elim (fun z=>I.pin p (List.mem_append_right _ z)) fun z=>by
  obtain⟨hb,e⟩:=acV z;obtain⟨f0,f1,f2,_⟩:=hf p.1 hb;obtain⟨o,e',d⟩:=ho p.1 hb;rw[e]at e';cases e';exact⟨e,f0,f1,f2,d⟩
theorem Inv.unpinned{Kp pl:List (Addr×Obj)}{σ:St}{H:Hp}{s:Shared}(I:Inv X (Kp++pl) σ H s):Inv X Kp σ H s:=I.pins_of fun p hp=>I.pin p (List.mem_append_right _ (List.mem_append_left _ hp))
theorem ZL{iter:Expr}{body:List Stmt}{wi:TI}{g:TG}{tb:TS}{pos:Pos}(hp:PassesOwn (model X.prog X.w) X.A X.env X.xe)(hc:X.calm=true)(hi:PI X tg iter wi)(hg:PG X tg g)(hb:PSs X body tb)
  (hs:∀x,foldedSetIterable iter X.env x=pure x:=by intro _;rfl):PS X (.For tg iter body [] pos) (aje wi g tb):=by
 intro Kp s σ H D I h;refine wpAny_For (thn (hi Kp s σ H _ I h) fun v s1 h1=>thn h1 fun itv s2 h2=>?_) hs;obtain⟨it,fp,tn,J,H2,e,I2,T,st2,f2,W,⟨m0,w0⟩,turn⟩:=h2;subst e;have stat:∀{H':Hp},(∀b∈fp,H' b=none)->∀b∈fp,aav X Kp H' b:=fun hn b hb=>⟨hn b hb,(f2 b hb).2⟩;refine codeAny_forLoop_any (fun n s'=>∃i σ' H',Inv X Kp σ' H' s'/\tn i s'.heap/\(∀b∈fp,H' b=none)/\W i n σ' H') ?_ m0 ⟨0,σ,H2,I2,st2,fun b hb=>(f2 b hb).1,w0⟩
 rintro n s3 ⟨i,σ3,H3,I3,st3,fr3,w3⟩
 rcases turn i n σ3 H3 w3 with ⟨stop,qn⟩ | ⟨go,N,hN,step⟩
 ·refine wpAny_passesOwn hp (thn (T.done X rfl rfl rfl hc i Kp s3 σ3 H3 X.xe I3 (stat fr3) st3 stop) fun r s4 ⟨hr,I4⟩=>?_)
  subst hr;exact wpAny_execs_nil ⟨σ3,H3,I4,qn⟩
 ·refine wpAny_passesOwn hp (thn (T.item X rfl rfl rfl hc i Kp s3 σ3 H3 X.xe I3 (stat fr3) st3 go) fun r s4 ⟨u,hr,h4⟩=>?_)
  subst hr;refine wpAny_passesOwn hp (thn h4 fun _ s5 ⟨x,H5,I5,r5,y5,st5,fr5⟩=>?_);have I5':=I5.pinned (stat fr5) (T.obj _ _ st5);refine wpAny_passesOwn hp (thn (hg _ s5 σ3 H5 x u _ I5' r5 (step x H5 y5)) fun _ s6 ⟨σ6,H6,I6,q6⟩=>?_);refine wpAny_passesOwn hp (thn (hb _ s6 σ6 H6 _ I6 q6) fun f s7 q7=>?_)
  have again:∀{σ7:St} {H7:Hp},Inv X (Kp++J0 fp s5.heap) σ7 H7 s7->N σ7 H7->∃m,m<n/\∃i σ' H',Inv X Kp σ' H' s7/\tn i s7.heap/\(∀b∈fp,H' b=none)/\W i m σ' H':=fun {σ7 H7} I7 n7=>by
   obtain⟨m',hm,w7⟩:=hN σ7 H7 n7;refine⟨m',hm,i+1,σ7,H7,I7.unpinned,T.keep _ _ _ st5 fun b hb o e=>(I7.pin (b,o) (List.mem_append_right _ (List.mem_append_right _ (qA hb e)))).1,fun b hb=>?_,w7⟩;obtain⟨o,e,d⟩:=T.obj _ _ st5 b hb;exact(I7.pin (b,o) (List.mem_append_right _ (List.mem_append_right _ (qA hb e)))).2.1
  cases f with
  |next=>obtain⟨σ7,H7,I7,n7⟩:=q7;exact again I7 n7
  |cont=>obtain⟨σ7,H7,I7,n7⟩:=q7;exact again I7 n7
  |brk=>obtain⟨σ7,H7,I7,q7⟩:=q7;exact⟨σ7,H7,I7.unpinned,q7⟩
  |ret v=>obtain⟨x7,σ7,H7,I7,r7,q7⟩:=q7;exact⟨x7,σ7,H7,I7.unpinned,r7,q7⟩
end
theorem Zk{lo:Int}{n:Nat}{g:TG}{tb:TS}{D:Ends}{σ:St}{H:Hp}(Pv:Nat->St->Hp->Prop)(h0:Pv 0 σ H)
  (hs:∀i σ H,i<n->Pv i σ H->g (.int (lo+i)) σ H fun σ2 H2=>tb { D with nx:=Pv (i+1),ct:=Pv (i+1),bk:=D.nx } σ2 H2) (hd:∀σ H,Pv n σ H->D.nx σ H):
  ∃W:Nat->Nat->St->Hp->Prop,(∃m,W 0 m σ H)/\∀i m σ H,W i m σ H->
   ((Itr lo n).stop i H/\D.nx σ H)∨((Itr lo n).go i H/\∃N:St->Hp->Prop,(∀σ' H',N σ' H'->∃m',m' < m/\W (i+1) m' σ' H')/\∀x H',(Itr lo n).yld i H x H'->g x σ H' fun σ2 H2=>tb { D with nx:=N,ct:=N,bk:=D.nx } σ2 H2):=by
 refine⟨fun i m σ H=>m=n-i/\i<=n/\Pv i σ H,⟨n,by simp,Nat.zero_le _,h0⟩,?_⟩
 rintro i m σ H ⟨rfl,hi,p⟩
 by_cases hlt:i<n
 ·refine .inr ⟨hlt,Pv (i+1),fun σ' H' p'=>⟨n-(i+1),by omega,rfl,hlt,p'⟩,fun x H' y=>?_⟩
  obtain⟨e,y⟩:=y;subst e y;exact hs i σ _ hlt p
 ·have e:i=n:=by omega
  subst e;exact .inl ⟨Nat.le_refl _,hd σ H p⟩
noncomputable abbrev R2:=V->V->Hp->VK->Prop
noncomputable def OpR(X:Cx)(f:Value->Value->Sem Value)(r:R2):Prop:=
 ∀(Kp:List (Addr×Obj)) (s:Shared) (σ:St) (H:Hp) (x y:V) (v u:Value) (Q:VK),Inv X Kp σ H s->jO x v->jO y u->r x y H Q->
  wpAny (model X.prog X.w) X.A (f v u) (EP X Kp σ Q) X.xe s
noncomputable def UnR(X:Cx)(f:Value->Sem Value)(r:V->Hp->VK->Prop):Prop:=
 ∀(Kp:List (Addr×Obj)) (s:Shared) (σ:St) (H:Hp) (x:V) (v:Value) (Q:VK),Inv X Kp σ H s->jO x v->r x H Q->
  wpAny (model X.prog X.w) X.A (f v) (EP X Kp σ Q) X.xe s
noncomputable def zf(X:Cx)(f:Value)(r:List V->Hp->VK->Prop):Prop:=
 ∀(Kp:List (Addr×Obj)) (s:Shared) (σ:St) (H:Hp) (xs:List V) (us:List Value) (Q:VK),Inv X Kp σ H s->jx xs us->r xs H Q->
  wpAny (model X.prog X.w) X.A (call f us) (EP X Kp σ Q) X.xe s
noncomputable def tOp(r:R2)(ta tb:TE):TE:=fun σ H Q=>ta σ H fun x H1=>tb σ H1 fun y H2=>r x y H2 Q
noncomputable def tUn(r:V->Hp->VK->Prop)(ta:TE):TE:=fun σ H Q=>ta σ H fun x H1=>r x H1 Q
noncomputable def rI(C:Int->Int->Prop)(g:Int->Int->V):R2:=fun x y H Q=>∃i j,x= .int i/\y= .int j/\C i j/\Q (g i j) H
noncomputable def rI0(g:Int->Int->V):R2:=fun x y H Q=>∃i j,x= .int i/\y= .int j/\Q (g i j) H
noncomputable def rU(g:Int->V):V->Hp->VK->Prop:=fun x H Q=>∃i,x= .int i/\Q (g i) H
section
variable {X:Cx}{a b c:Expr}{ta tb tc:TE}{pos:Pos}
theorem ahd(ha:PE X a ta)(hb:PE X b tb){Kp:List (Addr×Obj)}{s:Shared}{σ:St}{H:Hp}{R:V->V->Hp->Prop}(I:Inv X Kp σ H s)
  (h:ta σ H fun x H1=>tb σ H1 fun y H2=>R x y H2) {Q:Value->SP0} {f:Value->Value->Sem Value}
  (hf:∀v u s2 x y H2,Inv X Kp σ H2 s2->jO x v->jO y u->R x y H2->wpAny (model X.prog X.w) X.A (f v u) Q X.xe s2):
  wpAny (model X.prog X.w) X.A (eval a X.env) (fun v s₁=>wpAny (model X.prog X.w) X.A (eval b X.env) (fun u s₂=>wpAny (model X.prog X.w) X.A (f v u) Q X.xe s₂) X.xe s₁) X.xe s:=by
 refine thn (ha Kp s σ H _ I h) fun v s1 ⟨x,H1,I1,r1,q1⟩=>?_;refine thn (hb Kp s1 σ H1 _ I1 q1) fun u s2 ⟨y,H2,I2,r2,q2⟩=>?_;exact hf v u s2 x y H2 I2 r1 r2 q2
theorem aii{op:Operator}{r:R2}(ho:OpR X (binaryOp op) r)(ha:PE X a ta)(hb:PE X b tb):PE X (.BinOp a op b pos) (tOp r ta tb):=by
 intro Kp s σ H Q I h;exact wpAny_BinOp (ahd ha hb I h fun v u s2 x y H2 I2 rx ry q=>ho Kp s2 σ H2 x y v u Q I2 rx ry q)
theorem aij{op:UnaryOp}{r:V->Hp->VK->Prop}(ho:UnR X (unaryOp op) r)(ha:PE X a ta):PE X (.UnaryOp op a pos) (tUn r ta):=by
 intro Kp s σ H Q I h;exact UnaryOp_ (thn (ha Kp s σ H _ I h) fun v s1 ⟨x,H1,I1,r1,q1⟩=>ho Kp s1 σ H1 x v Q I1 r1 q1)
theorem opI{f:Value->Value->Sem Value}{C:Int->Int->Prop}{g:Int->Int->Int}
  (rule:∀(i j:Int) (t u:Tok) (s:Shared) (Q:Value->SP0) (E:Value->SP0),C i j->Q (.int (g i j) s.toks) { s with toks:=s.toks+1 }->wpAny (model X.prog X.w) X.A (f (.int i t) (.int j u)) Q E s):
  OpR X f (rI C fun i j=> .int (g i j)):=by
 intro Kp s σ H x y v u Q I rx ry h;obtain⟨i,j,rfl,rfl,hc,q⟩:=h;obtain⟨t,rfl⟩:=rx;obtain⟨t',rfl⟩:=ry;exact rule i j t t' s _ _ hc ⟨.int (g i j),H,I.tok _,⟨_,rfl⟩,q⟩
theorem aik{f:Value->Value->Sem Value}{g:Int->Int->Int}
  (rule:∀(i j:Int) (t u:Tok) (s:Shared) (Q:Value->SP0) (E:Value->SP0),Q (.int (g i j) s.toks) { s with toks:=s.toks+1 }->wpAny (model X.prog X.w) X.A (f (.int i t) (.int j u)) Q E s):
  OpR X f (rI0 fun i j=> .int (g i j)):=by
 intro Kp s σ H x y v u Q I rx ry h;obtain⟨i,j,rfl,rfl,q⟩:=h;obtain⟨t,rfl⟩:=rx;obtain⟨t',rfl⟩:=ry;exact rule i j t t' s _ _ ⟨.int (g i j),H,I.tok _,⟨_,rfl⟩,q⟩
theorem ahe{f:Value->Value->Sem Value}{g:Int->Int->Bool}
  (rule:∀(i j:Int) (t u:Tok) (s:Shared) (Q:Value->SP0) (E:Value->SP0),Q (.bool (g i j)) s->wpAny (model X.prog X.w) X.A (f (.int i t) (.int j u)) Q E s):
  OpR X f (rI0 fun i j=> .bl (g i j)):=by
 intro Kp s σ H x y v u Q I rx ry h;obtain⟨i,j,rfl,rfl,q⟩:=h;obtain⟨t,rfl⟩:=rx;obtain⟨t',rfl⟩:=ry;exact rule i j t t' s _ _ ⟨.bl (g i j),H,I,rfl,q⟩
noncomputable def ajf(i j:Int):Prop:=0<j/\j<1073741824
noncomputable def ahf(i j:Int):Prop:=(-(2 ^ 64)<i/\i<2 ^ 64)∨(-(2 ^ 64)<j/\j<2 ^ 64)
theorem ahf.ok{i j:Int}(h:ahf i j):IntMulOk i j:=by
 rcases h with ⟨h1,h2⟩ | ⟨h1,h2⟩
 ·exact .of_left (intBits_le_64 h1 h2)
 ·exact .of_right (intBits_le_64 h1 h2)
theorem ahg:OpR X (binaryOp .Add) (rI0 fun i j=> .int (i+j)):=aik fun _ _ _ _ _ _ _ q=>add_int q
theorem ahh:OpR X (binaryOp .Sub) (rI0 fun i j=> .int (i-j)):=aik fun _ _ _ _ _ _ _ q=>sub_int q
theorem ahi:OpR X (binaryOp .Mult) (rI ahf fun i j=> .int (i*j)):=opI fun _ _ _ _ _ _ _ hc q=>mul_int q hc.ok
theorem aft:OpR X (binaryOp .FloorDiv) (rI ajf fun i j=> .int (i / j)):=opI fun i j _ _ _ _ _ hc q=>by
 have h1:(0:Int)<j:=hc.1;have h2:j<1073741824:=hc.2;exact floordiv_int (by omega) (by rw[Int.fdiv_eq_ediv_of_nonneg i (by omega)];exact q) (.inl (PyProof.noPylong_small (by omega)))
theorem ahj:OpR X (binaryOp .Mod) (rI (fun _ j=>0<j) fun i j=> .int (i % j)):=opI fun i j _ _ _ _ _ hc q=>by
 have h1:(0:Int)<j:=hc;exact mod_int' (by omega) (by rw[Int.fmod_eq_emod_of_nonneg i (by omega)];exact q)
theorem unI{f:Value->Sem Value}{g:Int->Int}
  (rule:∀(i:Int) (t:Tok) (s:Shared) (Q:Value->SP0) (E:Value->SP0),Q (.int (g i) s.toks) { s with toks:=s.toks+1 }->wpAny (model X.prog X.w) X.A (f (.int i t)) Q E s):
  UnR X f (rU fun i=> .int (g i)):=by
 intro Kp s σ H x v Q I rx h;obtain⟨i,rfl,q⟩:=h;obtain⟨t,rfl⟩:=rx;exact rule i t s _ _ ⟨.int (g i),H,I.tok _,⟨_,rfl⟩,q⟩
theorem ahk:UnR X (unaryOp .USub) (rU fun i=> .int (-i)):=unI fun _ _ _ _ _ q=>neg_int q
end
section
variable {X:Cx}{a b c:Expr}{ta tb tc:TE}{pos:Pos}
theorem ail:OpR X (compareOp .Lt) (rI0 fun i j=> .bl (decide (i<j))):=ahe fun _ _ _ _ _ _ _ q=>lt_int q
theorem aim:OpR X (compareOp .LtE) (rI0 fun i j=> .bl (decide (i<=j))):=ahe fun _ _ _ _ _ _ _ q=>le_int q
theorem ain:OpR X (compareOp .Gt) (rI0 fun i j=> .bl (decide (j<i))):=ahe fun _ _ _ _ _ _ _ q=>gt_int q
theorem OpR.or{f:Value->Value->Sem Value}{r r':R2}(h:OpR X f r)(h':OpR X f r'):OpR X f (fun x y H Q=>r x y H Q∨r' x y H Q):=by
 intro Kp s σ H x y v u Q I rx ry q;rcases q with q | q
 ·exact h Kp s σ H x y v u Q I rx ry q
 ·exact h' Kp s σ H x y v u Q I rx ry q
theorem adP(b:Expr){op:CmpOp}(h:op ≠ .In:=by decide)(h2:op ≠ .NotIn:=by decide):behindInMarks op b=false:=by
 have e1:(op==CmpOp.In)=false:=by cases op<;>first|rfl|exact absurd rfl h
 have e2:(op==CmpOp.NotIn)=false:=by cases op<;>first|rfl|exact absurd rfl h2
 cases b<;>simp[behindInMarks,e1,e2]
theorem afu{op:CmpOp}{r:R2}(ho:OpR X (compareOp op) r)(ha:PE X a ta)(hb:PE X b tb)(hm:behindInMarks op b=false):PE X (.Compare a [op] [b] pos) (tOp r ta tb):=by
 intro Kp s σ H Q I h;exact wpAny_Compare1 (ahd ha hb I h fun v u s2 x y H2 I2 rx ry q=>ho Kp s2 σ H2 x y v u Q I2 rx ry q) hm
noncomputable def agK(t:TE):TT:=fun σ H Q=>t σ H fun x H'=>∃k,x= .bl k/\Q k H'
theorem afv{op:CmpOp}{r:R2}(ho:OpR X (compareOp op) r)(ha:PE X a ta)(hb:PE X b tb)(hm:behindInMarks op b=false):PT X (.Compare a [op] [b] pos) (agK (tOp r ta tb)):=by
 intro Kp s σ H Q I h
 refine wpAny_isTrue_Compare1 (thn (ha Kp s σ H _ I h) fun v s1 ⟨x,H1,I1,r1,q1⟩=>thn (hb Kp s1 σ H1 _ I1 q1) fun u s2 ⟨y,H2,I2,r2,q2⟩=>
  thn (ho Kp s2 σ H2 x y v u _ I2 r1 r2 q2) fun c s3 ⟨z,H3,I3,r3,k,e,q3⟩=>?_) hm
 subst e;cases r3;exact wpAny_truthy_bool ⟨H3,I3,q3⟩
noncomputable def abw(r r':R2)(ta tb tc:TE):TE:=fun σ H Q=>ta σ H fun x H1=>tb σ H1 fun y H2=>r x y H2 fun z H3=>∃k,z= .bl k/\
 (if k=true then tc σ H3 fun w' H4=>r' y w' H4 Q else Q (.bl false) H3)
theorem adQ{op op':CmpOp}{r r':R2}(ho:OpR X (compareOp op) r)(ho':OpR X (compareOp op') r')(ha:PE X a ta)(hb:PE X b tb)(hc:PE X c tc)
  (hm:lastMarks [op,op'] [b,c]=false:=by with_unfolding_all rfl):PE X (.Compare a [op,op'] [b,c] pos) (abw r r' ta tb tc):=by
 intro Kp s σ H Q I h
 refine Compare_chain (thn (ha Kp s σ H _ I h) fun v s1 ⟨x,H1,I1,r1,q1⟩=>chain_link (thn (hb Kp s1 σ H1 _ I1 q1) fun u s2 ⟨y,H2,I2,r2,q2⟩=>
  thn (ho Kp s2 σ H2 x y v u _ I2 r1 r2 q2) fun d s3 ⟨z,H3,I3,r3,k,e,q3⟩=>?_)) hm
 subst e;cases r3;refine wpAny_truthy_bool ?_;cases k with
 |false=>exact ite_ff ⟨.bl false,H3,I3,rfl,q3⟩
 |true=>exact ite_tt (chain_last (thn (hc Kp s3 σ H3 _ I3 q3) fun w' s4 ⟨z',H4,I4,r4,q4⟩=>ho' Kp s4 σ H4 y z' u w' Q I4 r2 r4 q4))
theorem adR{op op':CmpOp}{r r':R2}(ho:OpR X (compareOp op) r)(ho':OpR X (compareOp op') r')(ha:PE X a ta)(hb:PE X b tb)(hc:PE X c tc)
  (hm:lastMarks [op,op'] [b,c]=false:=by with_unfolding_all rfl):PT X (.Compare a [op,op'] [b,c] pos) (agK (abw r r' ta tb tc)):=by
 intro Kp s σ H Q I h
 refine isTrue_chain (thn (ha Kp s σ H _ I h) fun v s1 ⟨x,H1,I1,r1,q1⟩=>test_link (thn (hb Kp s1 σ H1 _ I1 q1) fun u s2 ⟨y,H2,I2,r2,q2⟩=>
  thn (ho Kp s2 σ H2 x y v u _ I2 r1 r2 q2) fun d s3 ⟨z,H3,I3,r3,k,e,q3⟩=>?_)) hm
 subst e;cases r3;refine wpAny_truthy_bool ?_;cases k with
 | false=>
  obtain⟨k',e',q'⟩:=q3;cases e';exact ite_ff ⟨H3,I3,q'⟩
 | true=>
  refine ite_tt (test_last (thn (hc Kp s3 σ H3 _ I3 q3) fun w' s4 ⟨z',H4,I4,r4,q4⟩=>thn (ho' Kp s4 σ H4 y z' u w' _ I4 r2 r4 q4) fun d' s5 ⟨z2,H5,I5,r5,k2,e2,q5⟩=>?_));subst e2;cases r5;exact wpAny_truthy_bool ⟨H5,I5,q5⟩
theorem abx:(sizeLine:Nat)<2 ^ 63:=by rw[sizeLine_eq];decide
theorem acd{x:V}{us:List Value}(r:jx [x] us):∃u,us=[u]/\jO x u:=by
 cases r with
 |cons r1 r2=>cases r2;exact⟨_,rfl,r1⟩
theorem adS{x y:V}{us:List Value}(r:jx [x,y] us):∃u w',us=[u,w']/\jO x u/\jO y w':=by
 cases r with
 | cons r1 r2=>
  cases r2 with
  |cons r3 r4=>cases r4;exact⟨_,_,rfl,r1,r3⟩
theorem acW(hc:X.calm=true):zf X (.builtin "max") (fun xs H Q=>∃i j,xs=[.int i,.int j]/\Q (.int (if j>i then j else i)) H):=by
 intro Kp s σ H xs us Q I r h;obtain⟨i,j,rfl,q⟩:=h;obtain⟨u,w',rfl,⟨t,rfl⟩,⟨t',rfl⟩⟩:=adS r;refine max_two_ints (I.ok.hd hc) fun h' tk k=>⟨_,H,I.kept k,?_,q⟩;by_cases hj:j>i
 ·rw[if_pos hj,if_pos hj];exact⟨_,rfl⟩
 ·rw[if_neg hj,if_neg hj];exact⟨_,rfl⟩
theorem acX(hc:X.calm=true):zf X (.builtin "min") (fun xs H Q=>∃i j,xs=[.int i,.int j]/\Q (.int (if j<i then j else i)) H):=by
 intro Kp s σ H xs us Q I r h;obtain⟨i,j,rfl,q⟩:=h;obtain⟨u,w',rfl,⟨t,rfl⟩,⟨t',rfl⟩⟩:=adS r;refine min_two_ints (I.ok.hd hc) fun h' tk k=>⟨_,H,I.kept k,?_,q⟩;by_cases hj:j<i
 ·rw[if_pos hj,if_pos hj];exact⟨_,rfl⟩
 ·rw[if_neg hj,if_neg hj];exact⟨_,rfl⟩
end
structure ObjM(h:Heap)(x dx C:Addr)(mA:SV):Prop where
 obj:h.get? x=some (PySem.W.instObj C dx)
 ns:h.Ns1 dx mA
 ne:dx≠x
section
variable {prog:Program}{w:World}{A:Around}{E:Value->SP0}{s:Shared}{K:Fg}{x dx C f:Addr}{mA:SV}{name:Str}{v:Value}
end
section
variable {P:Program}{w:World}{H H':Hp}{h h':Heap}{a C dx:Addr}{fs fs':List (Str×V)}
end
structure Cls(K:Fg)(C:Addr):Prop where
 pg:PySem.W.plainGet K C Str.empty=true
 hd:PySem.W.hasDictIn K C=true
 po:PySem.W.plainOver K C=true
 sa:PySem.W.findIn K (.ref C) "__setattr__"=some (some (.builtin "object.__setattr__"))
theorem Cls.get{K:Fg}{C:Addr}(c:Cls K C)(f:Str):PySem.W.plainGet K C f=true:=c.pg
structure Con(K:Fg)(C:Addr)(f:Str)(v:V)(u:Value):Prop where
 at_:PySem.W.findIn K (.ref C) f=some (some u)
 rel:jO v u
 get:PySem.W.specialIn K u "__get__"=some none
 cp:PySem.W.copiedNames.contains f=false
structure Meth(K:Fg)(C:Addr)(m:Str)(f:Addr):Prop where
 at_:PySem.W.findIn K (.ref C) m=some (some (.ref f))
 fn:PySem.W.isFn K (.ref f)=true
 kp:PySem.W.keepIn K (.ref f)=true
section
variable {X:Cx}{Kp:List (Addr×Obj)}{σ:St}{H:Hp}{s:Shared}{a C dx:Addr}{fs:List (Str×V)}{f:Str}{v:V}{A:Around}{E:Value->SP0}
theorem Inv.made(I:Inv X Kp σ H s):Inv X Kp σ (upd (upd H s.heap.objs.size (.own (s.heap.objs.size+1))) (s.heap.objs.size+1) (.ins C s.heap.objs.size []))
  { s with heap:=(s.heap.push PySem.W.emptyDict).push (PySem.W.instObj C s.heap.objs.size) }:=by
 have e1:(s.heap.push PySem.W.emptyDict).get? s.heap.objs.size=some PySem.W.emptyDict:=Heap.get?_push_size s.heap rfl
 have e2:((s.heap.push PySem.W.emptyDict).push (PySem.W.instObj C s.heap.objs.size)).get? (s.heap.objs.size+1)=some (PySem.W.instObj C s.heap.objs.size):=by
  have:=Heap.get?_push_size (s.heap.push PySem.W.emptyDict) (o:=PySem.W.instObj C s.heap.objs.size) rfl;rwa[Heap.size_push]at this
 have e3:(s.heap.push PySem.W.emptyDict).Ns s.heap.objs.size (fun _=>none):=⟨PySem.W.emptyDict,#[],_,e1,rfl,(fun e he=>absurd he (by simp)),fun _=>rfl⟩;have I1:=I.laid (a:=s.heap.objs.size) (o:= .own (s.heap.objs.size+1)) (h':=s.heap.push PySem.W.emptyDict) (t':=s.toks) (fun b u q=>Heap.get?_push_of_some _ q) (Nat.le_refl _) ⟨_,e1⟩;refine I1.laid (a:=s.heap.objs.size+1) (o:= .ins C s.heap.objs.size []) (t':=s.toks) (fun b u q=>Heap.get?_push_of_some _ q) (Nat.le_of_eq (Heap.size_push _ _)) ?_;have ne:s.heap.objs.size≠s.heap.objs.size+1:=Nat.ne_of_lt (Nat.lt_succ_self _);refine⟨by rw[jm ne,jr],Nat.zero_le _,ne,e2,fun _=>none,(Heap.Ns1.of_empty e3).at fun o q=>Heap.get?_push_of_some _ q,fun _=>True.intro,fun y hy=>absurd rfl hy⟩
end
section
variable {X:Cx}{o e value:Expr}{f:Str}{pos pos' tpos:Pos}{ta tv:TE}
end
section
variable {X:Cx}{Kp:List (Addr×Obj)}{σ:St}{H:Hp}{s:Shared}{A:Around}{E:Value->SP0}{Q:Value->SP0}{c:Value}{b:Bool}
inductive TyOf (K:Fg) (H:Hp):V->Value->Prop where
 |non:TyOf K H .non (.type "NoneType")
 |bl (x:Bool):TyOf K H (.bl x) (.type "bool")
 |int (i:Int):TyOf K H (.int i) (.type "int")
 |str (x:Str):TyOf K H (.str x) (.type "str")
 |flt (x:UInt64):TyOf K H (.flt x) (.type "float")
 |lst {a:Addr} {xs:List V} (e:H a=some (.lst xs)):TyOf K H (.ref a) (.type "list")
 |frz {a:Addr} {o:Obj} {xs:List V} (e:H a=some (.frz o (.lst xs))):TyOf K H (.ref a) (.type "list")
 |tup {a:Addr} {xs:List V} (e:H a=some (.tup xs)):TyOf K H (.ref a) (.type "tuple")
 |dK {a:Addr} {kvs:List (Key×V)} (e:H a=some (.dK kvs)):TyOf K H (.ref a) (.type "dict")
 |dT {a:Addr} {kvs:List (List Key×V)} (e:H a=some (.dT kvs)):TyOf K H (.ref a) (.type "dict")
 | ins {a C dx:Addr} {fs:List (Str×V)} (e:H a=some (.ins C dx fs)) (cl:Cls K C) (ha:PySem.W.findIn K (.ref C) "__class__"=some (some (.builtin "object.__class__")))
   (hn:PySem.W.specialIn K (.builtin "object.__class__") "__get__"=some (some (.builtin "getset_descriptor.__get__"))) (htk:PySem.W.takesIn K (.builtin "object.__class__")=some true)
   (hm:PySem.W.mroIn K C (.type "object")=some true):TyOf K H (.ref a) (.ref C)
end
structure Room(k:Nat)(A:Around):Prop where
 hd:A.handled=none
 dp:A.depth+3*k+5<recursionLimit
 un:A.units+16*k+200<cLine
theorem Room.mono{j k:Nat}{A:Around}(r:Room k A)(h:j<=k):Room j A:=⟨r.hd,by have:=r.dp;omega,by have:=r.un;omega⟩
theorem Room.deeper{k:Nat}{A:Around}(r:Room (k+1) A)(env:Env):Room k (A.deeper env):=
 ⟨r.hd,by have:=r.dp;show A.depth+1+3*k+5<_;omega,by have:=r.un;show A.units+3+16*k+200<_;omega⟩
theorem Room.in1{k:Nat}{A:Around}(r:Room (k+1) A):Room k A.in1:=
 ⟨r.hd,by have:=r.dp;show A.depth+3*k+5<_;omega,by have:=r.un;show A.units+1+16*k+200<_;omega⟩
theorem Room.depth{k:Nat}{A:Around}(r:Room k A):A.depth<recursionLimit:=by have:=r.dp;omega
theorem Room.units{k:Nat}{A:Around}(r:Room k A):A.units+64<cLine:=by have:=r.un;omega
noncomputable def ajg:TA:=fun _ H Q=>Q [] H
noncomputable def aio(ta:TE)(tr:TA):TA:=fun σ H Q=>ta σ H fun x H1=>tr σ H1 fun xs H2=>Q (x::xs) H2
section
variable {X:Cx}{e:Expr}{es:List Expr}{te:TE}{t:TA}{pos:Pos}
theorem acY{α:Type}:∀(us:List α),us.length=1->∃a,us=[a]
 | [a],_=>⟨a,rfl⟩
theorem J1{α:Type}(us:List α)(h:us.length=2):∃a b,us=[a,b]:=by
 cases us with
 |nil=>cases h
 |cons a r=>obtain⟨b,rfl⟩:=acY r (Nat.succ.inj h);exact⟨a,b,rfl⟩
theorem aaw{α:Type}(us:List α)(h:us.length=3):∃a b c,us=[a,b,c]:=by
 cases us with
 |nil=>cases h
 |cons a r=>obtain⟨b,c,rfl⟩:=J1 r (Nat.succ.inj h);exact⟨a,b,c,rfl⟩
theorem ajh{α:Type}(us:List α)(h:us.length=4):∃a b c d,us=[a,b,c,d]:=by
 cases us with
 |nil=>cases h
 |cons a r=>obtain⟨b,c,d,rfl⟩:=aaw r (Nat.succ.inj h);exact⟨a,b,c,d,rfl⟩
theorem zP:PA X [] ajg:=fun _ _ _ _ H Q I h=>Calls.spliced_nil ⟨[],H,I,.nil,h⟩
theorem qG(ha:PE X e te)(hr:PA X es t)(hs:starEach (e::es) X.env=(false,eval e X.env)::starEach es X.env:=by rfl):PA X (e::es) (aio te t):=by
 intro pos Kp s σ H Q I h;rw[hs];show wpAny _ _ (spliced ((false,eval e X.env)::backTo pos (starEach es X.env))) _ _ s;refine Calls.spliced_cons (thn (ha Kp s σ H _ I h) fun u s1 ⟨x,H1,I1,r1,q1⟩=>?_);exact thn (hr pos Kp s1 σ H1 _ I1 q1) fun us s2 ⟨xs,H2,I2,r2,q2⟩=>⟨x::xs,H2,I2,.cons r1 r2,q2⟩
noncomputable def aji(t:TA):TE:=fun σ H Q=>t σ H fun xs H1=>xs.length<=sizeLine/\∀p,H1 p=none->Q (.ref p) (upd H1 p (.tup xs))
noncomputable def ajj(t:TA):TE:=fun σ H Q=>t σ H fun xs H1=>xs.length<=sizeLine/\∀p,H1 p=none->Q (.ref p) (upd H1 p (.lst xs))
theorem adT{x1}(h:PA X es t):PE X (.Tuple es x1 pos) (aji t):=by
 intro Kp s σ H Q I hq;refine wpAny_Tuple_spliced (thn (h pos Kp s σ H _ I hq) fun us s1 ⟨xs,H1,I1,r,z,q⟩=>⟨by rw[←r.length];exact z,?_⟩);have hf:H1 s1.heap.objs.size=none:=I1.hok.fresh (Nat.le_refl _);refine⟨.ref s1.heap.objs.size,upd H1 s1.heap.objs.size (.tup xs),I1.laid (t':=s1.toks) (fun b u e=>Heap.get?_push_of_some _ e) (Nat.le_refl _) ?_,rfl,q _ hf⟩;exact⟨z,us,r,⟨_,Heap.get?_push_size _ rfl,rfl,_,rfl⟩⟩
theorem aby(h:PA X es t):PE X (.List es pos) (ajj t):=by
 intro Kp s σ H Q I hq;refine wpAny_List_spliced (thn (h pos Kp s σ H _ I hq) fun us s1 ⟨xs,H1,I1,r,z,q⟩=>⟨by rw[←r.length];exact z,?_⟩);have hf:H1 s1.heap.objs.size=none:=I1.hok.fresh (Nat.le_refl _);refine⟨.ref s1.heap.objs.size,upd H1 s1.heap.objs.size (.lst xs),I1.laid (t':=s1.toks) (fun b u e=>Heap.get?_push_of_some _ e) (Nat.le_refl _) ?_,rfl,q _ hf⟩;exact⟨z,us,0,r,Heap.get?_push_size _ rfl⟩
end
noncomputable abbrev Sp:=List V->Hp->VK->XK->Prop
noncomputable abbrev CXT:=List Env->Hp->Shared->XK->Value->SP0
structure Env0(P:Program)(w:World)(K:Fg)(mg:SV)(base:Heap)(A:Around)(Ko:List Env)(s:Shared)(H:Hp):Prop where
 frames:A.frames=some Ko
 mod:Mod K mg base
 bs:∀b o,base.get? b=some o->s.heap.get? b=some o/\H b=none
 bsz:base.objs.size<=s.heap.objs.size
 funs:s.heap.FunFrames base Ko
 frf:∀b∈frs Ko,H b=none
 hok:HOk P w H s.heap
 bare:AllBare s.gens
noncomputable def CE(Ko:List Env)(P:Program)(w:World)(H:Hp)(s:Shared)(Q:VK)(u:Value)(s':Shared):Prop:=
 ∃v H',s'.os=s.os/\AllBare s'.gens/\Un (frs Ko) [] H H' s.heap s'.heap/\HOk P w H' s'.heap/\jO v u/\Q v H'
noncomputable def CR(CX:CXT)(Ko:List Env)(P:Program)(w:World)(H:Hp)(s:Shared)(Q:VK)(E:XK)(r:Result)(s':Shared):Prop:=
 match r with
 |.ok (.ret u)=>CE Ko P w H s Q u s'
 |.ok _=>False
 |.error e=>CX Ko H s E e s'
structure FnOk(P:Program)(w:World)(K:Fg)(mg:SV)(base:Heap)(CX:CXT)(k:Nat)(f:Addr)(fd:FuncData)(ps:List Str)(sp:Sp):Prop where
 len:∀vs H Q E,sp vs H Q E->vs.length=ps.length
 run:∀(A:Around) (Ko:List Env) (s:Shared) (H:Hp) (args:Args) (us:List Value) (vs:List V) (Q:VK) (E:XK),Room k A->Env0 P w K mg base A Ko s H->BindsTo s fd args (ps.zip us)->jx vs us->sp vs H Q E->
  codeAny (model P w) A (.call (.ref f) args) (CR CX Ko P w H s Q E) s
theorem FnOk.mono{P:Program}{w:World}{K:Fg}{mg:SV}{base:Heap}{CX:CXT}{j k:Nat}{f:Addr}{fd:FuncData}{ps:List Str}{sp:Sp}(F:FnOk P w K mg base CX j f fd ps sp)(h:j<=k):
  FnOk P w K mg base CX k f fd ps sp:=⟨F.len,fun A Ko s H args us vs Q E hr=>F.run A Ko s H args us vs Q E (hr.mono h)⟩
theorem FnOk.imp{P:Program}{w:World}{K:Fg}{mg:SV}{base:Heap}{CX:CXT}{k:Nat}{f:Addr}{fd:FuncData}{ps:List Str}{sp sp':Sp}(F:FnOk P w K mg base CX k f fd ps sp)
  (h:∀vs H Q E,sp' vs H Q E->sp vs H Q E):FnOk P w K mg base CX k f fd ps sp':=
 ⟨fun vs H Q E q=>F.len vs H Q E (h _ _ _ _ q),fun A Ko s H args us vs Q E hr he hb hv hs=>F.run A Ko s H args us vs Q E hr he hb hv (h _ _ _ _ hs)⟩
theorem Env0.in1{P:Program}{w:World}{K:Fg}{mg:SV}{base:Heap}{A:Around}{Ko:List Env}{s:Shared}{H:Hp}(e:Env0 P w K mg base A Ko s H):
  Env0 P w K mg base A.in1 Ko s H:=⟨e.frames,e.mod,e.bs,e.bsz,e.funs,e.frf,e.hok,e.bare⟩
section
variable {X:Cx}{Kp:List (Addr×Obj)}{σ:St}{H:Hp}{s s':Shared}
theorem Inv.env0(I:Inv X Kp σ H s):Env0 X.prog X.w X.K X.mg X.base X.A X.stack s H:=
 ⟨I.ok.frames,I.ok.mod,I.bs,Nat.le_trans I.ok.bsz I.sz,I.stack,I.stkFree,I.hok,I.bare⟩
theorem Inv.after{Q:VK}{u:Value}(I:Inv X Kp σ H s)(h:CE X.stack X.prog X.w H s Q u s'):EP X Kp σ Q u s':=by
 obtain⟨v,H',os,bare,un,hok,r,q⟩:=h;obtain⟨hh,g,d,t,os'⟩:=s';obtain rfl:os'=s.os:=os;exact⟨v,H',I.call (h':=hh) (g':=g) (d':=d) (t':=t) (ch:=[]) un hok bare (fun b z=>absurd z (by simp)),r,q⟩
end
noncomputable def aip(sp:Sp)(dvs:List V)(E:XK)(t:TA):TE:=fun σ H Q=>t σ H fun vs H1=>sp (vs++dvs) H1 Q E
noncomputable def JB(K:Fg)(fd:FuncData)(ps:List Str)(ds:List Value):Prop:=
 ∀(s:Shared) (us:List Value),K.In s.heap->(us++ds).length=ps.length->BindsTo s fd ⟨us,[]⟩ (ps.zip (us++ds))
theorem JB.all{K:Fg}{fd:FuncData}{ps:List Str}(h:∀us:List Value,us.length=ps.length->bindArgs fd ⟨us,[]⟩=pure (ps.zip us)):JB K fd ps []:=fun s us _ hl=>by
 rw[List.append_nil]at hl ⊢;exact .of_eq (h us hl)
noncomputable def abz(CX:CXT)(X:Cx)(E:XK):Prop:=∀(Kp:List (Addr×Obj)) (σ:St) (H:Hp) (s:Shared) (e:Value) (s':Shared),Inv X Kp σ H s->CX X.stack H s E e s'->X.xe e s'
section
variable {X:Cx}{CX:CXT}{k:Nat}{f C:Addr}{fd:FuncData}{ps:List Str}{sp:Sp}{dvs:List V}{ds:List Value}{E:XK}{x m:Str}{p pos apos:Pos}{e o:Expr}{es:List Expr}{ta:TE}{t:TA}
theorem ahl{Kp:List (Addr×Obj)}{σ:St}{H:Hp}{s:Shared}{Q:VK}{us:List Value}{vs:List V}(F:FnOk X.prog X.w X.K X.mg X.base CX k f fd ps sp)(hr:Room k X.A)(hb:JB X.K fd ps ds)(hd:jx dvs ds)(hx:abz CX X E)
  (I:Inv X Kp σ H s) (r:jx vs us) (h:sp (vs++dvs) H Q E):wpAny (model X.prog X.w) X.A (call (.ref f) us) (EP X Kp σ Q) X.xe s:=by
 have r2:jx (vs++dvs) (us++ds):=r.append hd;have hl:(us++ds).length=ps.length:=by rw[←r2.length];exact F.len _ _ _ _ h
 refine wpAny_call (codeAny_mono (F.run X.A X.stack s H ⟨us,[]⟩ (us++ds) (vs++dvs) Q E hr I.env0 (hb s us I.kIn hl) r2 h) fun r s' hq=>?_);cases r with
 |error e=>exact hx Kp σ H s e s' I hq
 | ok fl=>
  cases fl with
  |ret u=>exact I.after hq
  |next=>exact False.elim hq
  |brk=>exact False.elim hq
  |cont=>exact False.elim hq
theorem afw(F:FnOk X.prog X.w X.K X.mg X.base CX k f fd ps sp)(hr:Room k X.A)(hg:Gl X x)(hm:X.mg x=some (.ref f))(hk:PySem.W.keepIn X.K (.ref f)=true)(hb:JB X.K fd ps ds)(hd:jx dvs ds)(hx:abz CX X E)
  (ha:PA X (e::es) t) (hdb:(x==("__debug__":Str))=false:=by decide) (he:starEach (e::es) X.env=(false,eval e X.env)::starEach es X.env:=by rfl) (hpl:(backTo pos (starEach es X.env)).any (·.1)=false:=by rfl):
  PE X (.Call (.Name x p) (e::es) [] pos) (aip sp dvs E t):=by
 intro Kp s σ H Q I h;refine wpAny_Call_Name_kw (ab9 I hg hm ?_ hdb);refine PySem.W.callWith_K (h₀:=X.base) I.ok.mod.kin hk (thn (ha pos Kp s σ H _ I h) fun us s1 ⟨vs,H1,I1,r,q⟩=>⟨I1.kIn,?_⟩) he hpl;exact ahl F hr hb hd hx I1 r q
structure Mk(K:Fg)(C f:Addr):Prop where
 makes:PySem.W.makesIn K C=true
 init:PySem.W.findIn K (.ref C) "__init__"=some (some (.ref f))
 fn:PySem.W.isFn K (.ref f)=true
 kp:PySem.W.keepIn K (.ref C)=true
end
section
variable {X:Cx}{CX:CXT}{k:Nat}{f C:Addr}{fd:FuncData}{ps ks:List Str}{sp:Sp}{E:XK}{x m:Str}{p pos apos kpos:Pos}{e o:Expr}{es:List Expr}{kws:List Keyword}{te ta:TE}{t tk:TA}{nm:Option Str}
structure KBinds(K:Fg)(fd:FuncData)(ps ks:List Str)(g:List Value->List Value->List Value)(gV:List V->List V->List V):Prop where
 to:∀(s:Shared) (us ws:List Value),K.In s.heap->(g us ws).length=ps.length->BindsTo s fd ⟨us,ks.zip ws⟩ (ps.zip (g us ws))
 rel:∀{vs:List V} {us:List Value} {zs:List V} {ws:List Value},jx vs us->jx zs ws->jx (gV vs zs) (g us ws)
variable {g:List Value->List Value->List Value}{gV:List V->List V->List V}
end
structure FnScope(N P:List Str)(sc:Scope):Prop where
 kind:sc.kind= .function
 co:sc.isCoroutine=false
 gen:sc.isGenerator=false
 nd:N.Nodup
 pre:N.take P.length=P
 par:∀x∈P,sc.names.lookup x=some .local∨sc.names.lookup x=some .cell
 nofree:∀y∈sc.names,y.2 ≠ .free
theorem Zl{kindOf:Str->Option NameKind}{x:Str}:∀{binds:List (Str×Value)}{m:SV},(∀v,(x,v)∉binds)->bindL kindOf binds m x=m x
 | [],_,_=>rfl
 | (n,v)::r,m,h=>by
  unfold bindL;rw[Zl fun w hw=>h w (List.mem_cons_of_mem _ hw)];split
  ·have:x≠n:=by rintro rfl;exact h v List.mem_cons_self
   simp[this]
  ·rfl
theorem Zm{kindOf:Str->Option NameKind}{x:Str}:∀{binds:List (Str×Value)}{m:SV},(∀v,(x,v)∉binds)->bindC kindOf binds m x=m x
 | [],_,_=>rfl
 | (n,v)::r,m,h=>by
  unfold bindC;rw[Zm fun w hw=>h w (List.mem_cons_of_mem _ hw)];split
  ·rfl
  ·have:x≠n:=by rintro rfl;exact h v List.mem_cons_self
   simp[this]
theorem Zn{kindOf:Str->Option NameKind}{x:Str}{v:Value}:∀{P:List Str}{vs:List Value}{i:Nat}{m:SV},P.Nodup->P[i]?=some x->vs[i]?=some v->kindOf x=some .local->
  bindL kindOf (P.zip vs) m x=some v
 | [],_,_,_,_,h,_,_=>by simp at h
 |_::_,[],_,_,_,_,h,_=>by simp at h
 | p::P,w::vs,0,m,nd,h1,h2,hk=>by
  simp at h1 h2;subst h1;subst h2;show bindL kindOf ((p,w)::P.zip vs) m p=_;unfold bindL;rw[Zl fun v hv=>(List.nodup_cons.mp nd).1 (List.of_mem_zip hv).1,if_pos hk];simp
 | p::P,w::vs,i+1,m,nd,h1,h2,hk=>by
  show bindL kindOf ((p,w)::P.zip vs) m x=_;unfold bindL;exact Zn (i:=i) (List.nodup_cons.mp nd).2 (by simpa using h1) (by simpa using h2) hk
theorem Zo{kindOf:Str->Option NameKind}{x:Str}{v:Value}:∀{P:List Str}{vs:List Value}{i:Nat}{m:SV},P.Nodup->P[i]?=some x->vs[i]?=some v->kindOf x≠some .local->
  bindC kindOf (P.zip vs) m x=some v
 | [],_,_,_,_,h,_,_=>by simp at h
 |_::_,[],_,_,_,_,h,_=>by simp at h
 | p::P,w::vs,0,m,nd,h1,h2,hk=>by
  simp at h1 h2;subst h1;subst h2;show bindC kindOf ((p,w)::P.zip vs) m p=_;unfold bindC;rw[Zm fun v hv=>(List.nodup_cons.mp nd).1 (List.of_mem_zip hv).1,if_neg hk];simp
 | p::P,w::vs,i+1,m,nd,h1,h2,hk=>by
  show bindC kindOf ((p,w)::P.zip vs) m x=_;unfold bindC;exact Zo (i:=i) (List.nodup_cons.mp nd).2 (by simpa using h1) (by simpa using h2) hk
noncomputable def start(N:List Str)(vs:List V):St:=vs.map some++List.replicate (N.length-vs.length) none
noncomputable def QH(CX:CXT)(P:Program)(w:World)(K:Fg)(mg:SV)(base:Heap)(N:List Str)(qual:Str)(scope:Scope)(f:Addr)(cd:Value)(A:Around)(Ko:List Env)(s:Shared)(H:Hp)(E:XK):Cx where
 prog:=P
 w:=w
 K:=K
 mg:=mg
 base:=base
 A:=A.deeper (envOfC qual scope s.heap.objs.size f cd)
 N:=N
 s₀:=s
 H₀:=H
 env:=envOfC qual scope s.heap.objs.size f cd
 Ko:=Ko
 stack:=envOfC qual scope s.heap.objs.size f cd::Ko
 ex:=[]
 calm:=true
 fn:=fun _=>true
 pn:=[]
 xe:=fun e s'=>wpAny (model P w) (A.deeper (envOfC qual scope s.heap.objs.size f cd)) (leaving (envOfC qual scope s.heap.objs.size f cd) e) (fun _ s''=>CX Ko H s E e s'') (fun e' s''=>CX Ko H s E e' s'') s'
theorem aax{sc:Scope}{n:Nat}{x:Str}(h:sc.names.lookup x=some .cell):∃c,(cellsFrom n sc.names []).lookup x=some c:=by
 have q:=PySem.W.cellsFrom_some sc.names n [] (.inl h);exact Option.isSome_iff_exists.mp q
theorem acZ{CX:CXT}{P:Program}{w:World}{K:Fg}{mg:SV}{base:Heap}{N ps:List Str}{qual:Str}{scope:Scope}{f:Addr}{cd:Value}{A:Around}{Ko:List Env}{s s1:Shared}{H:Hp}{E:XK}{us:List Value}{vs:List V}
  (S:FnScope N ps scope) (hd:A.handled=none) (e0:Env0 P w K mg base A Ko s H) (hl:vs.length=ps.length) (r:jx vs us)
  (x:InCallC s s.heap.objs.size (bindL (envOfC qual scope s.heap.objs.size f cd).kindOf (ps.zip us) fun _=>none) (cellsFrom (s.heap.objs.size+1) scope.names []) (bindC (envOfC qual scope s.heap.objs.size f cd).kindOf (ps.zip us) fun _=>none) s1):
  Inv (QH CX P w K mg base N qual scope f cd A Ko s H E) [] (start N vs) H s1:=by
 have hpl:ps.length<=N.length:=by have:=congrArg List.length S.pre;rw[List.length_take]at this;omega
 obtain⟨h1,tk,rfl,hk⟩:=x.done;have noA:∀b:Addr,b∉(QH CX P w K mg base N qual scope f cd A Ko s H E).ex:=fun b z=>absurd (show b∈([]:List Addr) from z) (by simp)
 refine⟨⟨e0.mod,S.kind,rfl,rfl,Nat.le_refl _,fun y z c h1 h2=>?_,fun y hy=>?_,fun y c _ h=>?_,fun _=>hd,Around.frames_deeper e0.frames,.inr ⟨rfl,rfl⟩,fun b z=>absurd z (noA b),e0.bs,e0.bsz,fun b _ _=>noA b,fun b z=>absurd z (noA b),e0.funs,e0.frf⟩,
  rfl,e0.bare,Un.kept hk,⟨_,x.toInCall.ns,fun i y v h1 h2 h3=>?_⟩,fun y c h=>⟨_,x.cell y c h⟩,e0.hok.fresh (Nat.le_refl _),fun y c h=>?_,fun p hp=>absurd (show p ∈ ([]:List (Addr × Obj)) from hp) (by simp),e0.hok.kept hk,?_⟩
 ·exact name_of_addr x.apart (PySem.mem_of_lookup h1) (PySem.mem_of_lookup h2)
 ·have hy:scope.names.lookup y=some .cell∨scope.names.lookup y=some .free:=hy
  rcases hy with hy | hy
  ·exact aax hy
  ·exact absurd rfl (S.nofree _ (PySem.mem_of_lookup hy))
 ·exact Nat.le_of_lt (x.above y c (PySem.mem_of_lookup h))
 ·have hi:i<vs.length:=by
   unfold start at h2;by_cases hi:i<vs.length
   ·exact hi
   ·rw[List.getElem?_append_right (by simpa using hi)]at h2
    rw[List.getElem?_replicate]at h2;split at h2<;>cases h2
  have ha:vs[i]?=some v:=by
   unfold start at h2;rw[List.getElem?_append_left (by simpa using hi),List.getElem?_map]at h2;cases e:vs[i]? with
   |none=>rw[e]at h2;cases h2
   |some a=>rw[e]at h2;cases h2;rfl
  obtain⟨u,hu,rv⟩:=r.get ha
  have hp:ps[i]?=some y:=by
   rw[←S.pre,List.getElem?_take_of_lt (by omega)];exact h1
  have ndP:ps.Nodup:=by rw[←S.pre];exact S.nd.sublist (List.take_sublist _ _)
  refine⟨u,rv,?_⟩;rcases S.par y (List.mem_of_getElem? hp)with k | k
  ·exact .inl ⟨k,Zn ndP hp hu k⟩
  ·obtain⟨c,e⟩:=aax (n:=s.heap.objs.size+1) k
   refine .inr ⟨.inl k,c,e,?_⟩;have q:=x.cell y c e;rw[Zo ndP hp hu (by show scope.names.lookup y≠_;rw[k];decide)]at q;exact q
 ·exact e0.hok.fresh (Nat.le_of_lt (x.above y c (PySem.mem_of_lookup h)))
 ·unfold start
  show _=N.length;rw[List.length_append,List.length_map,List.length_replicate];omega
theorem aiq{CX:CXT}{P:Program}{w:World}{K:Fg}{mg:SV}{base:Heap}{k:Nat}{f:Addr}{name qual:Str}{params:Arguments}{body:List Stmt}{scope:Scope}{dV kV doc pm Kc ct oc:Value}{an od:Option Addr}
  {osl:Array (Option Value)} {N ps:List Str} {sp:Sp} (lk:K.lookup f=some ⟨oc,od,.func (PySem.W.fnOf name qual params body scope dV kV doc pm an Kc ct),osl⟩) (hcd:PySem.W.codeIn K Kc qual=true) (S:FnScope N ps scope)
  (len:∀vs H Q E,sp vs H Q E->vs.length=ps.length)
  (hbody:∀(A:Around) (Ko:List Env) (s:Shared) (H:Hp) (vs:List V) (Q:VK) (E:XK),Room k (A.deeper (envOfC qual scope s.heap.objs.size f Kc))->sp vs H Q E->
   ∃ t,PSs (QH CX P w K mg base N qual scope f Kc A Ko s H E) body t/\t { nx:=fun _ H'=>Q .non H',rt:=Q } (start N vs) H):
  FnOk P w K mg base CX (k+1) f (PySem.W.fnOf name qual params body scope dV kV doc pm an Kc ct) ps sp:=by
 refine⟨len,fun A Ko s H args us vs Q E hr e0 hb r hsp=>?_⟩;have hl:=len _ _ _ _ hsp;have KX:K.In s.heap:=e0.mod.kin.keeps fun b o e=>(e0.bs b o e).1;have lim:s.heap.NoLimit:=e0.mod.nolimit.keeps fun b o e=>(e0.bs b o e).1
 have hkind:∀y∈ps.zip us,scope.names.lookup y.1=some .local∨(scope.names.lookup y.1=some .cell/\((cellsFrom (s.heap.objs.size+1) scope.names []).lookup y.1).isSome=true):=fun⟨n,v⟩ hy=>by
  rcases S.par n (List.of_mem_zip hy).1 with q | q
  ·exact .inl q
  ·exact .inr ⟨q,PySem.W.cellsFrom_some _ _ _ (.inl q)⟩
 refine codeAny_call_function hr.depth (KX _ _ lk) rfl S.co S.gen rfl (PySem.W.codeRec_of KX hcd) (hb _ _ _ _ ?_);refine wpAny_newFunctionEnv_cells S.kind hkind fun env he s1 x=>?_;subst he;refine⟨lim.keeps x.toInCall.keep,codeAny_func ?_⟩;obtain⟨t,ht,hq⟩:=hbody A Ko s H vs Q E (hr.deeper _) hsp;have I:Inv (QH CX P w K mg base N qual scope f Kc A Ko s H E) [] (start N vs) H s1:=acZ S hr.hd e0 hl r x;refine wpAny_mono (ht [] s1 (start N vs) H _ I hq) (fun fl s' hs=>?_) fun e s' hs=>hs
 have fin:∀{σ':St} {H':Hp} {v:V} {u:Value},Inv (QH CX P w K mg base N qual scope f Kc A Ko s H E) [] σ' H' s'->jO v u->Q v H'->CE Ko P w H s Q u s':=
  fun {σ' H' v u} J rv q=>⟨v,H',J.os,J.bare,J.base,J.hok,rv,q⟩
 cases fl with
 | ret u=>
  obtain⟨v,σ',H',J,rv,q⟩:=hs;exact fin J rv q
 | next=>
  obtain⟨σ',H',J,q⟩:=hs;exact fin (v:=V.non) (u:=Value.none) J rfl q
 | brk=>
  obtain⟨_,_,_,q⟩:=hs;exact False.elim q
 | cont=>
  obtain⟨_,_,_,q⟩:=hs;exact False.elim q
section
variable {X:Cx}{x:Str}{p pos:Pos}{e:Expr}{es:List Expr}{t:TA}{id T:String}{r:List V->Hp->VK->Prop}
noncomputable def tCB(r:List V->Hp->VK->Prop)(t:TA):TE:=fun σ H Q=>t σ H fun vs H1=>r vs H1 Q
theorem JC(hc:zf X (.builtin id) r)(hg:Gl X x)(hm:X.mg x=none)(hv:bootBuiltins x=some (.builtin id))(ha:PA X (e::es) t)(hn:x≠"__name__":=by decide)(hdb:(x==("__debug__":Str))=false:=by decide)
  (he:starEach (e::es) X.env=(false,eval e X.env)::starEach es X.env:=by rfl) (hpl:(backTo pos (starEach es X.env)).any (·.1)=false:=by rfl):PE X (.Call (.Name x p) (e::es) [] pos) (tCB r t):=by
 intro Kp s σ H Q I h;refine wpAny_Call_Name_kw (QG I hg hm hv ?_ hn hdb);exact PyProof.Rows.callWith_builtin1 (thn (ha pos Kp s σ H _ I h) fun us s1 ⟨vs,H1,I1,r1,q1⟩=>hc Kp s1 σ H1 vs us Q I1 r1 q1) he hpl
theorem ac0(hc:zf X (.type T) r)(hg:Gl X x)(hm:X.mg x=none)(hv:bootBuiltins x=some (.type T))(ha:PA X (e::es) t)(hn:x≠"__name__":=by decide)(hdb:(x==("__debug__":Str))=false:=by decide)
  (he:starEach (e::es) X.env=(false,eval e X.env)::starEach es X.env:=by rfl) (hpl:(backTo pos (starEach es X.env)).any (·.1)=false:=by rfl):PE X (.Call (.Name x p) (e::es) [] pos) (tCB r t):=by
 intro Kp s σ H Q I h;refine wpAny_Call_Name_kw (QG I hg hm hv ?_ hn hdb);exact PyProof.Rows.callWith_type1 (thn (ha pos Kp s σ H _ I h) fun us s1 ⟨vs,H1,I1,r1,q1⟩=>hc Kp s1 σ H1 vs us Q I1 r1 q1) he hpl
end
end L2
namespace HT
open PySem PyProof.Rows
section
open PySem.SeqAt
open PySem.AutoSeq1 (wpAny_loadPart')
open PySem.MeetsSeq PySem.MeetsSeq2 PySem.MeetsSeq3
end
section
variable {prog:Program}{w:World}{A:Around}{E:Value->SP0}{s:Shared}
theorem cat_tup{t b:Addr}{vs ws:List Value}{Q:Value->SP0}(ht:IsTup s.heap t vs.toArray)(hb:IsTup s.heap b ws.toArray)(hv:vs≠[])
  (h1:ws=[]->Q (.ref t) s) (h2:ws≠[]->Q (.ref s.heap.objs.size) { s with heap:=s.heap.push { cls:= .type "tuple",data:= .seq (vs++ws).toArray } })
  (hsz:vs.length+ws.length<=sizeLine):wpAny (model prog w) A (binaryOp .Add (.ref t) (.ref b)) Q E s:=by
 obtain⟨⟨cls,dd,data,sl⟩,ho,hc,n,hd⟩:=id ht;obtain⟨⟨cls2,dd2,data2,sl2⟩,ho2,hc2,n2,hd2⟩:=id hb;simp only at hc hd hc2 hd2;subst hc hd hc2 hd2;have e:vs.toArray++ws.toArray=(vs++ws).toArray:=by simp
 by_cases hw:ws=[]
 ·exact concat_meets ⟨_,ho,rfl⟩ ⟨_,ho2,rfl⟩ noFill_tuple_add seq_tuple_add PySem.F.slot_tuple_add PySem.F.entry_tuple_add (PySem.F.args_tuple_add_2 _ _)
   (tuple_addW1 t b vs.toArray ws.toArray n n2 dd dd2 sl sl2 (by simpa using hv) (by simp[hw])) ⟨ho,ho2,h1 hw⟩
 ·refine concat_meets ⟨_,ho,rfl⟩ ⟨_,ho2,rfl⟩ noFill_tuple_add seq_tuple_add PySem.F.slot_tuple_add PySem.F.entry_tuple_add (PySem.F.args_tuple_add_2 _ _)
   (tuple_addW2 t b vs.toArray ws.toArray n n2 dd dd2 sl sl2 (by simpa using hv) (by simpa using hw) (by rw[List.size_toArray,List.size_toArray];exact hsz)) ⟨ho,ho2,?_⟩
  rw[e];exact h2 hw
noncomputable def sIx(n d:Nat):Option Int->Nat
 |none=>d
 |some v=>if v<0 then (v+(n:Int)).toNat else min v.toNat n
theorem sIx_none(n d:Nat):sIx n d none=d:=rfl
theorem sIx_nat(n d k:Nat):sIx n d (some (k:Int))=min k n:=by
 show(if (k:Int)<0 then ((k:Int)+(n:Int)).toNat else min (k:Int).toNat n)=min k n;rw[if_neg (by omega),Int.toNat_natCast]
theorem ahm(n d:Nat)(hd:d<=n)(o:Option Int):sIx n d o<=n:=by
 cases o with
 |none=>exact hd
 | some v=>
  show(if v<0 then (v+(n:Int)).toNat else min v.toNat n)<=n;by_cases hv:v<0
  ·rw[if_pos hv];omega
  ·rw[if_neg hv];exact Nat.min_le_right _ _
theorem ace(v:Int)(n d:Nat):(if v<0 then max (v+(n:Int)) 0 else min v (n:Int))=((sIx n d (some v):Nat):Int):=by
 show(if v<0 then max (v+(n:Int)) 0 else min v (n:Int))=(((if v<0 then (v+(n:Int)).toNat else min v.toNat n):Nat):Int);by_cases hv:v<0
 ·simp only[if_pos hv];omega
 ·simp only[if_neg hv];omega
theorem abA(lo hi:Option Int)(n:Nat):Builtin.Slice.sliceAdjust lo hi 1 (n:Int)=(((sIx n 0 lo:Nat):Int),((sIx n n hi:Nat):Int)):=by
 have h1:¬ ((1:Int)<0):=by omega
 unfold Builtin.Slice.sliceAdjust;simp only[h1,zzN];refine Prod.ext ?_ ?_
 ·cases lo with
  |none=>rfl
  |some v=>exact ace v n 0
 ·cases hi with
  |none=>rfl
  |some v=>exact ace v n n
theorem abB(i j:Nat):Builtin.Slice.slicePlaces (i:Int) (j:Int) 1=j-i:=by
 unfold Builtin.Slice.slicePlaces;have h1:(1:Int)>0:=by omega
 simp only[h1,zzM,Int.ediv_one];split<;>omega
theorem QI{v:Value}{o:Option Int}{Q:Option Int->SP0}(p:IsPart v o)(h:Q o s):wpAny (model prog w) A (Builtin.Slice.slicePartIndex v) Q E s:=by
 cases p with
 |none=>exact slicePart_none h
 |int i t=>exact slicePart_int h
theorem sliceApplied_gen{sl:Addr}{vl vu:Value}{lo hi:Option Int}{n:Nat}{Q:Int×Int×Nat->SP0}(hs:s.heap.IsSliceOf sl vl vu .none)(pl:IsPart vl lo)(pu:IsPart vu hi)
  (h:Q (((sIx n 0 lo:Nat):Int),1,sIx n n hi-sIx n 0 lo) s):wpAny (model prog w) A (Builtin.Slice.sliceApplied (.ref sl) (pure (n:Int))) Q E s:=by
 obtain⟨os,hos,hcs,hds⟩:=id hs;unfold Builtin.Slice.sliceApplied Builtin.Slice.sliceFields;refine wpAny_bind (wpAny_bind (wpAny_field hos hds (x:=vl) rfl (wpAny_bind (wpAny_field hos hds (x:=vu) rfl (wpAny_bind (wpAny_field hos hds (x:= .none) rfl (wpAny_pure ?_)))))));refine wpAny_bind (slicePart_none ?_);show wpAny _ _ (if ((1:Int)==0)=true then _ else _) _ _ s;rw[if_neg (by decide)];refine wpAny_bind (QI pl (wpAny_bind (QI pu (wpAny_bind (wpAny_pure ?_)))));show wpAny _ _ (match Builtin.Slice.sliceAdjust lo hi 1 (n:Int)with | (lo,hi)=>pure (lo,(1:Int),Builtin.Slice.slicePlaces lo hi 1)) _ _ s;rw[abA lo hi n];show wpAny _ _ (pure (((sIx n 0 lo:Nat):Int),(1:Int),Builtin.Slice.slicePlaces ((sIx n 0 lo:Nat):Int) ((sIx n n hi:Nat):Int) 1)) _ _ s;rw[abB];exact wpAny_pure h
theorem adU(xs:Array Value)(i k:Nat):((List.range k).filterMap fun (m:Nat)=>xs[((i:Int)+(m:Int)*1).toNat]?).toArray=((xs.toList.drop i).take k).toArray:=by
 have e:(fun (m:Nat)=>xs[((i:Int)+(m:Int)*1).toNat]?)=fun m=>xs[i+m]?:=by
  funext m;have:((i:Int)+(m:Int)*1).toNat=i+m:=by omega
  rw[this]
 rw[e];have:=pick_run xs i k;rw[List.filterMap_map]at this;have e2:((fun x=>xs[x]?)∘fun x=>i+x)=fun m=>xs[i+m]?:=rfl;rw[e2]at this;rw[this]
theorem getItem_tuple_cut{t sl:Addr}{items:Array Value}{vl vu:Value}{lo hi:Option Int}{Q:Value->SP0}(ht:IsTup s.heap t items)(hs:s.heap.IsSliceOf sl vl vu .none)(pl:IsPart vl lo)(pu:IsPart vu hi)
  (hw:¬ (sIx items.size 0 lo=0/\sIx items.size items.size hi=items.size))
  (h:Q (.ref s.heap.objs.size) { s with heap:=s.heap.push { cls:= .type "tuple",data:= .seq ((items.toList.drop (sIx items.size 0 lo)).take (sIx items.size items.size hi-sIx items.size 0 lo)).toArray } })
  (hsz:items.size<=sizeLine):wpAny (model prog w) A (getItem (.ref t) (.ref sl)) Q E s:=by
 have htake:sizeOk (.seq ((items.toList.drop (sIx items.size 0 lo)).take (sIx items.size items.size hi-sIx items.size 0 lo)).toArray):=by
  show((items.toList.drop (sIx items.size 0 lo)).take (sIx items.size items.size hi-sIx items.size 0 lo)).toArray.size<=sizeLine;rw[List.size_toArray,List.length_take,List.length_drop,Array.length_toList];omega
 have hj:sIx items.size items.size hi<=items.size:=ahm _ _ (Nat.le_refl _) hi;obtain⟨os,hos,hcs,hds⟩:=id hs;have hTs:s.TypeIs (.ref sl) "slice":=⟨os,hos,hcs⟩;unfold getItem
 try with_reducible refine wpAny_holding ?_
 first | refine wpAny_bind (wpAny_pure ?_) | skip
 refine wpAny_bind (wpAny_sequenceKey ht.typeIs (by decide) ?_)
 refine wpAny_bind (wpAny_callSpecial?_slot (name:=Str.ofString "__getitem__") ht.typeIs PyProof.Rows.slot_tuple_getitem
  (wpAny_call_entry PyProof.Rows.slot_tuple_getitem ht.typeIs entry_tuple_getitem ?_ (args_tuple_getitem _ _)))
 show wpAny _ _ (Builtin.Tuple.tupleItemsOf (.ref t) >>= _) _ _ s;refine wpAny_bind (tupleItemsOf_ ht ?_);refine wpAny_bind (wpAny_typeOf hTs ?_);rw[if_pos (by decide)];refine wpAny_bind (sliceApplied_gen hs pl pu ?_)
 have hno:¬ ((((sIx items.size 0 lo:Nat):Int)==0&&(1:Int)==1&&(sIx items.size items.size hi-sIx items.size 0 lo)==items.size)=true):=by
  intro q;rw[Bool.and_eq_true,Bool.and_eq_true]at q;have q1:((sIx items.size 0 lo:Nat):Int)=0:=eq_of_beq q.1.1;have q2:sIx items.size items.size hi-sIx items.size 0 lo=items.size:=eq_of_beq q.2;exact hw ⟨by omega,by omega⟩
 show wpAny _ _ (if (((sIx items.size 0 lo:Nat):Int)==0&&(1:Int)==1&&(sIx items.size items.size hi-sIx items.size 0 lo)==items.size)=true then _ else _) _ _ s;rw[if_neg hno,adU]
 first
  |exact wpAny_bind (m:=Builtin.Tuple.tupleExact _) (wpAny_newObj_type (wpAny_pure ⟨_,rfl,wpAny_pure h⟩) htake)
  |exact wpAny_bind (m:=Builtin.Tuple.tupleExact _) (wpAny_newObj_type (wpAny_bind (wpAny_pure (wpAny_pure ⟨_,rfl,wpAny_pure h⟩))) htake)
  |exact wpAny_bind (wpAny_bind (m:=Builtin.Tuple.tupleExact _) (wpAny_newObj_type (wpAny_pure (wpAny_pure ⟨_,rfl,wpAny_pure h⟩)) htake))
  |exact wpAny_bind (wpAny_bind (m:=Builtin.Tuple.tupleExact _) (wpAny_newObj_type (wpAny_pure ⟨_,rfl,wpAny_pure h⟩) htake))
end
end HT
namespace L2
open PySem PySem.Spec PyProof.Rows
noncomputable abbrev TO:=St->Hp->(Option Int->Hp->Prop)->Prop
noncomputable def PO(X:Cx)(e:Option Expr)(t:TO):Prop:=
 ∀(Kp:List (Addr×Obj)) (s:Shared) (σ:St) (H:Hp) (Q:Option Int->Hp->Prop),Inv X Kp σ H s->t σ H Q->
  wpAny (model X.prog X.w) X.A (evalPart e X.env) (fun u s'=>∃o H',Inv X Kp σ H' s'/\IsPart u o/\Q o H') X.xe s
noncomputable def afx:TO:=fun _ H Q=>Q none H
noncomputable def air(t:TE):TO:=fun σ H Q=>t σ H fun x H1=>∃i,x= .int i/\Q (some i) H1
section
variable {X:Cx}{e:Expr}{te:TE}{lo hi:Option Expr}{tl th:TO}{pos p2:Pos}
theorem acf:PO X none afx:=by
 intro Kp s σ H Q I h;rw[evalPart_none];exact wpAny_pure ⟨none,H,I,.none,h⟩
theorem acg(h:PE X e te):PO X (some e) (air te):=by
 intro Kp s σ H Q I hw;rw[evalPart_some];refine thn (h Kp s σ H _ I hw) fun u s1 ⟨x,H1,I1,r1,q1⟩=>?_;obtain⟨i,rfl,q⟩:=q1;obtain⟨t,rfl⟩:=r1;exact⟨some i,H1,I1,.int i t,q⟩
noncomputable def SlR(X:Cx)(r:V->Option Int->Option Int->Hp->VK->Prop):Prop:=
 ∀(Kp:List (Addr×Obj)) (s:Shared) (σ:St) (H:Hp) (x:V) (v vl vu:Value) (lo hi:Option Int) (sl:Addr) (Q:VK),Inv X Kp σ H s->jO x v->s.heap.IsSliceOf sl vl vu .none->IsPart vl lo->IsPart vu hi->r x lo hi H Q->
  ∃T id,typeLookup (.type T) "__getitem__"=pure (some (.builtin id))/\s.TypeIs v T/\wpAny (model X.prog X.w) X.A (getItem v (.ref sl)) (EP X Kp σ Q) X.xe s
theorem SlR.or{r r':V->Option Int->Option Int->Hp->VK->Prop}(h:SlR X r)(h':SlR X r'):SlR X (fun x lo hi H Q=>r x lo hi H Q∨r' x lo hi H Q):=by
 intro Kp s σ H x v vl vu lo hi sl Q I rx hs pl pu q;rcases q with q | q
 ·exact h Kp s σ H x v vl vu lo hi sl Q I rx hs pl pu q
 ·exact h' Kp s σ H x v vl vu lo hi sl Q I rx hs pl pu q
noncomputable def tSl(r:V->Option Int->Option Int->Hp->VK->Prop)(te:TE)(tl th:TO):TE:=fun σ H Q=>te σ H fun x H1=>tl σ H1 fun l H2=>th σ H2 fun u H3=>r x l u H3 Q
theorem aay{r:V->Option Int->Option Int->Hp->VK->Prop}(hr:SlR X r)(he:PE X e te)(hl:PO X lo tl)(hu:PO X hi th):PE X (.Subscript e (.Slice lo hi none p2) pos) (tSl r te tl th):=by
 intro Kp s σ H Q I h;refine Subscript_ (thn (he Kp s σ H _ I h) fun v s1 ⟨x,H1,I1,r1,q1⟩=>?_);refine wpAny_Slice (thn (hl Kp s1 σ H1 _ I1 q1) fun vl s2 ⟨l,H2,I2,pl,q2⟩=>thn (hu Kp s2 σ H2 _ I2 q2) fun vu s3 ⟨u,H3,I3,pu,q3⟩=>?_);rw[evalPart_none];refine wpAny_pure ?_;have I4:Inv X Kp σ H3 { s3 with heap:=s3.heap.push { cls:= .type "slice",data:= .fields #[vl,vu,.none] } }:=I3.kept (t':=s3.toks) fun b ob q=>Heap.get?_push_of_some _ q;obtain⟨T,id,hT,ht,hg⟩:=hr Kp { s3 with heap:=s3.heap.push { cls:= .type "slice",data:= .fields #[vl,vu,.none] } } σ H3 x v vl vu l u s3.heap.objs.size Q I4 r1 (Heap.IsSliceOf.new ..) pl pu q3;show wpAny (model X.prog X.w) X.A (subscriptTail e (.Slice lo hi none p2) v (.ref s3.heap.objs.size)) (EP X Kp σ Q) X.xe { s3 with heap:=s3.heap.push { cls:= .type "slice",data:= .fields #[vl,vu,.none] } };exact tail_any (ops:=[.ref s3.heap.objs.size,v]) ht hT hg (by with_unfolding_all rfl)
noncomputable def ZM(xs:List V)(lo hi:Option Int):List V:=(xs.drop (HT.sIx xs.length 0 lo)).take (HT.sIx xs.length xs.length hi-HT.sIx xs.length 0 lo)
theorem aaz(xs:List V)(lo hi:Option Int):(ZM xs lo hi).length<=xs.length:=by
 unfold ZM;rw[List.length_take,List.length_drop];omega
noncomputable def ais(K:Fg):V->Option Int->Option Int->Hp->VK->Prop:=fun x lo hi H Q=>∃a xs,x= .ref a/\SqT K H a xs/\
 ¬ (HT.sIx xs.length 0 lo=0/\HT.sIx xs.length xs.length hi=xs.length)/\∀p,H p=none->Q (.ref p) (upd H p (.tup (ZM xs lo hi)))
theorem adV:SlR X (ais X.K):=by
 intro Kp s σ H x v vl vu lo hi sl Q I rx hs pl pu h;obtain⟨a,xs,rfl,hx,hw,q⟩:=h;cases rx;obtain⟨its,r,ht,hz⟩:=I.tuple hx;have hlen:its.toArray.size=xs.length:=by rw[List.size_toArray];exact r.length.symm
 refine⟨"tuple",_,PyProof.Rows.slot_tuple_getitem.lookup,ht.typeIs,?_⟩;refine HT.getItem_tuple_cut ht hs pl pu (by rw[hlen];exact hw) ?_ (by rw[hlen];exact hz);rw[hlen];refine⟨.ref s.heap.objs.size,_,I.laid (t':=s.toks) (o:= .tup (ZM xs lo hi)) (fun b ob q=>Heap.get?_push_of_some _ q) (Nat.le_refl _) ?_,rfl,q _ (I.hok.fresh (Nat.le_refl _))⟩;exact⟨Nat.le_trans (aaz xs lo hi) hz,_,(r.drop (HT.sIx xs.length 0 lo)).take (HT.sIx xs.length xs.length hi-HT.sIx xs.length 0 lo),IsTup.new _ _⟩
noncomputable def ait(K:Fg):R2:=fun x y H Q=>∃a b xs ys,x= .ref a/\y= .ref b/\SqT K H a xs/\SqT K H b ys/\xs≠[]/\xs.length+ys.length<=sizeLine/\
 (ys=[]->Q (.ref a) H)/\(ys≠[]->∀p,H p=none->Q (.ref p) (upd H p (.tup (xs++ys))))
theorem jx.nil_iff{xs:List V}{us:List Value}(r:jx xs us):us=[]↔xs=[]:=by
 cases r with
 |nil=>simp
 |cons _ _=>simp
theorem afy:OpR X (binaryOp .Add) (ait X.K):=by
 intro Kp s σ H x y v u Q I rx ry h;obtain⟨a,b,xs,ys,rfl,rfl,ha,hb,hx,hz,q1,q2⟩:=h;cases rx;cases ry;obtain⟨its,r1,p1,_⟩:=I.tuple ha;obtain⟨its2,r2,p2,_⟩:=I.tuple hb;refine HT.cat_tup p1 p2 (fun z=>hx (r1.nil_iff.mp z)) (fun z=>⟨.ref a,H,I,rfl,q1 (r2.nil_iff.mp z)⟩) (fun z=>?_) (by rw[←r1.length,←r2.length];exact hz);refine⟨.ref s.heap.objs.size,_,I.laid (t':=s.toks) (o:= .tup (xs++ys)) (fun b ob q=>Heap.get?_push_of_some _ q) (Nat.le_refl _) ?_,rfl,q2 (fun w=>z (r2.nil_iff.mpr w)) _ (I.hok.fresh (Nat.le_refl _))⟩;exact⟨by rw[List.length_append];exact hz,_,r1.append r2,IsTup.new _ _⟩
end
noncomputable def ixN(n:Nat)(i:Int):Option Nat:=if 0<=i then (if i<n then some i.toNat else none) else if -(n:Int)<=i then some (i+n).toNat else none
noncomputable def atI{α:Type}(xs:List α)(i:Int):Option α:=(ixN xs.length i).bind fun j=>xs[j]?
theorem afz{n:Nat}{i:Int}{j:Nat}(h:ixN n i=some j):seqIndex? i n=some j/\j<n/\-(n:Int)<=i/\i<n:=by
 unfold ixN at h;by_cases h0:0<=i
 ·rw[if_pos h0]at h
  by_cases h1:i<n
  ·rw[if_pos h1]at h
   have e:i.toNat=j:=Option.some.inj h;exact⟨by rw[seqIndex_of h0 h1,e],by omega,by omega,h1⟩
  ·rw[if_neg h1]at h;cases h
 ·rw[if_neg h0]at h
  by_cases h1:-(n:Int)<=i
  ·rw[if_pos h1]at h
   have e:(i+n).toNat=j:=Option.some.inj h;exact⟨by rw[seqIndex_neg (by omega) h1,e],by omega,h1,by omega⟩
  ·rw[if_neg h1]at h;cases h
theorem ach{α:Type}{xs:List α}{i:Int}{v:α}(h:atI xs i=some v):∃j,seqIndex? i xs.length=some j/\xs[j]?=some v/\j<xs.length/\-(xs.length:Int)<=i/\i<xs.length:=by
 unfold atI at h;cases e:ixN xs.length i with
 |none=>rw[e]at h;cases h
 | some j=>
  rw[e]at h;obtain⟨h1,h2,h3,h4⟩:=afz e;exact⟨j,h1,h,h2,h3,h4⟩
noncomputable def aci(b:Expr):Prop:=∀o i,subscripted b false o i=operate [o,i] (getItem o i)
noncomputable def IxR(X:Cx)(r:R2):Prop:=
 ∀(value slice:Expr) (Kp:List (Addr×Obj)) (s:Shared) (σ:St) (H:Hp) (x y:V) (v u:Value) (Q:VK),Inv X Kp σ H s->jO x v->jO y u->r x y H Q->
  subscripted slice false v u=operate [v,u] (getItem v u)->wpAny (model X.prog X.w) X.A (subscriptTail value slice v u) (EP X Kp σ Q) X.xe s
noncomputable def MtR(X:Cx)(id:String)(r:V->List V->Hp->VK->Prop):Prop:=
 ∀(Kp:List (Addr×Obj)) (s:Shared) (σ:St) (H:Hp) (x:V) (xs:List V) (v:Value) (us:List Value) (Q:VK),Inv X Kp σ H s->jO x v->jx xs us->r x xs H Q->
  wpAny (model X.prog X.w) X.A (call (.builtin id) (v::us)) (EP X Kp σ Q) X.xe s
section
variable {X:Cx}{a b:Expr}{ta tb:TE}{pos:Pos}
theorem IxR.or{r r':R2}(h:IxR X r)(h':IxR X r'):IxR X (fun x y H Q=>r x y H Q∨r' x y H Q):=by
 intro value slice Kp s σ H x y v u Q I rx ry q hs;rcases q with q | q
 ·exact h value slice Kp s σ H x y v u Q I rx ry q hs
 ·exact h' value slice Kp s σ H x y v u Q I rx ry q hs
theorem MtR.or{id:String}{r r':V->List V->Hp->VK->Prop}(h:MtR X id r)(h':MtR X id r'):MtR X id (fun x xs H Q=>r x xs H Q∨r' x xs H Q):=by
 intro Kp s σ H x xs v us Q I rx rs q;rcases q with q | q
 ·exact h Kp s σ H x xs v us Q I rx rs q
 ·exact h' Kp s σ H x xs v us Q I rx rs q
theorem aiu{r:R2}(hr:IxR X r)(ha:PE X a ta)(hb:PE X b tb)(hs:aci b):PE X (.Subscript a b pos) (tOp r ta tb):=by
 intro Kp s σ H Q I h;exact Subscript_ (ahd ha hb I h fun v u s2 x y H2 I2 rx ry q=>hr a b Kp s2 σ H2 x y v u Q I2 rx ry q (hs _ _))
noncomputable def ajk(K:Fg):R2:=fun x y H Q=>∃p xs i v,x= .ref p/\y= .int i/\SqL K H p xs/\atI xs i=some v/\Q v H
noncomputable def ajl(K:Fg):R2:=fun x y H Q=>∃p xs i v,x= .ref p/\y= .int i/\SqT K H p xs/\atI xs i=some v/\Q v H
theorem afA:IxR X (ajk X.K):=by
 intro value slice Kp s σ H x y v u Q I rx ry h hs;obtain⟨p,xs,i,z,rfl,rfl,hq,he,q⟩:=h;cases rx;obtain⟨t,rfl⟩:=ry;obtain⟨its,r,pl,hz⟩:=I.list hq;obtain⟨j,h1,h2,h3,h4,h5⟩:=ach he;obtain⟨w,ew,rw'⟩:=r.get h2;have hl:=r.length;have hn:=abx;have fin:EP X Kp σ Q w s:=⟨z,H,I,rw',q⟩;by_cases h0:0<=i
 ·have hj:i.toNat=j:=by
   rw[seqIndex_of h0 h5]at h1;exact Option.some.inj h1
  exact item_listR pl.isList h0 (by omega) (by rw[hj];simpa using ew) fin hs
 ·have hj:(i+(its.toArray.size:Int)).toNat=j:=by
   rw[seqIndex_neg (by omega) h4]at h1;rw[List.size_toArray,←hl];exact Option.some.inj h1
  exact subscriptTail_builtinR (x:=w) pl.isList.typeIs slot_list_getitem.lookup
   (wpAny_getItem_list_neg (Q:=fun r s'=>r=w/\EP X Kp σ Q r s') pl.isList (by omega) (by rw[List.size_toArray]<;>omega) (by omega) (by rw[hj];simpa using ew) ⟨rfl,fin⟩) hs
theorem ahn:IxR X (ajl X.K):=by
 intro value slice Kp s σ H x y v u Q I rx ry h hs;obtain⟨p,xs,i,z,rfl,rfl,hq,he,q⟩:=h;cases rx;obtain⟨t,rfl⟩:=ry;obtain⟨its,r,pl,hz⟩:=I.tuple hq;obtain⟨j,h1,h2,h3,h4,h5⟩:=ach he;obtain⟨w,ew,rw'⟩:=r.get h2;have hl:=r.length;have hn:=abx;have fin:EP X Kp σ Q w s:=⟨z,H,I,rw',q⟩
 exact subscriptTail_builtinR (x:=w) pl.typeIs slot_tuple_getitem.lookup
  (getItem_tuple (j:=j) (Q:=fun r s'=>r=w/\EP X Kp σ Q r s') pl (by omega) (by omega) (by rw[List.size_toArray,←hl];exact h1) (by simpa using ew) ⟨rfl,fin⟩) hs
theorem Inv.lst{Kp:List (Addr×Obj)}{σ:St}{H:Hp}{s:Shared}{p:Addr}{xs:List V}(I:Inv X Kp σ H s)(h:H p=some (.lst xs)):
  ∃(its:List Value) (n:Nat),jx xs its/\s.heap.get? p=some { cls:= .type "list",data:= .seq its.toArray n }/\xs.length<=sizeLine:=by
 obtain⟨z,its,n,r,e⟩:=I.hok p _ h;exact⟨its,n,r,e,z⟩
theorem ZN:zf X (.builtin "len") (fun xs H Q=>∃p ys,xs=[.ref p]/\(SqL X.K H p ys∨SqT X.K H p ys)/\Q (.int ys.length) H):=by
 intro Kp s σ H xs us Q I r h;obtain⟨p,ys,rfl,hq,q⟩:=h;obtain⟨u,rfl,rx⟩:=acd r;cases rx;have hn:=abx;rcases hq with hq | hq
 ·obtain⟨its,r',pl,hz⟩:=I.list hq
  have hlen:=r'.length;exact Calls.call_len_list pl.isList (by simp only[List.size_toArray]<;>omega) ⟨.int ys.length,H,I.tok _,⟨s.toks+1,by rw[List.size_toArray,hlen]⟩,q⟩
 ·obtain⟨its,r',pl,hz⟩:=I.tuple hq
  have hlen:=r'.length;exact len_tuple pl (by simp only[List.size_toArray]<;>omega) ⟨.int ys.length,H,I.tok _,⟨s.toks+1,by rw[List.size_toArray,hlen]⟩,q⟩
theorem zf.or{f:Value}{r r':List V->Hp->VK->Prop}(h:zf X f r)(h':zf X f r'):zf X f (fun xs H Q=>r xs H Q∨r' xs H Q):=by
 intro Kp s σ H xs us Q I rs q;rcases q with q | q
 ·exact h Kp s σ H xs us Q I rs q
 ·exact h' Kp s σ H xs us Q I rs q
noncomputable def tyV(K:Fg)(T:String)(x:V)(H:Hp):Prop:=match x with
 |.str _=>T="str"
 |.int _=>T="int"
 | .ref p=>(T="list"/\∃xs,SqL K H p xs)∨(T="tuple"/\∃o,K.lookup p=some o/\o.cls= .type "tuple"/\o.dict=none) ∨
   (T="dict"/\((∃kvs,H p=some (.dK kvs))∨∃kvs,H p=some (.dT kvs)))∨(T="set"/\∃S n,H p=some (.set S n))
 |_=>False
theorem aho{Kp:List (Addr×Obj)}{σ:St}{H:Hp}{s:Shared}{T:String}{x:V}{v:Value}(I:Inv X Kp σ H s)(r:jO x v)(ty:tyV X.K T x H):
  s.TypeIs v T/\∀a,v= .ref a->∃ob,s.heap.get? a=some ob/\ob.dict=none:=by
 cases x with
 | str z=>
  obtain⟨t,rfl⟩:=r;cases (show T="str" from ty);exact⟨typeIs_str s z t,fun _ e=>nomatch e⟩
 | int i=>
  obtain⟨t,rfl⟩:=r;cases (show T="int" from ty);exact⟨typeIs_int s i t,fun _ e=>nomatch e⟩
 | ref p=>
  cases r;rcases ty with ⟨rfl,xs,hq⟩ | ⟨rfl,o,hk,hc,hd⟩ | ⟨rfl,hk⟩ | ⟨rfl,S,n,hk⟩
  ·obtain⟨its,_,pl,_⟩:=I.list hq
   refine⟨pl.isList.typeIs,fun a e=>?_⟩;cases e;obtain⟨o,n,e,c,hd,_⟩:=pl;exact⟨o,e,hd⟩
  ·refine⟨⟨o,I.kIn p o hk,hc⟩,fun a e=>?_⟩
   cases e;exact⟨o,I.kIn _ o hk,hd⟩
  ·have z:∃o,s.heap.get? p=some o/\o.ExactDict:=by
    rcases hk with ⟨kvs,hk⟩ | ⟨kvs,hk⟩
    ·obtain⟨_,_,_,_,o,_,_,e,ex,_⟩:=I.hok p _ hk
     exact⟨o,e,ex⟩
    ·obtain⟨_,_,_,_,o,_,_,e,ex,_⟩:=I.hok p _ hk
     exact⟨o,e,ex⟩
   obtain⟨o,e,ex⟩:=z;refine⟨⟨o,e,ex.1⟩,fun a e2=>?_⟩;cases e2;exact⟨o,e,ex.2.1⟩
  ·obtain⟨o,_,_,_,e,ex,_⟩:=I.hok p _ hk
   refine⟨⟨o,e,ex.1⟩,fun a e2=>?_⟩;cases e2;exact⟨o,e,ex.2.1⟩
 |_=>exact False.elim ty
noncomputable def tBM(K:Fg)(T:String)(r:V->List V->Hp->VK->Prop)(to:TE)(t:TA):TE:=fun σ H Q=>to σ H fun x H1=>tyV K T x H1/\t σ H1 fun xs H2=>r x xs H2 Q
variable {o e:Expr}{es:List Expr}{to:TE}{t:TA}{name:Str}{apos cpos:Pos}{T id:String}{r:V->List V->Hp->VK->Prop}
theorem agL(pa:PlainAttrs T)(slot:Slot T name id)(hty:typeOf (.builtin id)=pure (.type "method_descriptor"))(hm:MtR X id r)(ho:PE X o to)(ha:PA X (e::es) t)
  (hbase:attributeBase o name X.env (eval o X.env)=eval o X.env:=by rfl)
  (hfew:((backTo cpos (starEach (e::es) X.env)).all (fun x=>!x.1)&&(backToKw cpos (keywordEach [] X.env)).all (fun x=>x.1.isSome)
   && decide ((e::es).length+([]:List Keyword).length+(if ([]:List Keyword).isEmpty then 0 else 1)<30))=true:=by rfl)
  (hline:(apos.endLine==cpos.line)=true:=by rfl) (hs:starEach (e::es) X.env=(false,eval e X.env)::starEach es X.env:=by rfl) (hplain:(backTo cpos (starEach es X.env)).any (·.1)=false:=by rfl):
  PE X (.Call (.Attribute o name apos) (e::es) [] cpos) (tBM X.K T r to t):=by
 intro Kp s σ H Q I h;refine wpAny_Call_method_late hbase hfew hline rfl (thn (ho Kp s σ H _ I h) fun v s1 ⟨x,H1,I1,r1,ty,q1⟩=>?_);obtain⟨h1,h2⟩:=aho I1 r1 ty;refine⟨T,id,pa,slot,hty,h1,h2,?_⟩;have hA:=ha cpos Kp s1 σ H1 _ I1 q1;rw[hs]at hA ⊢;refine Calls.callWith_builtin (by show(false||(backTo cpos (starEach es X.env)).any (·.1))=false;rw[hplain]<;>rfl) (Calls.evalArgs_plain ?_);exact thn hA fun us s2 ⟨vs,H2,I2,r2,q2⟩=>hm Kp s2 σ H2 x vs v us Q I2 r1 r2 q2
end
noncomputable def MtM(X:Cx)(id:String)(r:V->List V->Hp->VK->Prop):Prop:=
 ∀(Kp:List (Addr×Obj)) (s:Shared) (σ:St) (H:Hp) (x:V) (xs:List V) (v:Value) (us:List Value) (Q:VK),Inv X Kp σ H s->jO x v->jx xs us->r x xs H Q->
  wpAny (model X.prog X.w) X.A (call (.builtin id) (v::us)) (EP X Kp σ Q) X.xe s
theorem jx.one:∀{x:V}{us:List Value},jx [x] us->∃u,us=[u]/\jO x u
 |_,_,.cons r .nil=>⟨_,rfl,r⟩
theorem jx.reverse{xs:List V}{us:List Value}(h:jx xs us):jx xs.reverse us.reverse:=by
 induction h with
 |nil=>exact .nil
 |cons r t ih=>rw[List.reverse_cons,List.reverse_cons];exact jx.append ih (.cons r .nil)
theorem jx.rep{xs:List V}{us:List Value}(h:jx xs us):∀k:Nat,jx (List.replicate k xs).flatten (List.replicate k us).flatten
 |0=> .nil
 | k+1=>by
  rw[List.replicate_succ,List.replicate_succ,List.flatten_cons,List.flatten_cons];exact jx.append h (jx.rep h k)
theorem Zp(its:List Value):∀(k:Nat) (acc:List Value),
  List.foldl (fun x1 x2=>x1++x2) acc.toArray (List.replicate k its.toArray)=(acc++(List.replicate k its).flatten).toArray
 |0,acc=>by simp
 | k+1,acc=>by
  have e:acc.toArray++its.toArray=(acc++its).toArray:=by simp
  have e2:(acc++its)++(List.replicate k its).flatten=acc++(List.replicate (k+1) its).flatten:=by
   rw[List.replicate_succ,List.flatten_cons,List.append_assoc]
  rw[←e2,←Zp its k (acc++its),←e,List.replicate_succ,List.foldl_cons]
section
variable {X:Cx}{Kp:List (Addr×Obj)}{σ:St}{H:Hp}{s:Shared}{l b:Addr}{xs ys zs:List V}
theorem Inv.lset{its its':List Value}{n:Nat}{f:Array Value->Array Value}{t':Nat}(I:Inv X Kp σ H s)(hH:H l=some (.lst xs))
  (e:s.heap.get? l=some { cls:= .type "list",data:= .seq its.toArray n }) (hf:f its.toArray=its'.toArray) (hv:jx ys its') (hz:ys.length<=sizeLine):
  Inv X Kp σ (upd H l (.lst ys)) { s with heap:=s.heap.update l (Obj.mapSeq f),toks:=t' }:=by
 have q:=PySem.IsL.update e f;rw[hf]at q;refine I.write (x:=l) (e:=l) (by rw[hH];exact trivial) (.inl rfl) (fun b' u hb hu=>(Heap.get?_update_other s.heap (Obj.mapSeq f) (Ne.symm hb)).trans hu) ⟨_,q⟩ ?_;exact⟨hz,its',_,hv,q⟩
theorem Inv.lnew{its:List Value}{t':Nat}(I:Inv X Kp σ H s)(hv:jx ys its)(hz:ys.length<=sizeLine):
  Inv X Kp σ (upd H s.heap.objs.size (.lst ys)) { s with heap:=s.heap.push { cls:= .type "list",data:= .seq its.toArray },toks:=t' }:=
 I.laid (fun _ _ q=>Heap.get?_push_of_some _ q) (Nat.le_refl _) ⟨hz,its,0,hv,Heap.get?_push_size _ rfl⟩
theorem Inv.fresh(I:Inv X Kp σ H s):H s.heap.objs.size=none:=I.hok.fresh (Nat.le_refl _)
theorem Inv.lstM(I:Inv X Kp σ H s)(hH:H l=some (.lst xs)):xs.length<=sizeLine/\∃(its:List Value) (n:Nat),jx xs its/\xs.length=its.length/\s.heap.get? l=some { cls:= .type "list",data:= .seq its.toArray n }:=by
 obtain⟨z,its,n,r,e⟩:=I.hok l _ hH;exact⟨z,its,n,r,r.length,e⟩
theorem aaA{n:Nat}(h:n<=sizeLine):Builtin.List.listTooLong n=false:=by
 unfold Builtin.List.listTooLong;exact decide_eq_false (by omega)
end
section
variable {X:Cx}
noncomputable def afB:V->List V->Hp->VK->Prop:=fun x vs H Q=>∃l xs y,x= .ref l/\vs=[y]/\H l=some (.lst xs)/\xs.length<sizeLine/\Q .non (upd H l (.lst (xs++[y])))
theorem ac1:MtM X "list.append" afB:=by
 intro Kp s σ H x vs v us Q I rx rv h;obtain⟨l,xs,y,rfl,rfl,hH,hz,q⟩:=h;cases rx;obtain⟨u,rfl,ru⟩:=rv.one;obtain⟨z,its,n,r,hl,e⟩:=I.lstM hH;refine call_meets F.slot_list_append ⟨_,e,rfl⟩ F.entry_list_append (F.args_list_append_2 _ _) (PySem.list_append l its.toArray n u (by rw[List.size_toArray];omega)) ⟨e,?_⟩;refine⟨.non,_,I.lset (its':=its++[u]) hH e (by simp) (r.append (.cons ru .nil)) ?_,rfl,q⟩;rw[List.length_append,List.length_singleton];omega
noncomputable def afC:V->List V->Hp->VK->Prop:=fun x vs H Q=>∃l b xs zs,x= .ref l/\vs=[.ref b]/\H l=some (.lst xs)/\H b=some (.lst zs)/\xs.length+zs.length<=sizeLine/\Q .non (upd H l (.lst (xs++zs)))
theorem ac2:MtM X "list.extend" afC:=by
 intro Kp s σ H x vs v us Q I rx rv h;obtain⟨l,b,xs,zs,rfl,rfl,hH,hB,hz,q⟩:=h;cases rx;obtain⟨u,rfl,ru⟩:=rv.one;cases ru;obtain⟨z,its,n,r,hl,e⟩:=I.lstM hH;obtain⟨z2,its2,n2,r2,hl2,e2⟩:=I.lstM hB;have hsz:its.toArray.size+its2.toArray.size<=sizeLine:=by rw[List.size_toArray,List.size_toArray];omega
 have hlong:¬ (!its.toArray.isEmpty&&Builtin.List.listTooLong (its.toArray.size+its2.toArray.size))=true:=by
  rw[aaA hsz,Bool.and_false];exact Bool.false_ne_true
 refine call_meets F.slot_list_extend ⟨_,e,rfl⟩ F.entry_list_extend (F.args_list_extend_2 _ _)
  (AutoSeq1.list_extend_list_list_0 l its.toArray n b its2.toArray n2 hlong (by rw[List.size_toArray];omega) (by omega)) ⟨e,e2,?_⟩
 refine⟨.non,_,I.lset (its':=its++its2) hH e (by simp) (r.append r2) ?_,rfl,q⟩;rw[List.length_append];omega
noncomputable def ajm:R2:=fun x y H Q=>∃l b xs zs,x= .ref l/\y= .ref b/\H l=some (.lst xs)/\H b=some (.lst zs)/\xs.length+zs.length<=sizeLine/\∀p,H p=none->Q (.ref p) (upd H p (.lst (xs++zs)))
theorem ahp:OpR X (binaryOp .Add) ajm:=by
 intro Kp s σ H x y v u Q I rx ry h;obtain⟨l,b,xs,zs,rfl,rfl,hH,hB,hz,q⟩:=h;cases rx;cases ry;obtain⟨z,its,n,r,hl,e⟩:=I.lstM hH;obtain⟨z2,its2,n2,r2,hl2,e2⟩:=I.lstM hB;refine PySem.P.add_list e e2 ?_ (by rw[List.size_toArray,List.size_toArray];omega);have ea:its.toArray++its2.toArray=(its++its2).toArray:=by simp
 rw[ea];exact⟨.ref _,_,I.lnew (t':=s.toks) (r.append r2) (by rw[List.length_append];omega),rfl,q _ I.fresh⟩
noncomputable def ajn:R2:=fun x y H Q=>∃l k xs,x= .ref l/\y= .int k/\H l=some (.lst xs)/\-(2 ^ 63)<=k/\k<2 ^ 63/\xs.length*k.toNat<=sizeLine/\
 ∀p,H p=none->Q (.ref p) (upd H p (.lst (List.replicate k.toNat xs).flatten))
theorem afD{α:Type}(xs:List α)(k:Nat):(List.replicate k xs).flatten.length=k*xs.length:=by
 induction k with
 |zero=>simp
 |succ k ih=>rw[List.replicate_succ,List.flatten_cons,List.length_append,ih,Nat.succ_mul,Nat.add_comm]
theorem ahq:OpR X (binaryOp .Mult) ajn:=by
 intro Kp s σ H x y v u Q I rx ry h;obtain⟨l,k,xs,rfl,rfl,hH,h1,h2,hz,q⟩:=h;cases rx;obtain⟨t,rfl⟩:=ry;obtain⟨z,its,n,r,hl,e⟩:=I.lstM hH;have hlen:its.toArray.size*k.toNat<=sizeLine:=by rw[List.size_toArray,←hl];exact hz
 have hcap:¬ its.toArray.size*k.toNat>(2 ^ 63-1) / 8:=by
  have:(sizeLine:Nat)<=(2 ^ 63-1) / 8:=by decide
  omega
 have hfit:¬ (!Builtin.List.listFitsIndex k)=true:=by
  rw[fitsIndex_both h1 h2];exact Bool.false_ne_true
 have hlong:¬ Builtin.List.listTooLong (its.toArray.size*k.toNat)=true:=by
  rw[aaA hlen];exact Bool.false_ne_true
 have hnew:List.foldl (fun x1 x2=>x1++x2) #[] (List.replicate (if its.toArray.isEmpty=true then 0 else k.toNat) its.toArray)=(List.replicate k.toNat its).flatten.toArray:=by
  have f0:∀m:Nat,List.foldl (fun x1 x2=>x1++x2) #[] (List.replicate m its.toArray)=(List.replicate m its).flatten.toArray:=fun m=>by
   have:=Zp its m [];rw[List.nil_append]at this;exact this
  rw[f0];cases its with
  |nil=>simp
  |cons a r'=>rw[if_neg (by simp)]
 refine wpAny_binaryOp_repeat_ref (T:="list") (U:="int") (by decide) ⟨_,e,rfl⟩ (fun s'=>typeIs_int s' k t) noFill_list_mul F.fills_int_mul F.slot_int_rmul repeat_list F.slot_int_index.lookup
  (call_meets F.slot_int_rmul (typeIs_int s k t) F.entry_int_rmul (F.args_int_rmul_2 _ _) (int___rmul___int_list k t l its.toArray n)
   ⟨e,rfl,⟨_,e,rfl⟩,call_meets F.slot_list_mul ⟨_,e,rfl⟩ F.entry_list_mul (F.args_list_mul_2 _ _) (AutoListH.list___mul___list_int_3 l its.toArray n k t hfit hcap hlong) ⟨e,?_⟩⟩)
 rw[hnew];exact⟨.ref _,_,I.lnew (t':=s.toks) (r.rep k.toNat) (by rw[afD,Nat.mul_comm];exact hz),rfl,q _ I.fresh⟩
end
section
variable {prog:Program}{w:World}{A:Around}{E:Value->SP0}{s:Shared}
set_option maxRecDepth 100000 in
end
section
variable {X:Cx}
end
end L2
namespace Att
open PySem PySem.W PySem.Calls PyProof.Rows
theorem Qo{P:Params}{h:Heap}:∀(ns:List Int) (vs:List Value),WellAll P h vs (ns.map WData.int)->IntsAre vs ns:=by
 intro ns
 induction ns with
 | nil=>
  intro vs w;rw[List.map_nil]at w;cases w;exact .nil
 | cons n ns ih=>
  intro vs w;rw[List.map_cons]at w;cases w with
  | cons a b=>
   cases a;exact .cons _ _ (ih _ b)
theorem ac3{l:OpenLaw}{n:Nat}(hn:l.most=some n){P:Params}{h:Heap}{args:List WData}{vals:List Value}
  (hpre:l.row.toRowW.claim.pre args=true) (hwl:WellAll P h vals args):
  ∃a vs ns,vals=[Value.ref a]/\args=[WData.list (ns.map WData.int)]/\h.get? a=some { cls:= .type "list",data:= .seq vs.toArray }/\IntsAre vs ns/\ns.length<=n:=by
 have hsh:WShape.hasAll [] args [.list .int]=true:=(pre_splitW hpre).1;have hc:l.pre.holds [] { args:=args }=true:=(pre_splitW hpre).2;obtain⟨d,r,rfl,h1,h2⟩:=hasAllW_cons hsh;obtain rfl:=hasAllW_nil h2;obtain⟨xs,rfl,h3⟩:=hasW_list h1;obtain⟨ns,rfl⟩:=items_int h3
 have hlen:ns.length<=n:=by
  unfold OpenLaw.pre at hc
  have h4:(WTm.not (.lt (.lit (.int (n:Int))) (.len (.arg 0)))).holds [] { args:=[.list (ns.map .int)] }=true:=by
   have h4:=(holds_andW hc).1;rw[hn]at h4;exact h4
  have h5:=condW_of h4 (w_not (w_lt w_lit (w_len_list (w_arg rfl))));rw[List.length_map]at h5;refine Nat.le_of_not_lt fun q=>?_;have q':(n:Int)<((ns.length:Nat):Int):=by omega
  first
   | (rw[decide_eq_true q']at h5;exact absurd h5 (by decide))
   | (simp at h5;omega)
 cases hwl with
 | cons w1 w2=>
  cases w2;cases w1 with
  |list ho hall=>exact⟨_,_,ns,rfl,rfl,ho,Qo ns _ hall,hlen⟩
theorem ac4(l:OpenLaw)(args:List WData):l.row.toRowW.claim.post args (.bool true) args=true:=
 postW_of (r:=l.row.toRowW) (X:=(true==true))
  (show WShape.has [] (.bool true) .bool=true by first|rfl | decide|simp[WShape.has,WShape.arms,WShape.armsAll])
  (show(WTm.eq .res (.lit (.bool true))).value [] { args:=args,res:=some (.bool true),after:=args }=some (.bool (true==true)) from w_eq_bool (w_res rfl) w_lit) rfl
theorem attach_call{l:OpenLaw}{n:Nat}{q:Program}{loose:List Str}{XP:(SV)->Heap->Prop}{YP:World->Heap->Prop}{d:DefRec}
  (hn:l.most=some n) (hdf:d.params.defaults=[])
  (call:∀(w:World) (s₀ s₁:Shared) (mg mb:SV) (fa:Addr) (o:Obj) (pm cd doc:Value) (a:Addr) (vs:List Value) (ns:List Int),
   Ground q loose [] XP w s₀ mg mb s₁.heap->YP w s₁.heap->
   s₁.heap.get? fa=some o->o.data= .func (docDef d.name d.params d.body d.scope pm cd doc)->s₁.heap.CodeRec cd d.name->mg d.name=some (.ref fa)->
   s₁.heap.get? a=some { cls:= .type "list",data:= .seq vs.toArray }->IntsAre vs ns->ns.length<=n->s₁.gens=#[]->
   codeAny (model l.prog w) callerA (.call (.ref fa) ⟨[.ref a],[]⟩) (fun r s'=>r= .ok (.ret (.bool true))/\OldK s₁.heap s'.heap/\s'.os=s₁.os/\AllBare s'.gens) s₁):
  WalkO q loose XP YP l.row.toRowW d [] (fun f vs=>PySem.call f vs):=by
 intro w s₀ s₁ mg mb G Y fa o pm cd doc dV kV ho hd hcd hD hmg hg args vals as hpre hlay hrd hwl hlo;obtain rfl:dV= .none:=Dflts.none hD hdf;obtain rfl:kV= .none:=Dflts.noKw hD;obtain⟨a,vs,ns,rfl,rfl,hobj,hints,hlen⟩:=ac3 hn hpre hwl;refine enter_call (codeAny_mono (call w s₀ s₁ mg mb fa o pm cd doc a vs ns G Y ho (fd_plain hd) hcd hmg hobj hints hlen hg) fun r s' hq=>?_);obtain⟨rfl,h2,h3,h4⟩:=hq;exact⟨.inl ⟨.bool true,.bool true,[],rfl,fun _=>rfl,.bool true,ac4 l _,fun _=>⟨List.Pairwise.nil,fun _ hm=>(nomatch hm)⟩⟩,h2,h3,h4⟩
section
variable {prog:Program}{w:World}{A:Around}{E:Value->SP0}{s:Shared}{K:Frag}
noncomputable def ajo(h:Heap)(L d:Addr):List (Addr×Obj):=(List.range h.objs.size).filterMap fun a=>if a=L∨a=d then none else (h.get? a).map fun o=>(a,o)
end
end Att
namespace L2
open PySem PySem.Spec PyProof.Rows
theorem zY:∀{vs:List Value}{ns:List Int},IntsAre vs ns->jx (ns.map V.int) vs
 |_,_,.nil=> .nil
 |_,_,.cons n t h=> .cons ⟨t,rfl⟩ (zY h)
noncomputable def ahr(H:Hp):Prop:=∀b,H b=none∨∃o xs,H b=some (.frz o (.lst xs))
theorem adW{P:Program}{w:World}{K:Fg}{mg mb:SV}{CX:CXT}{k:Nat}{fa a:Addr}{fd:FuncData}{x:Str}{sp:Sp}{s₁:Shared}{vs:List Value}{ns:List Int}
  (KX:K.In s₁.heap) (hns:s₁.heap.Ns mainGlobals mg) (hb:s₁.heap.Ns builtinsNs mb) (hbb:∀x:Str,x≠"__name__"->mb x=bootBuiltins x) (hlim:s₁.heap.NoLimit) (hg:s₁.gens=#[])
  (ha:s₁.heap.get? a=some { cls:= .type "list",data:= .seq vs.toArray }) (hi:IntsAre vs ns) (hl:ns.length<=sizeLine) (hr:Room k callerA)
  (F:∀base:Heap,K.In base->base.Ns mainGlobals mg->FnOk P w K mg base CX k fa fd [x] sp) (hbind:∀(s:Shared) (u:Value),BindsTo s fd ⟨[u],[]⟩ [(x,u)])
  (hsp:∀H:Hp,ahr H->SqL K H a (ns.map V.int)->sp [.ref a] H (fun v _=>v= .bl true) fun _ _ _=>False)
  (hCX:∀H e s',CX [] H s₁ (fun _ _ _=>False) e s'->False):
  codeAny (model P w) callerA (.call (.ref fa) ⟨[.ref a],[]⟩) (fun r s'=>r= .ok (.ret (.bool true))/\OldK s₁.heap s'.heap/\s'.os=s₁.os/\AllBare s'.gens) s₁:=by
 have rv:=zY hi;have lenV:=hi.length
 have core:∀H:Hp,ahr H->SqL K H a (ns.map V.int)->HOk P w H s₁.heap->(∀b,H b≠none->b=a)->(H a≠none->K.lookup a=none)->
   codeAny (model P w) callerA (.call (.ref fa) ⟨[.ref a],[]⟩) (fun r s'=>r= .ok (.ret (.bool true))/\OldK s₁.heap s'.heap/\s'.os=s₁.os/\AllBare s'.gens) s₁:=by
  intro H hO hS hok hA hK;have base_of:∀{b:Addr} {o:Obj},s₁.heap.get? b=some o->H b=none->(ZI s₁.heap H).get? b=some o:=fun e n=>adI e n
  have noA:∀{b:Addr} {o:Obj} {es:Array DictEntry} {ep:Nat},s₁.heap.get? b=some o->o.data= .dict es ep->H b=none:=fun {b o es ep} e d=>by
   cases q:H b with
   |none=>rfl
   | some u=>
    have e':b=a:=hA b (by rw[q];simp);subst e';rw[ha]at e;cases e;have d':Data.seq vs.toArray _=Data.dict es ep:=d;cases d'
  have nsK:∀{b:Addr} {m:SV},s₁.heap.Ns b m->(ZI s₁.heap H).Ns b m:=fun {b m} ⟨o,es,ep,e,d,r⟩=>⟨o,es,ep,base_of e (noA e d),d,r⟩
  have hKb:K.In (ZI s₁.heap H):=fun b o e=>base_of (KX b o e) (by
   cases q:H b with
   | none=>rfl
   | some u=>
    have e':b=a:=hA b (by rw [q]; simp);subst e';rw [hK (by rw [q]; simp)] at e; cases e)
  have hM:Mod K mg (ZI s₁.heap H):=⟨hKb,nsK hns,⟨mb,nsK hb,hbb⟩,let ⟨mc,h1,h2⟩:=hlim;⟨mc,nsK h1,h2⟩⟩;have e0:Env0 P w K mg (ZI s₁.heap H) callerA [] s₁ H:=⟨rfl,hM,fun b o e=>afn e,Nat.le_of_eq (acS _ _),trivial,fun b hb=>absurd (show b∈([]:List Addr) from hb) (by simp),hok,.of_eq hg⟩;refine codeAny_mono ((F _ hKb (nsK hns)).run callerA [] s₁ H ⟨[.ref a],[]⟩ [.ref a] [.ref a] _ _ hr e0 (hbind s₁ (.ref a)) (.cons rfl .nil) (hsp H hO hS)) fun r s' h=>?_;cases r with
  |error e=>exact(hCX H e s' h).elim
  | ok fl=>
   cases fl with
   |next=>exact False.elim h
   |brk=>exact False.elim h
   |cont=>exact False.elim h
   | ret u=>
    obtain⟨v,H',os,bare,un,hok',r',q⟩:=h;have q':v= .bl true:=q;subst q';obtain rfl:u=Value.bool true:=r';refine⟨rfl,OldK.of_keep fun b o e=>?_,os,bare⟩;cases q:H b with
    |none=>exact un.keep b o e q (by intro z;exact absurd (show b∈([]:List Addr) from z) (by simp)) (by simp)
    | some u=>
     rcases hO b with z | ⟨ob,xs,z⟩
     ·rw[q]at z;cases z
     ·have z2:=un.frzs b ob _ z
      obtain⟨e1,_⟩:=hok b _ z;obtain⟨e2,_⟩:=hok' b _ z2;rw[e]at e1;cases e1;exact e2
 cases hk:K.lookup a with
 | some o=>
  have e:=KX a o hk;rw[ha]at e;cases e;refine core (fun _=>none) (fun _=> .inl rfl) (.inr ⟨_,vs.toArray,_,hk,rfl,rfl,rfl,by rw[List.size_toArray,lenV];exact hl,by simpa using rv⟩) (fun b u z=>by have z':(none:Option HO)=some u:=z;cases z') (fun b z=>absurd rfl z) fun z=>absurd rfl z
 | none=>
  refine core (fun b=>if b=a then some (.frz { cls:= .type "list",data:= .seq vs.toArray } (.lst (ns.map V.int))) else none) (fun b=>?_) (.inl (.inr ⟨{ cls:= .type "list",data:= .seq vs.toArray },if_pos rfl⟩)) (fun b u z=>?_) (fun b z=>?_) fun _=>hk
  ·by_cases hb:b=a
   ·exact .inr ⟨_,_,if_pos hb⟩
   ·exact .inl (if_neg hb)
  ·by_cases hb:b=a
   ·have z':=(if_pos hb).symm.trans z
    cases z';subst hb;exact⟨ha,by rw[List.length_map];exact hl,vs,_,rv,ha⟩
   ·have z':=(if_neg hb).symm.trans z
    cases z'
  ·by_cases hb:b=a
   ·exact hb
   ·exact absurd (if_neg hb) z
theorem afE{l:PySem.W.OpenLaw}{n k:Nat}{q:Program}{loose:List Str}{XP:(SV)->Heap->Prop}{YP:World->Heap->Prop}{d:DefRec}{K:Params->Fg}{CX:World->CXT}{sp:World->Sp}{x:Str}
  (hn:l.most=some n) (hn2:n<=sizeLine) (hdf:d.params.defaults=[]) (hr:Room k callerA)
  (hY:∀(w:World) (h:Heap),YP w h->(K w.params).In h)
  (F:∀(w:World) (mg:SV) (fa:Addr) (h:Heap),(K w.params).In h->h.Ns mainGlobals mg->mg d.name=some (.ref fa)->
   ∃ fd:FuncData,(∀ (s:Shared) (u:Value),BindsTo s fd ⟨[u],[]⟩ [(x,u)])/\
    ∀ base:Heap,(K w.params).In base->base.Ns mainGlobals mg->FnOk l.prog w (K w.params) mg base (CX w) k fa fd [x] (sp w))
  (hsp:∀(w:World) (H:Hp) (a:Addr) (ns:List Int),ns.length<=n->ahr H->SqL (K w.params) H a (ns.map V.int)->sp w [.ref a] H (fun v _=>v= .bl true) fun _ _ _=>False)
  (hCX:∀(w:World) (H:Hp) (s:Shared) (e:Value) (s':Shared),CX w [] H s (fun _ _ _=>False) e s'->False):
  PySem.W.WalkO q loose XP YP l.row.toRowW d [] (fun f vs=>PySem.call f vs):=by
 refine Att.attach_call hn hdf fun w s₀ s₁ mg mb fa o pm cd doc a vs ns G Y ho hd hcd hmg hobj hints hlen hg=>?_;have KX:=hY w _ Y;obtain⟨fd,hb,hF⟩:=F w mg fa _ KX G.T.g hmg;exact adW KX G.T.g G.T.b G.T.builtins G.T.nolimit hg hobj hints (Nat.le_trans hlen hn2) hr hF hb (fun H hO hS=>hsp w H a ns hlen hO hS) fun H e s'=>hCX w H s₁ e s'
noncomputable def zB(s:Stmt):Arguments:=match s with
 |.FunctionDef _ a _ _ _ _ _ _ _ _=>a
 |_=>{ posonlyargs:=[],args:=[],vararg:=none,kwonlyargs:=[],kw_defaults:=[],kwarg:=none,defaults:=[] }
noncomputable def jQ(s:Stmt):List Stmt:=match s with
 |.FunctionDef _ _ b _ _ _ _ _ _ _=>b
 |_=>[]
noncomputable def jj(s:Stmt):Scope:=match s with
 |.FunctionDef _ _ _ _ _ _ sc _ _ _=>sc
 |_=>{ kind:= .function,names:=[],isGenerator:=false,isCoroutine:=false }
noncomputable abbrev CX0:CXT:=fun _ _ _ _ _ _=>False
noncomputable abbrev E0:XK:=fun _ _ _=>False
theorem aiv{X:Cx}:abz CX0 X E0:=fun _ _ _ _ _ _ _ h=>h.elim
structure Fun(K:Fg)(x qual:Str)(st:Stmt)(f:Addr)(fd:FuncData):Prop where
 ex:∃(oc:Value) (od:Option Addr) (kV doc pm:Value) (an:Option Addr) (Kc ct:Value) (osl:Array (Option Value)),
  fd=PySem.W.fnOf x qual (zB st) (jQ st) (jj st) .none kV doc pm an Kc ct/\K.lookup f=some ⟨oc,od,.func fd,osl⟩/\PySem.W.codeIn K Kc qual=true
 kp:PySem.W.keepIn K (.ref f)=true
section
variable {P:Program}{w:World}{K:Fg}{mg:SV}{base:Heap}
theorem Fun.ok{x qual:Str}{st:Stmt}{f:Addr}{fd:FuncData}{N ps:List Str}{k:Nat}{sp:Sp}(F:Fun K x qual st f fd)(S:FnScope N ps (jj st))(len:∀vs H Q E,sp vs H Q E->vs.length=ps.length)
  (hbody:∀(Kc:Value) (A:Around) (Ko:List Env) (s:Shared) (H:Hp) (vs:List V) (Q:VK) (E:XK),Room k (A.deeper (envOfC qual (jj st) s.heap.objs.size f Kc))->sp vs H Q E->
   ∃ t,PSs (QH CX0 P w K mg base N qual (jj st) f Kc A Ko s H E).nox (jQ st) t/\t { nx:=fun _ H'=>Q .non H',rt:=Q } (start N vs) H):FnOk P w K mg base CX0 (k+1) f fd ps sp:=by
 obtain⟨oc,od,kV,doc,pm,an,Kc,ct,osl,rfl,lk,hcd⟩:=F.ex;refine aiq lk hcd S len fun A Ko s H vs Q E hr hsp=>?_;obtain⟨t,h,q⟩:=hbody Kc A Ko s H vs Q E hr hsp;exact⟨t,h.nox,q⟩
theorem Fun.binds{x qual:Str}{st:Stmt}{f:Addr}{fd:FuncData}{ps:List Str}(F:Fun K x qual st f fd)
  (h:∀(kV doc pm:Value) (an:Option Addr) (Kc ct:Value) (us:List Value),us.length=ps.length->bindArgs (PySem.W.fnOf x qual (zB st) (jQ st) (jj st) .none kV doc pm an Kc ct) ⟨us,[]⟩=pure (ps.zip us)):JB K fd ps []:=by
 obtain⟨oc,od,kV,doc,pm,an,Kc,ct,osl,rfl,lk,hcd⟩:=F.ex;exact .all (h kV doc pm an Kc ct)
theorem adX{x qual:Str}{st:Stmt}{f:Addr}{oc:Value}{od an:Option Addr}{osl:Array (Option Value)}{kV doc pm Kc ct:Value}(l:K.lookup f=some ⟨oc,od,.func (PySem.W.fnOf x qual (zB st) (jQ st) (jj st) .none kV doc pm an Kc ct),osl⟩)
  (c:PySem.W.codeIn K Kc qual=true) (k:PySem.W.keepIn K (.ref f)=true):Fun K x qual st f (PySem.W.fnOf x qual (zB st) (jQ st) (jj st) .none kV doc pm an Kc ct):=⟨⟨oc,od,kV,doc,pm,an,Kc,ct,osl,rfl,l,c⟩,k⟩
end
section
variable {X:Cx}
theorem pv(i:Nat){x:Str}{pos:Pos}(hN:X.N[i]?=some x:=by rfl)(hv:Vis X.env.scope x:=by first|exact Or.inl rfl|exact Or.inr (Or.inl rfl)|exact Or.inr (Or.inr rfl))(hd:(x==("__debug__":Str))=false:=by decide)
  (hcd:(x==("__classdict__":Str))=false:=by decide):PE X (.Name x pos) (ah8 i):=abq hN hv hd hcd
end
theorem aiw{A B:Prop}(h:B):if false=true then A else B:=by
 rw[if_neg Bool.false_ne_true];exact h
theorem aix{A B:Prop}(h:A):if true=true then A else B:=by
 rw[if_pos rfl];exact h
noncomputable def jq(H H':Hp):Prop:=∀b o,H b=some o->H' b=some o
theorem jq.refl(H:Hp):jq H H:=fun _ _ h=>h
theorem jq.trans{H H1 H2:Hp}(a:jq H H1)(b:jq H1 H2):jq H H2:=fun c o h=>b c o (a c o h)
theorem jq.free{H H':Hp}(e:jq H H'){l:Addr}(h:H' l=Option.none):H l=Option.none:=by
 cases q:H l with
 |none=>rfl
 | some o=>
  rw[e l o q]at h;cases h
theorem jq.seq{K:Fg}{H H':Hp}{a:Addr}{xs:List V}(e:jq H H')(h:SqL K H a xs):SqL K H' a xs:=by
 rcases h with (h | ⟨o,h⟩) | h
 ·exact .inl (.inl (e _ _ h))
 ·exact .inl (.inr ⟨o,e _ _ h⟩)
 ·exact .inr h
section
variable {κ:Type}[DecidableEq κ]
noncomputable def QJ(kvs:List (κ×V))(k:κ):Option V:=(kvs.find? fun kv=>decide (kv.1=k)).map (·.2)
noncomputable def putK(kvs:List (κ×V))(k:κ)(v:V):List (κ×V):=
 if (kvs.any fun kv=>decide (kv.1=k))=true then kvs.map (fun kv=>if kv.1=k then (kv.1,v) else kv) else kvs++[(k,v)]
noncomputable def agM(kvs:List (κ×V))(k:κ):List (κ×V):=kvs.filter fun kv=>decide (kv.1≠k)
theorem QK{p:κ×V}{r:List (κ×V)}{k:κ}(e:p.1=k):QJ (p::r) k=some p.2:=by simp[QJ,List.find?_cons,e]
theorem QL{p:κ×V}{r:List (κ×V)}{k:κ}(e:¬ p.1=k):QJ (p::r) k=QJ r k:=by simp[QJ,List.find?_cons,e]
theorem aaB(k:κ):∀kvs:List (κ×V),(kvs.any fun kv=>decide (kv.1=k))=(QJ kvs k).isSome
 | []=>rfl
 | p::r=>by
  rw[List.any_cons];by_cases e:p.1=k
  ·simp only[QK e,decide_eq_true e,Bool.true_or,Option.isSome_some]
  ·rw[QL e,decide_eq_false e,Bool.false_or];exact aaB k r
theorem aas.isSome_eq{o:Option V}{u:Option Value}(r:aas o u):o.isSome=u.isSome:=by
 cases o with
 | none=>cases u with
  |none=>rfl
  |some _=>exact(show False from r).elim
 | some _=>cases u with
  |none=>exact(show False from r).elim
  |some _=>rfl
theorem aas.getD{o:Option V}{u:Option Value}{d:V}{d':Value}(r:aas o u)(rd:jO d d'):jO (o.getD d) (u.getD d'):=by
 cases o with
 | none=>cases u with
  |none=>exact rd
  |some _=>exact(show False from r).elim
 | some _=>cases u with
  |none=>exact(show False from r).elim
  |some _=>exact r
theorem KV.val{kvs:List (κ×V)}{vs:List (κ×Value)}(r:KV kvs vs)(k:κ):aas (QJ kvs k) (valueAt vs k):=by
 unfold KV at r
 induction r with
 |nil=>exact True.intro
 | @cons p q ps qs h t ih=>
  obtain⟨h1,h2⟩:=h;by_cases e:p.1=k
  ·have e':q.1=k:=h1.symm.trans e
   have b:valueAt (q::qs) k=some q.2:=by simp[valueAt,List.find?_cons,e']
   rw[QK e,b];exact h2
  ·have e':¬ q.1=k:=fun z=>e (h1.trans z)
   have b:valueAt (q::qs) k=valueAt qs k:=by simp[valueAt,List.find?_cons,e']
   rw[QL e,b];exact ih
theorem KV.any{kvs:List (κ×V)}{vs:List (κ×Value)}(r:KV kvs vs)(k:κ):(kvs.any fun kv=>decide (kv.1=k))=vs.any fun kv=>decide (kv.1=k):=by
 unfold KV at r
 induction r with
 |nil=>rfl
 |cons h t ih=>rw[List.any_cons,List.any_cons,ih,h.1]
theorem KV.repl{kvs:List (κ×V)}{vs:List (κ×Value)}(r:KV kvs vs)(k:κ){y:V}{u:Value}(ry:jO y u):
  KV (kvs.map fun kv=>if kv.1=k then (kv.1,y) else kv) (vs.map fun kv=>if kv.1=k then (kv.1,u) else kv):=by
 unfold KV at r ⊢
 induction r with
 |nil=>exact .nil
 | @cons p q ps qs h t ih=>
  rw[List.map_cons,List.map_cons];refine .cons ?_ ih;obtain⟨h1,h2⟩:=h;by_cases e:p.1=k
  ·rw[if_pos e,if_pos (h1.symm.trans e)];exact⟨h1,ry⟩
  ·rw[if_neg e,if_neg (fun z=>e (h1.trans z))];exact⟨h1,h2⟩
theorem KV.put{kvs:List (κ×V)}{vs:List (κ×Value)}(r:KV kvs vs)(k:κ){y:V}{u:Value}(ry:jO y u):KV (putK kvs k y) (stored vs k u):=by
 unfold putK stored;rw[r.any k];by_cases e:(vs.any fun kv=>decide (kv.1=k))=true
 ·rw[if_pos e,if_pos e];exact r.repl k ry
 ·rw[if_neg e,if_neg e];exact Paired.snoc r ⟨rfl,ry⟩
theorem KV.drop{kvs:List (κ×V)}{vs:List (κ×Value)}(r:KV kvs vs)(k:κ):KV (agM kvs k) (without vs k):=by
 unfold KV at r ⊢;unfold agM without
 induction r with
 |nil=>exact .nil
 | @cons p q ps qs h t ih=>
  obtain⟨h1,h2⟩:=h;rw[List.filter_cons,List.filter_cons];by_cases e:p.1=k
  ·have a:¬ decide (p.1≠k)=true:=by simp[e]
   have b:¬ decide (q.1≠k)=true:=by simp[h1.symm.trans e]
   rw[if_neg a,if_neg b];exact ih
  ·have e':¬ q.1=k:=fun z=>e (h1.trans z)
   have a:decide (p.1≠k)=true:=by simp[e]
   have b:decide (q.1≠k)=true:=by simp[e']
   rw[if_pos a,if_pos b];exact .cons ⟨h1,h2⟩ ih
theorem KV.length{kvs:List (κ×V)}{vs:List (κ×Value)}(r:KV kvs vs):kvs.length=vs.length:=Paired.length r
end
noncomputable abbrev KT(H:Hp):List (List Key×V)->List (List Key×Addr×Value)->Prop:=Paired fun p q=>p.1=q.1/\H q.2.1=some (.tup (p.1.map kV))/\jO p.2 q.2.2
theorem KT.val{H:Hp}{kvs:List (List Key×V)}{xs:List (List Key×Addr×Value)}(r:KT H kvs xs)(k:List Key):aas (QJ kvs k) ((atKey xs k).map (·.2)):=by
 induction r with
 |nil=>exact True.intro
 | @cons p q ps qs h t ih=>
  obtain⟨h1,_,h2⟩:=h;by_cases e:p.1=k
  ·have e':q.1=k:=h1.symm.trans e
   have b:atKey (q::qs) k=some q.2:=by simp[atKey,List.find?_cons,e']
   rw[QK e,b];exact h2
  ·have e':¬ q.1=k:=fun z=>e (h1.trans z)
   have b:atKey (q::qs) k=atKey qs k:=by simp[atKey,List.find?_cons,e']
   rw[QL e,b];exact ih
theorem KT.repl{H:Hp}{kvs:List (List Key×V)}{xs:List (List Key×Addr×Value)}(r:KT H kvs xs)(k:List Key){y:V}{u:Value}(ry:jO y u):
  KT H (kvs.map fun kv=>if kv.1=k then (kv.1,y) else kv) (xs.map (putAt k u)):=by
 induction r with
 |nil=>exact .nil
 | @cons p q ps qs h t ih=>
  rw[List.map_cons,List.map_cons];refine .cons ?_ ih;obtain⟨h1,h2,h3⟩:=h;unfold putAt;by_cases e:p.1=k
  ·rw[if_pos e,if_pos (h1.symm.trans e)];exact⟨h1,h2,ry⟩
  ·rw[if_neg e,if_neg (fun z=>e (h1.trans z))];exact⟨h1,h2,h3⟩
theorem KT.put{H:Hp}{kvs:List (List Key×V)}{xs:List (List Key×Addr×Value)}(r:KT H kvs xs)(k:List Key){b:Addr}{y:V}{u:Value}(hb:H b=some (.tup (k.map kV)))(ry:jO y u):
  KT H (putK kvs k y) (storedH xs k b u):=by
 have e:(kvs.any fun kv=>decide (kv.1=k))=(atKey xs k).isSome:=by
  rw[aaB,(r.val k).isSome_eq,Option.isSome_map]
 unfold putK storedH;rw[e];by_cases q:(atKey xs k).isSome=true
 ·rw[if_pos q,if_pos q];exact r.repl k ry
 ·rw[if_neg q,if_neg q];exact Paired.snoc r ⟨rfl,hb,ry⟩
theorem KT.keeps{H H':Hp}{kvs:List (List Key×V)}{xs:List (List Key×Addr×Value)}(r:KT H kvs xs)(ht:∀b ys,H b=some (.tup ys)->H' b=some (.tup ys)):KT H' kvs xs:=
 Paired.mapP r fun _ _ z=>⟨z.1,ht _ _ z.2.1,z.2.2⟩
section
variable {P:Program}{w:World}{H:Hp}{h:Heap}{a:Addr}
theorem aiy{u:HO}(ok:HOk P w H h)(e:Rd H a u):qw P w H h a u:=e.ok ok
theorem aiz{kvs:List (Key×V)}(ok:HOk P w H h)(e:Rd H a (.dK kvs)):kvs.length<=sizeLine/\(a==sysModules)=false/\∃vs,KV kvs vs/\h.DictOf (qO P w) a vs:=
 show qw P w H h a (.dK kvs) from aiy ok e
end
noncomputable def aiA(H:Hp)(a:Addr)(y:V)(r:Option V):Prop:=
 (∃kvs k,Rd H a (.dK kvs)/\y=kV k/\r=QJ kvs k)∨∃kvs k b,Rd H a (.dT kvs)/\y= .ref b/\H b=some (.tup (k.map kV))/\r=QJ kvs k
noncomputable def aiB(H:Hp)(a:Addr)(y v:V)(H':Hp):Prop:=
 (∃kvs k,H a=some (.dK kvs)/\y=kV k/\kvs.length<sizeLine/\H'=upd H a (.dK (putK kvs k v))) ∨
 ∃kvs k b,H a=some (.dT kvs)/\y= .ref b/\H b=some (.tup (k.map kV))/\kvs.length<sizeLine/\H'=upd H a (.dT (putK kvs k v))
theorem aiA.t{H:Hp}{a b:Addr}{kvs:List (List Key×V)}{k:List Key}(e:H a=some (.dT kvs))(eb:H b=some (.tup (k.map kV))):aiA H a (.ref b) (QJ kvs k):= .inr ⟨kvs,k,b,.inl e,rfl,eb,rfl⟩
theorem aiB.t{H:Hp}{a b:Addr}{kvs:List (List Key×V)}{k:List Key}{v:V}(e:H a=some (.dT kvs))(eb:H b=some (.tup (k.map kV)))(hl:kvs.length<sizeLine):
  aiB H a (.ref b) v (upd H a (.dT (putK kvs k v))):= .inr ⟨kvs,k,b,e,rfl,eb,hl,rfl⟩
section
variable {X:Cx}{Kp:List (Addr×Obj)}{σ:St}{H:Hp}{s:Shared}{a:Addr}{y v:V}{u r:Value}{o:Option V}{A:Around}{E:Value->SP0}
end
section
variable {X:Cx}{Kp:List (Addr×Obj)}{σ:St}{H:Hp}{s:Shared}{a:Addr}{kvs:List (Key×V)}{k:Key}{u:Value}{A:Around}{E:Value->SP0}
end
section
variable {X:Cx}{o i e value:Expr}{pos pos' tpos:Pos}{td ty tv:TE}
end
section
variable {X:Cx}{pos:Pos}
end
structure M1(X:Cx)(o:Expr)(m:Str)(apos:Pos)(e:Expr)(cpos:Pos):Prop where
 base:attributeBase o m X.env (eval o X.env)=eval o X.env
 few:((backTo cpos (starEach [e] X.env)).all (fun x=>!x.1)&&(backToKw cpos (keywordEach [] X.env)).all (fun x=>x.1.isSome)
  && decide (([e]:List Expr).length+([]:List Keyword).length+(if ([]:List Keyword).isEmpty then 0 else 1)<30))=true
 line:(apos.endLine==cpos.line)=true
 trees:backTo cpos (starEach [e] X.env)=[(false,eval e X.env)]
structure M2(X:Cx)(o:Expr)(m:Str)(apos:Pos)(e f:Expr)(cpos:Pos):Prop where
 base:attributeBase o m X.env (eval o X.env)=eval o X.env
 few:((backTo cpos (starEach [e,f] X.env)).all (fun x=>!x.1)&&(backToKw cpos (keywordEach [] X.env)).all (fun x=>x.1.isSome)
  && decide (([e,f]:List Expr).length+([]:List Keyword).length+(if ([]:List Keyword).isEmpty then 0 else 1)<30))=true
 line:(apos.endLine==cpos.line)=true
 trees:backTo cpos (starEach [e,f] X.env)=[(false,eval e X.env),(false,eval f X.env)]
section
variable {X:Cx}{Kp:List (Addr×Obj)}{σ:St}{H:Hp}{s:Shared}{a:Addr}{y d:V}{u r:Value}{o:Option V}{A:Around}{E:Value->SP0}
end
section
variable {X:Cx}{o e f:Expr}{apos cpos:Pos}{td ty tx:TE}
end
section
variable {X:Cx}{Kp:List (Addr×Obj)}{σ:St}{H:Hp}{s:Shared}{a:Addr}{kvs:List (Key×V)}{A:Around}{E:Value->SP0}
end
section
variable {X:Cx}{Kp:List (Addr×Obj)}{σ:St}{H:Hp}{s:Shared}{a:Addr}{y:V}{u:Value}{A:Around}{E:Value->SP0}
end
section
variable {X:Cx}
end
section
variable {κ:Type}[DecidableEq κ]
end
end L2
end
section
namespace BX
open PySem PySem.Spec L2
open PyProof.Rows hiding St
noncomputable abbrev NoX:Value->SP0:=fun _ _=>False
noncomputable def acj(ts:List Expr)(en:Env):Sem Bool:=
 forIn ts true fun c r=>if r=true then do let ok ←isTrue c en (eval c en);pure (ForInStep.yield ok) else pure (ForInStep.yield r)
section
variable {prog:Program}{w:World}{A:Around}{s:Shared}{R:Result->SP0}
theorem Zq{el tg src:Expr}{ts:List Expr}{sc:Scope}{ps:Pos}{it acc:Value}{en:Env}(J:Nat->SP0)
  (turn:∀n s,J n s->wpAny (model prog w) A (pyNext it) (fun r s1=>match r with
   | none=>R (.ok .next) s1
   | some v=>wpAny (model prog w) A (letOwnedTupleGo tg it v) (fun _ sg=>wpAny (model prog w) A (assign tg en v) (fun _ s2=>
     wpAny (model prog w) A (acj ts en) (fun ok s3=>
      if ok=true then wpAny (model prog w) A (eval el en) (fun y s4=>
       wpAny (model prog w) A (call (.builtin "list.append") [acc,y]) (fun _ s5=>∃ m,m<n/\J m s5) NoX s4) NoX s3
      else ∃ m,m<n/\J m s3) NoX s2) NoX sg) NoX s1) NoX s)
  (n:Nat) (h:J n s):
  codeAny (model prog w) A (.compLoop (.ListComp el [⟨tg,src,ts,0⟩] sc ps) 0 it acc en) R s:=by
 refine codeAny_loop rfl J (fun n s hJ=>?_) n h
 show wpAny _ A
  ((compTurn (.ListComp el [⟨tg,src,ts,0⟩] sc ps) 0 it acc en).onRaise
   (fun x=>do noteFrame x en; theTreesLotGoes x)) _ _ s
 refine wpAny_noted ?_;rw[compTurn_list];have no:∀{E:Value->SP0} (e:Value) (s':Shared),NoX e s'->E e s':=fun _ _ z=>z.elim;refine wpAny_bind (wpAny_standAt (wpAny_bind (wpAny_mono (turn n s hJ) (fun r s1 h1=>?_) no)));cases r with
 |none=>exact wpAny_pure h1
 | some v=>
  refine wpAny_bind (wpAny_mono h1 (fun _ sg hg=>?_) no);refine wpAny_bind (wpAny_mono hg (fun _ s2 h2=>?_) no);refine wpAny_bind (wpAny_mono h2 (fun ok s3 h3=>?_) no);cases ok with
  |false=>exact wpAny_pure ⟨rfl,h3⟩
  | true=>
   refine wpAny_bind (wpAny_bind (wpAny_mono h3 (fun y s4 h4=>?_) no));exact wpAny_bind (wpAny_mono h4 (fun _ s5 h5=>wpAny_pure (wpAny_pure ⟨rfl,h5⟩)) no)
end
noncomputable def zL(en:Env):List (Str×NameKind)->List (Str×Addr)->List (Str×Addr)
 | [],cs=>cs
 | (n,k)::r,cs=>zL en r (if k == .free then (n,(en.cells.lookup n).getD 0)::cs else cs)
theorem ack(sc:Scope)(en:Env)(h:∀x∈sc.names,x.2= .free->∃c,en.cells.lookup x.1=some c):closureFor sc en=pure (zL en sc.names []):=by
 have go:∀(l:List (Str×NameKind)) (cs:List (Str×Addr)),(∀x∈l,x.2= .free->∃c,en.cells.lookup x.1=some c)->
   (forIn l cs (fun (x:Str×NameKind) (r:List (Str×Addr))=>(do
    if x.2 == .free then do
     let c ←cellOf en x.1
     pure (ForInStep.yield ((x.1,c)::r))
    else pure (ForInStep.yield r):Sem (ForInStep (List (Str × Addr))))):Sem _)=pure (zL en l cs):=by
  intro l
  induction l with
  |nil=>intro cs _;rfl
  | cons x l ih=>
   intro cs hl;obtain⟨n,k⟩:=x;rw[List.forIn_cons];by_cases hk:(k==NameKind.free)=true
   ·obtain⟨c,e⟩:=hl (n,k) List.mem_cons_self (by simpa using hk)
    have e':en.cells.lookup n=some c:=e;simp only[hk,zzM,cellOf,e',pure_bind,zL,Option.getD_some];exact ih _ fun y hy=>hl y (List.mem_cons_of_mem _ hy)
   ·simp only[hk,pure_bind,zL,zzL,zzN]
    exact ih _ fun y hy=>hl y (List.mem_cons_of_mem _ hy)
 have:=go sc.names [] h;unfold closureFor;rw[←this]
 first
  | (simp only[bind_pure_comp,id_map',map_pure];done)
  | (simp only[bind_pure_comp,id_map',map_pure];exact bind_pure _)
theorem J2(en:Env):∀(l:List (Str×NameKind)) (cs:List (Str×Addr)),(∀x∈l,x.2= .free->∃c,en.cells.lookup x.1=some c)->(∀p∈cs,en.cells.lookup p.1=some p.2)->
  ∀p∈zL en l cs,en.cells.lookup p.1=some p.2
 | [],_,_,h,p,hp=>h p hp
 | (n,k)::r,cs,hl,h,p,hp=>by
  refine J2 en r _ (fun y hy=>hl y (List.mem_cons_of_mem _ hy)) (fun q hq=>?_) p hp;by_cases hk:(k==NameKind.free)=true
  ·rw[if_pos hk]at hq
   rcases List.mem_cons.mp hq with rfl | hq
   ·obtain⟨c,e⟩:=hl (n,k) List.mem_cons_self (by simpa using hk)
    have e':en.cells.lookup n=some c:=e;show en.cells.lookup n=some ((en.cells.lookup n).getD 0);rw[e'];rfl
   ·exact h q hq
  ·rw[if_neg hk]at hq
   exact h q hq
theorem Ql(en:Env):∀(l:List (Str×NameKind)) (cs:List (Str×Addr)) (x:Str),(∃c,(x,c)∈cs)->∃c,(x,c)∈zL en l cs
 | [],_,_,h=>h
 | (n,k)::r,cs,x,⟨c,h⟩=>by
  refine Ql en r _ x ?_;by_cases hk:(k==NameKind.free)=true
  ·rw[if_pos hk];exact⟨c,List.mem_cons_of_mem _ h⟩
  ·rw[if_neg hk];exact⟨c,h⟩
theorem zv(en:Env):∀(l:List (Str×NameKind)) (cs:List (Str×Addr)) (x:Str),(x,NameKind.free)∈l->∃c,(x,c)∈zL en l cs
 | (n,k)::r,cs,x,h=>by
  rcases List.mem_cons.mp h with e | h
  ·obtain⟨e1,e2⟩:=Prod.mk.inj e
   subst e1;subst e2;exact Ql en r _ _ ⟨_,by rw[if_pos (by rfl)];exact List.mem_cons_self⟩
  ·exact zv en r _ x h
theorem qo{β:Type}:∀{l:List (Str×β)}{x:Str}{c:β},(x,c)∈l->∃d,l.lookup x=some d
 | (n,k)::r,x,c,h=>by
  by_cases e:x=n
  ·subst e;exact⟨k,by simp[List.lookup_cons]⟩
  ·have eb:(x==n)=false:=by simpa using e
   rcases List.mem_cons.mp h with z | h
   ·cases z;exact absurd rfl e
   ·obtain⟨d,hd⟩:=qo h
    exact⟨d,by simp only[List.lookup_cons,eb];exact hd⟩
theorem zg{sc:Scope}{en:Env}{x:Str}{k:NameKind}(h:(x,k)∈(relabel sc en).names)(hc:∀y∈sc.names,y.2 ≠ .cell)(hk:k= .cell∨k= .free):(x,NameKind.free)∈sc.names:=by
 obtain⟨⟨n,j⟩,hm,e⟩:=List.mem_map.mp h;by_cases q:(j==NameKind.free&&en.scope.kind == .function&&en.kindOf n==some .cell)=true
 ·have e1:(n,NameKind.cell)=(x,k):=by simpa only[q,zzM]using e
  cases e1
  have hj:j= .free:=by
   simp only[Bool.and_eq_true]at q;simpa using q.1.1
  rw[←hj];exact hm
 ·have e1:(n,j)=(x,k):=by simpa only[q,zzL,zzN]using e
  cases e1;rcases hk with rfl|rfl
  ·exact absurd rfl (hc _ hm)
  ·exact hm
theorem zC{en:Env}:∀{l:List (Str×NameKind)}{x:Str},l.lookup x=some .free->
  (l.map fun (n,k)=>if (k==NameKind.free&&en.scope.kind == .function&&en.kindOf n==some .cell) then (n,NameKind.cell) else (n,k)).lookup x=some .cell ∨
  (l.map fun (n,k)=>if (k==NameKind.free&&en.scope.kind == .function&&en.kindOf n==some .cell) then (n,NameKind.cell) else (n,k)).lookup x=some .free
 | (n,k)::r,x,h=>by
  rw[List.map_cons];cases hx:x==n with
  | true=>
   simp only[List.lookup_cons,hx]at h;cases h;by_cases q:(NameKind.free==NameKind.free&&en.scope.kind == .function&&en.kindOf n==some .cell)=true
   ·left;simp only[q,zzM,List.lookup_cons,hx]
   ·right;simp only[q,zzL,zzN,List.lookup_cons,hx]
  | false=>
   simp only[List.lookup_cons,hx]at h;rcases zC (en:=en) h with g | g
   ·left
    by_cases q:(k==NameKind.free&&en.scope.kind == .function&&en.kindOf n==some .cell)=true
    ·simp only[q,zzM,List.lookup_cons,hx];exact g
    ·simp only[q,zzL,zzN,List.lookup_cons,hx];exact g
   ·right
    by_cases q:(k==NameKind.free&&en.scope.kind == .function&&en.kindOf n==some .cell)=true
    ·simp only[q,zzM,List.lookup_cons,hx];exact g
    ·simp only[q,zzL,zzN,List.lookup_cons,hx];exact g
noncomputable def blk(X:Cx)(N':List Str)(sc:Scope)(cl:List (Str×Addr))(C:Addr)(s0:Shared)(H0:Hp)(fp:List Addr)(pn:List (Addr×Obj)):Cx:=
 { X with N:=N',s₀:=s0,H₀:=H0,env:=compEnvC sc cl C X.env,Ko:=X.stack,ex:=fp,fn:=fun _=>false,pn:=pn,xe:=NoX }
noncomputable def Qp(cap:List (Option Nat))(σ:St):St:=cap.map fun o=>o.bind fun i=>(σ[i]?).join
noncomputable def PTs(X:Cx)(ts:List Expr)(t:TT):Prop:=
 ∀(Kp:List (Addr×Obj)) (s:Shared) (σ:St) (H:Hp) (Q:Bool->Hp->Prop),Inv X Kp σ H s->t σ H Q->wpAny (model X.prog X.w) X.A (acj ts X.env) (TP X Kp σ Q) X.xe s
noncomputable def aiC:TT:=fun _ H Q=>Q true H
theorem afF{X:Cx}:PTs X [] aiC:=fun _ _ _ H _ I h=>wpAny_pure ⟨H,I,h⟩
theorem afG{X:Cx}{c:Expr}{t:TT}(h:PT X c t):PTs X [c] t:=fun Kp s σ H Q I hq=>wpAny_tests_one (h Kp s σ H Q I hq)
structure CompOk(X:Cx)(sc:Scope)(N':List Str)(cap:List (Option Nat)):Prop where
 fr:∀x∈sc.names,x.2= .free->X.env.kindOf x.1=some .cell∨X.env.kindOf x.1=some .free
 nc:∀x∈sc.names,x.2 ≠ .cell
 kind:sc.kind= .function
 nm:∀x∈sc.names,x.2= .local->sc.names.lookup x.1=some .local
 len:cap.length=N'.length
 cp:∀(j i:Nat) (x:Str),N'[j]?=some x->cap[j]?=some (some i)->X.N[i]?=some x/\sc.names.lookup x=some .free
noncomputable def adY(wi:TI)(cap:List (Option Nat))(g:TG)(tt:TT)(te:TE):TE:=fun σ H Q=>wi σ H fun J H1=>
 ∃W:Nat->Nat->St->List V->Hp->Prop,(∃m,W 0 m (Qp cap σ) [] H1)/\∀i m τ ys H,W i m τ ys H->ys.length<sizeLine/\
  ((J.stop i H/\∀l,H l=none->Q (.ref l) (upd H l (.lst ys))) ∨
   (J.go i H/\∀ x H',J.yld i H x H'->g x τ H' fun τ2 H2=>tt τ2 H2 fun b H3=>if b=true then te τ2 H3 fun y H4=>∃ m',m' < m/\W (i+1) m' τ2 (ys++[y]) H4 else ∃ m',m' < m/\W (i+1) m' τ2 ys H3))
theorem Inv.track{X:Cx}{Kp:List (Addr×Obj)}{σ:St}{H:Hp}{s:Shared}{D:Addr}{o:HO}(I:Inv X Kp σ H s)(hn:H D=none)(h1:X.s₀.heap.objs.size<=D)(h2:D≠X.env.locals)(h3:∀x c,X.env.cells.lookup x=some c->c≠D)
  (h4:∀p∈X.pn++Kp,p.1≠D) (new:qw X.prog X.w (upd H D o) s.heap D o):Inv X Kp σ (upd H D o) s:=by
 have nd:∀b u,H b=some u->b≠D:=fun b u e z=>by rw[z,hn]at e;cases e
 have hok:HOk X.prog X.w (upd H D o) s.heap:=fun b u e=>by
  by_cases hb:b=D
  ·subst hb;rw[jr]at e;cases e;exact new
  ·rw[jm hb]at e
   exact(I.hok b u e).stay (fun _ _ _ q=>q) (fun c q=>by rw[jm (nd c _ q)];exact q) fun c xs q=>by rw[jm (nd c _ q)];exact q
 refine I.step (h':=s.heap) (g':=s.gens) (d':=s.drawn) (t':=s.toks) (ch:=[D]) (fun b hb=>?_) (fun b o _ _ _ e _=>e) (fun b o _ _ _ e _=>⟨o.slots,e⟩) (fun b o hc _ n=>?_) (fun b o _ e=>⟨o,e⟩) (fun b xs e=>by rw[jm (nd b _ e)];exact e)
  (fun b ob u e=>by rw[jm (nd b _ e)];exact e) (fun b ps e=>⟨#[],by rw[jm (nd b _ e),e];simp⟩) (fun m hm=>hm) hok I.bare
 ·have e:b=D:=by simpa using hb
  subst e;exact⟨.inr h1,h2,h3,h4⟩
 ·have e:b≠D:=by simpa using hc
  rw[jm e];exact n
theorem afH{X : Cx}{el tg src : Expr}{ts : List Expr}{sc : Scope}{ps : Pos}{wi : TI}{g : TG}{tt : TT}{te : TE}{N' : List Str}{cap : List (Option Nat)}(hc : X.calm = true)(hi : PI X tg src wi)(ok : CompOk X sc N' cap)
    (body : ∀cl C s0 H0 fp pn, PG (blk X N' sc cl C s0 H0 fp pn) tg g /\ PTs (blk X N' sc cl C s0 H0 fp pn) ts tt /\ PE (blk X N' sc cl C s0 H0 fp pn) el te)
    (hs : ∀x, foldedSetIterable src X.env x = pure x := by intro _;rfl) : PE X (.ListComp el [⟨tg, src, ts, 0⟩] sc ps) (adY wi cap g tt te) := by
  intro Kp s σ H Q I h;have hfr : ∀x∈sc.names, x.2 = .free -> ∃c, X.env.cells.lookup x.1 = some c := fun x hx e => I.ok.has x.1 (ok.fr x hx e);have hcl := ack sc X.env hfr
  have clm : ∀x c, (zL X.env sc.names []).lookup x = some c -> X.env.cells.lookup x = some c := fun x c e =>
    J2 X.env sc.names [] hfr (fun _ z => nomatch z) (x, c) (PySem.mem_of_lookup e)
  generalize hgl : zL X.env sc.names [] = cl at hcl clm;rw[eval_ListComp];refine wpAny_comprehension_free (use := none) rfl hs hcl ok.kind ok.nm ?_;refine thn (hi Kp s σ H _ I h) fun v s1 h1 => thn h1 fun itv s2 h2 => ?_;obtain⟨it, fp, tn, J, H2, e, I2, T, st2, f2, W, ⟨m0, w0⟩, turn⟩ := h2;subst e;refine wpAny_newObj_type (wpAny_newFunctionEnv ok.nc (by intro y hy;simp at hy) (fun h4 hns hsb => ?_) ok.kind);dsimp only at hns hsb ⊢;generalize hH3 : s2.heap.push { cls := .type "list", dict := none, data := .seq ([] : List Value).toArray } = h3 at hns hsb ⊢;have hC : h3.objs.size = s2.heap.objs.size + 1 := by rw[← hH3, Heap.size_push]
  generalize hCC : h3.objs.size = C at hns hsb hC ⊢;generalize hDD : s2.heap.objs.size = D at hC ⊢;have hDC : D≠C := by rw[hC];exact Nat.ne_of_lt (Nat.lt_succ_self _)
  have old : ∀b o, s2.heap.get? b = some o -> h4.get? b = some o := fun b o e => hsb.extBut b o (by have := Heap.lt_size e;rw[hDD]at this;rw[hC];exact Nat.ne_of_lt (Nat.lt_succ_of_lt this)) (Heap.get?_push_of_some _ (hH3▸Heap.get?_push_of_some _ e));have accO : h4.get? D = some { cls := .type "list", data := .seq ([] : List Value).toArray 0 } := hsb.extBut _ _ hDC (Heap.get?_push_of_some _ (by rw[← hH3, ← hDD];exact Heap.get?_push_size _ rfl));have H2D : H2 D = none := I2.hok.fresh (by rw[hDD];exact Nat.le_refl _);have H2C : H2 C = none := I2.hok.fresh (by rw[hDD, hC];exact Nat.le_succ _)
  have cellsLt : ∀x c, X.env.cells.lookup x = some c -> c<D := fun x c e => by
    obtain⟨v, q⟩ := I2.cell x c e;rw[← hDD];exact q.lt
  have pinLt : ∀p∈X.pn ++ Kp, p.1<D := fun p hp => by rw[← hDD];exact Heap.lt_size (I2.pin p hp).1
  have stkLt : ∀b∈frs X.stack, b<D := fun b hb => by
    obtain⟨_, o, ho, _⟩ := I2.stack.mem hb;rw[← hDD];exact Heap.lt_size ho
  have fpLt : ∀b∈fp, b<D := fun b hb => by
    obtain⟨o, ho, _⟩ := T.obj _ _ st2 b hb;rw[← hDD];exact Heap.lt_size ho
  have ltC : ∀{b : Addr}, b<D -> b≠C := fun hb => by rw[hC];exact Nat.ne_of_lt (Nat.lt_succ_of_lt hb)
  have locLt : X.env.locals<D := by rw[← hDD];exact I2.lt
  have hDge : s2.heap.objs.size <= D := by rw[hDD];exact Nat.le_refl _
  have hCge : s2.heap.objs.size <= C := by rw[hDD, hC];exact Nat.le_succ _
  have bok : (blk X N' sc cl C s2 H2 fp (X.pn ++ Kp)).Ok := by
    refine⟨I2.ok.mod, ok.kind, I2.ok.glob, I2.ok.blt, hCge, fun x y c e1 e2 => I2.ok.inj x y c (clm x c e1) (clm y c e2), fun x hx => ?_, fun x c z _ => ?_, I2.ok.hd, I2.ok.frames, .inl rfl, fun b hb => ?_, I2.bs, Nat.le_trans I2.ok.bsz I2.sz, fun b o e hb => ?_, fun b hb z => ?_, I2.stack, I2.stkFree⟩
    · have hx' : (relabel sc X.env).names.lookup x = some .cell∨(relabel sc X.env).names.lookup x = some .free := hx
      have hm : (x, NameKind.free)∈sc.names := by
        rcases hx' with z | z
        · exact zg (PySem.mem_of_lookup z) ok.nc (.inl rfl)
        · exact zg (PySem.mem_of_lookup z) ok.nc (.inr rfl)
      obtain⟨c, hc⟩ := zv X.env sc.names [] x hm;rw[hgl]at hc;exact qo hc
    · exact absurd (show false = true from z) Bool.false_ne_true
    · exact⟨ltC (fpLt b hb), fun x c e => (f2 b hb).2.2.2.2.1 x c (clm x c e)⟩
    · rcases (f2 b hb).2.2.2.1 with z | z
      · exact I2.ok.noex b o e z
      · have := Heap.lt_size e
        exact absurd (Nat.lt_of_lt_of_le this (Nat.le_trans I2.ok.bsz z)) (Nat.lt_irrefl _)
    · rcases List.mem_cons.mp (I2.stkSub b z)with q | q
      · exact(f2 b hb).2.1 q
      · exact(f2 b hb).2.2.1 q
  have pinB : ∀p∈X.pn ++ Kp, p.1≠C /\ p.1∉frs X.stack := fun p hp => ⟨ltC (pinLt p hp), fun z => by
    rcases List.mem_cons.mp (I2.stkSub p.1 z) with q | q
    · exact (I2.pin p hp).2.2.1 q
    · exact (I2.pin p hp).2.2.2.1 q⟩
  have I4 : Inv (blk X N' sc cl C s2 H2 fp (X.pn ++ Kp)) [] (Qp cap σ) H2 { s2 with heap := h4, toks := s2.toks + ([] : List (Str×Value)).length } := by
    refine⟨bok, rfl, I2.bare, Un.kept old, ⟨_, hns, fun j x v e1 e2 e3 => ?_⟩, fun x c e => ?_, H2C, fun x c e => I2.freeC x c (clm x c e), fun p hp => ?_, I2.hok.kept old, ?_⟩
    · unfold Qp at e2
      rw[List.getElem?_map]at e2;cases e4 : cap[j]? with
      |none => rw[e4]at e2;cases e2
      | some o =>
        rw[e4]at e2;cases o with
        |none => cases e2
        | some i =>
          obtain⟨hNi, hf⟩ := ok.cp j i x e1 e4
          have e5 : (σ[i]?).join = some v := by
            have := Option.some.inj e2;simpa using this
          have e6 : σ[i]? = some (some v) := by
            cases e7 : σ[i]? with
            |none => rw[e7]at e5;cases e5
            | some z => rw[e7]at e5;cases z with
              |none => cases e5
              |some z => cases e5;rfl
          have hk := ok.fr (x, .free) (PySem.mem_of_lookup hf) rfl;obtain⟨m, hn, hl⟩ := I2.loc
          have hv : Vis X.env.scope x := by
            rcases hk with z | z
            · exact .inr (.inl z)
            · exact .inr (.inr z)
          obtain⟨u, r, lk⟩ := hl i x v hNi e6 hv
          have cellX : ∃c, X.env.cells.lookup x = some c /\ s2.heap.IsCell c (some u) := by
            rcases lk with ⟨k1, _⟩ | ⟨_, c, e, z⟩
            · rcases hk with z | z
              · have z' : X.env.kindOf x = some .cell := z
                rw[k1]at z';cases z'
              · have z' : X.env.kindOf x = some .free := z
                rw[k1]at z';cases z'
            · exact⟨c, e, z⟩
          obtain⟨c, hc1, ob, hc2, hc3⟩ := cellX;obtain⟨c', hc'⟩ := zv X.env sc.names [] x (PySem.mem_of_lookup hf);rw[hgl]at hc';obtain⟨d, hd⟩ := qo hc'
          have ed : d = c := by
            have := clm x d hd;rw[hc1]at this;cases this;rfl
          subst ed;refine⟨u, r, .inr ⟨?_, d, hd, ob, old _ _ hc2, hc3⟩⟩;exact zC hf
    · obtain⟨v, ob, ho, hd⟩ := I2.cell x c (clm x c e)
      exact⟨v, ob, old _ _ ho, hd⟩
    · have hp' : p∈X.pn ++ Kp := by simpa[blk]using hp
      obtain⟨e1, e2, e3, e4, e5⟩ := I2.pin p hp';exact⟨old _ _ e1, e2, (pinB p hp').1, (pinB p hp').2, e5⟩
    · show(Qp cap σ).length = N'.length
      unfold Qp;rw[List.length_map];exact ok.len
  have fpB : ∀{H' : Hp} {pl : List (Addr×Obj)}, (∀b∈fp, H' b = none) -> (∀p∈pl, p.1∉fp) -> ∀b∈fp, aav (blk X N' sc cl C s2 H2 fp (X.pn ++ Kp)) pl H' b := fun {H' pl} hn hpl b hb =>
    ⟨hn b hb, ltC (fpLt b hb), bok.exfs b hb, .inl hb, fun x c e => (f2 b hb).2.2.2.2.1 x c (clm x c e), fun p hp z => by
      rcases List.mem_append.mp (show p ∈ (X.pn ++ Kp) ++ pl from hp) with q | q
      · exact (f2 b hb).2.2.2.2.2 p q z
      · exact hpl p q (by rw [z]; exact hb)⟩
  have Dfp : ∀(o : Obj), ∀p∈[(D, o)], p.1∉fp := fun o p hp z => by
    have e : p = (D, o) := by simpa using hp
    subst e;exact Nat.lt_irrefl _ (fpLt D z)
  have Dfs : D∉frs X.stack := fun z => Nat.lt_irrefl _ (stkLt D z);obtain⟨bG, bT, bE⟩ := body cl C s2 H2 fp (X.pn ++ Kp)
  have loop : codeAny (model X.prog X.w) X.A (.compLoop (.ListComp el [⟨tg, src, ts, 0⟩] sc ps) 0 (.ref it) (.ref D) (compEnvC sc cl C X.env)) (compPost (model X.prog X.w) X.A X.xe none (EP X Kp σ Q) (.ref D) C)
      { s2 with heap := h4, toks := s2.toks + ([] : List (Str×Value)).length } := by
    refine Zq (fun n s' => ∃i τ ys us k H', Inv (blk X N' sc cl C s2 H2 fp (X.pn ++ Kp)) [] τ H' s' /\ tn i s'.heap /\ (∀b∈fp, H' b = none) /\ jx ys us /\ s'.heap.get? D = some { cls := .type "list", data := .seq us.toArray k } /\ H' D = none /\ W i n τ ys H') ?_ m0
      ⟨0, _, [], [], 0, H2, I4, T.keep _ _ _ st2 (fun b _ o e => old b o e), fun b hb => (f2 b hb).1, .nil, accO, H2D, w0⟩
    rintro n s5 ⟨i, τ, ys, us, k, H5, I5, st5, fr5, rv5, ho5, hD5, w5⟩
    obtain⟨hsz, alt⟩ := turn i n τ ys H5 w5
    have I5p : Inv (blk X N' sc cl C s2 H2 fp (X.pn ++ Kp)) [(D, { cls := .type "list", data := .seq us.toArray k })] τ H5 s5 := I5.pins_of fun p hp => by
      have e : p = (D, { cls := .type "list", data := .seq us.toArray k }) := by simpa using hp
      subst e;exact⟨ho5, hD5, hDC, Dfs, fun v z => by cases z⟩
    rcases alt with ⟨stop, fin⟩ | ⟨go, step⟩
    · refine thn (T.done (blk X N' sc cl C s2 H2 fp (X.pn ++ Kp)) rfl rfl rfl hc i _ s5 τ H5 NoX I5p (fpB fr5 (Dfp _)) st5 stop) fun r s6 ⟨hr, I6⟩ => ?_
      subst hr;have ho6 := (I6.pin (D, _) (List.mem_append_right _ (List.mem_singleton.mpr rfl))).1;obtain⟨m6, hn6, _⟩ := I6.loc;refine⟨m6, hn6, fun h7 hs7 => ?_⟩;have J6 : Inv X Kp σ H5 s6 := I2.call' (ch := fp) I6.os I6.base I6.hok I6.bare fun b hb => ⟨(f2 b hb).2.2.2.1, (f2 b hb).2.1, (f2 b hb).2.2.2.2.1, (f2 b hb).2.2.2.2.2⟩;have H5C : H5 C = none := I6.free;have cne : ∀{b : Addr}, b<D -> b≠C := ltC;have J7 : Inv X Kp σ H5 { s6 with heap := h7, toks := s6.toks } := J6.turned (it := C) (fun b o hb e => hs7.extBut b o hb e) H5C (Ne.symm (ltC locLt)) (.inr (Nat.le_trans I2.sz hCge)) (fun x c e => ltC (cellsLt x c e)) (fun p hp => ltC (pinLt p hp));have ho7 : h7.get? D = some { cls := .type "list", data := .seq us.toArray k } := hs7.extBut D _ hDC ho6;refine⟨.ref D, upd H5 D (.lst ys), ?_, rfl, fin D hD5⟩;exact Inv.track J7 hD5 (Nat.le_trans I2.sz hDge) (Ne.symm (Nat.ne_of_lt locLt)) (fun x c e => Nat.ne_of_lt (cellsLt x c e)) (fun p hp => Nat.ne_of_lt (pinLt p hp)) ⟨Nat.le_of_lt hsz, us, k, rv5, ho7⟩
    · refine thn (T.item (blk X N' sc cl C s2 H2 fp (X.pn ++ Kp)) rfl rfl rfl hc i _ s5 τ H5 NoX I5p (fpB fr5 (Dfp _)) st5 go) fun r s6 ⟨u, hr, h6⟩ => ?_
      subst hr;refine thn h6 fun _ s7 ⟨x, H7, I7, r7, y7, st7, fr7⟩ => ?_;have I7p := I7.pinned (fpB fr7 (Dfp _)) (T.obj _ _ st7);refine thn (bG _ s7 τ H7 x u _ I7p r7 (step x H7 y7)) fun _ s8 ⟨τ8, H8, I8, q8⟩ => ?_
      have back : ∀{τ9 : St} {H9 : Hp} {s9 : Shared}, Inv (blk X N' sc cl C s2 H2 fp (X.pn ++ Kp)) ([(D, { cls := .type "list", data := .seq us.toArray k })] ++ J0 fp s7.heap) τ9 H9 s9 ->
          tn (i + 1) s9.heap /\ (∀b∈fp, H9 b = none) /\ s9.heap.get? D = some { cls := .type "list", data := .seq us.toArray k } /\ H9 D = none := fun {τ9 H9 s9} I9 => by
        have pD := I9.pin (D, { cls := .type "list", data := .seq us.toArray k }) (List.mem_append_right _ (List.mem_append_left _ (List.mem_singleton.mpr rfl)));refine⟨T.keep _ _ _ st7 fun b hb o e => (I9.pin (b, o) (List.mem_append_right _ (List.mem_append_right _ (qA hb e)))).1, fun b hb => ?_, pD.1, pD.2.1⟩;obtain⟨o, e, _⟩ := T.obj _ _ st7 b hb;exact(I9.pin (b, o) (List.mem_append_right _ (List.mem_append_right _ (qA hb e)))).2.1
      have drop : ∀{τ9 : St} {H9 : Hp} {s9 : Shared} {pl : List (Addr×Obj)}, Inv (blk X N' sc cl C s2 H2 fp (X.pn ++ Kp)) pl τ9 H9 s9 -> Inv (blk X N' sc cl C s2 H2 fp (X.pn ++ Kp)) [] τ9 H9 s9 := fun I9 => I9.pins_of fun p hp => nomatch hp
      refine thn (bT _ s8 τ8 H8 _ I8 q8) fun b s9 ⟨H9, I9, q9⟩ => ?_;cases b with
      | false =>
        rw[if_neg Bool.false_ne_true]at q9 ⊢;obtain⟨m', hm, w9⟩ := q9;obtain⟨t9, f9, o9, d9⟩ := back I9;exact⟨m', hm, i + 1, τ8, ys, us, k, H9, drop I9, t9, f9, rv5, o9, d9, w9⟩
      | true =>
        rw[if_pos rfl]at q9 ⊢;refine thn (bE _ s9 τ8 H9 _ I9 q9) fun y s10 ⟨z, H10, I10, r10, q10⟩ => ?_;obtain⟨m', hm, w10⟩ := q10;obtain⟨t10, f10, o10, d10⟩ := back I10;have hl := rv5.length;refine append_at (hsz := by show us.toArray.size <= sizeLine;rw[List.size_toArray, ← hl];exact Nat.le_of_lt hsz) o10 fun h11 hs11 hD11 => ?_
        have I11 : Inv (blk X N' sc cl C s2 H2 fp (X.pn ++ Kp)) [] τ8 H10 { s10 with heap := h11, toks := s10.toks } := (drop I10).turned (it := D) (fun b o hb e => hs11.extBut b o hb e) d10 hDC (.inr hDge) (fun x c e => Nat.ne_of_lt (cellsLt x c (clm x c e)))
          (fun p hp => by have hp' : p∈X.pn ++ Kp := by simpa[blk]using hp
                          exact Nat.ne_of_lt (pinLt p hp'))
        refine⟨m', hm, i + 1, τ8, ys ++ [z], us ++ [y], k + 1, H10, I11, T.keep _ _ _ t10 (fun b hb o e => hs11.extBut b o (Nat.ne_of_lt (fpLt b hb)) e), f10, rv5.append (.cons r10 .nil), ?_, d10, w10⟩;rw[hD11];simp
  refine codeAny_compStart_list loop ?_;exact T.self _ 0 _ _ _ (T.keep _ _ _ st2 (fun b _ o e => old b o e)) loop
theorem jq.tup{K:Fg}{H H':Hp}{a:Addr}{xs:List V}(e:jq H H')(h:SqT K H a xs):SqT K H' a xs:=by
 rcases h with (h | ⟨o,h⟩) | h
 ·exact .inl (.inl (e _ _ h))
 ·exact .inl (.inr ⟨o,e _ _ h⟩)
 ·exact .inr h
noncomputable def scr(ns:List Int):PyData:= .dict (ns.map fun n=>(.int n,.none))
noncomputable def abC:Key->PyData
 |.inl i=> .int i
 |.inr t=> .str t
mutual
noncomputable def Rep(K:Fg)(H:Hp):PyData->V->Prop
 |.none,v=>v= .non
 |.bool b,v=>v= .bl b
 |.int i,v=>v= .int i
 |.str x,v=>v= .str x
 |.tuple ds,v=>∃a xs,v= .ref a/\SqT K H a xs/\Reps K H ds xs
 |.list ds,v=>∃a xs,v= .ref a/\H a=some (.lst xs)/\Reps K H ds xs
 |.dict kvs,v=>∃a,v= .ref a/\((∃ns:List Int,SqL K H a (List.map V.int ns)/\kvs=ns.map (fun n=>(PyData.int n,PyData.none)))∨(∃ks ob,H a=some (.frz ob (.dK ks))/\RepD K H kvs ks)∨(∃x:Str,kvs=[(.str x,.none)]/\PySem.W.nsIn K mainGlobals x=some (some (.ref a)))∨(∃(x:Str) (C:Addr) (oe:Obj),kvs=[(.str x,.bool true)]/\H a=some (.frz oe (.own a))/\PySem.W.nsIn K mainGlobals x=some (some (.ref C))/\oe.cls= .ref C/\oe.dict=none/\∃vs,oe.data= .fields vs)∨kvs=[(.bool true,.int (a:Int))])
noncomputable def Reps(K:Fg)(H:Hp):LP->List V->Prop
 | [],xs=>xs=[]
 |d::ds,xs=>∃x r,xs=x::r/\Rep K H d x/\Reps K H ds r
noncomputable def RepD(K:Fg)(H:Hp):List (PyData×PyData)->List (Key×V)->Prop
 | [],_=>False
 | (.none,_)::r,ks=>RepM K H r ks
 |_::_,_=>False
noncomputable def RepM(K:Fg)(H:Hp):List (PyData×PyData)->List (Key×V)->Prop
 | [],ks=>ks=[]
 | (k,d)::r,ks=>∃i x s,k=abC i/\ks=(i,x)::s/\Rep K H d x/\RepM K H r s
end
noncomputable def qz(kvs:List (PyData×PyData)):Bool:=kvs.all fun p=>match p with
 | (.int _,.none)=>true
 |_=>false
theorem Zr(ns:List Int):qz (ns.map fun n=>(PyData.int n,PyData.none))=true:=by
 simp[qz]
theorem RepD.out{K:Fg}{H:Hp}:∀{kvs:List (PyData×PyData)}{ks:List (Key×V)},RepD K H kvs ks->∃c r,kvs=(.none,c)::r/\RepM K H r ks
 | [],_,h=>h.elim
 | (.none,c)::r,ks,h=>⟨c,r,rfl,h⟩
 | (.bool _,_)::_,_,h=>h.elim
 | (.int _,_)::_,_,h=>h.elim
 | (.str _,_)::_,_,h=>h.elim
 | (.list _,_)::_,_,h=>h.elim
 | (.tuple _,_)::_,_,h=>h.elim
 | (.dict _,_)::_,_,h=>h.elim
theorem Rep.scrOut{K:Fg}{H:Hp}{kvs:List (PyData×PyData)}{v:V}(h:Rep K H (.dict kvs) v)(hs:qz kvs=true):∃a ns,v= .ref a/\SqL K H a (List.map V.int ns)/\kvs=ns.map (fun n=>(PyData.int n,PyData.none)):=by
 obtain⟨a,h1,h2 | ⟨ks,ob,h2,h3⟩ | ⟨x,h2,_⟩ | ⟨x,_,_,h2,_⟩ | h2⟩:=h
 ·obtain⟨ns,q1,q2⟩:=h2;exact⟨a,ns,h1,q1,q2⟩
 ·obtain⟨c,r,rfl,_⟩:=h3.out
  simp[qz]at hs
 ·subst h2;simp[qz]at hs
 ·subst h2;simp[qz]at hs
 ·subst h2;simp[qz]at hs
noncomputable def ajp(a:Addr):PyData:= .dict [(.bool true,.int (a:Int))]
noncomputable def ajq(x:Str):PyData:= .dict [(.str x,.bool true)]
noncomputable def fnD(x:Str):PyData:= .dict [(.str x,.none)]
noncomputable def jI(H H':Hp):Prop:=∀b o,H b=some o->(∀φ,o ≠ .ext φ)->H' b=some o
theorem jq.e{H H':Hp}(s:jq H H'):jI H H':=fun b o h _=>s b o h
theorem jI.refl(H:Hp):jI H H:=fun _ _ h _=>h
theorem jI.trans{H H1 H2:Hp}(a:jI H H1)(b:jI H1 H2):jI H H2:=fun c o h n=>b c o (a c o h n) n
theorem jI.tup{K:Fg}{H H':Hp}{a:Addr}{xs:List V}(e:jI H H')(h:SqT K H a xs):SqT K H' a xs:=by
 rcases h with (h | ⟨o,h⟩) | h
 ·exact .inl (.inl (e _ _ h fun _ z=>nomatch z))
 ·exact .inl (.inr ⟨o,e _ _ h fun _ z=>nomatch z⟩)
 ·exact .inr h
theorem jI.sql{K:Fg}{H H':Hp}{a:Addr}{xs:List V}(e:jI H H')(h:SqL K H a xs):SqL K H' a xs:=by
 rcases h with (h | ⟨o,h⟩) | h
 ·exact .inl (.inl (e _ _ h fun _ z=>nomatch z))
 ·exact .inl (.inr ⟨o,e _ _ h fun _ z=>nomatch z⟩)
 ·exact .inr h
section
variable {K:Fg}{H H':Hp}
mutual
theorem Rep.mono(e:jq H H'):∀(d:PyData) (v:V),Rep K H d v->Rep K H' d v
 |.none,v,h=>h
 |.bool _,v,h=>h
 |.int _,v,h=>h
 |.str _,v,h=>h
 |.tuple ds,v,⟨a,xs,h1,h2,h3⟩=>⟨a,xs,h1,jq.tup e h2,Reps.mono e ds xs h3⟩
 |.list ds,v,⟨a,xs,h1,h2,h3⟩=>⟨a,xs,h1,e _ _ h2,Reps.mono e ds xs h3⟩
 |.dict kvs,v,⟨a,h1,h2⟩=>⟨a,h1,h2.imp (fun⟨ns,q1,q2⟩=>⟨ns,e.seq q1,q2⟩) fun z=>z.imp (fun⟨ks,ob,q1,q2⟩=>⟨ks,ob,e _ _ q1,RepD.mono e kvs ks q2⟩) fun y=>y.imp id fun z=>z.imp (fun⟨x,C,oe,q1,q2,q3⟩=>⟨x,C,oe,q1,e _ _ q2,q3⟩) id⟩
theorem Reps.mono(e:jq H H'):∀(ds:LP) (xs:List V),Reps K H ds xs->Reps K H' ds xs
 | [],xs,h=>h
 |d::ds,xs,⟨x,r,h1,h2,h3⟩=>⟨x,r,h1,Rep.mono e d x h2,Reps.mono e ds r h3⟩
theorem RepD.mono(e:jq H H'):∀(kvs:List (PyData×PyData)) (ks:List (Key×V)),RepD K H kvs ks->RepD K H' kvs ks
 | [],_,h=>h
 | (.none,c)::r,ks,h=>RepM.mono e r ks h
 | (.bool _,_)::_,_,h=>h
 | (.int _,_)::_,_,h=>h
 | (.str _,_)::_,_,h=>h
 | (.list _,_)::_,_,h=>h
 | (.tuple _,_)::_,_,h=>h
 | (.dict _,_)::_,_,h=>h
theorem RepM.mono(e:jq H H'):∀(kvs:List (PyData×PyData)) (ks:List (Key×V)),RepM K H kvs ks->RepM K H' kvs ks
 | [],_,h=>h
 | (k,d)::r,ks,⟨i,x,s,h1,h2,h3,h4⟩=>⟨i,x,s,h1,h2,Rep.mono e d x h3,RepM.mono e r s h4⟩
end
mutual
theorem Rep.monoE(e:jI H H'):∀(d:PyData) (v:V),Rep K H d v->Rep K H' d v
 |.none,v,h=>h
 |.bool _,v,h=>h
 |.int _,v,h=>h
 |.str _,v,h=>h
 |.tuple ds,v,⟨a,xs,h1,h2,h3⟩=>⟨a,xs,h1,jI.tup e h2,Reps.monoE e ds xs h3⟩
 |.list ds,v,⟨a,xs,h1,h2,h3⟩=>⟨a,xs,h1,e _ _ h2 (fun _ z=>nomatch z),Reps.monoE e ds xs h3⟩
 |.dict kvs,v,⟨a,h1,h2⟩=>⟨a,h1,h2.imp (fun⟨ns,q1,q2⟩=>⟨ns,jI.sql e q1,q2⟩) fun z=>z.imp (fun⟨ks,ob,q1,q2⟩=>⟨ks,ob,e _ _ q1 (fun _ z=>nomatch z),RepD.monoE e kvs ks q2⟩) fun y=>y.imp id fun z=>z.imp (fun⟨x,C,oe,q1,q2,q3⟩=>⟨x,C,oe,q1,e _ _ q2 (fun _ z=>nomatch z),q3⟩) id⟩
theorem Reps.monoE(e:jI H H'):∀(ds:LP) (xs:List V),Reps K H ds xs->Reps K H' ds xs
 | [],xs,h=>h
 |d::ds,xs,⟨x,r,h1,h2,h3⟩=>⟨x,r,h1,Rep.monoE e d x h2,Reps.monoE e ds r h3⟩
theorem RepD.monoE(e:jI H H'):∀(kvs:List (PyData×PyData)) (ks:List (Key×V)),RepD K H kvs ks->RepD K H' kvs ks
 | [],_,h=>h
 | (.none,c)::r,ks,h=>RepM.monoE e r ks h
 | (.bool _,_)::_,_,h=>h
 | (.int _,_)::_,_,h=>h
 | (.str _,_)::_,_,h=>h
 | (.list _,_)::_,_,h=>h
 | (.tuple _,_)::_,_,h=>h
 | (.dict _,_)::_,_,h=>h
theorem RepM.monoE(e:jI H H'):∀(kvs:List (PyData×PyData)) (ks:List (Key×V)),RepM K H kvs ks->RepM K H' kvs ks
 | [],_,h=>h
 | (k,d)::r,ks,⟨i,x,s,h1,h2,h3,h4⟩=>⟨i,x,s,h1,h2,Rep.monoE e d x h3,RepM.monoE e r s h4⟩
end
end
noncomputable def aiD:HO->Bool
 |.lst _=>true
 |.tup _=>true
 |.frz _ _=>true
 |_=>false
noncomputable def jM(H H':Hp):Prop:=∀b o,H b=some o->aiD o=true->H' b=some o
section
variable {K:Fg}{H H':Hp}
theorem jM.tup{a:Addr}{xs:List V}(e:jM H H')(h:SqT K H a xs):SqT K H' a xs:=by
 rcases h with (h | ⟨o,h⟩) | h
 ·exact .inl (.inl (e _ _ h rfl))
 ·exact .inl (.inr ⟨o,e _ _ h rfl⟩)
 ·exact .inr h
theorem jM.sql{a:Addr}{xs:List V}(e:jM H H')(h:SqL K H a xs):SqL K H' a xs:=by
 rcases h with (h | ⟨o,h⟩) | h
 ·exact .inl (.inl (e _ _ h rfl))
 ·exact .inl (.inr ⟨o,e _ _ h rfl⟩)
 ·exact .inr h
mutual
theorem Rep.monoA(e:jM H H'):∀(d:PyData) (v:V),Rep K H d v->Rep K H' d v
 |.none,v,h=>h
 |.bool _,v,h=>h
 |.int _,v,h=>h
 |.str _,v,h=>h
 |.tuple ds,v,⟨a,xs,h1,h2,h3⟩=>⟨a,xs,h1,jM.tup e h2,Reps.monoA e ds xs h3⟩
 |.list ds,v,⟨a,xs,h1,h2,h3⟩=>⟨a,xs,h1,e _ _ h2 rfl,Reps.monoA e ds xs h3⟩
 |.dict kvs,v,⟨a,h1,h2⟩=>⟨a,h1,h2.imp (fun⟨ns,q1,q2⟩=>⟨ns,jM.sql e q1,q2⟩) fun z=>z.imp (fun⟨ks,ob,q1,q2⟩=>⟨ks,ob,e _ _ q1 rfl,RepD.monoA e kvs ks q2⟩) fun y=>y.imp id fun z=>z.imp (fun⟨x,C,oe,q1,q2,q3⟩=>⟨x,C,oe,q1,e _ _ q2 rfl,q3⟩) id⟩
theorem Reps.monoA(e:jM H H'):∀(ds:LP) (xs:List V),Reps K H ds xs->Reps K H' ds xs
 | [],xs,h=>h
 |d::ds,xs,⟨x,r,h1,h2,h3⟩=>⟨x,r,h1,Rep.monoA e d x h2,Reps.monoA e ds r h3⟩
theorem RepD.monoA(e:jM H H'):∀(kvs:List (PyData×PyData)) (ks:List (Key×V)),RepD K H kvs ks->RepD K H' kvs ks
 | [],_,h=>h
 | (.none,c)::r,ks,h=>RepM.monoA e r ks h
 | (.bool _,_)::_,_,h=>h
 | (.int _,_)::_,_,h=>h
 | (.str _,_)::_,_,h=>h
 | (.list _,_)::_,_,h=>h
 | (.tuple _,_)::_,_,h=>h
 | (.dict _,_)::_,_,h=>h
theorem RepM.monoA(e:jM H H'):∀(kvs:List (PyData×PyData)) (ks:List (Key×V)),RepM K H kvs ks->RepM K H' kvs ks
 | [],_,h=>h
 | (k,d)::r,ks,⟨i,x,s,h1,h2,h3,h4⟩=>⟨i,x,s,h1,h2,Rep.monoA e d x h3,RepM.monoA e r s h4⟩
end
end
theorem jq.a{H H':Hp}(s:jq H H'):jM H H':=fun b o h _=>s b o h
theorem jI.a{H H':Hp}(s:jI H H'):jM H H':=fun b o h q=>s b o h fun φ z=>by subst z;cases q
theorem jM.refl(H:Hp):jM H H:=fun _ _ h _=>h
theorem jM.trans{H H1 H2:Hp}(a:jM H H1)(b:jM H1 H2):jM H H2:=fun c o h n=>b c o (a c o h n) n
section
variable {K:Fg}{H H':Hp}
theorem Rep.cel(a:Addr):Rep K H (ajp a) (.ref a):=⟨a,rfl,.inr (.inr (.inr (.inr rfl)))⟩
theorem Reps.length:∀{ds:LP}{xs:List V},Reps K H ds xs->xs.length=ds.length
 | [],xs,h=>by cases h;rfl
 |d::ds,xs,⟨x,r,h1,h2,h3⟩=>by subst h1;simp[Reps.length h3]
theorem Reps.get:∀{ds:LP}{xs:List V}{i:Nat}{d:PyData},Reps K H ds xs->ds[i]?=some d->∃x,xs[i]?=some x/\Rep K H d x
 | [],xs,i,d,h,e=>by simp at e
 |c::ds,xs,0,d,⟨x,r,h1,h2,h3⟩,e=>by subst h1;simp at e;subst e;exact⟨x,rfl,h2⟩
 | c::ds,xs,i+1,d,⟨x,r,h1,h2,h3⟩,e=>by
  subst h1;obtain⟨y,e1,e2⟩:=Reps.get (i:=i) h3 (by simpa using e);exact⟨y,by simpa using e1,e2⟩
theorem Reps.append:∀{ds es:LP}{xs ys:List V},Reps K H ds xs->Reps K H es ys->Reps K H (ds++es) (xs++ys)
 | [],es,xs,ys,h,g=>by cases h;exact g
 |d::ds,es,xs,ys,⟨x,r,h1,h2,h3⟩,g=>by subst h1;exact⟨x,r++ys,rfl,h2,Reps.append h3 g⟩
theorem Reps.take:∀{ds:LP}{xs:List V} (n:Nat),Reps K H ds xs->Reps K H (ds.take n) (xs.take n)
 |ds,xs,0,h=>by simp;rfl
 | [],xs,n+1,h=>by cases h;rfl
 |d::ds,xs,n+1,⟨x,r,h1,h2,h3⟩=>by subst h1;exact⟨x,_,rfl,h2,Reps.take n h3⟩
theorem Reps.drop:∀{ds:LP}{xs:List V} (n:Nat),Reps K H ds xs->Reps K H (ds.drop n) (xs.drop n)
 |ds,xs,0,h=>by simpa using h
 | [],xs,n+1,h=>by cases h;rfl
 |d::ds,xs,n+1,⟨x,r,h1,h2,h3⟩=>by subst h1;simpa using Reps.drop n h3
end
section
variable {X:Cx}{Kp:List (Addr×Obj)}{σ:St}{H:Hp}{s:Shared}
mutual
theorem j9(I:Inv X Kp σ H s):∀(d:PyData) (v:V) (u:Value),Rep X.K H d v->jO v u->d.canLay0=true->∃as,Reads s.heap u d as
 |.none,v,u,h,r,_=>by cases h;cases r;exact⟨_,.none⟩
 |.bool b,v,u,h,r,_=>by cases h;cases r;exact⟨_,.bool b⟩
 |.int i,v,u,h,r,_=>by cases h;obtain⟨t,rfl⟩:=r;exact⟨_,.int i t⟩
 |.str x,v,u,h,r,_=>by cases h;obtain⟨t,rfl⟩:=r;exact⟨_,.str x t⟩
 | .tuple ds,v,u,⟨a,xs,h1,h2,h3⟩,r,hc=>by
  subst h1;cases r;obtain⟨its,rv,⟨o,e1,e2,n,e3⟩,_⟩:=I.tuple h2;obtain⟨as,ra⟩:=readsAll_of I ds xs its h3 rv (by simpa[PyData.canLay0]using hc);exact⟨as,.tuple e1 e2 e3 (by simpa using ra)⟩
 | .list ds,v,u,⟨a,xs,h1,h2,h3⟩,r,hc=>by
  subst h1;cases r;obtain⟨its,rv,⟨o,n,e1,e2,e3,e4⟩,_⟩:=I.list (SqL.of h2);obtain⟨as,ra⟩:=readsAll_of I ds xs its h3 rv (by simpa[PyData.canLay0]using hc);exact⟨a::as,.list e1 e2 e4 (by simpa using ra)⟩
 |.dict kvs,v,u,h,r,hc=>by simp[PyData.canLay0]at hc
theorem readsAll_of(I:Inv X Kp σ H s):∀(ds:LP) (xs:List V) (us:List Value),Reps X.K H ds xs->jx xs us->PyData.canLayAll0 ds=true->∃as,ReadsAll s.heap us ds as
 | [],xs,us,h,r,_=>by cases h;cases r;exact⟨_,.nil⟩
 | d::ds,xs,us,⟨x,q,h1,h2,h3⟩,r,hc=>by
  subst h1;cases r with
  | cons r1 r2=>
   have hc':d.canLay0=true/\PyData.canLayAll0 ds=true:=by simpa[PyData.canLayAll0]using hc
   obtain⟨as,ra⟩:=j9 I d x _ h2 r1 hc'.1;obtain⟨bs,rb⟩:=readsAll_of I ds q _ h3 r2 hc'.2;exact⟨_,.cons ra rb⟩
end
end
noncomputable abbrev Rho:=List (OP)
abbrev RP:=Rho->OP
structure EnvR(K:Fg)(H:Hp)(ρ:Rho)(σ:St):Prop where
 len:ρ.length=σ.length
 at':∀(i:Nat) (d:PyData),ρ[i]?=some (some d)->∃v,σ[i]?=some (some v)/\Rep K H d v
theorem EnvR.mono{K:Fg}{H H':Hp}{ρ:Rho}{σ:St}(e:EnvR K H ρ σ)(h:jq H H'):EnvR K H' ρ σ:=
 ⟨e.len,fun i d q=>let ⟨v,e1,e2⟩:=e.at' i d q;⟨v,e1,Rep.mono h d v e2⟩⟩
theorem EnvR.set{K:Fg}{H:Hp}{ρ:Rho}{σ:St}(e:EnvR K H ρ σ){i:Nat}{d:PyData}{v:V}(r:Rep K H d v):EnvR K H (ρ.set i (some d)) (σ.set i (some v)):=by
 refine⟨by simp[e.len],fun j c q=>?_⟩;by_cases hj:i=j
 ·subst hj
  rw[List.getElem?_set]at q ⊢;simp only[zzM]at q ⊢;by_cases hl:i < ρ.length
  ·rw[if_pos hl]at q
   rw[if_pos (by rw[←e.len];exact hl)];cases q;exact⟨v,rfl,r⟩
  ·rw[if_neg hl]at q;cases q
 ·rw[List.getElem?_set_ne hj]at q ⊢
  exact e.at' j c q
noncomputable def lkp(i:Nat)(ρ:Rho):OP:=(ρ[i]?).join
theorem JD{i:Nat}{ρ:Rho}{d:PyData}(h:lkp i ρ=some d):ρ[i]?=some (some d):=by
 unfold lkp at h;cases e:ρ[i]? with
 |none=>rw[e]at h;cases h
 | some o=>rw[e]at h;cases o with
  |none=>cases h
  |some c=>cases h;rfl
noncomputable def tD(K:Fg)(f:RP):TE:=fun σ H Q=>∃ρ d,EnvR K H ρ σ/\f ρ=some d/\∀v H',jq H H'->Rep K H' d v->Q v H'
@[irreducible] noncomputable def PD(X:Cx)(e:Expr)(f:RP):Prop:=PE X e (tD X.K f)
noncomputable def tDT(K:Fg)(f:Rho->Option Bool):TT:=fun σ H Q=>∃ρ b,EnvR K H ρ σ/\f ρ=some b/\∀H',jq H H'->Q b H'
@[irreducible] noncomputable def PTD(X:Cx)(e:Expr)(f:Rho->Option Bool):Prop:=PT X e (tDT X.K f)
noncomputable def tDA(K:Fg)(f:Rho->Option (LP)):TA:=fun σ H Q=>∃ρ ds,EnvR K H ρ σ/\f ρ=some ds/\∀vs H',jq H H'->Reps K H' ds vs->Q vs H'
@[irreducible] noncomputable def PAD(X:Cx)(es:List Expr)(f:Rho->Option (LP)):Prop:=PA X es (tDA X.K f)
inductive Out where
 |nx (ρ:Rho) | rt (d:PyData) | bk (ρ:Rho) | ct (ρ:Rho)
abbrev RO:=Rho->Option Out
noncomputable def acl(K:Fg)(D:Ends)(H:Hp):Out->Prop
 |.nx ρ=>∀σ H',jq H H'->EnvR K H' ρ σ->D.nx σ H'
 |.rt d=>∀v H',jq H H'->Rep K H' d v->D.rt v H'
 |.bk ρ=>∀σ H',jq H H'->EnvR K H' ρ σ->D.bk σ H'
 |.ct ρ=>∀σ H',jq H H'->EnvR K H' ρ σ->D.ct σ H'
theorem acl.mono{K:Fg}{D:Ends}{H H':Hp}{o:Out}(h:acl K D H o)(e:jq H H'):acl K D H' o:=by
 cases o with
 |nx ρ=>exact fun σ H2 e2 r=>h σ H2 (e.trans e2) r
 |rt d=>exact fun v H2 e2 r=>h v H2 (e.trans e2) r
 |bk ρ=>exact fun σ H2 e2 r=>h σ H2 (e.trans e2) r
 |ct ρ=>exact fun σ H2 e2 r=>h σ H2 (e.trans e2) r
noncomputable def tDS(K:Fg)(F:RO):TS:=fun D σ H=>∃ρ o,EnvR K H ρ σ/\F ρ=some o/\acl K D H o
@[irreducible] noncomputable def PSD(X:Cx)(st:Stmt)(F:RO):Prop:=PS X st (tDS X.K F)
@[irreducible] noncomputable def QM(X:Cx)(st:List Stmt)(F:RO):Prop:=PSs X st (tDS X.K F)
noncomputable def tDG(K:Fg)(ga:PyData->Rho->Option Rho):TG:=fun v σ H Q=>∃ρ d ρ',EnvR K H ρ σ/\Rep K H d v/\ga d ρ=some ρ'/\∀σ' H',jq H H'->EnvR K H' ρ' σ'->Q σ' H'
@[irreducible] noncomputable def PGD(X:Cx)(tg:Expr)(ga:PyData->Rho->Option Rho):Prop:=PG X tg (tDG X.K ga)
section
variable {X:Cx}{e a b c:Expr}{es:List Expr}{fa fb fc:RP}{pos:Pos}
theorem PE.imp{t t':TE}(h:PE X e t)(hi:∀σ H Q,t' σ H Q->t σ H Q):PE X e t':=fun Kp s σ H Q I q=>h Kp s σ H Q I (hi σ H Q q)
theorem PT.imp{t t':TT}(h:PT X e t)(hi:∀σ H Q,t' σ H Q->t σ H Q):PT X e t':=fun Kp s σ H Q I q=>h Kp s σ H Q I (hi σ H Q q)
theorem PA.imp{t t':TA}(h:PA X es t)(hi:∀σ H Q,t' σ H Q->t σ H Q):PA X es t':=fun pos Kp s σ H Q I q=>h pos Kp s σ H Q I (hi σ H Q q)
theorem PS.imp{st:Stmt}{t t':TS}(h:PS X st t)(hi:∀D σ H,t' D σ H->t D σ H):PS X st t':=fun Kp s σ H D I q=>h Kp s σ H D I (hi D σ H q)
theorem PSs.imp{st:List Stmt}{t t':TS}(h:PSs X st t)(hi:∀D σ H,t' D σ H->t D σ H):PSs X st t':=fun Kp s σ H D I q=>h Kp s σ H D I (hi D σ H q)
theorem PG.imp{t t':TG}(h:PG X e t)(hi:∀v σ H Q,t' v σ H Q->t v σ H Q):PG X e t':=fun Kp s σ H v u Q I r q=>h Kp s σ H v u Q I r (hi v σ H Q q)
theorem jb(i:Nat){x:Str}{pos:Pos}(hN:X.N[i]?=some x:=by rfl)(hv:Vis X.env.scope x:=by first|exact Or.inl rfl|exact Or.inr (Or.inl rfl)|exact Or.inr (Or.inr rfl))(hd:(x==("__debug__":Str))=false:=by decide)
  (hcd:(x==("__classdict__":Str))=false:=by decide):PD X (.Name x pos) (lkp i):=by
 with_unfolding_all exact(PE.imp (abq hN hv hd hcd) fun σ H Q ⟨ρ,d,e,h,k⟩=>let ⟨v,e1,e2⟩:=e.at' i d (JD h);⟨v,e1,k v H (jq.refl H) e2⟩)
noncomputable def cst(d:PyData)(_:Rho):OP:=some d
theorem jh{i j pos}:PD X (.Constant (.int i) j pos) (cst (.int i)):=by
 with_unfolding_all exact(PE.imp ag0 fun σ H Q ⟨ρ,d,e,h,k⟩=>by cases h;exact k _ H (jq.refl H) rfl)
theorem qV{i j pos}:PD X (.Constant (.bool i) j pos) (cst (.bool i)):=by
 with_unfolding_all exact(PE.imp ah9 fun σ H Q ⟨ρ,d,e,h,k⟩=>by cases h;exact k _ H (jq.refl H) rfl)
theorem ahs{j pos}:PD X (.Constant .none j pos) (cst .none):=by
 with_unfolding_all exact(PE.imp ag1 fun σ H Q ⟨ρ,d,e,h,k⟩=>by cases h;exact k _ H (jq.refl H) rfl)
theorem abD{i j pos}:PD X (.Constant (.str i) j pos) (cst (.str i)):=by
 with_unfolding_all exact(PE.imp ag2 fun σ H Q ⟨ρ,d,e,h,k⟩=>by cases h;exact k _ H (jq.refl H) rfl)
theorem afI{x:Str}{v:V}{u:Value}{d:PyData}(hg:Gl X x)(hm:X.mg x=some u)(r:jO v u)(hr:∀H,Rep X.K H d v)(hd:(x==("__debug__":Str))=false:=by decide):PD X (.Name x pos) (cst d):=by
 with_unfolding_all exact(PE.imp (afp hg hm r hd) fun σ H Q ⟨ρ,d',e,h,k⟩=>by cases h;exact k _ H (jq.refl H) (hr H))
noncomputable def op2(g:PyData->PyData->OP)(fa fb:RP):RP:=fun ρ=>(fa ρ).bind fun x=>(fb ρ).bind fun y=>g x y
noncomputable def OpD(X:Cx)(f:Value->Value->Sem Value)(g:PyData->PyData->OP):Prop:=
 ∃r,OpR X f r/\∀p q d x y H Q,g p q=some d->Rep X.K H p x->Rep X.K H q y->(∀v H',jq H H'->Rep X.K H' d v->Q v H')->r x y H Q
theorem afJ{g:PyData->PyData->OP}{K:Fg}{r:R2}(hr:∀p q d x y H Q,g p q=some d->Rep K H p x->Rep K H q y->(∀v H',jq H H'->Rep K H' d v->Q v H')->r x y H Q)
  {σ:St} {H:Hp} {Q:VK} (h:tD K (op2 g fa fb) σ H Q):tOp r (tD K fa) (tD K fb) σ H Q:=by
 obtain⟨ρ,d,e,h,k⟩:=h;unfold op2 at h;cases ha:fa ρ with
 |none=>rw[ha]at h;cases h
 | some p=>
  rw[ha]at h;cases hb:fb ρ with
  |none=>rw[hb]at h;cases h
  | some q=>
   rw[hb]at h;refine⟨ρ,p,e,ha,fun x H1 s1 r1=>⟨ρ,q,e.mono s1,hb,fun y H2 s2 r2=>?_⟩⟩;exact hr p q d x y H2 Q h (Rep.mono s2 p x r1) r2 fun v H' s3 r3=>k v H' (s1.trans (s2.trans s3)) r3
theorem jo{op:Operator}{g:PyData->PyData->OP}(ho:OpD X (binaryOp op) g)(ha:PD X a fa)(hb:PD X b fb):PD X (.BinOp a op b pos) (op2 g fa fb):=by
 with_unfolding_all
  obtain⟨r,h1,h2⟩:=ho;exact PE.imp (aii h1 ha hb) fun σ H Q h=>afJ h2 h
theorem J3{op:CmpOp}{g:PyData->PyData->OP}(ho:OpD X (compareOp op) g)(ha:PD X a fa)(hb:PD X b fb)(hm:behindInMarks op b=false:=by first|exact adP _ | with_unfolding_all rfl):PD X (.Compare a [op] [b] pos) (op2 g fa fb):=by
 with_unfolding_all
  obtain⟨r,h1,h2⟩:=ho;exact PE.imp (afu h1 ha hb hm) fun σ H Q h=>afJ h2 h
noncomputable def asB:PyData->Option Bool
 |.bool b=>some b
 |_=>none
noncomputable def tst(f:RP):Rho->Option Bool:=fun ρ=>(f ρ).bind asB
theorem zw{d:PyData}{b:Bool}(h:asB d=some b):d= .bool b:=by
 cases d<;>simp[asB]at h
 rw[h]
theorem jK{op:CmpOp}{g:PyData->PyData->OP}(ho:OpD X (compareOp op) g)(ha:PD X a fa)(hb:PD X b fb)(hm:behindInMarks op b=false:=by first|exact adP _ | with_unfolding_all rfl):PTD X (.Compare a [op] [b] pos) (tst (op2 g fa fb)):=by
 with_unfolding_all
  obtain⟨r,h1,h2⟩:=ho;refine PT.imp (afv h1 ha hb hm) fun σ H Q ⟨ρ,t,e,h,k⟩=>?_;cases hd:op2 g fa fb ρ with
  |none=>simp[tst,hd]at h
  | some d=>
   have ht:d= .bool t:=zw (by simpa[tst,hd]using h);subst ht;exact afJ h2 ⟨ρ,_,e,hd,fun v H' s r=>⟨t,r,k H' s⟩⟩
theorem j8(h:PD X e fa)(he:∀whole,isTrue e X.env whole=(do let v ←whole;standAt e.pos;holding [v] (truthy v)):=by intro _;rfl):PTD X e (tst fa):=by
 with_unfolding_all
  refine PT.imp (ag3 h he) fun σ H Q ⟨ρ,t,e,h,k⟩=>?_;cases hd:fa ρ with
  |none=>simp[tst,hd]at h
  | some d=>
   have ht:d= .bool t:=zw (by simpa[tst,hd]using h);subst ht;exact⟨ρ,_,e,hd,fun v H' s r=>⟨t,r,k H' s⟩⟩
variable {ta tb:Rho->Option Bool}{rest:List Expr}
@[irreducible] noncomputable def PWD(X:Cx)(e:Expr)(f:Rho->Option Bool):Prop:=PW X e (tDT X.K f)
theorem PW.imp{t t':TT}(h:PW X e t)(hi:∀σ H Q,t' σ H Q->t σ H Q):PW X e t':=fun wh Kp s σ H Q I q=>h wh Kp s σ H Q I (hi σ H Q q)
noncomputable def abE(ta tb:Rho->Option Bool):Rho->Option Bool:=fun ρ=>(ta ρ).bind fun x=>if x=true then tb ρ else some false
noncomputable def orB(ta tb:Rho->Option Bool):Rho->Option Bool:=fun ρ=>(ta ρ).bind fun x=>if x=true then some true else tb ρ
noncomputable def ze(ta:Rho->Option Bool):Rho->Option Bool:=fun ρ=>(ta ρ).map (!·)
theorem aaC(ha:PTD X a ta):PWD X (.BoolOp .And [a] pos) ta:=by
 with_unfolding_all exact(afq ha)
theorem qP(ha:PTD X a ta):PWD X (.BoolOp .Or [a] pos) ta:=by
 with_unfolding_all exact(ag4 ha)
theorem acm(ha:PTD X a ta)(hb:PWD X (.BoolOp .And (b::rest) pos) tb):PWD X (.BoolOp .And (a::b::rest) pos) (abE ta tb):=by
 with_unfolding_all
  refine PW.imp (ag5 ha hb) fun σ H Q ⟨ρ,t,e,h,k⟩=>?_;cases h1:ta ρ with
  |none=>simp[abE,h1]at h
  | some x=>
   refine⟨ρ,x,e,h1,fun H' s=>?_⟩;cases x with
   |true=>rw[if_pos rfl];exact⟨ρ,t,e.mono s,by simpa[abE,h1]using h,fun H2 s2=>k H2 (s.trans s2)⟩
   | false=>
    rw[if_neg Bool.false_ne_true];have:t=false:=by simpa[abE,h1]using h.symm
    subst this;exact k H' s
theorem zq(ha:PTD X a ta)(hb:PWD X (.BoolOp .Or (b::rest) pos) tb):PWD X (.BoolOp .Or (a::b::rest) pos) (orB ta tb):=by
 with_unfolding_all
  refine PW.imp (aia ha hb) fun σ H Q ⟨ρ,t,e,h,k⟩=>?_;cases h1:ta ρ with
  |none=>simp[orB,h1]at h
  | some x=>
   refine⟨ρ,x,e,h1,fun H' s=>?_⟩;cases x with
   |false=>rw[if_neg Bool.false_ne_true];exact⟨ρ,t,e.mono s,by simpa[orB,h1]using h,fun H2 s2=>k H2 (s.trans s2)⟩
   | true=>
    rw[if_pos rfl];have:t=true:=by simpa[orB,h1]using h.symm
    subst this;exact k H' s
theorem qj{op:BoolOp}{l:List Expr}(h:PWD X (.BoolOp op l pos) ta):PTD X (.BoolOp op l pos) ta:=by
 with_unfolding_all exact(h.pt)
theorem qf(ha:PTD X a ta):PTD X (.UnaryOp .Not a pos) (ze ta):=by
 with_unfolding_all
  refine PT.imp (ag6 ha) fun σ H Q ⟨ρ,t,e,h,k⟩=>?_;cases h1:ta ρ with
  |none=>simp[ze,h1]at h
  | some x=>
   have:(!x)=t:=by simpa[ze,h1]using h
   subst this;exact⟨ρ,x,e,h1,fun H' s=>k H' s⟩
noncomputable def ifD(tc:Rho->Option Bool)(fa fb:RP):RP:=fun ρ=>(tc ρ).bind fun x=>if x=true then fa ρ else fb ρ
noncomputable def jE(_:Rho):Option (LP):=some []
noncomputable def jp(fa:RP)(fr:Rho->Option (LP)):Rho->Option (LP):=fun ρ=>(fa ρ).bind fun x=>(fr ρ).map fun r=>x::r
theorem je:PAD X [] jE:=by
 with_unfolding_all exact(PA.imp zP fun σ H Q ⟨ρ,d,e,h,k⟩=>by cases h;exact k [] H (jq.refl H) rfl)
theorem ja{fr:Rho->Option (LP)}(ha:PD X e fa)(hr:PAD X es fr)(hs:starEach (e::es) X.env=(false,eval e X.env)::starEach es X.env:=by rfl):PAD X (e::es) (jp fa fr):=by
 with_unfolding_all
  refine PA.imp (qG ha hr hs) fun σ H Q ⟨ρ,ds,en,h,k⟩=>?_;cases h1:fa ρ with
  |none=>simp[jp,h1]at h
  | some x=>
   cases h2:fr ρ with
   |none=>simp[jp,h1,h2]at h
   | some r=>
    have:x::r=ds:=by simpa[jp,h1,h2]using h
    subst this;exact⟨ρ,x,en,h1,fun v H1 s1 r1=>⟨ρ,r,en.mono s1,h2,fun vs H2 s2 r2=>k _ H2 (s1.trans s2) ⟨v,vs,rfl,Rep.mono s2 x v r1,r2⟩⟩⟩
noncomputable def few(ds:LP):Bool:=decide (ds.length<1000000)
theorem QN{n:Nat}(h:n<1000000):n<=sizeLine:=Nat.le_of_lt (Nat.lt_of_lt_of_le h (by rw[sizeLine_eq];decide))
theorem jz{H:Hp}{p:Addr}{o:HO}(hp:H p=none):jq H (upd H p o):=fun b u h=>by rw[jm (j7 h hp)];exact h
noncomputable def J4(fr:Rho->Option (LP)):RP:=fun ρ=>(fr ρ).bind fun ds=>if few ds=true then some (.tuple ds) else none
noncomputable def Jq(fr:Rho->Option (LP)):RP:=fun ρ=>(fr ρ).bind fun ds=>if few ds=true then some (.list ds) else none
theorem qx{x1}{fr:Rho->Option (LP)}(h:PAD X es fr):PD X (.Tuple es x1 pos) (J4 fr):=by
 with_unfolding_all
  refine PE.imp (adT h) fun σ H Q ⟨ρ,d,e,h,k⟩=>?_;cases h1:fr ρ with
  |none=>simp[J4,h1]at h
  | some ds=>
   by_cases hf:few ds=true
   ·have:PyData.tuple ds=d:=by simpa[J4,h1,hf]using h
    subst this;refine⟨ρ,ds,e,h1,fun vs H1 s1 r1=>⟨QN (by rw[r1.length];simpa[few]using hf),fun p hp=>k _ _ (s1.trans (jz hp)) ⟨p,vs,rfl,SqT.of jr,Reps.mono (jz hp) _ _ r1⟩⟩⟩
   ·simp[J4,h1,hf]at h
theorem Jr{fr:Rho->Option (LP)}(h:PAD X es fr):PD X (.List es pos) (Jq fr):=by
 with_unfolding_all
  refine PE.imp (aby h) fun σ H Q ⟨ρ,d,e,h,k⟩=>?_;cases h1:fr ρ with
  |none=>simp[Jq,h1]at h
  | some ds=>
   by_cases hf:few ds=true
   ·have:PyData.list ds=d:=by simpa[Jq,h1,hf]using h
    subst this;refine⟨ρ,ds,e,h1,fun vs H1 s1 r1=>⟨QN (by rw[r1.length];simpa[few]using hf),fun p hp=>k _ _ (s1.trans (jz hp)) ⟨p,vs,rfl,jr,Reps.mono (jz hp) _ _ r1⟩⟩⟩
   ·simp[Jq,h1,hf]at h
end
end BX
end
section
namespace BX
open PySem PySem.Spec L2
open PyProof.Rows hiding St
section
variable {X:Cx}{e a b c tg src:Expr}{es:List Expr}{st:Stmt}{sts rest:List Stmt}{fa fb fc:RP}{F G:RO}{pos:Pos}
noncomputable def qq(fa:RP):RO:=fun ρ=>(fa ρ).map Out.rt
theorem js(h:PD X e fa):PSD X (.Return (some e) pos) (qq fa):=by
 with_unfolding_all
  refine PS.imp (abr h) fun D σ H ⟨ρ,o,en,q,k⟩=>?_;cases h1:fa ρ with
  |none=>simp[qq,h1]at q
  | some d=>
   have:Out.rt d=o:=by simpa[qq,h1]using q
   subst this;exact⟨ρ,d,en,h1,k⟩
noncomputable def ifS(tc:Rho->Option Bool)(F G:RO):RO:=fun ρ=>(tc ρ).bind fun x=>if x=true then F ρ else G ρ
theorem jS{l r:List Stmt}{tc:Rho->Option Bool}(hc:PTD X c tc)(hl:QM X l F)(hr:QM X r G):PSD X (.If c l r pos) (ifS tc F G):=by
 with_unfolding_all
  refine PS.imp (aie hc hl hr) fun D σ H ⟨ρ,o,en,q,k⟩=>?_;cases h1:tc ρ with
  |none=>simp[ifS,h1]at q
  | some x=>
   refine⟨ρ,x,en,h1,fun H1 s1=>?_⟩;cases x with
   |true=>rw[if_pos rfl];exact⟨ρ,o,en.mono s1,by simpa[ifS,h1]using q,k.mono s1⟩
   |false=>rw[if_neg Bool.false_ne_true];exact⟨ρ,o,en.mono s1,by simpa[ifS,h1]using q,k.mono s1⟩
noncomputable def qr:RO:=fun ρ=>some (.nx ρ)
noncomputable def jT(F G:RO):RO:=fun ρ=>(F ρ).bind fun o=>match o with
 |.nx ρ'=>G ρ'
 |o=>some o
theorem jf:QM X [] qr:=by
 with_unfolding_all
  refine PSs.imp acb fun D σ H ⟨ρ,o,en,q,k⟩=>?_;cases q;exact k σ H (jq.refl H) en
theorem jd(h1 : PSD X st F)(h2 : QM X rest G) : QM X (st :: rest) (jT F G) := by
  with_unfolding_all
   refine PSs.imp (zO h1 h2) fun D σ H ⟨ρ, o, en, q, k⟩ => ?_;cases hf : F ρ with
   |none => simp[jT, hf]at q
   | some p =>
     refine⟨ρ, p, en, hf, ?_⟩;cases p with
     |nx ρ' => exact fun σ' H' s' r' => ⟨ρ', o, r', by simpa[jT, hf]using q, k.mono s'⟩
     | rt d => have : Out.rt d = o := by simpa[jT, hf]using q
               subst this;exact k
     | bk d => have : Out.bk d = o := by simpa[jT, hf]using q
               subst this;exact k
     | ct d => have : Out.ct d = o := by simpa[jT, hf]using q
               subst this;exact k
noncomputable def adZ:RO:=fun _=>none
theorem Zs:PSD X st adZ:=by
 with_unfolding_all exact(PS.imp adK fun D σ H ⟨ρ,o,en,q,k⟩=>by cases q)
theorem Js:QM X sts adZ:=by
 with_unfolding_all exact(PSs.imp acT fun D σ H ⟨ρ,o,en,q,k⟩=>by cases q)
noncomputable def ZO(fa:RP):RO:=fun ρ=>(fa ρ).map fun _=> .nx ρ
theorem qI(h:PD X e fa)(hs:swapsWith e none pos.line X.env=pure false:=by rfl):PSD X (.Expr e pos) (ZO fa):=by
 with_unfolding_all
  refine PS.imp (ZK h hs) fun D σ H ⟨ρ,o,en,q,k⟩=>?_;cases h1:fa ρ with
  |none=>simp[ZO,h1]at q
  | some d=>
   have:Out.nx ρ=o:=by simpa[ZO,h1]using q
   subst this;exact⟨ρ,d,en,h1,fun v H' s r=>k σ H' s (en.mono s)⟩
noncomputable def jZ(i:Nat)(d:PyData)(ρ:Rho):Option Rho:=some (ρ.set i (some d))
theorem jJ(i:Nat){x:Str}(hN:X.N.Nodup)(hi:X.N[i]?=some x:=by rfl)(hx:Loc X.env.scope x:=by first|exact Or.inl rfl|exact Or.inr rfl)
  (hf:X.fn x=true∨X.env.scope.names.lookup x=some .local:=by first|exact .inl rfl|exact .inr rfl|assumption):PGD X (.Name x pos) (jZ i):=by
 with_unfolding_all
  refine PG.imp (Qr hN hi hx hf) fun v σ H Q ⟨ρ,d,ρ',en,r,q,k⟩=>?_;cases q;exact k _ H (jq.refl H) (en.set r)
@[irreducible] noncomputable def afK(X:Cx)(ts:List Expr)(ga:LP->Rho->Option Rho):Prop:=PGs X ts fun vs σ H Q=>∃ρ ds ρ',EnvR X.K H ρ σ/\Reps X.K H ds vs/\ga ds ρ=some ρ'/\∀σ' H',jq H H'->EnvR X.K H' ρ' σ'->Q σ' H'
noncomputable def ad0(ds:LP)(ρ:Rho):Option Rho:=match ds with
 | []=>some ρ
 |_=>none
noncomputable def Qs(ga:PyData->Rho->Option Rho)(gr:LP->Rho->Option Rho)(ds:LP)(ρ:Rho):Option Rho:=match ds with
 |d::r=>(ga d ρ).bind fun ρ1=>gr r ρ1
 | []=>none
theorem PGs.imp{ts:List Expr}{t t':TGs}(h:PGs X ts t)(hi:∀v σ H Q,t' v σ H Q->t v σ H Q):PGs X ts t':=fun Kp s σ H v u Q I r q=>h Kp s σ H v u Q I r (hi v σ H Q q)
theorem aaD:afK X [] ad0:=by
 with_unfolding_all
  refine PGs.imp afr fun vs σ H Q ⟨ρ,ds,ρ',en,r,q,k⟩=>?_;cases ds with
  |nil=>cases r;cases q;exact⟨rfl,k σ H (jq.refl H) en⟩
  |cons d ds=>cases q
theorem qS{ga:PyData->Rho->Option Rho}{gr:LP->Rho->Option Rho}(h1:PGD X e ga)(h2:afK X es gr)
  (hs:(assignEach (e::es) X.env).map (·.2)=assign e X.env::(assignEach es X.env).map (·.2):=by rfl):afK X (e::es) (Qs ga gr):=by
 with_unfolding_all
  refine PGs.imp (adM h1 h2 hs) fun vs σ H Q ⟨ρ,ds,ρ',en,r,q,k⟩=>?_;cases ds with
  |nil=>cases q
  | cons d ds=>
   obtain⟨x,rr,e1,r1,r2⟩:=r;subst e1;cases h3:ga d ρ with
   |none=>simp[Qs,h3]at q
   | some ρ1=>
    refine⟨x,rr,rfl,ρ,d,ρ1,en,r1,h3,fun σ1 H1 s1 e1=>⟨ρ1,ds,ρ',e1,Reps.mono s1 ds rr r2,by simpa[Qs,h3]using q,fun σ2 H2 s2 e2=>k σ2 H2 (s1.trans s2) e2⟩⟩
noncomputable def ad1(n:Nat)(gr:LP->Rho->Option Rho)(d:PyData)(ρ:Rho):Option Rho:=match d with
 |.tuple ds=>if ds.length=n then gr ds ρ else none
 |_=>none
theorem acn{k n:Nat}{gr:LP->Rho->Option Rho}(hc:X.calm=true)(h:afK X es gr)(hn:(assignEach es X.env).length=n:=by rfl)(hst:(assignEach es X.env).findIdx? (·.1)=none:=by rfl):
  PGD X (.Tuple es k pos) (ad1 n gr):=by
 with_unfolding_all
  refine PG.imp (ag9 hc h hn hst) fun v σ H Q ⟨ρ,d,ρ',en,r,q,k⟩=>?_;cases d with
  | tuple ds=>
   obtain⟨a,xs,e1,e2,e3⟩:=r;by_cases hl:ds.length=n
   ·exact⟨a,xs,e1,e2,by rw[e3.length];exact hl,ρ,ds,ρ',en,e3,by simpa[ad1,hl]using q,k⟩
   ·simp[ad1,hl]at q
  |_=>simp[ad1]at q
noncomputable def qW(fa:RP)(ga:PyData->Rho->Option Rho):RO:=fun ρ=>(fa ρ).bind fun d=>(ga d ρ).map Out.nx
theorem afL{ga:PyData->Rho->Option Rho}(he:PD X e fa)(hg:PGD X tg ga)(hs:swapsWithSole [tg] e pos.line X.env=pure false:=by rfl)(hw:swappedStores [tg] e X.env=pure none:=by rfl)
  (h1:(assignEach [tg] X.env).map (·.2)=[assign tg X.env]:=by rfl):PSD X (.Assign [tg] e pos) (qW fa ga):=by
 with_unfolding_all
  refine PS.imp (ahb he hg hs hw h1) fun D σ H ⟨ρ,o,en,q,k⟩=>?_;cases h1:fa ρ with
  |none=>simp[qW,h1]at q
  | some d=>
   cases h2:ga d ρ with
   |none=>simp[qW,h1,h2]at q
   | some ρ'=>
    have:Out.nx ρ'=o:=by simpa[qW,h1,h2]using q
    subst this;exact⟨ρ,d,en,h1,fun v H1 s1 r1=>⟨ρ,d,ρ',en.mono s1,r1,h2,fun σ' H' s' e'=>k σ' H' (s1.trans s') e'⟩⟩
theorem jv(i:Nat){x:Str}{pos':Pos}(hN:X.N.Nodup)(he:PD X e fa)(hi:X.N[i]?=some x:=by rfl)(hx:Loc X.env.scope x:=by first|exact Or.inl rfl|exact Or.inr rfl)(hs:swapsWith e (some (.Name x pos')) pos.line X.env=pure false:=by rfl)
  (hf:X.fn x=true∨X.env.scope.names.lookup x=some .local:=by first|exact .inl rfl|exact .inr rfl|assumption):PSD X (.Assign [.Name x pos'] e pos) (qW fa (jZ i)):=by
 with_unfolding_all
  refine PS.imp (abt hN hi hx he hs hf) fun D σ H ⟨ρ,o,en,q,k⟩=>?_;cases h1:fa ρ with
  |none=>simp[qW,h1]at q
  | some d=>
   have:Out.nx (ρ.set i (some d))=o:=by simpa[qW,h1,jZ]using q
   subst this;exact⟨ρ,d,en,h1,fun v H1 s1 r1=>k _ H1 s1 ((en.mono s1).set r1)⟩
noncomputable def ad2(K:Fg)(J:It)(ds:LP)(H0:Hp):Prop:=∀i H,jM H0 H->(i<ds.length->J.go i H)/\(ds.length<=i->J.stop i H)/\∀x H',J.yld i H x H'->jq H H'/\∀d,ds[i]?=some d->Rep K H' d x
noncomputable def tDI(K:Fg)(fi:Rho->Option (LP)):TI:=fun σ H R=>∃ρ ds,EnvR K H ρ σ/\fi ρ=some ds/\∀J H',jq H H'->ad2 K J ds H'->R J H'
@[irreducible] noncomputable def PID(X:Cx)(tg src:Expr)(fi:Rho->Option (LP)):Prop:=PI X tg src (tDI X.K fi)
theorem PI.imp{t t':TI}(h:PI X tg src t)(hi:∀σ H R,t' σ H R->t σ H R):PI X tg src t':=fun Kp s σ H R I q=>h Kp s σ H R I (hi σ H R q)
noncomputable def QO:PyData->Option (LP)
 |.list ds=>some ds
 |_=>none
noncomputable def J5:PyData->Option (LP)
 |.tuple ds=>some ds
 |_=>none
noncomputable def itL(fa:RP):Rho->Option (LP):=fun ρ=>(fa ρ).bind QO
noncomputable def itT(fa:RP):Rho->Option (LP):=fun ρ=>(fa ρ).bind J5
theorem aaE(h:PD X e fa):PID X tg e (itL fa):=by
 with_unfolding_all
  refine PI.imp (afs h) fun σ H R ⟨ρ,ds,en,q,k⟩=>?_;cases h1:fa ρ with
  |none=>simp[itL,h1]at q
  | some d=>
   cases d with
   | list es=>
    have:es=ds:=by simpa[itL,h1,QO]using q
    subst this;refine⟨ρ,_,en,h1,fun v H1 s1 r1=>?_⟩;obtain⟨a,xs,e1,e2,e3⟩:=r1;refine⟨a,e1,⟨xs,SqL.of e2⟩,k _ H1 s1 fun i H2 s2=>⟨fun hi=>?_,fun hi=>?_,fun x H' y=>?_⟩⟩
    ·exact⟨xs,xs[i]'(by rw[e3.length];exact hi),SqL.of (s2 _ _ e2 rfl),by simp[e3.length,hi]⟩
    ·exact⟨xs,SqL.of (s2 _ _ e2 rfl),by rw[e3.length];exact hi⟩
    ·obtain⟨z1,z2⟩:=y
     subst z1;refine⟨jq.refl _,fun d hd=>?_⟩;obtain⟨y,e4,e5⟩:=(Reps.monoA s2 _ _ e3).get hd;have:=z2 xs (SqL.of (s2 _ _ e2 rfl));rw[e4]at this;cases this;exact e5
   |_=>simp[itL,h1,QO]at q
theorem ZP(h:PD X e fa):PID X tg e (itT fa):=by
 with_unfolding_all
  refine PI.imp (ahc h) fun σ H R ⟨ρ,ds,en,q,k⟩=>?_;cases h1:fa ρ with
  |none=>simp[itT,h1]at q
  | some d=>
   cases d with
   | tuple es=>
    have:es=ds:=by simpa[itT,h1,J5]using q
    subst this;refine⟨ρ,_,en,h1,fun v H1 s1 r1=>?_⟩;obtain⟨a,xs,e1,e2,e3⟩:=r1;refine⟨a,e1,⟨xs,e2⟩,k _ H1 s1 fun i H2 s2=>⟨fun hi=>?_,fun hi=>?_,fun x H' y=>?_⟩⟩
    ·exact⟨xs,xs[i]'(by rw[e3.length];exact hi),jM.tup s2 e2,by simp[e3.length,hi]⟩
    ·exact⟨xs,jM.tup s2 e2,by rw[e3.length];exact hi⟩
    ·obtain⟨z1,z2⟩:=y
     subst z1;refine⟨jq.refl _,fun d hd=>?_⟩;obtain⟨y,e4,e5⟩:=(Reps.monoA s2 _ _ e3).get hd;have:=z2 xs (jM.tup s2 e2);rw[e4]at this;cases this;exact e5
   |_=>simp[itT,h1,J5]at q
noncomputable def zr(lo:Int)(n:Nat):LP:=(List.range n).map fun (k:Nat)=>PyData.int (lo+(k:Int))
noncomputable def Qq(ds:LP):Option (LP):=match ds with
 | [.int j]=>if -(2 ^ 62)<=j/\j<2 ^ 62 then some (zr 0 j.toNat) else none
 |_=>none
theorem ZQ{K:Fg}{H:Hp}(lo:Int)(n:Nat):ad2 K (Itr lo n) (zr lo n) H:=fun i H2 s2=>by
 have hl:(zr lo n).length=n:=by simp[zr]
 refine⟨fun hi=>by rw[hl]at hi;exact hi,fun hi=>by rw[hl]at hi;exact hi,fun x H' y=>?_⟩;obtain⟨z1,z2⟩:=y;subst z1;refine⟨jq.refl _,fun d hd=>?_⟩
 have hi:i<n:=by
  have:=(List.getElem?_eq_some_iff.mp hd).1;rw[hl]at this;exact this
 have:d= .int (lo+i):=by
  simp[zr,hi]at hd;exact hd.symm
 subst this;exact z2
theorem zD{p pos:Pos}{fr:Rho->Option (LP)}(hg:Gl X "range")(hm:X.mg "range"=none)(ha:PAD X [a] fr)(hs:starEach [a] X.env=[(false,eval a X.env)]:=by rfl):PID X tg (.Call (.Name "range" p) [a] [] pos) (fun ρ=>(fr ρ).bind Qq):=by
 with_unfolding_all
  refine PI.imp (JZ hg hm ha hs) fun σ H R ⟨ρ,ds,en,q,k⟩=>?_;cases h1:fr ρ with
  |none=>simp[h1]at q
  | some as=>
   have q':Qq as=some ds:=by simpa[h1]using q
   refine⟨ρ,as,en,h1,fun vs H1 s1 r1=>?_⟩;unfold Qq at q';split at q'
   ·rename_i j
    split at q'
    ·rename_i hj
     cases q';obtain⟨x,r,e1,e2,e3⟩:=r1;cases (show x=V.int j from e2);cases (show r=[] from e3);exact⟨j,e1,hj.1,hj.2,k _ H1 s1 (ZQ 0 j.toNat)⟩
    ·cases q'
   ·cases q'
noncomputable def jD(ga:PyData->Rho->Option Rho)(F:RO):LP->RO
 | [],ρ=>some (.nx ρ)
 | d::r,ρ=>(ga d ρ).bind fun ρ1=>(F ρ1).bind fun o=>match o with
  |.nx ρ2=>jD ga F r ρ2
  |.ct ρ2=>jD ga F r ρ2
  |.bk ρ2=>some (.nx ρ2)
  |.rt d=>some (.rt d)
noncomputable def QP(fi:Rho->Option (LP))(ga:PyData->Rho->Option Rho)(F:RO):RO:=fun ρ=>(fi ρ).bind fun ds=>jD ga F ds ρ
theorem zZ{body:List Stmt}{fi:Rho->Option (LP)}{ga:PyData->Rho->Option Rho}(hp:PassesOwn (model X.prog X.w) X.A X.env X.xe)(hc:X.calm=true)(hi:PID X tg src fi)(hg:PGD X tg ga)(hb:QM X body F)
  (hs:∀x,foldedSetIterable src X.env x=pure x:=by intro _;rfl):PSD X (.For tg src body [] pos) (QP fi ga F):=by
 with_unfolding_all
  refine PS.imp (ZL hp hc hi hg hb hs) fun D σ H ⟨ρ,o,en,q,k⟩=>?_;cases h1:fi ρ with
  |none=>simp[QP,h1]at q
  | some ds=>
   have q':jD ga F ds ρ=some o:=by simpa[QP,h1]using q
   refine⟨ρ,ds,en,h1,fun J H1 s1 Y=>?_⟩;refine⟨fun i m σ H2=>m=ds.length-i/\i<=ds.length/\jq H1 H2/\∃ρ2,EnvR X.K H2 ρ2 σ/\jD ga F (ds.drop i) ρ2=some o,⟨ds.length,by simp,Nat.zero_le _,jq.refl _,ρ,en.mono s1,by simpa using q'⟩,?_⟩
   rintro i m σ2 H2 ⟨rfl,hi,s2,ρ2,en2,q2⟩
   obtain⟨g1,g2,g3⟩:=Y i H2 (jq.a s2);by_cases hlt:i<ds.length
   ·right
    have hd:ds.drop i=ds[i]::ds.drop (i+1):=List.drop_eq_getElem_cons hlt;rw[hd]at q2;refine⟨g1 hlt,fun σ3 H3=>jq H1 H3/\∃ρ3,EnvR X.K H3 ρ3 σ3/\jD ga F (ds.drop (i+1)) ρ3=some o,fun σ3 H3 ⟨a1,ρ3,a2,a3⟩=>⟨ds.length-(i+1),by omega,rfl,hlt,a1,ρ3,a2,a3⟩,fun x H3 y=>?_⟩;obtain⟨s3,r3⟩:=g3 x H3 y;have r3':=r3 ds[i] (by simp[hlt]);cases h4:ga ds[i] ρ2 with
    |none=>simp[jD,h4]at q2
    | some ρ4=>
     refine⟨ρ2,ds[i],ρ4,en2.mono s3,r3',h4,fun σ5 H5 s5 en5=>?_⟩;cases h5:F ρ4 with
     |none=>simp[jD,h4,h5]at q2
     | some p=>
      refine⟨ρ4,p,en5,h5,?_⟩;have s15:=s2.trans (s3.trans s5);cases p with
      |nx ρ6=>exact fun σ6 H6 s6 en6=>⟨s15.trans s6,ρ6,en6,by simpa[jD,h4,h5]using q2⟩
      |ct ρ6=>exact fun σ6 H6 s6 en6=>⟨s15.trans s6,ρ6,en6,by simpa[jD,h4,h5]using q2⟩
      | bk ρ6=>
       have:Out.nx ρ6=o:=by simpa[jD,h4,h5]using q2
       subst this;exact fun σ6 H6 s6 en6=>k σ6 H6 (s1.trans (s15.trans s6)) en6
      | rt d=>
       have:Out.rt d=o:=by simpa[jD,h4,h5]using q2
       subst this;exact fun v H6 s6 r6=>k v H6 (s1.trans (s15.trans s6)) r6
   ·left
    have he:i=ds.length:=by omega
    have hn:ds.drop i=[]:=by rw[he];simp
    rw[hn]at q2;have:Out.nx ρ2=o:=by simpa[jD]using q2
    subst this;exact⟨g2 (by omega),k σ2 H2 (s1.trans s2) en2⟩
noncomputable def Jt(cap:List (Option Nat))(ρ:Rho):Rho:=cap.map fun o=>o.bind fun i=>(ρ[i]?).join
theorem EnvR.cap{K:Fg}{H:Hp}{ρ:Rho}{σ:St}(e:EnvR K H ρ σ)(cap:List (Option Nat)):EnvR K H (Jt cap ρ) (Qp cap σ):=by
 refine⟨by simp[Jt,Qp],fun j d q=>?_⟩;unfold Jt at q;unfold Qp;rw[List.getElem?_map]at q ⊢;cases h1:cap[j]? with
 |none=>rw[h1]at q;cases q
 | some o=>
  rw[h1]at q;cases o with
  |none=>cases q
  | some i=>
   have q':lkp i ρ=some d:=by simpa[lkp]using q
   obtain⟨v,e1,e2⟩:=e.at' i d (JD q');exact⟨v,by simp[e1],e2⟩
noncomputable def jN(ga:PyData->Rho->Option Rho)(ft:Rho->Option Bool)(fe:RP):LP->Rho->Option (LP)
 | [],_=>some []
 |d::r,τ=>(ga d τ).bind fun τ2=>(ft τ2).bind fun b=>if b=true then (fe τ2).bind fun y=>(jN ga ft fe r τ2).map fun ys=>y::ys else jN ga ft fe r τ2
noncomputable def qy(fi:Rho->Option (LP))(cap:List (Option Nat))(ga:PyData->Rho->Option Rho)(ft:Rho->Option Bool)(fe:RP):RP:=fun ρ=>(fi ρ).bind fun ds=>
 if few ds=true then (jN ga ft fe ds (Jt cap ρ)).map PyData.list else none
@[irreducible] noncomputable def afM(X:Cx)(ts:List Expr)(f:Rho->Option Bool):Prop:=PTs X ts (tDT X.K f)
noncomputable def afN(_:Rho):Option Bool:=some true
theorem JE:afM X [] afN:=by
 with_unfolding_all exact(fun Kp s σ H Q I ⟨ρ,b,en,q,k⟩=>by cases q;exact afF Kp s σ H Q I (k H (jq.refl H)))
theorem QQ{ft:Rho->Option Bool}(h:PTD X c ft):afM X [c] ft:=by
 with_unfolding_all exact(afG h)
theorem Ja{el:Expr}{ts:List Expr}{sc:Scope}{ps:Pos}{fi:Rho->Option (LP)}{ga:PyData->Rho->Option Rho}{ft:Rho->Option Bool}{fe:RP}(N':List Str)(cap:List (Option Nat))(hc:X.calm=true)(hi:PID X tg src fi)(ok:CompOk X sc N' cap)
  (body:∀cl C s0 H0 fp pn,PGD (blk X N' sc cl C s0 H0 fp pn) tg ga/\afM (blk X N' sc cl C s0 H0 fp pn) ts ft/\PD (blk X N' sc cl C s0 H0 fp pn) el fe)
  (hs:∀x,foldedSetIterable src X.env x=pure x:=by intro _;rfl):PD X (.ListComp el [⟨tg,src,ts,0⟩] sc ps) (qy fi cap ga ft fe):=by
 with_unfolding_all
  refine PE.imp (afH (g:=tDG X.K ga) (tt:=tDT X.K ft) (te:=tD X.K fe) hc hi ok (fun cl C s0 H0 fp pn=>body cl C s0 H0 fp pn) hs) fun σ H Q ⟨ρ,d,en,q,k⟩=>?_;cases h1:fi ρ with
  |none=>simp[qy,h1]at q
  | some ds=>
   by_cases hf:few ds=true
   ·cases h2:jN ga ft fe ds (Jt cap ρ)with
    |none=>simp[qy,h1,hf,h2]at q
    | some ys=>
     have:PyData.list ys=d:=by simpa[qy,h1,hf,h2]using q
     subst this;refine⟨ρ,ds,en,h1,fun J H1 s1 Y=>?_⟩
     refine⟨fun i m τ us H2=>m=ds.length-i/\i<=ds.length/\jq H1 H2/\us.length<=i/\∃ρ2 zs ws,EnvR X.K H2 ρ2 τ/\Reps X.K H2 zs us/\jN ga ft fe (ds.drop i) ρ2=some ws/\ys=zs++ws,
      ⟨ds.length,by simp,Nat.zero_le _,jq.refl _,Nat.le_refl _,Jt cap ρ,[],ys,(en.mono s1).cap cap,rfl,by simpa using h2,rfl⟩,?_⟩
     rintro i m τ us H2 ⟨rfl,hi',s2,hu,ρ2,zs,ws,en2,r2,q2,ey⟩
     have hsm:us.length<sizeLine:=Nat.lt_of_le_of_lt (Nat.le_trans hu hi') (Nat.lt_of_lt_of_le (by simpa[few]using hf) (by rw[sizeLine_eq];decide:1000000<=sizeLine));obtain⟨g1,g2,g3⟩:=Y i H2 (jq.a s2);refine⟨hsm,?_⟩;by_cases hlt:i<ds.length
     ·right
      have hd:ds.drop i=ds[i]::ds.drop (i+1):=List.drop_eq_getElem_cons hlt;rw[hd]at q2;refine⟨g1 hlt,fun x H3 y=>?_⟩;obtain⟨s3,r3⟩:=g3 x H3 y;have r3':=r3 ds[i] (by simp[hlt]);cases h4:ga ds[i] ρ2 with
      |none=>simp[jN,h4]at q2
      | some ρ4=>
       refine⟨ρ2,ds[i],ρ4,en2.mono s3,r3',h4,fun σ5 H5 s5 en5=>?_⟩;cases h5:ft ρ4 with
       |none=>simp[jN,h4,h5]at q2
       | some b=>
        refine⟨ρ4,b,en5,h5,fun H6 s6=>?_⟩;have s26:=s3.trans (s5.trans s6);cases b with
        | false=>
         refine aiw ?_;exact⟨ds.length-(i+1),by omega,rfl,hlt,s2.trans s26,by omega,ρ4,zs,ws,en5.mono s6,Reps.mono s26 _ _ r2,by simpa[jN,h4,h5]using q2,ey⟩
        | true=>
         refine aix ?_;cases h6:fe ρ4 with
         |none=>simp[jN,h4,h5,h6]at q2
         | some y=>
          cases h7:jN ga ft fe (ds.drop (i+1)) ρ4 with
          |none=>simp[jN,h4,h5,h6,h7]at q2
          | some ws'=>
           have hw:y::ws'=ws:=by simpa[jN,h4,h5,h6,h7]using q2
           refine⟨ρ4,y,en5.mono s6,h6,fun v H7 s7 r7=>?_⟩;refine⟨ds.length-(i+1),by omega,rfl,hlt,s2.trans (s26.trans s7),by rw[List.length_append];simp;omega,ρ4,zs++[y],ws',(en5.mono s6).mono s7,(Reps.mono (s26.trans s7) _ _ r2).append ⟨v,[],rfl,r7,rfl⟩,h7,?_⟩;rw[ey,←hw];simp
     ·left
      have he:i=ds.length:=by omega
      have hn:ds.drop i=[]:=by rw[he];simp
      rw[hn]at q2;have hw:[]=ws:=by simpa[jN]using q2
      subst hw;have ey':ys=zs:=by simpa using ey
      subst ey';exact⟨g2 (by omega),fun l hl=>k _ _ (s1.trans (s2.trans (jz hl))) ⟨l,us,rfl,jr,Reps.mono (jz hl) _ _ r2⟩⟩
   ·simp[qy,h1,hf]at q
noncomputable def Pur(K:Fg)(n:Nat)(g:LP->OP):Sp:=fun vs H Q _=>∃ds d,ds.length=n/\Reps K H ds vs/\g ds=some d/\∀v H',jq H H'->Rep K H' d v->Q v H'
noncomputable def jH(g:LP->OP)(fr:Rho->Option (LP)):RP:=fun ρ=>(fr ρ).bind g
theorem afO{k n:Nat}{f:Addr}{fd:FuncData}{ps:List Str}{g:LP->OP}{x:Str}{p:Pos}{fr:Rho->Option (LP)}(FO:FnOk X.prog X.w X.K X.mg X.base CX0 k f fd ps (Pur X.K n g))(hr:Room k X.A)(hm:X.mg x=some (.ref f))(hk:PySem.W.keepIn X.K (.ref f)=true)
  (hb:JB X.K fd ps []) (hn:(e::es).length=n) (ha:PAD X (e::es) fr) (hl:∀ρ ds,fr ρ=some ds->ds.length=(e::es).length) (hg:Gl X x:=by rfl) (hdb:(x==("__debug__":Str))=false:=by decide) (he:starEach (e::es) X.env=(false,eval e X.env)::starEach es X.env:=by rfl)
  (hpl:(backTo pos (starEach es X.env)).any (·.1)=false:=by rfl):PD X (.Call (.Name x p) (e::es) [] pos) (jH g fr):=by
 with_unfolding_all
  refine PE.imp (afw FO hr hg hm hk hb .nil aiv ha hdb he hpl) fun σ H Q ⟨ρ,d,en,q,k⟩=>?_;cases h1:fr ρ with
  |none=>simp[jH,h1]at q
  | some ds=>
   refine⟨ρ,ds,en,h1,fun vs H1 s1 r1=>?_⟩;refine⟨ds,d,by rw[hl ρ ds h1,hn],by rw[List.append_nil];exact r1,by simpa[jH,h1]using q,fun v H' s r=>k v H' (s1.trans s) r⟩
noncomputable def aaF(X:Cx)(f:Value)(g:LP->OP):Prop:=∃r,zf X f r/\∀ds d xs H Q,g ds=some d->Reps X.K H ds xs->(∀v H',jq H H'->Rep X.K H' d v->Q v H')->r xs H Q
theorem jF{id:String}{g:LP->OP}{x:Str}{p:Pos}{fr:Rho->Option (LP)}(hc:aaF X (.builtin id) g)(hm:X.mg x=none)(hv:bootBuiltins x=some (.builtin id))(ha:PAD X (e::es) fr)(hg:Gl X x:=by rfl)(hn:x≠"__name__":=by decide)(hdb:(x==("__debug__":Str))=false:=by decide)
  (he:starEach (e::es) X.env=(false,eval e X.env)::starEach es X.env:=by rfl) (hpl:(backTo pos (starEach es X.env)).any (·.1)=false:=by rfl):PD X (.Call (.Name x p) (e::es) [] pos) (jH g fr):=by
 with_unfolding_all
  obtain⟨r,h1,h2⟩:=hc;refine PE.imp (JC h1 hg hm hv ha hn hdb he hpl) fun σ H Q ⟨ρ,d,en,q,k⟩=>?_;cases h3:fr ρ with
  |none=>simp[jH,h3]at q
  |some ds=>exact⟨ρ,ds,en,h3,fun vs H1 s1 r1=>h2 ds d vs H1 Q (by simpa[jH,h3]using q) r1 fun v H' s r=>k v H' (s1.trans s) r⟩
end
noncomputable def jL(N:List Str)(ds:LP):Rho:=ds.map some++List.replicate (N.length-ds.length) none
theorem ac5{K:Fg}{H:Hp}{N:List Str}{ds:LP}{vs:List V}(r:Reps K H ds vs):EnvR K H (jL N ds) (L2.start N vs):=by
 have hl:=r.length;refine⟨by simp[jL,L2.start,hl],fun i d q=>?_⟩;unfold jL at q;by_cases hi:i<ds.length
 ·rw[List.getElem?_append_left (by simpa using hi),List.getElem?_map]at q
  cases e:ds[i]? with
  |none=>rw[e]at q;cases q
  | some c=>
   rw[e]at q;cases q;obtain⟨x,e1,e2⟩:=r.get e;refine⟨x,?_,e2⟩;unfold L2.start;rw[List.getElem?_append_left (by simp;omega),List.getElem?_map,e1];rfl
 ·rw[List.getElem?_append_right (by simpa using hi),List.getElem?_replicate]at q
  split at q<;>cases q
noncomputable def jy(N:List Str)(n:Nat)(B:RO)(ds:LP):OP:=if ds.length=n then match B (jL N ds)with
 |some (.rt d)=>some d
 |some (.nx _)=>some .none
 |_=>none else none
section
variable {P:Program}{w:World}{K:Fg}{mg:SV}{base:Heap}
theorem jA{x qual:Str}{st:Stmt}{f:Addr}{fd:FuncData}{N ps:List Str}{k:Nat}{B:RO}(F:Fun K x qual st f fd)(S:FnScope N ps (jj st))
  (body:∀(Kc:Value) (A:Around) (Ko:List Env) (s:Shared) (H:Hp) (E:XK),Room k (A.deeper (envOfC qual (jj st) s.heap.objs.size f Kc))->
   QM (QH CX0 P w K mg base N qual (jj st) f Kc A Ko s H E).nox (jQ st) B):FnOk P w K mg base CX0 (k+1) f fd ps (Pur K ps.length (jy N ps.length B)):=by
 with_unfolding_all
  refine F.ok S (fun vs H Q E h=>?_) (fun Kc A Ko s H vs Q E hr h=>?_)
  ·obtain⟨ds,d,h1,h2,_⟩:=h
   rw[h2.length];exact h1
  ·obtain⟨ds,d,h1,h2,h3,h4⟩:=h
   refine⟨_,body Kc A Ko s H E hr,?_⟩;unfold jy at h3;rw[if_pos h1]at h3;cases hB:B (jL N ds)with
   |none=>rw[hB]at h3;cases h3
   | some o=>
    refine⟨jL N ds,o,ac5 h2,hB,?_⟩;rw[hB]at h3;cases o with
    |rt c=>cases h3;exact fun v H' s r=>h4 v H' s r
    |nx ρ=>cases h3;exact fun σ H' s r=>h4 .non H' s rfl
    |bk ρ=>cases h3
    |ct ρ=>cases h3
theorem aiE{k n:Nat}{f:Addr}{fd:FuncData}{ps:List Str}{g g':LP->OP}(F:FnOk P w K mg base CX0 k f fd ps (Pur K n g))(h:∀ds d,ds.length=n->g' ds=some d->g ds=some d):FnOk P w K mg base CX0 k f fd ps (Pur K n g'):=
 F.imp fun vs H Q E ⟨ds,d,h1,h2,h3,h4⟩=>⟨ds,d,h1,h2,h ds d h1 h3,h4⟩
end
section
variable {X:Cx}
noncomputable def aiF(K:Fg):R2:=fun x y H Q=>∃a b ys,x= .ref a/\y= .ref b/\SqT K H a []/\SqT K H b ys/\Q (.ref b) H
theorem afP:OpR X (binaryOp .Add) (aiF X.K):=by
 intro Kp s σ H x y v u Q I rx ry h;obtain⟨a,b,ys,rfl,rfl,ha,hb,q⟩:=h;cases rx;cases ry;obtain⟨its,r1,p1,_⟩:=I.tuple ha;obtain⟨its2,r2,p2,_⟩:=I.tuple hb;cases r1;obtain⟨⟨c1,d1,t1,l1⟩,ho,hc,n,hd⟩:=id p1;obtain⟨⟨c2,d2,t2,l2⟩,ho2,hc2,n2,hd2⟩:=id p2;simp only at hc hd hc2 hd2;subst hc hd hc2 hd2
 exact concat_meets ⟨_,ho,rfl⟩ ⟨_,ho2,rfl⟩ noFill_tuple_add seq_tuple_add PySem.F.slot_tuple_add PySem.F.entry_tuple_add (PySem.F.args_tuple_add_2 _ _)
  (tuple_addW0 a b _ _ n n2 d1 d2 l1 l2 (by simp)) ⟨ho,ho2,⟨.ref b,H,I,rfl,q⟩⟩
noncomputable def Ju:PyData->PyData->OP
 |.int i,.int j=>some (.int (i+j))
 |.list xs,.list ys=>if few (xs++ys)=true then some (.list (xs++ys)) else none
 |.tuple [],.tuple ys=>some (.tuple ys)
 |.tuple (x::xs),.tuple ys=>if few ((x::xs)++ys)=true then some (.tuple ((x::xs)++ys)) else none
 |_,_=>none
theorem jw:OpD X (binaryOp .Add) Ju:=by
 refine⟨_,ahg.or (ahp.or (afP.or afy)),fun p q d x y H Q h rx ry k=>?_⟩;unfold Ju at h;split at h
 ·cases h
  cases (show x=_ from rx);cases (show y=_ from ry);exact .inl ⟨_,_,rfl,rfl,k _ H (jq.refl H) rfl⟩
 ·rename_i xs ys
  split at h
  ·rename_i hf
   cases h;obtain⟨a,us,e1,e2,e3⟩:=rx;obtain⟨b,ws,e4,e5,e6⟩:=ry
   have hl:us.length+ws.length<1000000:=by
    rw[e3.length,e6.length];simp[few]at hf
    try simp only[List.length_cons]
    omega
   exact .inr (.inl ⟨a,b,us,ws,e1,e4,e2,e5,QN hl,fun p hp=>k _ _ (jz hp) ⟨p,_,rfl,jr,Reps.mono (jz hp) _ _ (e3.append e6)⟩⟩)
  ·cases h
 ·rename_i ys
  cases h;obtain⟨a,us,e1,e2,e3⟩:=rx;cases (show us=[] from e3);obtain⟨b,ws,e4,e5,e6⟩:=ry;exact .inr (.inr (.inl ⟨a,b,ws,e1,e4,e2,e5,k _ H (jq.refl H) ⟨b,ws,rfl,e5,e6⟩⟩))
 ·rename_i z xs ys
  split at h
  ·rename_i hf
   cases h;obtain⟨a,us,e1,e2,e3⟩:=rx;obtain⟨b,ws,e4,e5,e6⟩:=ry
   have hl:us.length+ws.length<1000000:=by
    rw[e3.length,e6.length];simp[few]at hf
    try simp only[List.length_cons]
    omega
   refine .inr (.inr (.inr ⟨a,b,us,ws,e1,e4,e2,e5,fun z=>?_,QN hl,fun z=>?_,fun _ p hp=>?_⟩))
   ·have:=e3.length;rw[z]at this;simp at this
   ·subst z
    have:=e6.length;have hy:ys=[]:=List.length_eq_zero_iff.mp (by simpa using this.symm);subst hy;exact k _ H (jq.refl H) ⟨a,us,rfl,e2,by simpa using e3⟩
   ·exact k _ _ (jz hp) ⟨p,_,rfl,SqT.of jr,Reps.mono (jz hp) _ _ (e3.append e6)⟩
  ·cases h
 ·cases h
noncomputable def ZR:PyData->PyData->OP
 |.int i,.int j=>some (.int (i-j))
 |_,_=>none
theorem zh:OpD X (binaryOp .Sub) ZR:=by
 refine⟨_,ahh,fun p q d x y H Q h rx ry k=>?_⟩;unfold ZR at h;split at h
 ·cases h;cases (show x=_ from rx);cases (show y=_ from ry);exact⟨_,_,rfl,rfl,k _ H (jq.refl H) rfl⟩
 ·cases h
theorem Reps.rep{K:Fg}{H:Hp}{ds:LP}{xs:List V}(h:Reps K H ds xs):∀(n:Nat),Reps K H (List.replicate n ds).flatten (List.replicate n xs).flatten
 |0=>rfl
 |n+1=>by rw[List.replicate_succ,List.replicate_succ,List.flatten_cons,List.flatten_cons];exact h.append (Reps.rep h n)
noncomputable def Jl:PyData->PyData->OP
 |.int i,.int j=>if (-(2 ^ 64)<i/\i<2 ^ 64)∨(-(2 ^ 64)<j/\j<2 ^ 64) then some (.int (i*j)) else none
 |.list xs,.int k=>if k<1000/\xs.length<1000/\-1000<k then some (.list (List.replicate k.toNat xs).flatten) else none
 |_,_=>none
theorem qg:OpD X (binaryOp .Mult) Jl:=by
 refine⟨_,ahi.or ahq,fun p q d x y H Q h rx ry k=>?_⟩;unfold Jl at h;split at h
 ·split at h
  ·rename_i hc
   cases h;cases (show x=_ from rx);cases (show y=_ from ry);exact .inl ⟨_,_,rfl,rfl,hc,k _ H (jq.refl H) rfl⟩
  ·cases h
 ·rename_i xs n
  split at h
  ·rename_i hc
   cases h;obtain⟨a,us,e1,e2,e3⟩:=rx;cases (show y=_ from ry);have hl:=e3.length
   have hs:us.length*n.toNat<=sizeLine:=by
    rw[sizeLine_eq];have h1:us.length<=1000:=by omega
    have h2:n.toNat<=1000:=by omega
    exact Nat.le_trans (Nat.mul_le_mul h1 h2) (by decide)
   exact .inr ⟨a,n,us,e1,rfl,e2,by omega,by omega,hs,fun p hp=>k _ _ (jz hp) ⟨p,_,rfl,jr,Reps.mono (jz hp) _ _ (Reps.rep e3 n.toNat)⟩⟩
  ·cases h
 ·cases h
noncomputable def aco:PyData->PyData->OP
 |.int i,.int j=>if 0<j/\j<1073741824 then some (.int (i / j)) else none
 |_,_=>none
theorem JF:OpD X (binaryOp .FloorDiv) aco:=by
 refine⟨_,aft,fun p q d x y H Q h rx ry k=>?_⟩;unfold aco at h;split at h
 ·split at h
  ·rename_i hc
   cases h;cases (show x=_ from rx);cases (show y=_ from ry);exact⟨_,_,rfl,rfl,hc,k _ H (jq.refl H) rfl⟩
  ·cases h
 ·cases h
noncomputable def ac6:PyData->PyData->OP
 |.int i,.int j=>if 0<j then some (.int (i % j)) else none
 |_,_=>none
theorem zi:OpD X (binaryOp .Mod) ac6:=by
 refine⟨_,ahj,fun p q d x y H Q h rx ry k=>?_⟩;unfold ac6 at h;split at h
 ·split at h
  ·rename_i hc
   cases h;cases (show x=_ from rx);cases (show y=_ from ry);exact⟨_,_,rfl,rfl,hc,k _ H (jq.refl H) rfl⟩
  ·cases h
 ·cases h
noncomputable def okD(d:PyData):Bool:=d.canLay0&&decide (d.depth<30)
noncomputable def aiG(K:Fg)(neg:Bool):R2:=fun x y H Q=>∃p q,Rep K H p x/\Rep K H q y/\okD p=true/\okD q=true/\Q (.bl (if neg then !PyData.eqv p q else PyData.eqv p q)) H
theorem jR{d:PyData}(h:okD d=true):d.canLay0=true:=by simp[okD]at h;exact h.1
theorem Qt{d:PyData}(h:okD d=true):d.depth<30:=by simp[okD]at h;exact h.2
theorem aht(hu:X.A.units+64<cLine):OpR X (compareOp .Eq) (aiG X.K false):=by
 intro Kp s σ H x y v u Q I rx ry ⟨p,q,h1,h2,h3,h4,k⟩;obtain⟨as,ra⟩:=j9 I p x v h1 rx (jR h3);obtain⟨bs,rb⟩:=j9 I q y u h2 ry (jR h4);have d1:=Qt h3;exact SeqAt.compareEq_reads ra rb (jR h3) (jR h4) (by omega) ⟨.bl _,H,I,rfl,k⟩
theorem ahu(hu:X.A.units+64<cLine):OpR X (compareOp .NotEq) (aiG X.K true):=by
 intro Kp s σ H x y v u Q I rx ry ⟨p,q,h1,h2,h3,h4,k⟩;obtain⟨as,ra⟩:=j9 I p x v h1 rx (jR h3);obtain⟨bs,rb⟩:=j9 I q y u h2 ry (jR h4);have d1:=Qt h3;exact SeqAt.compareNe_reads ra rb (jR h3) (jR h4) (by omega) ⟨.bl _,H,I,rfl,k⟩
noncomputable def aiH(K:Fg):R2:=fun x y H Q=>∃a b ns,x= .ref a/\y= .ref b/\SqL K H a (List.map V.int ns)/\H b=some (.lst [])/\Q (.bl ns.isEmpty) H
theorem Jm(h:Heap):∀(ns:List Int) (us:List Value),jx (List.map V.int ns) us->∃as,ReadsAll h us (ns.map PyData.int) as
 | [],us,r=>by cases r;exact⟨_,.nil⟩
 | n::ns,us,r=>by
  cases r with
  | cons r1 r2=>
   obtain⟨t,rfl⟩:=r1;obtain⟨as,ra⟩:=Jm h ns _ r2;exact⟨_,.cons (.int n t) ra⟩
theorem aaG:∀ns:List Int,PyData.canLayAll0 (ns.map PyData.int)=true
 | []=>rfl
 |n::ns=>by simp[PyData.canLayAll0,PyData.canLay0,aaG ns]
theorem afQ(hu:X.A.units+64<cLine):OpR X (compareOp .Eq) (aiH X.K):=by
 intro Kp s σ H x y v u Q I rx ry ⟨a,b,ns,e1,e2,h1,h2,k⟩;subst e1;subst e2;cases rx;cases ry;obtain⟨its,rv,⟨o,n,g1,g2,g3,g4⟩,_⟩:=I.list h1;obtain⟨as,ra⟩:=Jm s.heap ns its rv;obtain⟨bs,rb⟩:=j9 I (.list []) (.ref b) (.ref b) ⟨b,[],rfl,h2,rfl⟩ rfl rfl;have ra':Reads s.heap (.ref a) (.list (ns.map PyData.int)) (a::as):= .list g1 g2 g4 (by simpa using ra);refine SeqAt.compareEq_reads ra' rb (by simpa[PyData.canLay0]using aaG ns) rfl ?_ ⟨.bl _,H,I,rfl,?_⟩
 ·have:(PyData.list []).depth=1:=rfl
  rw[this];omega
 ·have:PyData.eqv (.list (ns.map PyData.int)) (.list [])=ns.isEmpty:=by cases ns<;>simp[PyData.eqv,PyData.eqvAll]
  rw[this];exact k
noncomputable def dEq:PyData->PyData->OP
 |.dict kvs,.list []=>if qz kvs=true then some (.bool kvs.isEmpty) else none
 |p,q=>if okD p=true/\okD q=true then some (.bool (PyData.eqv p q)) else none
theorem Jv(hu:X.A.units+64<cLine):OpD X (compareOp .Eq) dEq:=by
 refine⟨_,(afQ hu).or (aht hu),fun p q d x y H Q h rx ry k=>?_⟩;unfold dEq at h;split at h
 ·split at h
  ·rename_i hs
   cases h;obtain⟨a,ns,e1,e2,e3⟩:=rx.scrOut hs;obtain⟨b,ws,e4,e5,e6⟩:=ry;cases (show ws=[] from e6);refine .inl ⟨a,b,ns,e1,e4,e2,e5,?_⟩;have:ns.isEmpty=(ns.map fun n=>(PyData.int n,PyData.none)).isEmpty:=by simp
   subst e3;rw[this];exact k _ H (jq.refl H) rfl
  ·cases h
 ·split at h
  ·rename_i hc
   cases h;exact .inr ⟨p,q,rx,ry,hc.1,hc.2,k _ H (jq.refl H) rfl⟩
  ·cases h
noncomputable def dNe:PyData->PyData->OP:=fun p q=>if okD p=true/\okD q=true then some (.bool (!PyData.eqv p q)) else none
theorem qM(hu:X.A.units+64<cLine):OpD X (compareOp .NotEq) dNe:=by
 refine⟨_,ahu hu,fun p q d x y H Q h rx ry k=>?_⟩;unfold dNe at h;split at h
 ·rename_i hc
  cases h;exact⟨p,q,rx,ry,hc.1,hc.2,k _ H (jq.refl H) rfl⟩
 ·cases h
noncomputable def ahv(K:Fg)(neg:Bool):R2:=fun x y H Q=>∃p ds,Rep K H p x/\(Rep K H (.list ds) y∨Rep K H (.tuple ds) y)/\okD p=true/\okD (.list ds)=true/\Q (.bl (if neg then !(ds.any fun z=>PyData.eqv z p) else ds.any fun z=>PyData.eqv z p)) H
theorem ahw(hu:X.A.units+64<cLine):OpR X (compareOp .In) (ahv X.K false):=by
 intro Kp s σ H x y v u Q I rx ry ⟨p,ds,h1,h2,h3,h4,k⟩;obtain⟨as,ra⟩:=j9 I p x v h1 rx (jR h3);have d1:=Qt h3;have hc:PyData.canLayAll0 ds=true:=by simpa[PyData.canLay0]using jR h4
 rcases h2 with h2 | h2
 ·obtain⟨bs,rb⟩:=j9 I (.list ds) y u h2 ry (jR h4)
  exact SeqAt.in_list_reads rb ra hc (jR h3) (by omega) ⟨.bl _,H,I,rfl,k⟩
 ·obtain⟨bs,rb⟩:=j9 I (.tuple ds) y u h2 ry (by simpa[PyData.canLay0]using hc)
  exact SeqAt.in_tuple_reads rb ra hc (jR h3) (by omega) ⟨.bl _,H,I,rfl,k⟩
theorem ac7(hu:X.A.units+64<cLine):OpR X (compareOp .NotIn) (ahv X.K true):=by
 intro Kp s σ H x y v u Q I rx ry ⟨p,ds,h1,h2,h3,h4,k⟩;obtain⟨as,ra⟩:=j9 I p x v h1 rx (jR h3);have d1:=Qt h3;have hc:PyData.canLayAll0 ds=true:=by simpa[PyData.canLay0]using jR h4
 rcases h2 with h2 | h2
 ·obtain⟨bs,rb⟩:=j9 I (.list ds) y u h2 ry (jR h4)
  exact SeqAt.notIn_list_reads rb ra hc (jR h3) (by omega) ⟨.bl _,H,I,rfl,k⟩
 ·obtain⟨bs,rb⟩:=j9 I (.tuple ds) y u h2 ry (by simpa[PyData.canLay0]using hc)
  exact SeqAt.notIn_tuple_reads rb ra hc (jR h3) (by omega) ⟨.bl _,H,I,rfl,k⟩
noncomputable def dIn(neg:Bool):PyData->PyData->OP:=fun p q=>match q with
 |.list ds=>if okD p=true/\okD (.list ds)=true then some (.bool (if neg then !(ds.any fun z=>PyData.eqv z p) else ds.any fun z=>PyData.eqv z p)) else none
 |.tuple ds=>if okD p=true/\okD (.list ds)=true then some (.bool (if neg then !(ds.any fun z=>PyData.eqv z p) else ds.any fun z=>PyData.eqv z p)) else none
 |_=>none
theorem agN{neg:Bool}{p q d:PyData}{x y:V}{H:Hp}{Q:VK}{K:Fg}(h:dIn neg p q=some d)(rx:Rep K H p x)(ry:Rep K H q y)(k:∀v H',jq H H'->Rep K H' d v->Q v H'):ahv K neg x y H Q:=by
 unfold dIn at h;split at h
 ·split at h
  ·rename_i ds hc
   cases h;exact⟨p,ds,rx,.inl ry,hc.1,hc.2,k _ H (jq.refl H) rfl⟩
  ·cases h
 ·split at h
  ·rename_i ds hc
   cases h;exact⟨p,ds,rx,.inr ry,hc.1,hc.2,k _ H (jq.refl H) rfl⟩
  ·cases h
 ·cases h
theorem ad3(hu:X.A.units+64<cLine):OpD X (compareOp .In) (dIn false):=⟨_,ahw hu,fun p q d x y H Q h rx ry k=>agN h rx ry k⟩
theorem J9(hu:X.A.units+64<cLine):OpD X (compareOp .NotIn) (dIn true):=⟨_,ac7 hu,fun p q d x y H Q h rx ry k=>agN h rx ry k⟩
noncomputable def zN(f:Int->Int->Bool):PyData->PyData->OP
 |.int i,.int j=>some (.bool (f i j))
 |_,_=>none
theorem abF{f:Int->Int->Bool}{p q d:PyData}{x y:V}{H:Hp}{Q:VK}{K:Fg}(h:zN f p q=some d)(rx:Rep K H p x)(ry:Rep K H q y)(k:∀v H',jq H H'->Rep K H' d v->Q v H'):rI0 (fun i j=> .bl (f i j)) x y H Q:=by
 unfold zN at h;split at h
 ·cases h;cases (show x=_ from rx);cases (show y=_ from ry);exact⟨_,_,rfl,rfl,k _ H (jq.refl H) rfl⟩
 ·cases h
theorem ad4:OpD X (compareOp .Lt) (zN fun i j=>decide (i<j)):=⟨_,ail,fun p q d x y H Q h rx ry k=>abF h rx ry k⟩
theorem ZS:OpD X (compareOp .LtE) (zN fun i j=>decide (i<=j)):=⟨_,aim,fun p q d x y H Q h rx ry k=>abF h rx ry k⟩
theorem ahx:OpD X (compareOp .Gt) (zN fun i j=>decide (j<i)):=⟨_,ain,fun p q d x y H Q h rx ry k=>abF h rx ry k⟩
noncomputable def chn(g g':PyData->PyData->OP)(fa fb fc:RP):RP:=fun ρ=>(fa ρ).bind fun x=>(fb ρ).bind fun y=>(g x y).bind fun z=>(asB z).bind fun t=>if t=true then (fc ρ).bind fun w=>g' y w else some (.bool false)
variable {a b c e:Expr}{fa fb fc:RP}{pos:Pos}
theorem agO{g g':PyData->PyData->OP}{K:Fg}{r r':R2}(hr:∀p q d x y H Q,g p q=some d->Rep K H p x->Rep K H q y->(∀v H',jq H H'->Rep K H' d v->Q v H')->r x y H Q)
  (hr':∀p q d x y H Q,g' p q=some d->Rep K H p x->Rep K H q y->(∀v H',jq H H'->Rep K H' d v->Q v H')->r' x y H Q) {σ:St} {H:Hp} {Q:VK} (h:tD K (chn g g' fa fb fc) σ H Q):abw r r' (tD K fa) (tD K fb) (tD K fc) σ H Q:=by
 obtain⟨ρ,d,en,h,k⟩:=h;unfold chn at h;cases ha:fa ρ with
 |none=>rw[ha]at h;cases h
 | some p=>
  cases hb:fb ρ with
  |none=>rw[ha,hb]at h;cases h
  | some q=>
   rw[ha,hb]at h;cases hg:g p q with
   |none=>simp[hg]at h
   | some z=>
    cases ht:asB z with
    |none=>simp[hg,ht]at h
    | some t=>
     have hz:=zw ht;subst hz;refine⟨ρ,p,en,ha,fun x H1 s1 r1=>⟨ρ,q,en.mono s1,hb,fun y H2 s2 r2=>?_⟩⟩;refine hr p q _ x y H2 _ hg (Rep.mono s2 p x r1) r2 fun v H3 s3 r3=>⟨t,r3,?_⟩;have s13:=s1.trans (s2.trans s3);cases t with
     | false=>
      rw[if_neg Bool.false_ne_true];have hd:PyData.bool false=d:=by simpa[hg,asB]using h
      subst hd;exact k _ H3 s13 rfl
     | true=>
      rw[if_pos rfl];cases hc:fc ρ with
      |none=>simp[hg,asB,hc]at h
      | some w=>
       refine⟨ρ,w,en.mono s13,hc,fun z H4 s4 r4=>?_⟩;exact hr' q w d y z H4 Q (by simpa[hg,asB,hc]using h) (Rep.mono (s3.trans s4) q y r2) r4 fun v H5 s5 r5=>k v H5 (s13.trans (s4.trans s5)) r5
theorem ad5{op op':CmpOp}{g g':PyData->PyData->OP}(ho:OpD X (compareOp op) g)(ho':OpD X (compareOp op') g')(ha:PD X a fa)(hb:PD X b fb)(hc:PD X c fc)
  (hm:lastMarks [op,op'] [b,c]=false:=by with_unfolding_all rfl):PD X (.Compare a [op,op'] [b,c] pos) (chn g g' fa fb fc):=by
 with_unfolding_all
  obtain⟨r,h1,h2⟩:=ho;obtain⟨r',h3,h4⟩:=ho';exact PE.imp (adQ h1 h3 ha hb hc hm) fun σ H Q h=>agO h2 h4 h
theorem ac8{op op':CmpOp}{g g':PyData->PyData->OP}(ho:OpD X (compareOp op) g)(ho':OpD X (compareOp op') g')(ha:PD X a fa)(hb:PD X b fb)(hc:PD X c fc)
  (hm:lastMarks [op,op'] [b,c]=false:=by with_unfolding_all rfl):PTD X (.Compare a [op,op'] [b,c] pos) (tst (chn g g' fa fb fc)):=by
 with_unfolding_all
  obtain⟨r,h1,h2⟩:=ho;obtain⟨r',h3,h4⟩:=ho';refine PT.imp (adR h1 h3 ha hb hc hm) fun σ H Q ⟨ρ,t,en,h,k⟩=>?_;cases hd:chn g g' fa fb fc ρ with
  |none=>simp[tst,hd]at h
  | some d=>
   have ht:d= .bool t:=zw (by simpa[tst,hd]using h);subst ht;exact agO h2 h4 ⟨ρ,_,en,hd,fun v H' s r=>⟨t,r,k H' s⟩⟩
noncomputable def dIx:PyData->PyData->OP
 |.list ds,.int i=>if ds.length<1000000 then atI ds i else none
 |.tuple ds,.int i=>if ds.length<1000000 then atI ds i else none
 |.dict kvs,.int i=>if kvs.length<1000000/\qz kvs=true then (atI kvs i).map (·.1) else none
 |_,_=>none
theorem acp{K:Fg}{H:Hp}{ds:LP}{xs:List V}{i:Int}{d:PyData}(r:Reps K H ds xs)(h:atI ds i=some d):∃x,atI xs i=some x/\Rep K H d x:=by
 have hl:=r.length;unfold atI at h ⊢;rw[hl];cases e:ixN ds.length i with
 |none=>rw[e]at h;cases h
 | some j=>
  rw[e]at h;obtain⟨x,e1,e2⟩:=r.get (show ds[j]?=some d from h);exact⟨x,e1,e2⟩
noncomputable def IxD(X:Cx)(g:PyData->PyData->OP):Prop:=∃r,IxR X r/\∀p q d x y H Q,g p q=some d->Rep X.K H p x->Rep X.K H q y->(∀v H',jq H H'->Rep X.K H' d v->Q v H')->r x y H Q
theorem ixd:IxD X dIx:=by
 refine⟨_,afA.or ahn,fun p q d x y H Q h rx ry k=>?_⟩;unfold dIx at h;split at h
 ·split at h
  ·obtain⟨a,us,e1,e2,e3⟩:=rx
   cases (show y=_ from ry);obtain⟨z,g1,g2⟩:=acp e3 h;exact .inl ⟨a,us,_,z,e1,rfl,SqL.of e2,g1,k z H (jq.refl H) g2⟩
  ·cases h
 ·split at h
  ·obtain⟨a,us,e1,e2,e3⟩:=rx
   cases (show y=_ from ry);obtain⟨z,g1,g2⟩:=acp e3 h;exact .inr ⟨a,us,_,z,e1,rfl,e2,g1,k z H (jq.refl H) g2⟩
  ·cases h
 ·split at h
  ·rename_i hs
   obtain⟨a,ns,e1,e2,e3⟩:=rx.scrOut hs.2;cases (show y=_ from ry);subst e3;rename_i i;unfold atI at h;rw[List.length_map]at h;cases e:ixN ns.length i with
   |none=>rw[e]at h;cases h
   | some j=>
    rw[e]at h;have h':((ns.map fun n=>(PyData.int n,PyData.none))[j]?).map (·.1)=some d:=h;rw[List.getElem?_map]at h';cases e4:ns[j]? with
    |none=>rw[e4]at h';cases h'
    | some n=>
     rw[e4]at h';cases h';refine .inl ⟨a,List.map V.int ns,i,.int n,e1,rfl,e2,?_,k _ H (jq.refl H) rfl⟩;unfold atI;rw[List.length_map,e];show(List.map V.int ns)[j]?=_;rw[List.getElem?_map,e4];rfl
  ·cases h
 ·cases h
theorem jB(ha:PD X a fa)(hb:PD X b fb)(hs:aci b:=by intro _ _;rfl):PD X (.Subscript a b pos) (op2 dIx fa fb):=by
 with_unfolding_all
  obtain⟨r,h1,h2⟩:=ixd (X:=X);exact PE.imp (aiu h1 ha hb hs) fun σ H Q h=>afJ h2 h
noncomputable def qJ(ds:LP):OP:=match ds with
 | [.list xs]=>some (.int xs.length)
 | [.tuple xs]=>some (.int xs.length)
 | [.dict xs]=>if qz xs=true then some (.int xs.length) else none
 |_=>none
theorem qt:aaF X (.builtin "len") qJ:=by
 refine⟨_,ZN,fun ds d xs H Q h r k=>?_⟩;unfold qJ at h;split at h
 ·cases h
  obtain⟨x,q,e1,e2,e3⟩:=r;cases (show q=[] from e3);obtain⟨a,us,g1,g2,g3⟩:=e2;subst g1;exact⟨a,us,e1,.inl (SqL.of g2),k _ H (jq.refl H) (by show _=_;rw[g3.length])⟩
 ·cases h
  obtain⟨x,q,e1,e2,e3⟩:=r;cases (show q=[] from e3);obtain⟨a,us,g1,g2,g3⟩:=e2;subst g1;exact⟨a,us,e1,.inr g2,k _ H (jq.refl H) (by show _=_;rw[g3.length])⟩
 ·split at h
  ·rename_i hs
   cases h;obtain⟨x,q,e1,e2,e3⟩:=r;cases (show q=[] from e3);obtain⟨a,ns,g1,g2,g3⟩:=e2.scrOut hs;subst g1;subst g3;exact⟨a,_,e1,.inl g2,k _ H (jq.refl H) (by show _=_;simp)⟩
  ·cases h
 ·cases h
noncomputable def ad6(ds:LP):OP:=match ds with
 | [.int i,.int j]=>some (.int (if j>i then j else i))
 |_=>none
noncomputable def ad7(ds:LP):OP:=match ds with
 | [.int i,.int j]=>some (.int (if j<i then j else i))
 |_=>none
theorem afR(hc:X.calm=true):aaF X (.builtin "max") ad6:=by
 refine⟨_,acW hc,fun ds d xs H Q h r k=>?_⟩;unfold ad6 at h;split at h
 ·cases h
  obtain⟨x,q,e1,e2,y,q',e3,e4,e5⟩:=r;cases (show x=_ from e2);cases (show y=_ from e4);cases (show q'=[] from e5);subst e3;exact⟨_,_,e1,k _ H (jq.refl H) rfl⟩
 ·cases h
theorem afS(hc:X.calm=true):aaF X (.builtin "min") ad7:=by
 refine⟨_,acX hc,fun ds d xs H Q h r k=>?_⟩;unfold ad7 at h;split at h
 ·cases h
  obtain⟨x,q,e1,e2,y,q',e3,e4,e5⟩:=r;cases (show x=_ from e2);cases (show y=_ from e4);cases (show q'=[] from e5);subst e3;exact⟨_,_,e1,k _ H (jq.refl H) rfl⟩
 ·cases h
end
section
variable {X:Cx}{Kp:List (Addr×Obj)}{σ:St}{H:Hp}{s:Shared}
theorem ac9{prog:Program}{w:World}{A:Around}{E:Value->SP0}{l:Addr}{its:Array Value}{Q:Value->SP0}(hl:s.heap.IsList l its)
  (h:∀(h2:Heap) (it:Addr),(h2.IsListIter it l 0/\h2.IsList l its)->(∀b∈[it,l],b<h2.objs.size)->l≠it->(∀b o,s.heap.get? b=some o->h2.get? b=some o)->s.heap.get? it=none->Q (.ref it) { s with heap:=h2 }):
  wpAny (model prog w) A (pyIter (.ref l)) Q E s:=by
 have hlt:l<s.heap.objs.size:=by
  obtain⟨_,e,_⟩:=hl;exact Heap.lt_size e
 refine wpAny_pyIter_list hl (h _ _ ⟨⟨_,Heap.get?_push_size _ rfl,rfl,rfl⟩,hl.push _⟩ (fun b hb=>?_) (Nat.ne_of_lt hlt) (fun b o e=>Heap.get?_push_of_some _ e) (Heap.get?_none_of_le (Nat.le_refl _)));rw[Heap.size_push];rcases List.mem_cons.mp hb with e | hb
 ·rw[e];exact Nat.lt_succ_self _
 ·have e:b=l:=by simpa using hb
  rw[e];exact Nat.lt_succ_of_lt hlt
theorem afT{h h2 h3 : Heap}{it : Addr}(k1 : ∀b o, h.get? b = some o -> h2.get? b = some o)(hn : h.get? it = none)(k2 : ∀b o, b∉[it] -> h2.get? b = some o -> h3.get? b = some o) : ∀b o, h.get? b = some o -> h3.get? b = some o := fun b o e =>
  k2 b o (fun z => by have e1 : b = it := by simpa using z
                      rw [e1, hn] at e; cases e) (k1 b o e)
theorem acq:∀{bs:List Bool}{us:List Value},jx (bs.map V.bl) us->us=bs.map Value.bool
 | [],us,r=>by cases r;rfl
 | b::bs,us,r=>by
  cases r with
  |cons r1 r2=>cases (show _=_ from r1);rw[acq r2];rfl
theorem ada(bs:List Bool):(List.range bs.length).all (fun i=>bs.getD i false)=bs.all id:=by
 have:bs=(List.range bs.length).map (fun i=>bs.getD i false):=by
  apply List.ext_getElem?;intro i;rw[List.getElem?_map];by_cases h:i<bs.length
  ·rw[List.getElem?_range h];simp[List.getD,h]
  ·simp[h]
 conv=>rhs;rw[this]
 rw[List.all_map];rfl
noncomputable def ajr(K:Fg):List V->Hp->VK->Prop:=fun xs H Q=>∃a bs,xs=[.ref a]/\SqL K H a (List.map V.bl bs)/\Q (.bl (bs.all id)) H
theorem adb(hc:X.calm=true):zf X (.builtin "all") (ajr X.K):=by
 intro Kp s σ H xs us Q I r ⟨a,bs,e,hq,q⟩;subst e;obtain⟨u,rfl,rx⟩:=acd r;cases rx;obtain⟨its,rv,pl,hz⟩:=I.list hq;have ei:=acq rv;have hh:=I.ok.hd hc;refine call_all_walk (ac9 pl.isList fun h2 it st hlt hne k1 hn=>?_);refine⟨it,[it,a],[it],its.toArray.size,(fun i v=>its.toArray[i]?=some v),_,fun i=>bs.getD i false,rfl,Walks.list (A:=X.A.in1) hh it a hne its.toArray,st,?_,fun h3 tk k2=>?_⟩
 ·intro i v s' Q' E' hP hq'
  have:v= .bool (bs.getD i false):=by
   have hP':its[i]?=some v:=by simpa using hP
   rw[ei,List.getElem?_map]at hP';cases hb:bs[i]? with
   |none=>rw[hb]at hP';cases hP'
   |some b=>rw[hb]at hP';cases hP';simp[List.getD,hb]
  subst this;exact wpAny_truthy_bool hq'
 ·have I3:=I.kept (t':=tk) (afT k1 hn k2)
  have hl:its.toArray.size=bs.length:=by rw[ei];simp
  refine⟨.bl (bs.all id),H,I3,?_,q⟩;show _=_;rw[hl,ada]
noncomputable def bls:LP->Option (List Bool)
 | []=>some []
 |d::r=>(asB d).bind fun b=>(bls r).map fun q=>b::q
theorem Reps.bls{K:Fg}{H:Hp}:∀{ds:LP}{bs:List Bool}{xs:List V},BX.bls ds=some bs->Reps K H ds xs->xs=bs.map V.bl
 | [],bs,xs,h,r=>by simp[BX.bls]at h;subst h;exact r
 | d::ds,bs,xs,h,⟨x,q,e1,e2,e3⟩=>by
  subst e1;cases h1:asB d with
  |none=>simp[BX.bls,h1]at h
  | some b=>
   cases h2:BX.bls ds with
   |none=>simp[BX.bls,h1,h2]at h
   | some r=>
    have:b::r=bs:=by simpa[BX.bls,h1,h2]using h
    subst this;have hd:=zw h1;subst hd;cases (show x=_ from e2);rw[Reps.bls h2 e3];rfl
noncomputable def ad8(ds:LP):OP:=match ds with
 | [.list xs]=>(bls xs).map fun bs=> .bool (bs.all id)
 |_=>none
theorem ad9(hc:X.calm=true):aaF X (.builtin "all") ad8:=by
 refine⟨_,adb hc,fun ds d xs H Q h r k=>?_⟩;unfold ad8 at h;split at h
 ·rename_i ys
  cases hb:bls ys with
  |none=>simp[hb]at h
  | some bs=>
   have:PyData.bool (bs.all id)=d:=by simpa[hb]using h
   subst this;obtain⟨x,q,e1,e2,e3⟩:=r;cases (show q=[] from e3);obtain⟨a,us,g1,g2,g3⟩:=e2;subst g1;have:=Reps.bls hb g3;subst this;exact⟨a,bs,e1,SqL.of g2,k _ H (jq.refl H) rfl⟩
 ·cases h
noncomputable def aea:PyData->Option Int
 |.int i=>some i
 |_=>none
noncomputable def aiI:LP->Option (List Int)
 | []=>some []
 |d::r=>(aea d).bind fun b=>(aiI r).map fun q=>b::q
end
section
variable {prog:Program}{w:World}{A:Around}{E:Value->SP0}{s:Shared}
theorem Jw{it t:Addr}{i:Nat}{ys:Array Value}{x:Value}{Q:Value->SP0}(hit:s.heap.IsTupleIter it t i)(ht:s.heap.IsTuple t ys)(hx:ys[i]?=some x)
  (hQ:∀h',h'.IsTupleIter it t (i+1)->Heap.SameBut it s.heap h'->Q x { s with heap:=h' }):wpAny (model prog w) A (Builtin.SmallTypes.nextOf (.ref it)) Q E s:=by
 obtain⟨o,ho,hc,hd⟩:=id hit;obtain⟨ot,hot,_,nt,hdt⟩:=ht;unfold Builtin.SmallTypes.nextOf
 refine wpAny_bind (wpAny_callSpecial?_slot (name:=Str.ofString "__next__") hit.typeIs F.slot_tuple_iterator_next
  (wpAny_call_entry F.slot_tuple_iterator_next hit.typeIs F.entry_tuple_iterator_next ?_
   (F.args_tuple_iterator_next_1 _)))
 refine wpAny_bind (m:=field (.ref it) 0) (wpAny_field ho hd (x:= .ref t) rfl ?_);have no:¬ ((Value.ref t==Value.none)=true):=Bool.false_ne_true
 show wpAny _ _ (if (Value.ref t==Value.none)=true then _ else
  _) _ _ s
 rw[if_neg no];refine wpAny_bind (m:=field (.ref it) 1) (wpAny_field ho hd (x:= .int i 0) rfl ?_);refine wpAny_bind (m:=seqItems? (.ref t)) (wpAny_seqItems hot hdt ?_);simp only[Int.toNat_natCast,hx];refine wpAny_bind (wpAny_setField ho hd (by simp) (wpAny_pure ⟨x,rfl,wpAny_pure (hQ _ ?_ (Heap.SameBut.update ..))⟩));refine⟨_,Heap.get?_update_self _ ho (Obj.isFreed_of_fields (Obj.data_mapFields hd _)),(Obj.cls_mapFields ..).trans hc,?_⟩;rw[Obj.data_mapFields hd];simp[rawInt]
theorem adc{it t:Addr}{i:Nat}{ys:Array Value}{Q:Value->SP0}(hh:A.handled=none)(hit:s.heap.IsTupleIter it t i)(ht:s.heap.IsTuple t ys)(hx:ys[i]?=none)
  (hE:∀h' e,Heap.ExtBut it s.heap h'->(∃o,h'.get? e=some o/\o.cls= .type "StopIteration")->E (.ref e) { s with heap:=h' }):wpAny (model prog w) A (Builtin.SmallTypes.nextOf (.ref it)) Q E s:=by
 obtain⟨o,ho,hc,hd⟩:=id hit;obtain⟨ot,hot,_,nt,hdt⟩:=ht;unfold Builtin.SmallTypes.nextOf
 refine wpAny_bind (wpAny_callSpecial?_slot (name:=Str.ofString "__next__") hit.typeIs F.slot_tuple_iterator_next
  (wpAny_call_entry F.slot_tuple_iterator_next hit.typeIs F.entry_tuple_iterator_next ?_
   (F.args_tuple_iterator_next_1 _)))
 refine wpAny_bind (m:=field (.ref it) 0) (wpAny_field ho hd (x:= .ref t) rfl ?_);have no:¬ ((Value.ref t==Value.none)=true):=Bool.false_ne_true
 show wpAny _ _ (if (Value.ref t==Value.none)=true then _ else
  _) _ _ s
 rw[if_neg no];refine wpAny_bind (m:=field (.ref it) 1) (wpAny_field ho hd (x:= .int i 0) rfl ?_);refine wpAny_bind (m:=seqItems? (.ref t)) (wpAny_seqItems hot hdt ?_);simp only[Int.toNat_natCast,hx];refine wpAny_bind (wpAny_rule (wpAny_bind (wpAny_setField ho hd (by simp) ?_)));refine wpAny_bind (m:=newExc (.type "StopIteration") []) ?_;simp only[newExc,newTuple];refine wpAny_bind (wpAny_newObj_type ?_ (by size_fits))
 refine wpAny_bind (m:=firstArgMember _ _) (wpAny_of_eq (a:=Value.none)
  (by first | rfl | (simp only [firstArgMember]; rfl)) ?_)
 refine wpAny_newObj_type ?_ (by size_fits);simp only[raiseNew];refine wpAny_bind (wpAny_handled ?_);rw[show A.in1.handled=none from hh];refine wpAny_bind (wpAny_pure (wpAny_throw ?_));exact hE _ _ (((Heap.SameBut.update ..).extBut.push _).push _) ⟨_,Heap.get?_push_size _ rfl,rfl⟩
noncomputable abbrev JG(h:Heap)(T:Addr)(a b c:Value):Prop:=h.get? T=some { cls:= .type "tuple",data:= .seq #[a,b,c] }
theorem QR{T:Addr}{a b c x:Value}{k:Nat}{Q:Unit->SP0}(hT:JG s.heap T a b c)
  (h:∀h',h'.get? T=some { cls:= .type "tuple",data:= .seq ((#[a,b,c]:Array Value).setIfInBounds k x) }->Heap.SameBut T s.heap h'->Q () { s with heap:=h' }):
  wpAny (model prog w) A (updateSeq T (·.setIfInBounds k x)) Q E s:=by
 refine wpAny_updateSeq hT rfl (h _ ?_ (Heap.SameBut.update ..));rw[Heap.get?_update_self _ hT rfl];simp[Obj.mapSeq]
structure Apart3(z TI TO i1 i2 i3 t1 t2 t3:Addr):Prop where
 nd:[z,TO,i1,i2,i3].Nodup
 ti:TI∉[z,TO,i1,i2,i3]
 s1:t1∉[z,TO,i1,i2,i3]
 s2:t2∉[z,TO,i1,i2,i3]
 s3:t3∉[z,TO,i1,i2,i3]
structure Zip3(h:Heap)(z TI TO i1 i2 i3 t1 t2 t3:Addr)(xs ys zs:Array Value)(f0:Value)(k:Nat):Prop where
 hz:IsZip h z TI TO f0
 hTI:JG h TI (.ref i1) (.ref i2) (.ref i3)
 hTO:∃a b c,JG h TO a b c
 g1:h.IsTupleIter i1 t1 k
 g2:h.IsTupleIter i2 t2 k
 g3:h.IsTupleIter i3 t3 k
 a1:h.IsTuple t1 xs
 a2:h.IsTuple t2 ys
 a3:h.IsTuple t3 zs
theorem Zip3.keep{h h':Heap}{z TI TO i1 i2 i3 t1 t2 t3:Addr}{xs ys zs:Array Value}{f0:Value}{k:Nat}(S:Zip3 h z TI TO i1 i2 i3 t1 t2 t3 xs ys zs f0 k)
  (kp:∀b∈[z,TI,TO,i1,i2,i3,t1,t2,t3],∀o,h.get? b=some o->h'.get? b=some o):Zip3 h' z TI TO i1 i2 i3 t1 t2 t3 xs ys zs f0 k:=by
 obtain⟨hz,hTI,⟨a,b,c,hTO⟩,⟨o1,e1,r1⟩,⟨o2,e2,r2⟩,⟨o3,e3,r3⟩,⟨p1,f1,q1⟩,⟨p2,f2,q2⟩,⟨p3,f3,q3⟩⟩:=S;exact⟨kp z (by simp) _ hz,kp TI (by simp) _ hTI,⟨a,b,c,kp TO (by simp) _ hTO⟩,⟨o1,kp i1 (by simp) _ e1,r1⟩,⟨o2,kp i2 (by simp) _ e2,r2⟩,⟨o3,kp i3 (by simp) _ e3,r3⟩,⟨p1,kp t1 (by simp) _ f1,q1⟩,⟨p2,kp t2 (by simp) _ f2,q2⟩,⟨p3,kp t3 (by simp) _ f3,q3⟩⟩
noncomputable def But(l:List Addr)(h h':Heap):Prop:=∀b o,b∉l->h.get? b=some o->h'.get? b=some o
theorem But.of{b:Addr}{l:List Addr}{h h':Heap}(x:Heap.ExtBut b h h')(hb:b∈l):But l h h':=fun c o hc e=>x c o (fun z=>hc (by rw[z];exact hb)) e
theorem But.trans{l:List Addr}{h h1 h2:Heap}(a:But l h h1)(b:But l h1 h2):But l h h2:=fun c o hc e=>b c o hc (a c o hc e)
theorem add{z TI TO i1 i2 i3 t1 t2 t3:Addr}{xs ys zs:Array Value}{k:Nat}{x y v:Value}{Q:Value->SP0}(D:Apart3 z TI TO i1 i2 i3 t1 t2 t3)(S:Zip3 s.heap z TI TO i1 i2 i3 t1 t2 t3 xs ys zs .none k)
  (hx:xs[k]?=some x) (hy:ys[k]?=some y) (hv:zs[k]?=some v)
  (hQ:∀h',Zip3 h' z TI TO i1 i2 i3 t1 t2 t3 xs ys zs (rawInt s.heap.objs.size) (k+1)->JG h' s.heap.objs.size x y v->But [z,TO,i1,i2,i3] s.heap h'->Q (.ref s.heap.objs.size) { s with heap:=h' }):
  wpAny (model prog w) A (Builtin.«zip.__next__» ⟨[.ref z],[]⟩) (fun fin s'=>∃v,fin= .done (.ret v)/\Q v s') E s:=by
 obtain⟨hz,hTI,⟨a,b,c,hTO⟩,g1,g2,g3,a1,a2,a3⟩:=S;obtain⟨nd,ti,s1,s2,s3⟩:=D;simp only[List.nodup_cons,List.mem_cons,List.not_mem_nil,or_false,not_or]at nd ti s1 s2 s3;obtain⟨⟨n1,n2,n3,n4⟩,⟨n5,n6,n7⟩,⟨n8,n9⟩,n10,_⟩:=nd;obtain⟨t1z,t1o,t11,t12,t13⟩:=s1;obtain⟨t2z,t2o,t21,t22,t23⟩:=s2;obtain⟨t3z,t3o,t31,t32,t33⟩:=s3;obtain⟨tiz,tio,ti1,ti2,ti3⟩:=ti;refine wpAny_bind (m:=field (.ref z) 2) (wpAny_field hz rfl (x:= .bool false) rfl ?_);refine wpAny_bind (m:=field (.ref z) 3) (wpAny_field hz rfl (x:= .ref TI) rfl ?_);refine wpAny_bind (wpAny_seqItems hTI rfl ?_);refine wpAny_bind (m:=Builtin.SmallTypes.ownedTupleIsFree (.ref z)) ?_;unfold Builtin.SmallTypes.ownedTupleIsFree;refine wpAny_bind (wpAny_field hz rfl (x:= .none) rfl (wpAny_pure ?_));simp only[zzM];refine wpAny_bind (wpAny_rule ?_);refine wpAny_bind (wpAny_field hz rfl (x:= .ref TO) rfl ?_);refine wpAny_bind (wpAny_setField_rec hz (by simp) fun h1 hz1 b1=>?_)
 replace hz1:IsZip h1 z TI TO .ellipsis:=hz1
 refine wpAny_bind ?_;simp only[List.zipIdx_cons,List.zipIdx_nil,List.forIn_cons,List.forIn_nil];refine wpAny_bind (wpAny_bind (wpAny_onRaise ?_));refine wpAny_bind (m:=Builtin.SmallTypes.nextOf (.ref i1)) ?_;refine Jw (g1.extBut b1.extBut (Ne.symm n2)) (a1.extBut b1.extBut t1z) hx fun h2 g1' b2=>wpAny_pure ?_;have o2:JG h2 TO a b c:=b2.extBut _ _ n5 (b1.extBut _ _ (Ne.symm n1) hTO);refine wpAny_bind (wpAny_seqItems o2 rfl ?_);refine wpAny_bind (QR o2 fun h3 o3 b3=>?_)
 replace o3:JG h3 TO x b c:=o3
 refine wpAny_bind (wpAny_letGo (wpAny_pure ?_));refine wpAny_bind (wpAny_bind (wpAny_onRaise ?_));refine wpAny_bind (m:=Builtin.SmallTypes.nextOf (.ref i2)) ?_;refine Jw (((g2.extBut b1.extBut (Ne.symm n3)).extBut b2.extBut (Ne.symm n8)).extBut b3.extBut (Ne.symm n6)) (((a2.extBut b1.extBut t2z).extBut b2.extBut t21).extBut b3.extBut t2o) hy fun h4 g2' b4=>wpAny_pure ?_;have o4:JG h4 TO x b c:=b4.extBut _ _ n6 o3;refine wpAny_bind (wpAny_seqItems o4 rfl ?_);refine wpAny_bind (QR o4 fun h5 o5 b5=>?_)
 replace o5:JG h5 TO x y c:=o5
 refine wpAny_bind (wpAny_letGo (wpAny_pure ?_));refine wpAny_bind (wpAny_bind (wpAny_onRaise ?_));refine wpAny_bind (m:=Builtin.SmallTypes.nextOf (.ref i3)) ?_
 refine Jw (((((g3.extBut b1.extBut (Ne.symm n4)).extBut b2.extBut (Ne.symm n9)).extBut b3.extBut (Ne.symm n7)).extBut b4.extBut (Ne.symm n10)).extBut b5.extBut (Ne.symm n7))
  (((((a3.extBut b1.extBut t3z).extBut b2.extBut t31).extBut b3.extBut t3o).extBut b4.extBut t32).extBut b5.extBut t3o) hv fun h6 g3' b6=>wpAny_pure ?_
 have o6:JG h6 TO x y c:=b6.extBut _ _ n7 o5;refine wpAny_bind (wpAny_seqItems o6 rfl ?_);refine wpAny_bind (QR o6 fun h7 o7 b7=>?_)
 replace o7:JG h7 TO x y v:=o7
 refine wpAny_bind (wpAny_letGo (wpAny_pure (wpAny_pure ?_)));refine wpAny_bind (wpAny_seqItems o7 rfl ?_);refine wpAny_bind (wpAny_newTuple ?_);have sz:h7.objs.size=s.heap.objs.size:=by rw[b7.1,b6.1,b5.1,b4.1,b3.1,b2.1,b1.1]
 have B:But [z,TO,i1,i2,i3] s.heap h7:=
  ((((((But.of b1.extBut (by simp)).trans (But.of b2.extBut (by simp))).trans (But.of b3.extBut (by simp))).trans (But.of b4.extBut (by simp))).trans (But.of b5.extBut (by simp))).trans (But.of b6.extBut (by simp))).trans (But.of b7.extBut (by simp))
 have z7:IsZip h7 z TI TO .ellipsis:=b7.extBut _ _ n1 (b6.extBut _ _ n4 (b5.extBut _ _ n1 (b4.extBut _ _ n3 (b3.extBut _ _ n1 (b2.extBut _ _ n2 hz1)))));have i17:h7.IsTupleIter i1 t1 (k+1):=((((g1'.extBut b3.extBut (Ne.symm n5)).extBut b4.extBut n8).extBut b5.extBut (Ne.symm n5)).extBut b6.extBut n9).extBut b7.extBut (Ne.symm n5);have i27:h7.IsTupleIter i2 t2 (k+1):=((g2'.extBut b5.extBut (Ne.symm n6)).extBut b6.extBut n10).extBut b7.extBut (Ne.symm n6);have i37:h7.IsTupleIter i3 t3 (k+1):=g3'.extBut b7.extBut (Ne.symm n7);refine wpAny_bind (m:=Builtin.SmallTypes.ownedTupleHandOut (.ref z) (.ref h7.objs.size)) ?_;unfold Builtin.SmallTypes.ownedTupleHandOut;have z8:IsZip (h7.push { cls:= .type "tuple",data:= .seq #[x,y,v] }) z TI TO .ellipsis:=Heap.get?_push_of_some _ z7;refine wpAny_bind (wpAny_setField_rec z8 (by simp) fun h9 z9 b9=>?_)
 replace z9:IsZip h9 z TI TO (rawInt h7.objs.size):=z9
 refine wpAny_setField_rec z9 (by simp) fun h10 z10 b10=>?_
 replace z10:IsZip h10 z TI TO (rawInt h7.objs.size):=z10
 have up:∀c o,c≠z->h7.get? c=some o->h10.get? c=some o:=fun c o c1 e=>b10.extBut _ _ c1 (b9.extBut _ _ c1 (Heap.get?_push_of_some _ e));have zlt:z<h7.objs.size:=Heap.lt_size z7;have T10:JG h10 h7.objs.size x y v:=b10.extBut _ _ (Nat.ne_of_gt zlt) (b9.extBut _ _ (Nat.ne_of_gt zlt) (Heap.get?_push_size _ rfl));rw[sz]at z10 T10;refine wpAny_pure ⟨_,rfl,?_⟩;show Q (.ref h7.objs.size) _;rw[sz];have itk:∀{i t:Addr} {m:Nat},i≠z->h7.IsTupleIter i t m->h10.IsTupleIter i t m:=fun ne ⟨o,e,r⟩=>⟨o,up _ o ne e,r⟩;have tuk:∀{t:Addr} {us:Array Value},t∉[z,TO,i1,i2,i3]->s.heap.IsTuple t us->h10.IsTuple t us:=fun ne ⟨o,e,r⟩=>⟨o,up _ o (fun q=>ne (by simp[q])) (B _ o ne e),r⟩
 refine hQ h10 ⟨z10,up _ _ tiz (B _ _ (by simp[tiz,tio,ti1,ti2,ti3]) hTI),⟨x,y,v,up _ _ (Ne.symm n1) o7⟩,itk (Ne.symm n2) i17,itk (Ne.symm n3) i27,itk (Ne.symm n4) i37,
  tuk (by simp [t1z,t1o,t11,t12,t13]) a1,tuk (by simp [t2z,t2o,t21,t22,t23]) a2,tuk (by simp [t3z,t3o,t31,t32,t33]) a3⟩ T10 fun c o hc e=>up c o (fun q=>hc (by simp [q])) (B c o hc e)
theorem aeb{z TI TO i1 i2 i3 t1 t2 t3:Addr}{xs ys zs:Array Value}{k:Nat}{Q:Fin->SP0}(hh:A.handled=none)(D:Apart3 z TI TO i1 i2 i3 t1 t2 t3)(S:Zip3 s.heap z TI TO i1 i2 i3 t1 t2 t3 xs ys zs .none k)(hx:xs[k]?=none)
  (hE:∀h' e,But [z,TO,i1,i2,i3] s.heap h'->(∃o,h'.get? e=some o/\o.cls= .type "StopIteration")->E (.ref e) { s with heap:=h' }):
  wpAny (model prog w) A (Builtin.«zip.__next__» ⟨[.ref z],[]⟩) Q E s:=by
 obtain⟨hz,hTI,⟨a,b,c,hTO⟩,g1,g2,g3,a1,a2,a3⟩:=S;obtain⟨nd,ti,s1,s2,s3⟩:=D;simp only[List.nodup_cons,List.mem_cons,List.not_mem_nil,or_false,not_or]at nd ti s1 s2 s3;obtain⟨⟨n1,n2,n3,n4⟩,⟨n5,n6,n7⟩,⟨n8,n9⟩,n10,_⟩:=nd;refine wpAny_bind (m:=field (.ref z) 2) (wpAny_field hz rfl (x:= .bool false) rfl ?_);refine wpAny_bind (m:=field (.ref z) 3) (wpAny_field hz rfl (x:= .ref TI) rfl ?_);refine wpAny_bind (wpAny_seqItems hTI rfl ?_);refine wpAny_bind (m:=Builtin.SmallTypes.ownedTupleIsFree (.ref z)) ?_;unfold Builtin.SmallTypes.ownedTupleIsFree;refine wpAny_bind (wpAny_field hz rfl (x:= .none) rfl (wpAny_pure ?_));simp only[zzM];refine wpAny_bind (wpAny_rule ?_);refine wpAny_bind (wpAny_field hz rfl (x:= .ref TO) rfl ?_);refine wpAny_bind (wpAny_setField_rec hz (by simp) fun h1 hz1 b1=>?_)
 replace hz1:IsZip h1 z TI TO .ellipsis:=hz1
 refine wpAny_bind ?_;simp only[List.zipIdx_cons,List.zipIdx_nil,List.forIn_cons,List.forIn_nil];refine wpAny_bind (wpAny_bind (wpAny_onRaise ?_));refine wpAny_bind (m:=Builtin.SmallTypes.nextOf (.ref i1)) ?_;refine adc hh (g1.extBut b1.extBut (Ne.symm n2)) (a1.extBut b1.extBut s1.1) hx fun h2 e b2 he=>?_;obtain⟨oe,ho,hc⟩:=he;have z2:IsZip h2 z TI TO .ellipsis:=b2 _ _ n2 hz1;have ez:e≠z:=fun q=>by subst q;rw[z2]at ho;cases ho;simp at hc
 refine wpAny_setField_rec z2 (by simp) fun h3 _ b3=>?_;exact hE h3 e (((But.of b1.extBut (by simp)).trans (But.of b2 (by simp))).trans (But.of b3.extBut (by simp))) ⟨oe,b3.extBut _ _ ez ho,hc⟩
end
structure ZipC(h:Heap)(z TI TO i1 i2 i3 t1 t2 t3:Addr)(f0:Value)(k:Nat):Prop where
 hz:IsZip h z TI TO f0
 hTI:JG h TI (.ref i1) (.ref i2) (.ref i3)
 hTO:∃a b c,JG h TO a b c
 g1:h.IsTupleIter i1 t1 k
 g2:h.IsTupleIter i2 t2 k
 g3:h.IsTupleIter i3 t3 k
theorem ZipC.all{h:Heap}{z TI TO i1 i2 i3 t1 t2 t3:Addr}{f0:Value}{k:Nat}(S:ZipC h z TI TO i1 i2 i3 t1 t2 t3 f0 k){xs ys zs:Array Value}(a1:h.IsTuple t1 xs)(a2:h.IsTuple t2 ys)(a3:h.IsTuple t3 zs):
  Zip3 h z TI TO i1 i2 i3 t1 t2 t3 xs ys zs f0 k:=⟨S.hz,S.hTI,S.hTO,S.g1,S.g2,S.g3,a1,a2,a3⟩
theorem Zip3.c{h:Heap}{z TI TO i1 i2 i3 t1 t2 t3:Addr}{xs ys zs:Array Value}{f0:Value}{k:Nat}(S:Zip3 h z TI TO i1 i2 i3 t1 t2 t3 xs ys zs f0 k):ZipC h z TI TO i1 i2 i3 t1 t2 t3 f0 k:=⟨S.hz,S.hTI,S.hTO,S.g1,S.g2,S.g3⟩
theorem ZipC.keep{h h':Heap}{z TI TO i1 i2 i3 t1 t2 t3:Addr}{f0:Value}{k:Nat}(S:ZipC h z TI TO i1 i2 i3 t1 t2 t3 f0 k)(kp:∀b∈[z,TI,TO,i1,i2,i3],∀o,h.get? b=some o->h'.get? b=some o):
  ZipC h' z TI TO i1 i2 i3 t1 t2 t3 f0 k:=by
 obtain⟨hz,hTI,⟨a,b,c,hTO⟩,⟨o1,e1,r1⟩,⟨o2,e2,r2⟩,⟨o3,e3,r3⟩⟩:=S;exact⟨kp z (by simp) _ hz,kp TI (by simp) _ hTI,⟨a,b,c,kp TO (by simp) _ hTO⟩,⟨o1,kp i1 (by simp) _ e1,r1⟩,⟨o2,kp i2 (by simp) _ e2,r2⟩,⟨o3,kp i3 (by simp) _ e3,r3⟩⟩
noncomputable def Itz(K:Fg)(t1 t2 t3:Addr):It:=
 ⟨fun i H=>∃xs ys zs x y v,SqT K H t1 xs/\SqT K H t2 ys/\SqT K H t3 zs/\xs[i]?=some x/\ys[i]?=some y/\zs[i]?=some v,
  fun i H u H'=>∃ p x y v,u= .ref p/\H p=none/\H'=upd H p (.tup [x,y,v])/\∀ xs ys zs,SqT K H t1 xs->SqT K H t2 ys->SqT K H t3 zs->xs[i]?=some x/\ys[i]?=some y/\zs[i]?=some v,
  fun i H=>∃ xs ys zs,SqT K H t1 xs/\SqT K H t2 ys/\SqT K H t3 zs/\xs.length<=i⟩
theorem aec{P:Program}{w:World}{K:Fg}{elts:List Expr}{x1:Nat}{pos:Pos}{z TI TO i1 i2 i3 t1 t2 t3:Addr}(nd:[z,TO,i1,i2,i3].Nodup)(ti:TI∉[z,TO,i1,i2,i3]):
  Turn P w K (.Tuple elts x1 pos) (Itz K t1 t2 t3) [z,TI,TO,i1,i2,i3] z (fun i h=>ZipC h z TI TO i1 i2 i3 t1 t2 t3 .none i) where
 mem:=by simp
 obj:=fun i h st b hb=>by
  obtain⟨hz,hTI,⟨a,b',c,hTO⟩,⟨o1,e1,_,d1⟩,⟨o2,e2,_,d2⟩,⟨o3,e3,_,d3⟩⟩:=st;simp only[List.mem_cons,List.not_mem_nil,or_false]at hb;rcases hb with rfl|rfl|rfl|rfl|rfl|rfl
  ·exact⟨_,hz,fun v q=>by cases q⟩
  ·exact⟨_,hTI,fun v q=>by cases q⟩
  ·exact⟨_,hTO,fun v q=>by cases q⟩
  ·exact⟨o1,e1,fun v q=>by rw[d1]at q;cases q⟩
  ·exact⟨o2,e2,fun v q=>by rw[d2]at q;cases q⟩
  ·exact⟨o3,e3,fun v q=>by rw[d3]at q;cases q⟩
 keep:=fun i h h' st k=>st.keep k
 item:=by
  intro X hP hw hK hc i Kp s σ H E I hf st hg;subst hP hw hK;obtain⟨xs,ys,zs,x,y,v,q1,q2,q3,ex,ey,ev⟩:=hg;obtain⟨us1,r1,p1,z1⟩:=I.tuple q1;obtain⟨us2,r2,p2,z2⟩:=I.tuple q2;obtain⟨us3,r3,p3,z3⟩:=I.tuple q3;obtain⟨u1,m1,l1⟩:=r1.get ex;obtain⟨u2,m2,l2⟩:=r2.get ey;obtain⟨u3,m3,l3⟩:=r3.get ev
  have trk:∀{t:Addr} {ws:List V},SqT X.K H t ws->t∉[z,TO,i1,i2,i3]:=fun {t ws} hq hb=>by
   have hb':t∈[z,TI,TO,i1,i2,i3]:=by
    simp only[List.mem_cons,List.not_mem_nil,or_false]at hb ⊢;rcases hb with e | e | e | e | e<;>simp[e]
   rcases hq with (e | ⟨o,e⟩) | ⟨o,its,n,hk,hcl,hs,_,_⟩
   ·have:=(hf t hb').1;rw[e]at this;cases this
   ·have:=(hf t hb').1;rw[e]at this;cases this
   ·-- an object of the module is no iterator of ours
    obtain⟨f0,f1,f2,f3,f4,f5⟩:=hf t hb';have hbase:=I.mod.kin t o hk;rcases f3 with q | q
    ·exact I.ok.noex t o hbase q
    ·exact absurd (Nat.lt_of_lt_of_le (Heap.lt_size hbase) (Nat.le_trans I.ok.bsz q)) (Nat.lt_irrefl _)
  have D:Apart3 z TI TO i1 i2 i3 t1 t2 t3:=⟨nd,ti,trk q1,trk q2,trk q3⟩;have S:=st.all (xs:=us1.toArray) (ys:=us2.toArray) (zs:=us3.toArray) p1 p2 p3;have hT:s.TypeIs (.ref z) "zip":=⟨_,st.hz,rfl⟩;unfold pyNext
  refine wpAny_bind (wpAny_attempt (wpAny_callSpecial?_slot (name:=Str.ofString "__next__") hT F.slot_zip_next
   (wpAny_call_entry F.slot_zip_next hT F.entry_zip_next (add D S (by simpa using m1) (by simpa using m2) (by simpa using m3) fun h1 S1 T1 B1=>wpAny_pure ?_)
    (F.args_zip_next_1 _))))
  refine⟨_,rfl,?_⟩;refine wpAny_letOwnedTupleGo_zip (s:={ s with heap:=h1 }) S1.hz fun h2 z2' b2=>?_;have nT:H s.heap.objs.size=none:=I.hok.fresh (Nat.le_refl _);have zlt:z<s.heap.objs.size:=Heap.lt_size st.hz;have T2:JG h2 s.heap.objs.size u1 u2 u3:=b2.extBut _ _ (Nat.ne_of_gt zlt) T1;have B2:But [z,TO,i1,i2,i3] s.heap h2:=B1.trans (But.of b2.extBut (by simp))
  have inF:∀b∈[z,TO,i1,i2,i3],b∈[z,TI,TO,i1,i2,i3]:=fun b hb=>by
   simp only[List.mem_cons,List.not_mem_nil,or_false]at hb ⊢;rcases hb with e | e | e | e | e<;>simp[e]
  have ntr:∀b u,H b=some u->b∉[z,TO,i1,i2,i3]:=fun b u e hb=>by
   have:=(hf b (inF b hb)).1;rw[e]at this;cases this
  have neT:∀b u,H b=some u->b≠s.heap.objs.size:=fun b u e q=>by rw[q,nT]at e;cases e
  have hok2:HOk X.prog X.w (upd H s.heap.objs.size (.tup [x,y,v])) h2:=fun b u e=>by
   by_cases hb:b=s.heap.objs.size
   ·subst hb
    rw[jr]at e;cases e;exact⟨by show 3<=sizeLine;rw[sizeLine_eq];decide,[u1,u2,u3],.cons l1 (.cons l2 (.cons l3 .nil)),⟨_,T2,rfl,_,rfl⟩⟩
   ·rw[jm hb]at e
    refine(I.hok b u e).stay (fun c o hc' q=>B2 c o ?_ q) (fun c q=>by rw[jm (neT c _ q)];exact q) fun c ws q=>by rw[jm (neT c _ q)];exact q
    rcases hc' with q' | q'
    ·rw[q'];exact ntr b u e
    ·exact ntr c _ q'
  have I2:Inv X Kp σ (upd H s.heap.objs.size (.tup [x,y,v])) { s with heap:=h2,toks:=s.toks }:=by
   refine I.step (g':=s.gens) (d':=s.drawn) (ch:=[z,TO,i1,i2,i3]) (fun b hb=>?_) (fun b o _ _ hb e _=>B2 b o hb e) (fun b o _ _ hb e _=>⟨o.slots,B2 b o hb e⟩) (fun b o hb e n=>?_) (fun b o hb e=>⟨o,B2 b o hb e⟩)
    (fun b ws e=>by rw[jm (neT b _ e)];exact e) (fun b ob ws e=>by rw[jm (neT b _ e)];exact e) (fun b ps e=>⟨#[],by rw[jm (neT b _ e),e];simp⟩) (fun m hm=>?_) hok2 I.bare
   ·obtain⟨f0,f1,f2,f3,f4,f5⟩:=hf b (inF b hb)
    exact⟨f3,f1,f4,f5⟩
   ·rw[jm (Nat.ne_of_lt (Heap.lt_size e))];exact n
   ·obtain⟨o,es,ep,ho,r⟩:=hm
    refine⟨o,es,ep,B2 _ o (fun hb=>?_) ho,r⟩;exact(hf _ (inF _ hb)).2.1 rfl
  refine⟨.ref s.heap.objs.size,_,I2,rfl,⟨_,x,y,v,rfl,nT,rfl,fun as bs cs g1 g2 g3=>?_⟩,?_,fun b hb=>?_⟩
  ·rw[I.tuple_inj g1 q1,I.tuple_inj g2 q2,I.tuple_inj g3 q3]
   exact⟨ex,ey,ev⟩
  ·have c1:=S1.c
   obtain⟨_,hTI,⟨a,b,c,hTO⟩,⟨o1,e1,w1⟩,⟨o2,e2,w2⟩,⟨o3,e3,w3⟩⟩:=c1;simp only[List.nodup_cons,List.mem_cons,List.not_mem_nil,or_false,not_or]at nd ti;obtain⟨⟨n1,n2,n3,n4⟩,_⟩:=nd;exact⟨z2',b2.extBut _ _ ti.1 hTI,⟨a,b,c,b2.extBut _ _ (Ne.symm n1) hTO⟩,⟨o1,b2.extBut _ _ (Ne.symm n2) e1,w1⟩,⟨o2,b2.extBut _ _ (Ne.symm n3) e2,w2⟩,⟨o3,b2.extBut _ _ (Ne.symm n4) e3,w3⟩⟩
  ·obtain⟨o,ho,_⟩:∃o,s.heap.get? b=some o/\True:=by
    obtain⟨hz,hTI,⟨a,b',c,hTO⟩,⟨o1,e1,_⟩,⟨o2,e2,_⟩,⟨o3,e3,_⟩⟩:=st;simp only[List.mem_cons,List.not_mem_nil,or_false]at hb;rcases hb with rfl|rfl|rfl|rfl|rfl|rfl
    ·exact⟨_,hz,trivial⟩
    ·exact⟨_,hTI,trivial⟩
    ·exact⟨_,hTO,trivial⟩
    ·exact⟨_,e1,trivial⟩
    ·exact⟨_,e2,trivial⟩
    ·exact⟨_,e3,trivial⟩
   rw[jm (Nat.ne_of_lt (Heap.lt_size ho))];exact(hf b hb).1
 done:=by
  intro X hP hw hK hc i Kp s σ H E I hf st hg;subst hP hw hK;obtain⟨xs,ys,zs,q1,q2,q3,hl⟩:=hg;obtain⟨us1,r1,p1,z1⟩:=I.tuple q1;obtain⟨us2,r2,p2,z2⟩:=I.tuple q2;obtain⟨us3,r3,p3,z3⟩:=I.tuple q3
  have trk:∀{t:Addr} {ws:List V},SqT X.K H t ws->t∉[z,TO,i1,i2,i3]:=fun {t ws} hq hb=>by
   have hb':t∈[z,TI,TO,i1,i2,i3]:=by
    simp only[List.mem_cons,List.not_mem_nil,or_false]at hb ⊢;rcases hb with e | e | e | e | e<;>simp[e]
   rcases hq with (e | ⟨o,e⟩) | ⟨o,its,n,hk,hcl,hs,_,_⟩
   ·have:=(hf t hb').1;rw[e]at this;cases this
   ·have:=(hf t hb').1;rw[e]at this;cases this
   ·obtain⟨f0,f1,f2,f3,f4,f5⟩:=hf t hb'
    have hbase:=I.mod.kin t o hk;rcases f3 with q | q
    ·exact I.ok.noex t o hbase q
    ·exact absurd (Nat.lt_of_lt_of_le (Heap.lt_size hbase) (Nat.le_trans I.ok.bsz q)) (Nat.lt_irrefl _)
  have D:Apart3 z TI TO i1 i2 i3 t1 t2 t3:=⟨nd,ti,trk q1,trk q2,trk q3⟩;have S:=st.all (xs:=us1.toArray) (ys:=us2.toArray) (zs:=us3.toArray) p1 p2 p3;have hT:s.TypeIs (.ref z) "zip":=⟨_,st.hz,rfl⟩;have hlen:=r1.length;unfold pyNext
  refine wpAny_bind (wpAny_attempt (wpAny_callSpecial?_slot (name:=Str.ofString "__next__") hT F.slot_zip_next
   (wpAny_call_entry F.slot_zip_next hT F.entry_zip_next (aeb (I.ok.hd hc) D S (by simp; omega) fun h1 e B1 he=>?_)
    (F.args_zip_next_1 _))))
  obtain⟨o,ho,hcl⟩:=he;refine wpAny_bind (wpAny_isInstance (T:="StopIteration") (b:=true) ⟨o,ho,hcl⟩ isSubtype_stop ?_);refine wpAny_pure ⟨rfl,?_⟩
  have inF:∀b∈[z,TO,i1,i2,i3],b∈[z,TI,TO,i1,i2,i3]:=fun b hb=>by
   simp only[List.mem_cons,List.not_mem_nil,or_false]at hb ⊢;rcases hb with e | e | e | e | e<;>simp[e]
  have ntr:∀b u,H b=some u->b∉[z,TO,i1,i2,i3]:=fun b u e hb=>by
   have:=(hf b (inF b hb)).1;rw[e]at this;cases this
  refine I.step (t':=s.toks) (g':=s.gens) (d':=s.drawn) (ch:=[z,TO,i1,i2,i3]) (fun b hb=>?_) (fun b o _ _ hb e _=>B1 b o hb e) (fun b o _ _ hb e _=>⟨o.slots,B1 b o hb e⟩) (fun b o hb e n=>n) (fun b o hb e=>⟨o,B1 b o hb e⟩)
   (fun b ws e=>e) (fun b ob ws e=>e) (fun b ps e=>⟨#[],by rw[e];simp⟩) (fun m hm=>?_) (fun b u e=>?_) I.bare
  ·obtain⟨f0,f1,f2,f3,f4,f5⟩:=hf b (inF b hb)
   exact⟨f3,f1,f4,f5⟩
  ·obtain⟨o,es,ep,ho,r⟩:=hm
   refine⟨o,es,ep,B1 _ o (fun hb=>?_) ho,r⟩;exact(hf _ (inF _ hb)).2.1 rfl
  ·refine(I.hok b u e).stay (fun c o hc' q=>B1 c o ?_ q) (fun c q=>q) fun c ws q=>q
   rcases hc' with q' | q'
   ·rw[q'];exact ntr b u e
   ·exact ntr c _ q'
 self:=fun _ _ _ _ _ st h=>wpAny_pyIter_zip st.hz h
theorem Zb(a b c:Value):checkTypeCall "zip" ⟨[a,b,c],[]⟩=pure ():=by kernel_rfl
theorem ZT(a b c:Value):checkBuiltinCall "zip.__new__" ⟨[.type "zip",a,b,c],[]⟩=pure ():=by kernel_rfl
theorem abG(a b c d:Value):argsOk "object.__init__" ⟨[a,b,c,d],[]⟩:=by
 unfold argsOk
 rw[signature?_of (id:="object.__init__") (n:=['_','_','t','i','n','i','_','_'])
  (o:=['t','c','e','j','b','o']) (by kernel_rfl) F.owner_object]
 kernel_rfl
noncomputable abbrev ahy(t:Addr):Obj:={ cls:= .type "tuple_iterator",data:= .fields #[.ref t,.int 0 0] }
noncomputable abbrev zh1(h:Heap)(a:Addr):Heap:=h.push (ahy a)
noncomputable abbrev zh2(h:Heap)(a b:Addr):Heap:=(zh1 h a).push (ahy b)
noncomputable abbrev zh3(h:Heap)(a b c:Addr):Heap:=(zh2 h a b).push (ahy c)
noncomputable abbrev zh4(h:Heap)(a b c:Addr):Heap:=(zh3 h a b c).push { cls:= .type "tuple",data:= .seq #[.ref h.objs.size,.ref (zh1 h a).objs.size,.ref (zh2 h a b).objs.size] }
noncomputable abbrev zh5(h:Heap)(a b c:Addr):Heap:=(zh4 h a b c).push { cls:= .type "tuple",data:= .seq #[.none,.none,.none] }
noncomputable abbrev zh6(h:Heap)(a b c:Addr):Heap:=(zh5 h a b c).push { cls:= .type "zip",data:= .fields #[.none,.bool false,.bool false,.ref (zh3 h a b c).objs.size,.ref (zh4 h a b c).objs.size] }
theorem aed(a b c:Addr)(xs ys zs:Array Value):
  Meets (Builtin.«zip.__new__» ⟨[.type "zip",.ref a,.ref b,.ref c],[]⟩) (fun _ R s=>s.heap.IsTuple a xs/\s.heap.IsTuple b ys/\s.heap.IsTuple c zs/\
   R (.ok (.ret (.ref (zh5 s.heap a b c).objs.size))) { s with heap:=zh6 s.heap a b c }):=
 .of_wp fun prog w A R s h=>by
  obtain⟨hp,g,d,tk,os⟩:=s;obtain⟨h1,h2,h3,h⟩:=h;have hsub:=sub_zip;have k1:Heap.IsTuple (Shared.heap ⟨hp,g,d,tk,os⟩) a xs:=h1;have k2:Heap.IsTuple (Shared.heap ⟨zh1 hp a,g,d,tk,os⟩) b ys:=Heap.IsTuple.push h2 _;have k3:Heap.IsTuple (Shared.heap ⟨zh2 hp a b,g,d,tk,os⟩) c zs:=Heap.IsTuple.push (Heap.IsTuple.push h3 _) _
  wp_walk using wpAny_pyIter_tuple k1,wpAny_pyIter_tuple k2,wpAny_pyIter_tuple k3
  exact⟨_,rfl,h⟩
section
variable {X:Cx}
noncomputable def aiJ(K:Fg)(ta:TA):TI:=fun σ H R=>ta σ H fun vs H1=>∃a b c xs ys zs,vs=[.ref a,.ref b,.ref c]/\SqT K H1 a xs/\SqT K H1 b ys/\SqT K H1 c zs/\R (Itz K a b c) H1
theorem afU{ea eb ec:Expr}{elts:List Expr}{x1:Nat}{tp:Pos}{ta:TA}{p pos:Pos}(hg:Gl X "zip")(hm:X.mg "zip"=none)(ha:PA X [ea,eb,ec] ta)
  (hs:starEach [ea,eb,ec] X.env=[(false,eval ea X.env),(false,eval eb X.env),(false,eval ec X.env)]:=by rfl) (hs2:starEach [eb,ec] X.env=[(false,eval eb X.env),(false,eval ec X.env)]:=by rfl):
  PI X (.Tuple elts x1 tp) (.Call (.Name "zip" p) [ea,eb,ec] [] pos) (aiJ X.K ta):=by
 intro Kp s σ H R I h;refine Call_ (QG I hg hm boot_zip (PyProof.Rows.callWith_type1 (thn (ha pos Kp s σ H _ I h) fun us s1 ⟨vs,H1,I1,r1,q1⟩=>?_) (by rw[hs,hs2]) (by rw[hs2];rfl)));obtain⟨a,b,c,xs,ys,zs,e,q1,q2,q3,q⟩:=q1;subst e;cases r1 with
 | cons r1 rr=>
  cases rr with
  | cons r2 rr=>
   cases rr with
   | cons r3 rr=>
    cases rr;cases r1;cases r2;cases r3;obtain⟨us1,v1,p1,z1⟩:=I1.tuple q1;obtain⟨us2,v2,p2,z2⟩:=I1.tuple q2;obtain⟨us3,v3,p3,z3⟩:=I1.tuple q3
    refine callType_new F.called_zip (by decide) (Zb _ _ _) (ZT _ _ _) (fun obj=>abG obj _ _ _) F.entry_zip_new
     (aed a b c us1.toArray us2.toArray us3.toArray) ⟨p1,p2,p3,?_⟩
    have n1:(zh1 s1.heap a).objs.size=s1.heap.objs.size+1:=Heap.size_push ..;have n2:(zh2 s1.heap a b).objs.size=s1.heap.objs.size+2:=by rw[Heap.size_push,n1]
    have n3:(zh3 s1.heap a b c).objs.size=s1.heap.objs.size+3:=by rw[Heap.size_push,n2]
    have n4:(zh4 s1.heap a b c).objs.size=s1.heap.objs.size+4:=by rw[Heap.size_push,n3]
    have n5:(zh5 s1.heap a b c).objs.size=s1.heap.objs.size+5:=by rw[Heap.size_push,n4]
    have g6:(zh6 s1.heap a b c).get? (zh5 s1.heap a b c).objs.size=some _:=Heap.get?_push_size _ rfl;have g5:(zh6 s1.heap a b c).get? (zh4 s1.heap a b c).objs.size=some _:=Heap.get?_push_of_some _ (Heap.get?_push_size _ rfl);have g4:(zh6 s1.heap a b c).get? (zh3 s1.heap a b c).objs.size=some _:=Heap.get?_push_of_some _ (Heap.get?_push_of_some _ (Heap.get?_push_size _ rfl));have up3:∀x o,(zh3 s1.heap a b c).get? x=some o->(zh6 s1.heap a b c).get? x=some o:=fun x o e=>Heap.get?_push_of_some _ (Heap.get?_push_of_some _ (Heap.get?_push_of_some _ e));have g3:(zh6 s1.heap a b c).get? (zh2 s1.heap a b).objs.size=some _:=up3 _ _ (Heap.get?_push_size _ rfl);have g2:(zh6 s1.heap a b c).get? (zh1 s1.heap a).objs.size=some _:=up3 _ _ (Heap.get?_push_of_some _ (Heap.get?_push_size _ rfl));have g1:(zh6 s1.heap a b c).get? s1.heap.objs.size=some _:=up3 _ _ (Heap.get?_push_of_some _ (Heap.get?_push_of_some _ (Heap.get?_push_size _ rfl)));have kp:∀x o,s1.heap.get? x=some o->(zh6 s1.heap a b c).get? x=some o:=fun x o e=>up3 _ _ (Heap.get?_push_of_some _ (Heap.get?_push_of_some _ (Heap.get?_push_of_some _ e)));show _/\_;refine⟨⟨_,g6,rfl⟩,?_⟩;refine wpAny_pyIter_zip g6 ?_;have I2:Inv X Kp σ H1 { s1 with heap:=zh6 s1.heap a b c }:=I1.kept (t':=s1.toks) kp
    refine⟨_,[(zh5 s1.heap a b c).objs.size,(zh3 s1.heap a b c).objs.size,(zh4 s1.heap a b c).objs.size,s1.heap.objs.size,(zh1 s1.heap a).objs.size,(zh2 s1.heap a b).objs.size],
     _,_,H1,rfl,I2,aec (z:=(zh5 s1.heap a b c).objs.size) (TI:=(zh3 s1.heap a b c).objs.size) (TO:=(zh4 s1.heap a b c).objs.size) (i1:=s1.heap.objs.size) (i2:=(zh1 s1.heap a).objs.size) (i3:=(zh2 s1.heap a b).objs.size) (t1:=a) (t2:=b) (t3:=c) ?_ ?_,
     ⟨g6,g4,⟨_,_,_,g5⟩,⟨_,g1,rfl,rfl⟩,⟨_,g2,rfl,rfl⟩,⟨_,g3,rfl,rfl⟩⟩,fun x hx=>?_,q⟩
    ·rw[n5,n4,n1,n2]
     simp[List.nodup_cons]
    ·rw[n3,n5,n4,n1,n2]
     simp
    ·have hle:s1.heap.objs.size<=x:=by
      rw[n5,n3,n4,n1,n2]at hx;simp only[List.mem_cons,List.not_mem_nil,or_false]at hx;rcases hx with e | e | e | e | e | e<;>rw[e]<;>first|exact Nat.le_refl _|exact Nat.le_add_right _ _
     exact I1.fpOk hle (I1.hok.fresh hle)
noncomputable def zQ:LP->LP->LP->LP
 |x::xs,y::ys,z::zs=> .tuple [x,y,z]::zQ xs ys zs
 |_,_,_=>[]
noncomputable def acr(ds:LP):Option (LP):=match ds with
 | [.tuple xs,.tuple ys,.tuple zs]=>if xs.length=ys.length/\ys.length=zs.length then some (zQ xs ys zs) else none
 |_=>none
theorem Zt:∀(xs ys zs:LP),xs.length=ys.length->ys.length=zs.length->(zQ xs ys zs).length=xs.length
 | [],_,_,_,_=>by simp[zQ]
 |x::xs,[],_,h,_=>by simp at h
 |x::xs,y::ys,[],_,h=>by simp at h
 |x::xs,y::ys,z::zs,h,g=>by simp[zQ,Zt xs ys zs (by simpa using h) (by simpa using g)]
theorem Zu:∀(xs ys zs:LP) (i:Nat) (d:PyData),(zQ xs ys zs)[i]?=some d->∃x y z,xs[i]?=some x/\ys[i]?=some y/\zs[i]?=some z/\d= .tuple [x,y,z]
 | [],_,_,i,d,h=>by simp[zQ]at h
 |x::xs,[],_,i,d,h=>by simp[zQ]at h
 |x::xs,y::ys,[],i,d,h=>by simp[zQ]at h
 |x::xs,y::ys,z::zs,0,d,h=>by simp[zQ]at h;exact⟨x,y,z,rfl,rfl,rfl,h.symm⟩
 | x::xs,y::ys,z::zs,i+1,d,h=>by
  obtain⟨a,b,c,e1,e2,e3,e4⟩:=Zu xs ys zs i d (by simpa[zQ]using h);exact⟨a,b,c,by simpa using e1,by simpa using e2,by simpa using e3,e4⟩
theorem aee{ea eb ec:Expr}{elts:List Expr}{x1:Nat}{tp:Pos}{p pos:Pos}{fr:Rho->Option (LP)}(hm:X.mg "zip"=none)(ha:PAD X [ea,eb,ec] fr)(hg:Gl X "zip":=by rfl)
  (hs:starEach [ea,eb,ec] X.env=[(false,eval ea X.env),(false,eval eb X.env),(false,eval ec X.env)]:=by rfl) (hs2:starEach [eb,ec] X.env=[(false,eval eb X.env),(false,eval ec X.env)]:=by rfl):
  PID X (.Tuple elts x1 tp) (.Call (.Name "zip" p) [ea,eb,ec] [] pos) (fun ρ=>(fr ρ).bind acr):=by
 with_unfolding_all
  refine PI.imp (afU hg hm ha hs hs2) fun σ H R ⟨ρ,ds,en,q,k⟩=>?_;cases h1:fr ρ with
  |none=>simp[h1]at q
  | some as=>
   have q':acr as=some ds:=by simpa[h1]using q
   refine⟨ρ,as,en,h1,fun vs H1 s1 r1=>?_⟩;unfold acr at q';split at q'
   ·rename_i xs ys zs
    split at q'
    ·rename_i hl
     cases q';obtain⟨v1,w1,e1,⟨a,us1,ea',qa,ra⟩,v2,w2,e2,⟨b,us2,eb',qb,rb⟩,v3,w3,e3,⟨c,us3,ec',qc,rc⟩,e4⟩:=r1;cases (show w3=[] from e4);subst ea';subst eb';subst ec';subst e3;subst e2;have l1:=ra.length;have l2:=rb.length;have l3:=rc.length;have lz:=Zt xs ys zs hl.1 hl.2;refine⟨a,b,c,us1,us2,us3,e1,qa,qb,qc,k _ H1 s1 fun i H2 s2=>⟨fun hi=>?_,fun hi=>?_,fun u H3 y=>?_⟩⟩
     ·rw[lz]at hi
      exact⟨us1,us2,us3,us1[i]'(by omega),us2[i]'(by omega),us3[i]'(by omega),jM.tup s2 qa,jM.tup s2 qb,jM.tup s2 qc,by simp<;>omega,by simp<;>omega,by simp<;>omega⟩
     ·rw[lz]at hi
      exact⟨us1,us2,us3,jM.tup s2 qa,jM.tup s2 qb,jM.tup s2 qc,by omega⟩
     ·obtain⟨pp,x,y,v,e5,e6,e7,e8⟩:=y
      subst e5;subst e7;refine⟨jz e6,fun d hd=>?_⟩;obtain⟨dx,dy,dz,g1,g2,g3,g4⟩:=Zu xs ys zs i d hd;subst g4;obtain⟨f1,f2,f3⟩:=e8 us1 us2 us3 (jM.tup s2 qa) (jM.tup s2 qb) (jM.tup s2 qc);have m:=s2.trans (jq.a (jz (o:= .tup [x,y,v]) e6));obtain⟨x',a1,a2⟩:=(Reps.monoA m _ _ ra).get g1;obtain⟨y',b1,b2⟩:=(Reps.monoA m _ _ rb).get g2;obtain⟨z',c1,c2⟩:=(Reps.monoA m _ _ rc).get g3;rw[f1]at a1;cases a1;rw[f2]at b1;cases b1;rw[f3]at c1;cases c1;exact⟨pp,[x,y,v],rfl,SqT.of jr,x,_,rfl,a2,y,_,rfl,b2,v,_,rfl,c2,rfl⟩
    ·cases q'
   ·cases q'
noncomputable def tyn:PyData->String
 |.none=>"NoneType"
 |.bool _=>"bool"
 |.int _=>"int"
 |.str _=>"str"
 |.tuple _=>"tuple"
 |.list _=>"list"
 |.dict kvs=>if qz kvs then "list" else "dict"
noncomputable def isFn:PyData->Bool
 |.dict [(.str _,_)]=>true
 |.dict [(.bool _,_)]=>true
 |_=>false
noncomputable def Jx(T:String)(d:PyData):OP:=if isFn d=true then none else some (.bool (tyn d==T||(T=="int" && tyn d=="bool")))
theorem aef{Kp:List (Addr×Obj)}{σ:St}{H:Hp}{s:Shared}{E:Value->SP0}{Q:Value->SP0}{d:PyData}{v:V}{u c:Value}{b:Bool}(I:Inv X Kp σ H s)(r:Rep X.K H d v)(hF:isFn d=false)(rv:jO v u)
  (e:PySem.W.kitOne X.K (.type (tyn d)) c=some b) (h:∀tk,Q (.bool b) { s with toks:=tk }):wpAny (model X.prog X.w) X.A (call (.builtin "isinstance") [u,c]) Q E s:=by
 cases d with
 |none=>cases r;cases rv;exact PySem.W.kia_one PySem.W.kitx_none I.kIn True.intro e (fun z=>nomatch z) h
 |bool y=>cases r;cases rv;exact PySem.W.kia_one PySem.W.kitx_bool I.kIn True.intro e (fun z=>nomatch z) h
 |int i=>cases r;obtain⟨t,rfl⟩:=rv;exact PySem.W.kia_one PySem.W.kitx_int I.kIn True.intro e (fun z=>nomatch z) h
 |str y=>cases r;obtain⟨t,rfl⟩:=rv;exact PySem.W.kia_one PySem.W.kitx_str I.kIn True.intro e (fun z=>nomatch z) h
 | tuple ds=>
  obtain⟨a,xs,e1,e2,e3⟩:=r;subst e1;cases rv;obtain⟨its,_,⟨o,h1,h2,_⟩,_⟩:=I.tuple e2;exact PySem.W.kia_one PySem.W.kitx_tuple I.kIn ⟨o,h1,h2⟩ e (fun z=>nomatch z) h
 | list ds=>
  obtain⟨a,xs,e1,e2,e3⟩:=r;subst e1;cases rv;obtain⟨its,_,⟨o,n,h1,h2,_⟩,_⟩:=I.list (SqL.of e2);exact PySem.W.kia_one PySem.W.kitx_list I.kIn ⟨o,h1,h2⟩ e (fun z=>nomatch z) h
 | dict ds=>
  obtain⟨a,e1,⟨ns,e2,e3⟩ | ⟨ks,ob,e2,e3⟩ | ⟨x,e2,_⟩ | ⟨x,_,_,e2,_⟩ | e2⟩:=r
  ·subst e1;cases rv
   subst e3;have e:PySem.W.kitOne X.K (.type "list") c=some b:=by simpa[tyn,Zr]using e
   obtain⟨its,_,⟨o,n,h1,h2,_⟩,_⟩:=I.list e2;exact PySem.W.kia_one PySem.W.kitx_list I.kIn ⟨o,h1,h2⟩ e (fun z=>nomatch z) h
  ·subst e1;cases rv
   obtain⟨cc,rr,rfl,e4⟩:=e3.out;have e:PySem.W.kitOne X.K (.type "dict") c=some b:=by simpa[tyn,qz]using e
   obtain⟨_,_,vs,_,dd⟩:=aiz I.hok (.inr ⟨ob,e2⟩);obtain⟨o,es,ep,h1,h2,_⟩:=dd;exact PySem.W.kia_one PySem.W.kitx_dict I.kIn ⟨o,h1,h2.1⟩ e (fun z=>nomatch z) h
  ·subst e2;simp[isFn]at hF
  ·subst e2;simp[isFn]at hF
  ·subst e2;simp[isFn]at hF
noncomputable def ajs(K:Fg)(T:String):List V->Hp->VK->Prop:=fun xs H Q=>∃x d b,xs=[x,.ty T]/\Rep K H d x/\isFn d=false/\PySem.W.kitOne K (.type (tyn d)) (.type T)=some b/\Q (.bl b) H
theorem aaH{T:String}:zf X (.builtin "isinstance") (ajs X.K T):=by
 intro Kp s σ H xs us Q I r ⟨x,d,b,e,h1,hF,h2,q⟩;subst e;obtain⟨u,w',rfl,r1,r2⟩:=adS r;cases (show w'=_ from r2);exact aef I h1 hF r1 h2 fun tk=>⟨.bl b,H,I.tok tk,rfl,q⟩
noncomputable def qX(T:String)(d:PyData):Bool:=tyn d==T||(T=="int" && tyn d=="bool")
@[simp] theorem ah4(T:String):Jx T .none=some (.bool (qX T .none)):=rfl
@[simp] theorem ah5(T:String)(b:Bool):Jx T (.bool b)=some (.bool (qX T (.bool b))):=rfl
@[simp] theorem aiK(T:String)(i:Int):Jx T (.int i)=some (.bool (qX T (.int i))):=rfl
@[simp] theorem aiL(T:String)(x:Str):Jx T (.str x)=some (.bool (qX T (.str x))):=rfl
@[simp] theorem ahz(T:String)(ds:LP):Jx T (.tuple ds)=some (.bool (qX T (.tuple ds))):=rfl
@[simp] theorem ah6(T:String)(ds:LP):Jx T (.list ds)=some (.bool (qX T (.list ds))):=rfl
theorem aaI{T:String}{d e:PyData}(h:Jx T d=some e):isFn d=false/\e= .bool (qX T d):=by
 unfold Jx at h;split at h
 ·cases h
 ·rename_i hf;cases h;exact⟨by simpa using hf,rfl⟩
theorem afV{K:Fg}{T:String}(hT:T="bool" ∨ T="int" ∨ T="tuple")(d:PyData):PySem.W.kitOne K (.type (tyn d)) (.type T)=some (qX T d):=by
 rcases hT with rfl|rfl|rfl<;>cases d<;>first|rfl | (rename_i kvs;by_cases h:qz kvs=true<;>simp only[tyn,qX,h]<;>rfl)
theorem Qa{a:Expr}{fa:RP}{T:Str}{Tn:String}{p p2 pos:Pos}(hT:Tn="bool" ∨ Tn="int" ∨ Tn="tuple")(hm1:X.mg "isinstance"=none)(hm2:X.mg T=none)(hv:bootBuiltins T=some (.type Tn))(ha:PD X a fa)
  (hg1:Gl X "isinstance":=by rfl) (hg2:Gl X T:=by rfl) (hn:T≠"__name__":=by decide) (hd:(T==("__debug__":Str))=false:=by decide)
  (he:starEach [a,.Name T p2] X.env=[(false,eval a X.env),(false,eval (.Name T p2) X.env)]:=by rfl) (he2:starEach [.Name T p2] X.env=[(false,eval (.Name T p2) X.env)]:=by rfl) (hpl:(backTo pos (starEach [.Name T p2] X.env)).any (·.1)=false:=by rfl):
  PD X (.Call (.Name "isinstance" p) [a,.Name T p2] [] pos) (fun ρ=>(fa ρ).bind fun d=>Jx Tn d):=by
 with_unfolding_all
  have hT2:PE X (.Name T p2) (tC (.ty Tn)):=aca hg2 hm2 hv rfl hn hd;refine PE.imp (JC (aaH (T:=Tn)) hg1 hm1 (by decide +kernel) (qG ha (qG hT2 zP (by rw[he2];rfl)) (by rw[he,he2])) (by decide) (by decide) (by rw[he,he2]) hpl) fun σ H Q ⟨ρ,d,en,q,k⟩=>?_;cases h1:fa ρ with
  |none=>simp[h1]at q
  | some c=>
   obtain⟨hF,rfl⟩:=aaI (show Jx Tn c=some d by simpa[h1]using q);exact⟨ρ,c,en,h1,fun v H1 s1 r1=>⟨v,c,_,rfl,r1,hF,afV hT c,k _ H1 s1 rfl⟩⟩
end
noncomputable def qK(H H':Hp):Prop:=∀b o,H b=some o->(∀xs,o ≠ .lst xs)->H' b=some o
theorem jq.n{H H':Hp}(e:jq H H'):qK H H':=fun b o h _=>e b o h
theorem qK.refl(H:Hp):qK H H:=fun _ _ h _=>h
theorem qK.trans{H H1 H2:Hp}(a:qK H H1)(b:qK H1 H2):qK H H2:=fun c o h n=>b c o (a c o h n) n
theorem qK.upd{H:Hp}{p:Addr}{xs ys:List V}(hp:H p=some (.lst xs)):qK H (upd H p (.lst ys)):=fun b o h n=>by
 have:b≠p:=fun e=>by subst e;rw[hp]at h;cases h;exact n _ rfl
 rw[jm this];exact h
mutual
noncomputable def noL:PyData->Bool
 |.none=>true
 |.bool _=>true
 |.int _=>true
 |.str _=>true
 |.tuple ds=>noLs ds
 |.list _=>false
 |.dict _=>false
noncomputable def noLs:LP->Bool
 | []=>true
 |d::ds=>noL d&&noLs ds
end
section
variable {K:Fg}{H H':Hp}
theorem qK.tup{a:Addr}{xs:List V}(e:qK H H')(h:SqT K H a xs):SqT K H' a xs:=by
 rcases h with (h | ⟨o,h⟩) | h
 ·exact .inl (.inl (e _ _ h fun _ z=>nomatch z))
 ·exact .inl (.inr ⟨o,e _ _ h fun _ z=>nomatch z⟩)
 ·exact .inr h
mutual
theorem Rep.monoN(e:qK H H'):∀(d:PyData) (v:V),noL d=true->Rep K H d v->Rep K H' d v
 |.none,v,_,h=>h
 |.bool _,v,_,h=>h
 |.int _,v,_,h=>h
 |.str _,v,_,h=>h
 |.tuple ds,v,n,⟨a,xs,h1,h2,h3⟩=>⟨a,xs,h1,qK.tup e h2,Reps.monoN e ds xs (by simpa[noL]using n) h3⟩
 |.list ds,v,n,h=>by simp[noL]at n
 |.dict ds,v,n,h=>by simp[noL]at n
theorem Reps.monoN(e:qK H H'):∀(ds:LP) (xs:List V),noLs ds=true->Reps K H ds xs->Reps K H' ds xs
 | [],xs,_,h=>h
 | d::ds,xs,n,⟨x,r,h1,h2,h3⟩=>by
  have n':noL d=true/\noLs ds=true:=by simpa[noLs]using n
  exact⟨x,r,h1,Rep.monoN e d x n'.1 h2,Reps.monoN e ds r n'.2 h3⟩
end
theorem zR:∀(ds es:LP),noLs (ds++es)=(noLs ds&&noLs es)
 | [],es=>by simp[noLs]
 |d::ds,es=>by simp[noLs,zR ds es,Bool.and_assoc]
theorem JH:∀{ds:LP},(∀d∈ds,noL d=true)->noLs ds=true
 | [],_=>rfl
 |d::ds,h=>by simp[noLs,h d List.mem_cons_self,JH fun x hx=>h x (List.mem_cons_of_mem _ hx)]
end
end BX
end
section
namespace BX
open PySem PySem.Spec L2
open PyProof.Rows hiding St
noncomputable def jk(P:Program)(w:World)(K:Fg)(mg:SV)(base:Heap)(x:Str)(ps:List Str)(k n:Nat)(g:LP->OP):Prop:=
 ∃(f:Addr) (fd:FuncData),FnOk P w K mg base CX0 k f fd ps (Pur K n g)/\mg x=some (.ref f)/\PySem.W.keepIn K (.ref f)=true/\JB K fd ps []
theorem ji:∀(ρ:Rho) (ds:LP),jE ρ=some ds->ds.length=0:=fun ρ ds h=>by cases h;rfl
theorem jc{fa:RP}{fr:Rho->Option (LP)}{n:Nat}(h:∀(ρ:Rho) (ds:LP),fr ρ=some ds->ds.length=n):∀(ρ:Rho) (ds:LP),jp fa fr ρ=some ds->ds.length=n+1:=fun ρ ds q=>by
 cases h1:fa ρ with
 |none=>simp[jp,h1]at q
 | some x=>
  cases h2:fr ρ with
  |none=>simp[jp,h1,h2]at q
  | some r=>
   have:x::r=ds:=by simpa[jp,h1,h2]using q
   subst this;simp[h ρ r h2]
section
variable {X:Cx}{e:Expr}{es:List Expr}{pos:Pos}
theorem jg{k j n:Nat}{ps:List Str}{g:LP->OP}{x:Str}{p:Pos}{fr:Rho->Option (LP)}(c:jk X.prog X.w X.K X.mg X.base x ps k n g)(hr:Room j X.A)(hkj:k<=j)(ha:PAD X (e::es) fr)
  (hl:∀(ρ:Rho) (ds:LP),fr ρ=some ds->ds.length=n) (hn:(e::es).length=n:=by rfl) (hg:Gl X x:=by rfl) (hdb:(x==("__debug__":Str))=false:=by decide) (he:starEach (e::es) X.env=(false,eval e X.env)::starEach es X.env:=by rfl)
  (hpl:(backTo pos (starEach es X.env)).any (·.1)=false:=by rfl):PD X (.Call (.Name x p) (e::es) [] pos) (jH g fr):=by
 with_unfolding_all
  obtain⟨f,fd,h1,h2,h3,h4⟩:=c;exact afO h1 (hr.mono hkj) h2 h3 h4 hn ha (fun ρ ds q=>by rw[hl ρ ds q,hn]) hg hdb he hpl
end
theorem JI{ft:Rho->Option Bool}{fe:RP}{i:Nat}(p:PyData->Bool)(h:PyData->PyData):∀(ds:LP) (τ:Rho),(∀d∈ds,ft (τ.set i (some d))=some (p d))->(∀d∈ds,p d=true->fe (τ.set i (some d))=some (h d))->
  jN (jZ i) ft fe ds τ=some ((ds.filter p).map h)
 | [],τ,_,_=>rfl
 | d::ds,τ,h1,h2=>by
  have ih:=JI p h ds (τ.set i (some d)) (fun c hc=>by rw[List.set_set];exact h1 c (List.mem_cons_of_mem _ hc)) (fun c hc hp=>by rw[List.set_set];exact h2 c (List.mem_cons_of_mem _ hc) hp);simp only[jN,jZ,zzD,h1 d List.mem_cons_self];by_cases hp:p d=true
  ·simp[hp,h2 d List.mem_cons_self hp,ih,List.filter_cons]
  ·simp[hp,ih,List.filter_cons]
theorem Jb{fe:RP}{i:Nat}(h:PyData->PyData)(ds:LP)(τ:Rho)(h2:∀d∈ds,fe (τ.set i (some d))=some (h d)):jN (jZ i) afN fe ds τ=some (ds.map h):=by
 rw[JI (fun _=>true) h ds τ (fun _ _=>rfl) (fun d hd _=>h2 d hd),List.filter_eq_self.mpr (fun _ _=>rfl)]
noncomputable def acs(st:Scope)(N:List Str)(sc:Scope)(N':List Str)(cap:List (Option Nat)):Bool:=
 sc.names.all (fun x=>!decide (x.2= .free)||decide (st.names.lookup x.1=some .cell)||decide (st.names.lookup x.1=some .free))&&sc.names.all (fun x=>!decide (x.2= .cell))&&decide (sc.kind= .function) &&
 sc.names.all (fun x=>!decide (x.2= .local)||decide (sc.names.lookup x.1=some .local))&&decide (cap.length=N'.length) &&
 (List.range N'.length).all (fun j=>match N'[j]?,cap[j]? with
  | some x,some (some i)=>decide (N[i]?=some x) && decide (sc.names.lookup x=some .free)
  | _,_=>true)
theorem zE{X:Cx}{sc:Scope}{N':List Str}{cap:List (Option Nat)}(st:Scope)(N:List Str)(h:acs st N sc N' cap=true)(hst:X.env.scope=st:=by rfl)(hN:X.N=N:=by rfl):CompOk X sc N' cap:=by
 simp only[acs,Bool.and_eq_true,List.all_eq_true,Bool.or_eq_true,Bool.not_eq_true',decide_eq_true_eq,decide_eq_false_iff_not]at h;obtain⟨⟨⟨⟨⟨h1,h2⟩,h3⟩,h4⟩,h5⟩,h6⟩:=h;subst hst;subst hN;refine⟨fun x hx e=>?_,h2,h3,fun x hx e=>?_,h5,fun j i x e1 e2=>?_⟩
 ·rcases h1 x hx with (z | z) | z
  ·exact absurd e z
  ·exact .inl z
  ·exact .inr z
 ·rcases h4 x hx with z | z
  ·exact absurd e z
  ·exact z
 ·have hj:j<N'.length:=(List.getElem?_eq_some_iff.mp e1).1
  have:=h6 j (List.mem_range.mpr hj);rw[e1,e2]at this;simpa using this
section
variable {X:Cx}{Kp:List (Addr×Obj)}{σ:St}{H:Hp}{s:Shared}
end
structure Own1(X:Cx)(Kp:List (Addr×Obj))(b:Addr):Prop where
 h1:b≠X.env.locals
 h2:b∉X.fs
 h3:X.s₀.heap.objs.size<=b
 h4:∀x c,X.env.cells.lookup x=some c->c≠b
 h5:∀p∈X.pn++Kp,p.1≠b
theorem aeg:bootBuiltins "min"=some (.builtin "min"):=by decide +kernel
theorem aeh:bootBuiltins "max"=some (.builtin "max"):=by decide +kernel
section
variable {X:Cx}{a:Expr}{fa:RP}{pos p p2 p3 kp kp2:Pos}{j3:Nat}
end
noncomputable def act:Int->List Int->Int
 |b,[]=>b
 |b,d::r=>if d>b then act d r else act b r
noncomputable def ahA:Option Int->List Int->PyData
 |none,[]=> .none
 |none,d::r=> .int (act d r)
 |some b,r=> .int (act b r)
section
variable {X:Cx}{a:Expr}{fa:RP}{pos p p3 kp2:Pos}{j3:Nat}
end
end BX
end
section
namespace BX.Srt
open PySem PySem.W
open PyProof.Rows (mirror bubble mirror_size mirror_perm bubble_size bubble_perm getElem?_mirror_all getElem?_bubble)
section
variable (rk:Nat->Int)(n:Nat)
noncomputable def val(p:Array Nat)(k:Nat):Int:=rk (p.getD k 0)
noncomputable def OKp(p:Array Nat):Prop:=p.Perm (List.range n).toArray
end
section
variable {rk:Nat->Int}{n:Nat}{p p':Array Nat}
theorem OKp.size(h:OKp n p):p.size=n:=by
 have:=h.size_eq;simpa using this
theorem OKp.lt(h:OKp n p){k:Nat}(hk:k<n):p.getD k 0<n:=by
 have hs:=h.size;have e:p.getD k 0=p[k]'(by omega):=by simp[Array.getD,hs,hk]
 have:p[k]'(by omega)∈(List.range n).toArray:=h.mem_iff.mp (Array.getElem_mem _);rw[e];simpa using this
end
variable {rk:Nat->Int}{n:Nat}{cmp:Nat->Nat->(Bool->SP0)->SP0}
section
variable {s:Shared}(hc:∀i j (C:Bool->SP0),i<n->j<n->C (decide (rk i<rk j)) s->cmp i j C s)
include hc
end
end BX.Srt
end
section
namespace BX
open PySem PySem.Spec L2
open PyProof.Rows hiding St
section
variable {prog:Program}{w:World}{A:Around}{E:Value->SP0}{s:Shared}
end
theorem qw.there{P:Program}{w:World}{H:Hp}{h:Heap}{a:Addr}{o:HO}(x:qw P w H h a o):∃u,h.get? a=some u:=by
 cases o with
 |lst xs=>obtain⟨_,_,_,_,e⟩:=x;exact⟨_,e⟩
 |tup xs=>obtain⟨_,_,_,u,e,_⟩:=x;exact⟨_,e⟩
 |dK kvs=>obtain⟨_,_,_,_,o,_,_,e,_⟩:=x;exact⟨_,e⟩
 |dT kvs=>obtain⟨_,_,_,_,o,_,_,e,_⟩:=x;exact⟨_,e⟩
 |set S n=>obtain⟨o,_,_,_,e,_⟩:=x;exact⟨_,e⟩
 |ins C dx fs=>obtain⟨_,_,_,e,_⟩:=x;exact⟨_,e⟩
 |own y=>obtain⟨_,e⟩:=x;exact⟨_,e⟩
 |xd fs=>obtain⟨_,⟨_,_,_,e,_⟩,_⟩:=x;exact⟨_,e⟩
 |rng lo hi=>obtain⟨_,_,_,e⟩:=x;exact⟨_,e⟩
 |frz ob u=>obtain⟨e,_⟩:=x;exact⟨_,e⟩
 |tbl ps=>exact⟨_,(show h.get? a=some _ from x)⟩
 |met f y=>exact⟨_,(show h.get? a=some _ from x)⟩
 |ext φ=>obtain⟨_,⟨_,e⟩,_⟩:=x;exact⟨_,e⟩
noncomputable def aiM(p:Int×Int):PyData:= .tuple [.int p.1,.int p.2]
structure PairAt(h:Heap)(u:Value)(p:Int×Int):Prop where
 ex:∃a o k t t',u= .ref a/\h.get? a=some o/\o.cls= .type "tuple"/\o.data= .seq #[.int p.1 t,.int p.2 t'] k
section
variable {X:Cx}
variable {a b:Expr}{fa fb:RP}{pos p2:Pos}
noncomputable def afW:PyData->OP
 |.int i=>some (.int (-i))
 |_=>none
theorem aei(h:PD X a fa):PD X (.UnaryOp .USub a pos) (fun ρ=>(fa ρ).bind afW):=by
 with_unfolding_all
  refine PE.imp (aij ahk h) fun σ H Q ⟨ρ,d,en,q,k⟩=>?_;cases h1:fa ρ with
  |none=>simp[h1]at q
  | some y=>
   refine⟨ρ,y,en,h1,fun v H1 s1 r1=>?_⟩;have q':afW y=some d:=by simpa[h1]using q
   cases y with
   |int i=>cases q';cases (show v=_ from r1);exact⟨i,rfl,k _ H1 s1 rfl⟩
   |_=>cases q'
end
variable {X:Cx}
end BX
end
section
namespace BX
open PySem PySem.Spec L2
open PyProof.Rows hiding St
variable {X:Cx}
noncomputable def Zc(f:Expr->OP):List Expr->Option (LP)
 | []=>some []
 |e::es=>(f e).bind fun d=>(Zc f es).map fun ds=>d::ds
noncomputable def lit:Nat->Expr->OP
 |0,_=>none
 | n+1,e=>match e with
  |.Constant (.int i) _ _=>some (.int i)
  |.Constant (.bool b) _ _=>some (.bool b)
  |.Constant .none _ _=>some .none
  |.Constant (.str x) _ _=>some (.str x)
  |.Tuple es _ _=>(Zc (lit n) es).bind fun ds=>if few ds=true then some (.tuple ds) else none
  |.List es _=>(Zc (lit n) es).bind fun ds=>if few ds=true then some (.list ds) else none
  |_=>none
theorem PD.as{e:Expr}{F G:RP}(h:PD X e F)(hi:∀ρ d,G ρ=some d->F ρ=some d):PD X e G:=by
 with_unfolding_all exact(PE.imp h fun σ H Q ⟨ρ,d,en,q,k⟩=>⟨ρ,d,en,hi ρ d q,k⟩)
theorem PAD.as{es:List Expr}{F G:Rho->Option (LP)}(h:PAD X es F)(hi:∀ρ d,G ρ=some d->F ρ=some d):PAD X es G:=by
 with_unfolding_all exact(PA.imp h fun σ H Q ⟨ρ,d,en,q,k⟩=>⟨ρ,d,en,hi ρ d q,k⟩)
noncomputable def aej(e:Expr):Prop:=∀(es:List Expr) (env:Env),starEach (e::es) env=(false,eval e env)::starEach es env
theorem ZU{f:Expr->OP}(hf:∀e d,f e=some d->PD X e (cst d)/\aej e):∀(es:List Expr) (ds:LP),Zc f es=some ds->PAD X es (fun _=>some ds)
 | [],ds,h=>by cases h;exact je
 | e::es,ds,h=>by
  cases h1:f e with
  |none=>simp[Zc,h1]at h
  | some d=>
   cases h2:Zc f es with
   |none=>simp[Zc,h1,h2]at h
   | some r=>
    have:d::r=ds:=by with_unfolding_all simpa[Zc,h1,h2]using h
    subst this;obtain⟨p,st⟩:=hf e d h1;exact(ja p (ZU hf es r h2) (st es X.env)).as fun ρ d' q=>by cases q;simp[jp,cst]
theorem abH:∀(n:Nat) (e:Expr) (d:PyData),lit n e=some d->PD X e (cst d)/\aej e
 |0,e,d,h=>by cases h
 | n+1,e,d,h=>by
  unfold lit at h;split at h
  ·cases h;exact⟨jh,fun _ _=>rfl⟩
  ·cases h;exact⟨qV,fun _ _=>rfl⟩
  ·cases h;exact⟨ahs,fun _ _=>rfl⟩
  ·cases h;exact⟨abD,fun _ _=>rfl⟩
  ·rename_i es x1 pos
   cases h1:Zc (lit n) es with
   |none=>simp[h1]at h
   | some ds=>
    by_cases hf:few ds=true
    ·have:PyData.tuple ds=d:=by with_unfolding_all simpa[h1,hf]using h
     subst this;exact⟨(qx (ZU (abH n) es ds h1)).as fun ρ d' q=>by cases q;simp[J4,hf],fun _ _=>rfl⟩
    ·simp[h1,hf]at h
  ·rename_i es pos
   cases h1:Zc (lit n) es with
   |none=>simp[h1]at h
   | some ds=>
    by_cases hf:few ds=true
    ·have:PyData.list ds=d:=by simpa[h1,hf]using h
     subst this;exact⟨(Jr (ZU (abH n) es ds h1)).as fun ρ d' q=>by cases q;simp[Jq,hf],fun _ _=>rfl⟩
    ·simp[h1,hf]at h
  ·cases h
theorem Qb(n:Nat){e:Expr}(d:PyData)(h:lit n e=some d):PD X e (cst d):=by
 with_unfolding_all exact((abH n e d h).1)
end BX
end
section
namespace BX
open PySem L2
open PyProof.Rows hiding St
noncomputable def jW(K:Fg)(x:Str)(st:Stmt):Prop:=
 ∃(f:Addr) (oc:Value) (od an:Option Addr) (kV doc pm Kc ct:Value) (osl:Array (Option Value)),PySem.W.nsIn K mainGlobals x=some (some (.ref f))/\
  K.lookup f=some ⟨oc,od,.func (PySem.W.fnOf x x (zB st) (jQ st) (jj st) .none kV doc pm an Kc ct),osl⟩/\PySem.W.codeIn K Kc x=true/\PySem.W.keepIn K (.ref f)=true
theorem aek{K:Fg}{x:Str}{st:Stmt}{f:Addr}{oc:Value}{od an:Option Addr}{kV doc pm Kc ct:Value}{osl:Array (Option Value)}(a:PySem.W.nsIn K mainGlobals x=some (some (.ref f)))
  (l:K.lookup f=some ⟨oc,od,.func (PySem.W.fnOf x x (zB st) (jQ st) (jj st) .none kV doc pm an Kc ct),osl⟩) (c:PySem.W.codeIn K Kc x=true) (k:PySem.W.keepIn K (.ref f)=true):jW K x st:=
 ⟨f,oc,od,an,kV,doc,pm,Kc,ct,osl,a,l,c,k⟩
noncomputable abbrev jt(x:Str)(st:Stmt)(ps:List Str):Prop:=∀(kV doc pm:Value) (an:Option Addr) (Kc ct:Value) (us:List Value),us.length=ps.length->bindArgs (PySem.W.fnOf x x (zB st) (jQ st) (jj st) .none kV doc pm an Kc ct) ⟨us,[]⟩=pure (ps.zip us)
theorem jW.callee{P:Program}{w:World}{K:Fg}{mg:SV}{base h:Heap}{x:Str}{st:Stmt}{ps:List Str}{k n:Nat}{g:LP->OP}(T:jW K x st)(X:K.In h)(G:h.Ns mainGlobals mg)
  (hb:jt x st ps) (F:∀(f:Addr) (fd:FuncData),Fun K x x st f fd->FnOk P w K mg base CX0 k f fd ps (Pur K n g)):jk P w K mg base x ps k n g:=by
 obtain⟨f,oc,od,an,kV,doc,pm,Kc,ct,osl,a,l,c,kp⟩:=T;have F1:=adX (st:=st) l c kp;exact⟨f,_,F f _ F1,PySem.W.mg_of X G a,kp,F1.binds hb⟩
theorem jk.as{P:Program}{w:World}{K:Fg}{mg:SV}{base:Heap}{x:Str}{ps:List Str}{k n:Nat}{g g':LP->OP}(C:jk P w K mg base x ps k n g)(h:∀ds d,g' ds=some d->g ds=some d):jk P w K mg base x ps k n g':=by
 obtain⟨f,fd,F,a,b,c⟩:=C;exact⟨f,fd,aiE F fun ds d _ q=>h ds d q,a,b,c⟩
theorem QS{K:Fg}{mg:SV}{h:Heap}{x:Str}{a:Addr}{ob:Obj}{ds:LP}(X:K.In h)(G:h.Ns mainGlobals mg)(e:PySem.W.nsIn K mainGlobals x=some (some (.ref a)))(l:K.lookup a=some ob)
  (hc:ob.cls= .type "tuple") (hi:∃(its:Array Value) (n:Nat) (xs:List V),ob.data= .seq its n/\its.size<=sizeLine/\jx xs its.toList/\∀H,Reps K H ds xs):∃v u,mg x=some u/\jO v u/\∀H,Rep K H (.tuple ds) v:=by
 obtain⟨its,n,xs,h1,h2,h3,h4⟩:=hi;exact⟨.ref a,.ref a,PySem.W.mg_of X G e,rfl,fun H=>⟨a,xs,rfl,.inr ⟨ob,its,n,l,hc,h1,h2,h3⟩,h4 H⟩⟩
end BX
end
section
namespace BX
open PySem PySem.Spec L2
open PyProof.Rows hiding St
noncomputable def JJ(a:Addr)(xs:List V):HO:= .ext fun h=>xs.length<=sizeLine/\∃(its:List Value) (n:Nat),jx xs its/\h.get? a=some { cls:= .type "list",data:= .seq its.toArray n }
noncomputable def agP(P:Program)(w:World)(a:Addr)(ob:Obj)(ks:List (Key×V)):HO:= .ext fun h=>h.get? a=some ob/\ks.length<=sizeLine/\(a==sysModules)=false/\∃vs,KV ks vs/\h.DictOf (qO P w) a vs
inductive Seal (P:Program) (w:World) (a:Addr):HO->HO->Prop where
 |l (xs:List V):Seal P w a (JJ a xs) (.lst xs)
 |d (ob:Obj) (ks:List (Key×V)):Seal P w a (agP P w a ob ks) (.frz ob (.dK ks))
theorem Seal.ext{P:Program}{w:World}{a:Addr}{c o:HO}(S:Seal P w a c o):∃φ,c= .ext φ:=by cases S<;>exact⟨_,rfl⟩
section
variable {X:Cx}{Kp:List (Addr×Obj)}{σ:St}{H:Hp}{s:Shared}{a:Addr}{c o:HO}
theorem Inv.opened(I:Inv X Kp σ H s)(S:Seal X.prog X.w a c o)(e:H a=some c):Inv X Kp σ (upd H a o) s:=by
 have q:=I.hok a c e;have mu:Mut (H a):=by rw[e];obtain⟨φ,rfl⟩:=S.ext;trivial
 cases S with
 | l xs=>
  obtain⟨h1,h2,_⟩:=q;exact I.write (x:=a) (e:=a) (h':=s.heap) (t':=s.toks) mu (.inl rfl) (fun _ _ _ z=>z) h2 h1
 | d ob ks=>
  obtain⟨h1,h2,_⟩:=q;exact I.write (x:=a) (e:=a) (h':=s.heap) (t':=s.toks) mu (.inl rfl) (fun _ _ _ z=>z) h2 ⟨h1.1,h1.2⟩
theorem Inv.redesc{o1 o2:HO}(I:Inv X Kp σ H s)(h1:H a=some o1)(n1:∀y,o1 ≠ .own y)(n2:∀xs,o1 ≠ .tup xs)(n3:∀ps,o1 ≠ .tbl ps)(nf:∀ob u,X.H₀ a≠some (.frz ob u))(new:qw X.prog X.w (upd H a o2) s.heap a o2):Inv X Kp σ (upd H a o2) s:=by
 have na:∀b,H b=none->upd H a o2 b=none:=fun b z=>by
  have:b≠a:=fun q=>by subst q;rw[h1]at z;cases z
  rw[jm this];exact z
 refine⟨I.ok,I.os,I.bare,⟨I.base.keep,I.base.slot,fun b u q n hx=>na b (I.base.free b u q n hx),I.base.there,fun b xs q=>?_,fun b ob u q=>?_,fun b ps q=>?_⟩,I.loc,I.cell,na _ I.free,fun x c' q=>na _ (I.freeC x c' q),fun p hp=>?_,fun b u q=>?_,I.len⟩
 ·have q':=I.base.tups b xs q
  have:b≠a:=fun z=>by subst z;rw[h1]at q';cases q';exact n2 _ rfl
  rw[jm this];exact q'
 ·have:b≠a:=fun z=>by subst z;exact nf _ _ q
  rw[jm this];exact I.base.frzs b ob u q
 ·obtain⟨more,q'⟩:=I.base.tbls b ps q
  have:b≠a:=fun z=>by subst z;rw[h1]at q';cases q';exact n3 _ rfl
  exact⟨more,by rw[jm this];exact q'⟩
 ·obtain⟨g1,g2,g3⟩:=I.pin p hp
  exact⟨g1,na _ g2,g3⟩
 ·by_cases hb:b=a
  ·subst hb
   rw[jr]at q;cases q;exact new
  ·rw[jm hb]at q
   refine(I.hok b u q).stay (fun c' v _ z=>z) (fun c' z=>?_) fun c' xs z=>?_
   ·have:c'≠a:=fun m=>by subst m;rw[h1]at z;cases z;exact n1 _ rfl
    rw[jm this];exact z
   ·have:c'≠a:=fun m=>by subst m;rw[h1]at z;cases z;exact n2 _ rfl
    rw[jm this];exact z
theorem Inv.nofrz{φ:Heap->Prop}(I:Inv X Kp σ H s)(e:H a=some (.ext φ)):∀ob u,X.H₀ a≠some (.frz ob u):=fun ob u z=>by
 have:=I.base.frzs _ _ _ z;rw[e]at this;cases this
theorem Inv.closed(I:Inv X Kp σ H s)(S:Seal X.prog X.w a c o)(e:H a=some o)(nf:∀ob u,X.H₀ a≠some (.frz ob u)):Inv X Kp σ (upd H a c) s:=by
 have q:=I.hok a o e;cases S with
 | l xs=>
  obtain⟨h1,its,n,h2,h3⟩:=q;refine I.write (x:=a) (e:=a) (h':=s.heap) (t':=s.toks) (by rw[e];trivial) (.inl rfl) (fun _ _ _ z=>z) ⟨_,h3⟩ ⟨⟨h1,its,n,h2,h3⟩,⟨_,h3⟩,?_⟩
  rintro g1 g2 ⟨z1,its,n,z2,z3⟩ k
  exact⟨z1,its,n,z2,k _ z3⟩
 | d ob ks=>
  obtain⟨h0,h1,h2,vs,h3,ob',es,ep,h4,h5⟩:=q;refine Inv.redesc I e (fun _ z=>nomatch z) (fun _ z=>nomatch z) (fun _ z=>nomatch z) nf ⟨⟨h0,h1,h2,vs,h3,ob',es,ep,h4,h5⟩,⟨_,h4⟩,?_⟩
  rintro g1 g2 ⟨z0,z1,z2,vs,z3,ob',es,ep,z4,z5⟩ k
  exact⟨k _ z0,z1,z2,vs,z3,ob',es,ep,k _ z4,z5⟩
end
mutual
noncomputable def noD:PyData->Bool
 |.tuple ds=>noDs ds
 |.list ds=>noDs ds
 |.dict _=>false
 |_=>true
noncomputable def noDs:LP->Bool
 | []=>true
 |d::ds=>noD d&&noDs ds
end
noncomputable def aaJ(H H':Hp):Prop:=∀b o,H b=some o->(∀ob ks,o ≠ .frz ob (.dK ks))->H' b=some o
section
variable {K:Fg}{H H':Hp}
theorem aaJ.tup{a:Addr}{xs:List V}(e:aaJ H H')(h:SqT K H a xs):SqT K H' a xs:=by
 rcases h with (h | ⟨o,h⟩) | h
 ·exact .inl (.inl (e _ _ h fun _ _ z=>nomatch z))
 ·exact .inl (.inr ⟨o,e _ _ h fun _ _ z=>nomatch z⟩)
 ·exact .inr h
mutual
theorem Rep.monoM(e:aaJ H H'):∀(d:PyData) (v:V),noD d=true->Rep K H d v->Rep K H' d v
 |.none,v,_,h=>h
 |.bool _,v,_,h=>h
 |.int _,v,_,h=>h
 |.str _,v,_,h=>h
 |.tuple ds,v,n,⟨a,xs,h1,h2,h3⟩=>⟨a,xs,h1,aaJ.tup e h2,Reps.monoM e ds xs (by simpa[noD]using n) h3⟩
 |.list ds,v,n,⟨a,xs,h1,h2,h3⟩=>⟨a,xs,h1,e _ _ h2 (fun _ _ z=>nomatch z),Reps.monoM e ds xs (by simpa[noD]using n) h3⟩
 |.dict ds,v,n,h=>by simp[noD]at n
theorem Reps.monoM(e:aaJ H H'):∀(ds:LP) (xs:List V),noDs ds=true->Reps K H ds xs->Reps K H' ds xs
 | [],xs,_,h=>h
 | d::ds,xs,n,⟨x,r,h1,h2,h3⟩=>by
  have n':noD d=true/\noDs ds=true:=by simpa[noDs]using n
  exact⟨x,r,h1,Rep.monoM e d x n'.1 h2,Reps.monoM e ds r n'.2 h3⟩
end
end
noncomputable def okB(c d:PyData):Bool:=match c with
 |.list _=>noL d
 |.dict _=>noD d
 |_=>false
noncomputable def JK(P:Program)(w:World)(K:Fg)(H:Hp)(a:Addr):PyData->Prop
 |.list ds=>∃xs,H a=some (JJ a xs)/\Reps K H ds xs
 |.dict kvs=>∃ks r ob,kvs=(.none,.none)::r/\H a=some (agP P w a ob ks)/\RepM K H r ks
 |_=>False
theorem JK.out{P:Program}{w:World}{K:Fg}{H:Hp}{a:Addr}{d:PyData}(h:JK P w K H a d):∃c o,Seal P w a c o/\H a=some c/\
  (∀H',jI H H'->H' a=some o->Rep K H' d (.ref a))/\(∀H',jI H H'->H' a=some c->JK P w K H' a d)/\
  ∀x H3 v,okB d x=true->H3 a=some o->Rep K H3 x v->Rep K (upd H3 a c) x v:=by
 cases d with
 | list ds=>
  obtain⟨xs,h1,h2⟩:=h
  exact⟨_,_,.l xs,h1,fun H' e q=>⟨a,xs,rfl,q,Reps.monoE e _ _ h2⟩,fun H' e q=>⟨xs,q,Reps.monoE e _ _ h2⟩,fun x H3 v n q r=>Rep.monoN (fun b u hb m=>by
   have:b ≠ a:=fun z=>by subst z; rw [q] at hb; cases hb; exact m _ rfl
   rw [jm this]; exact hb) x v n r⟩
 | dict kvs=>
  obtain⟨ks,r,ob,rfl,h1,h2⟩:=h
  exact⟨_,_,.d ob ks,h1,fun H' e q=>⟨a,rfl,.inr (.inl ⟨ks,ob,q,show RepM K H' r ks from RepM.monoE e _ _ h2⟩)⟩,fun H' e q=>⟨ks,r,ob,rfl,q,RepM.monoE e _ _ h2⟩,fun x H3 v n q r=>Rep.monoM (fun b u hb m=>by
   have:b ≠ a:=fun z=>by subst z; rw [q] at hb; cases hb; exact m _ _ rfl
   rw [jm this]; exact hb) x v n r⟩
 |none=>exact h.elim
 |bool _=>exact h.elim
 |int _=>exact h.elim
 |str _=>exact h.elim
 |tuple _=>exact h.elim
theorem jI.upd{H:Hp}{a:Addr}{φ:Heap->Prop}{o:HO}(e:H a=some (.ext φ)):jI H (upd H a o):=fun b u h n=>by
 have:b≠a:=fun z=>by subst z;rw[e]at h;cases h;exact n _ rfl
 rw[jm this];exact h
structure EnvO(P:Program)(w:World)(K:Fg)(Hs H:Hp)(own:Option Nat)(ρ:Rho)(σ:St):Prop where
 len:ρ.length=σ.length
 sm:jq Hs H
 pl:∀i d,ρ[i]?=some (some d)->own≠some i->∃v,σ[i]?=some (some v)/\Rep K H d v
 ow:∀i,own=some i->∃d a,ρ[i]?=some (some d)/\σ[i]?=some (some (.ref a))/\Hs a=none/\JK P w K H a d
noncomputable def hid(own:Option Nat)(ρ:Rho):Rho:=match own with
 |none=>ρ
 |some i=>ρ.set i none
section
variable {P:Program}{w:World}{K:Fg}{Hs H H':Hp}{own:Option Nat}{ρ:Rho}{σ:St}
theorem EnvO.of(e:EnvR K H ρ σ)(s:jq Hs H):EnvO P w K Hs H none ρ σ:=⟨e.len,s,fun i d h _=>e.at' i d h,fun i z=>nomatch z⟩
theorem EnvO.to(e:EnvO P w K Hs H none ρ σ):EnvR K H ρ σ:=⟨e.len,fun i d h=>e.pl i d h (fun z=>nomatch z)⟩
theorem EnvO.hid(e:EnvO P w K Hs H own ρ σ):EnvR K H (hid own ρ) σ:=by
 cases own with
 |none=>exact e.to
 | some i=>
  refine⟨by simp[BX.hid,e.len],fun j d h=>?_⟩;by_cases hj:i=j
  ·subst hj
   simp only[BX.hid]at h;rw[List.getElem?_set]at h;simp at h
  ·simp only[BX.hid]at h
   rw[List.getElem?_set_ne hj]at h;exact e.pl j d h (fun z=>hj (Option.some.inj z))
theorem JK.mono{a:Addr}{d:PyData}(h:JK P w K H a d)(s:jq H H'):JK P w K H' a d:=by
 obtain⟨c,o,_,h1,_,h2,_⟩:=h.out;exact h2 H' (jq.e s) (s _ _ h1)
theorem EnvO.mono(e:EnvO P w K Hs H own ρ σ)(s:jq H H'):EnvO P w K Hs H' own ρ σ:=
 ⟨e.len,e.sm.trans s,fun i d h n=>let ⟨v,h1,h2⟩:=e.pl i d h n;⟨v,h1,Rep.mono s d v h2⟩,fun i n=>let ⟨d,a,h1,h2,h3,h4⟩:=e.ow i n;⟨d,a,h1,h2,h3,h4.mono s⟩⟩
theorem EnvO.opn{i:Nat}(e:EnvO P w K Hs H (some i) ρ σ):∃d a c o,ρ[i]?=some (some d)/\σ[i]?=some (some (.ref a))/\Hs a=none/\Seal P w a c o/\H a=some c/\EnvR K (upd H a o) ρ σ/\jq Hs (upd H a o)/\
  (∀H3,jq (upd H a o) H3->jI H (upd H3 a c)/\EnvO P w K Hs (upd H3 a c) (some i) ρ σ)/\∀x H3 v,okB d x=true->H3 a=some o->Rep K H3 x v->Rep K (upd H3 a c) x v:=by
 obtain⟨d,a,h1,h2,h3,h4⟩:=e.ow i rfl;obtain⟨c,o,S,h5,h6,h7,h8⟩:=h4.out;obtain⟨φ,rfl⟩:=S.ext;have s1:jI H (upd H a o):=jI.upd h5;have sH:∀{H2:Hp},(∀b u,b≠a->H b=some u->H2 b=some u)->jq Hs H2:=fun {H2} k b u q=>k b u (fun z=>by subst z;rw[h3]at q;cases q) (e.sm b u q);refine⟨d,a,_,o,h1,h2,h3,S,h5,⟨e.len,fun j x q=>?_⟩,sH fun b u n q=>by rw[jm n];exact q,fun H3 s3=>⟨fun b u q m=>?_,e.len,sH fun b u n q=>by rw[jm n];exact s3 b u (by rw[jm n];exact q),fun j x q n=>?_,fun j n=>?_⟩,h8⟩
 ·by_cases hj:i=j
  ·subst hj
   rw[h1]at q;cases q;exact⟨.ref a,h2,h6 _ s1 jr⟩
  ·obtain⟨v,g1,g2⟩:=e.pl j x q (fun z=>hj (Option.some.inj z))
   exact⟨v,g1,Rep.monoE s1 _ _ g2⟩
 ·have:b≠a:=fun z=>by subst z;rw[h5]at q;cases q;exact m _ rfl
  rw[jm this];exact s3 b u (by rw[jm this];exact q)
 ·have s4:jI H (upd H3 a (.ext φ)):=fun b u q m=>by
   have:b≠a:=fun z=>by subst z;rw[h5]at q;cases q;exact m _ rfl
   rw[jm this];exact s3 b u (by rw[jm this];exact q)
  obtain⟨v,g1,g2⟩:=e.pl j x q n;exact⟨v,g1,Rep.monoE s4 _ _ g2⟩
 ·cases n
  have s4:jI H (upd H3 a (.ext φ)):=fun b u q m=>by
   have:b≠a:=fun z=>by subst z;rw[h5]at q;cases q;exact m _ rfl
   rw[jm this];exact s3 b u (by rw[jm this];exact q)
  exact⟨d,a,h1,h2,h3,h7 _ s4 jr⟩
end
end BX
end
section
namespace BX
open PySem PySem.Spec L2
open PyProof.Rows hiding St
noncomputable def brw(own:Option Nat)(f:RP):RP:=fun ρ=>match f (hid own ρ)with
 |some d=>some d
 | none=>match own with
  |none=>none
  | some i=>match f ρ,lkp i ρ with
   |some d,some c=>if okB c d=true then some d else none
   |_,_=>none
section
variable {X:Cx}{e a b c tg src:Expr}{es:List Expr}{st:Stmt}{sts rest:List Stmt}{fa fb fc:RP}{F G:RO}{pos:Pos}{own:Option Nat}
noncomputable def tF(P:Program)(w:World)(K:Fg)(own:Option Nat)(f:RP):TE:=fun σ H Q=>∃Hs ρ d,EnvO P w K Hs H own ρ σ/\f ρ=some d/\∀v H',jq Hs H'->Rep K H' d v->Q v H'
theorem ahB(h:PD X e fa):PE X e (tF X.prog X.w X.K own fa):=by
 with_unfolding_all
  intro Kp s σ H Q I ⟨Hs,ρ,d,E,h1,k⟩;cases own with
  |none=>exact h Kp s σ H Q I ⟨ρ,d,E.to,h1,fun v H' s r=>k v H' (E.sm.trans s) r⟩
  | some i=>
   obtain⟨d0,a,cl,o,g1,g2,g3,S,g4,env,sm,back,keep⟩:=E.opn;exact h Kp s σ (upd H a o) Q (Inv.opened I S g4) ⟨ρ,d,env,h1,fun v H3 s3 r3=>k v H3 (sm.trans s3) r3⟩
noncomputable def aiN(P:Program)(w:World)(K:Fg)(Hs:Hp)(own:Option Nat)(D:Ends):Out->Prop
 |.nx ρ=>∀σ H,EnvO P w K Hs H own ρ σ->D.nx σ H
 |.rt d=>∀v H,jq Hs H->Rep K H d v->D.rt v H
 |.bk ρ=>∀σ H,EnvO P w K Hs H own ρ σ->D.bk σ H
 |.ct ρ=>∀σ H,EnvO P w K Hs H own ρ σ->D.ct σ H
noncomputable def tOS(P:Program)(w:World)(K:Fg)(own:Option Nat)(F:RO):TS:=fun D σ H=>∃Hs ρ o,EnvO P w K Hs H own ρ σ/\F ρ=some o/\aiN P w K Hs own D o
@[irreducible] noncomputable def PSO(X:Cx)(own:Option Nat)(st:Stmt)(F:RO):Prop:=PS X st (tOS X.prog X.w X.K own F)
@[irreducible] noncomputable def aaK(X:Cx)(own:Option Nat)(sts:List Stmt)(F:RO):Prop:=PSs X sts (tOS X.prog X.w X.K own F)
theorem ael(h:aaK X none sts F):QM X sts F:=by
 with_unfolding_all
  refine PSs.imp h fun D σ H ⟨ρ,o,en,q,k⟩=>⟨H,ρ,o,EnvO.of en (jq.refl H),q,?_⟩;cases o with
  |nx ρ'=>exact fun σ' H' E=>k σ' H' E.sm E.to
  |rt d=>exact fun v H' s r=>k v H' s r
  |bk ρ'=>exact fun σ' H' E=>k σ' H' E.sm E.to
  |ct ρ'=>exact fun σ' H' E=>k σ' H' E.sm E.to
theorem QT:aaK X own [] qr:=by
 with_unfolding_all
  refine PSs.imp acb fun D σ H ⟨Hs,ρ,o,E,q,k⟩=>?_;cases q;exact k σ H E
theorem zx(h1 : PSO X own st F)(h2 : aaK X own rest G) : aaK X own (st :: rest) (jT F G) := by
  with_unfolding_all
   refine PSs.imp (zO h1 h2) fun D σ H ⟨Hs, ρ, o, E, q, k⟩ => ?_;cases hf : F ρ with
   |none => simp[jT, hf]at q
   | some p =>
     refine⟨Hs, ρ, p, E, hf, ?_⟩;cases p with
     |nx ρ' => exact fun σ' H' E' => ⟨Hs, ρ', o, E', by simpa[jT, hf]using q, k⟩
     | rt d => have : Out.rt d = o := by simpa[jT, hf]using q
               subst this;exact k
     | bk d => have : Out.bk d = o := by simpa[jT, hf]using q
               subst this;exact k
     | ct d => have : Out.ct d = o := by simpa[jT, hf]using q
               subst this;exact k
theorem afX(h:PD X e fa):PSO X own (.Return (some e) pos) (qq fa):=by
 with_unfolding_all
  refine PS.imp (abr (ahB (own:=own) h)) fun D σ H ⟨Hs,ρ,o,E,q,k⟩=>?_;cases h1:fa ρ with
  |none=>simp[qq,h1]at q
  | some d=>
   have:Out.rt d=o:=by simpa[qq,h1]using q
   subst this;exact⟨Hs,ρ,d,E,h1,k⟩
theorem EnvO.set{P:Program}{w:World}{K:Fg}{Hs H:Hp}{ρ:Rho}{σ:St}{i:Nat}{d:PyData}{v:V}(E:EnvO P w K Hs H own ρ σ)(hi:own≠some i)(r:Rep K H d v):EnvO P w K Hs H own (ρ.set i (some d)) (σ.set i (some v)):=by
 refine⟨by simp[E.len],E.sm,fun j x q n=>?_,fun j n=>?_⟩
 ·by_cases hj:i=j
  ·subst hj
   rw[List.getElem?_set]at q ⊢;simp only[zzM]at q ⊢;by_cases hl:i < ρ.length
   ·rw[if_pos hl]at q
    rw[if_pos (by rw[←E.len];exact hl)];cases q;exact⟨v,rfl,r⟩
   ·rw[if_neg hl]at q;cases q
  ·rw[List.getElem?_set_ne hj]at q ⊢
   exact E.pl j x q n
 ·have hj:i≠j:=fun z=>by subst z;exact hi n
  rw[List.getElem?_set_ne hj,List.getElem?_set_ne hj];exact E.ow j n
end
section
variable {X:Cx}{e a b c tg src:Expr}{es:List Expr}{st:Stmt}{sts rest body:List Stmt}{fa fb fc:RP}{F G:RO}{pos:Pos}{own:Option Nat}
@[irreducible] noncomputable def PGO(X:Cx)(own:Option Nat)(tg:Expr)(ga:PyData->Rho->Option Rho):Prop:=
 PG X tg fun v σ H Q=>∃Hs ρ d ρ',EnvO X.prog X.w X.K Hs H own ρ σ/\Rep X.K H d v/\ga d ρ=some ρ'/\∀σ' H',EnvO X.prog X.w X.K Hs H' own ρ' σ'->Q σ' H'
theorem aaL(i:Nat){x:Str}(hN:X.N.Nodup)(ho:own≠some i:=by decide)(hi:X.N[i]?=some x:=by rfl)(hx:Loc X.env.scope x:=by first|exact Or.inl rfl|exact Or.inr rfl)
  (hf:X.fn x=true∨X.env.scope.names.lookup x=some .local:=by first|exact .inl rfl|exact .inr rfl|assumption):PGO X own (.Name x pos) (jZ i):=by
 with_unfolding_all
  refine PG.imp (Qr hN hi hx hf) fun v σ H Q ⟨Hs,ρ,d,ρ',E,r,q,k⟩=>?_;cases q;exact k _ H (E.set ho r)
theorem EnvO.rebase{P:Program}{w:World}{K:Fg}{Hs H:Hp}{ρ:Rho}{σ:St}(E:EnvO P w K Hs H own ρ σ):∃Hb,EnvO P w K Hb H own ρ σ/\(∀H3,jq Hb H3->jI H H3)/\
  (∀H3 ρ3 σ3,EnvO P w K Hb H3 own ρ3 σ3->EnvO P w K Hs H3 own ρ3 σ3)/\∀H3,jq Hb H3->jq Hs H3:=by
 cases own with
 |none=>exact⟨H,⟨E.len,jq.refl H,E.pl,fun i z=>nomatch z⟩,fun _ s=>jq.e s,fun H3 ρ3 σ3 E3=>⟨E3.len,E.sm.trans E3.sm,E3.pl,fun i z=>nomatch z⟩,fun _ s=>E.sm.trans s⟩
 | some i=>
  obtain⟨d,a,h1,h2,h3,h4⟩:=E.ow i rfl;obtain⟨c,o,S,h5,_⟩:=h4.out;obtain⟨φ,rfl⟩:=S.ext;let Hb:Hp:=fun b=>if b=a then none else H b
  have ha:Hb a=none:=if_pos rfl;have hb:∀b,b≠a->Hb b=H b:=fun b n=>if_neg n
  have sH:∀H3,jq Hb H3->jq Hs H3:=fun H3 s b u q=>by
   have n:b≠a:=fun z=>by subst z;rw[h3]at q;cases q
   exact s b u (by rw[hb b n];exact E.sm b u q)
  refine⟨Hb,⟨E.len,fun b u q=>?_,E.pl,fun j n=>?_⟩,fun H3 s b u q m=>?_,fun H3 ρ3 σ3 E3=>⟨E3.len,sH H3 E3.sm,E3.pl,fun j n=>?_⟩,sH⟩
  ·by_cases n:b=a
   ·subst n;rw[ha]at q;cases q
   ·rw[hb b n]at q;exact q
  ·cases n
   exact⟨d,a,h1,h2,ha,h4⟩
  ·have n:b≠a:=fun z=>by subst z;rw[h5]at q;cases q;exact m _ rfl
   exact s b u (by rw[hb b n];exact q)
  ·obtain⟨d3,a3,g1,g2,g3,g4⟩:=E3.ow j n
   refine⟨d3,a3,g1,g2,?_,g4⟩;by_cases z:a3=a
   ·rw[z];exact h3
   ·rw[hb a3 z]at g3
    cases q:Hs a3 with
    |none=>rfl
    |some u=>have:=E.sm _ _ q;rw[g3]at this;cases this
theorem acu{fi:Rho->Option (LP)}{ga:PyData->Rho->Option Rho}(hp:PassesOwn (model X.prog X.w) X.A X.env X.xe)(hc:X.calm=true)(hi:PID X tg src fi)(hg:PGO X own tg ga)(hb:aaK X own body F)
  (hs:∀x,foldedSetIterable src X.env x=pure x:=by intro _;rfl):PSO X own (.For tg src body [] pos) (QP (fun ρ=>fi (hid own ρ)) ga F):=by
 with_unfolding_all
  refine PS.imp (ZL hp hc hi hg hb hs) fun D σ H ⟨Hs,ρ,o,E,q,k⟩=>?_;cases h1:fi (hid own ρ)with
  |none=>simp[QP,h1]at q
  | some ds=>
   have q':jD ga F ds ρ=some o:=by simpa[QP,h1]using q
   refine⟨hid own ρ,ds,E.hid,h1,fun J H1 s1 Y=>?_⟩;obtain⟨Hb,Eb,sE,back,sb⟩:=(E.mono s1).rebase;refine⟨fun i m σ H2=>m=ds.length-i/\i<=ds.length/\∃ρ2,EnvO X.prog X.w X.K Hb H2 own ρ2 σ/\jD ga F (ds.drop i) ρ2=some o,⟨ds.length,by simp,Nat.zero_le _,ρ,Eb,by simpa using q'⟩,?_⟩
   rintro i m σ2 H2 ⟨rfl,hi,ρ2,en2,q2⟩
   obtain⟨g1,g2,g3⟩:=Y i H2 (jI.a (sE H2 en2.sm));by_cases hlt:i<ds.length
   ·right
    have hd:ds.drop i=ds[i]::ds.drop (i+1):=List.drop_eq_getElem_cons hlt;rw[hd]at q2;refine⟨g1 hlt,fun σ3 H3=>∃ρ3,EnvO X.prog X.w X.K Hb H3 own ρ3 σ3/\jD ga F (ds.drop (i+1)) ρ3=some o,fun σ3 H3 ⟨ρ3,a2,a3⟩=>⟨ds.length-(i+1),by omega,rfl,hlt,ρ3,a2,a3⟩,fun x H3 y=>?_⟩;obtain⟨s3,r3⟩:=g3 x H3 y;have r3':=r3 ds[i] (by simp[hlt]);cases h4:ga ds[i] ρ2 with
    |none=>simp[jD,h4]at q2
    | some ρ4=>
     refine⟨Hb,ρ2,ds[i],ρ4,en2.mono s3,r3',h4,fun σ5 H5 en5=>?_⟩;cases h5:F ρ4 with
     |none=>simp[jD,h4,h5]at q2
     | some p=>
      refine⟨Hb,ρ4,p,en5,h5,?_⟩;cases p with
      |nx ρ6=>exact fun σ6 H6 en6=>⟨ρ6,en6,by simpa[jD,h4,h5]using q2⟩
      |ct ρ6=>exact fun σ6 H6 en6=>⟨ρ6,en6,by simpa[jD,h4,h5]using q2⟩
      | bk ρ6=>
       have:Out.nx ρ6=o:=by simpa[jD,h4,h5]using q2
       subst this;exact fun σ6 H6 en6=>k σ6 H6 (back _ _ _ en6)
      | rt d=>
       have:Out.rt d=o:=by simpa[jD,h4,h5]using q2
       subst this;exact fun v H6 s6 r6=>k v H6 (sb _ s6) r6
   ·left
    have he:i=ds.length:=by omega
    have hn:ds.drop i=[]:=by rw[he];simp
    rw[hn]at q2;have:Out.nx ρ2=o:=by simpa[jD]using q2
    subst this;exact⟨g2 (by omega),k σ2 H2 (back _ _ _ en2)⟩
end
theorem ab8{H:Hp}{a:Addr}{o o':HO}:upd (upd H a o) a o'=upd H a o':=by
 funext b;by_cases h:b=a
 ·subst h;rw[jr,jr]
 ·rw[jm h,jm h,jm h]
section
variable {P:Program}{w:World}{K:Fg}{Hs H:Hp}{ρ:Rho}{σ:St}{i:Nat}
theorem EnvO.put{a:Addr}{d d':PyData}{φ:Heap->Prop}{H3:Hp}{c:HO}(E:EnvO P w K Hs H (some i) ρ σ)(h0:ρ[i]?=some (some d))(h2:σ[i]?=some (some (.ref a)))(h3:Hs a=none)(h5:H a=some (.ext φ))
  (s3:∀b u,b≠a->H b=some u->H3 b=some u) (ow:JK P w K (upd H3 a c) a d'):EnvO P w K Hs (upd H3 a c) (some i) (ρ.set i (some d')) σ:=by
 have hi:i < ρ.length:=(List.getElem?_eq_some_iff.mp h0).1
 have s4:jI H (upd H3 a c):=fun b u q m=>by
  have:b≠a:=fun z=>by subst z;rw[h5]at q;cases q;exact m _ rfl
  rw[jm this];exact s3 b u this q
 refine⟨by simp[E.len],fun b u q=>?_,fun j x q n=>?_,fun j n=>?_⟩
 ·have:b≠a:=fun z=>by subst z;rw[h3]at q;cases q
  rw[jm this];exact s3 b u this (E.sm b u q)
 ·have hj:i≠j:=fun z=>n (by rw[z])
  rw[List.getElem?_set_ne hj]at q;obtain⟨v,g1,g2⟩:=E.pl j x q n;exact⟨v,g1,Rep.monoE s4 _ _ g2⟩
 ·cases n
  exact⟨d',a,by rw[List.getElem?_set_self hi],h2,h3,ow⟩
theorem EnvO.opnL{ds:LP}(E:EnvO P w K Hs H (some i) ρ σ)(h:ρ[i]?=some (some (.list ds))):∃a xs,σ[i]?=some (some (.ref a))/\Hs a=none/\H a=some (JJ a xs)/\Reps K H ds xs/\EnvR K (upd H a (.lst xs)) ρ σ:=by
 obtain⟨d,a,h1,h2,h3,h4⟩:=E.ow i rfl;rw[h]at h1;cases h1;obtain⟨xs,h5,h6⟩:=h4;have s1:jI H (upd H a (.lst xs)):=jI.upd h5;refine⟨a,xs,h2,h3,h5,h6,E.len,fun j x q=>?_⟩;by_cases hj:i=j
 ·subst hj
  rw[h]at q;cases q;exact⟨.ref a,h2,a,xs,rfl,jr,Reps.monoE s1 _ _ h6⟩
 ·obtain⟨v,g1,g2⟩:=E.pl j x q (fun z=>hj (Option.some.inj z))
  exact⟨v,g1,Rep.monoE s1 _ _ g2⟩
end
section
variable {X:Cx}{e a b c tg src:Expr}{es:List Expr}{st:Stmt}{sts rest body:List Stmt}{fa fb fc:RP}{F G:RO}{pos:Pos}
noncomputable def aiO(P:Program)(w:World)(K:Fg)(i:Nat)(g:RP):TE:=fun σ H Q=>∃Hs ρ d',EnvO P w K Hs H (some i) ρ σ/\g ρ=some d'/\∀H',EnvO P w K Hs H' (some i) (ρ.set i (some d')) σ->Q .non H'
noncomputable def abI(i:Nat)(g:RP):RO:=fun ρ=>(g ρ).map fun d=> .nx (ρ.set i (some d))
theorem afY{i:Nat}{g:RP}(h:PE X e (aiO X.prog X.w X.K i g))(hs:swapsWith e none pos.line X.env=pure false:=by rfl):PSO X (some i) (.Expr e pos) (abI i g):=by
 with_unfolding_all
  refine PS.imp (ZK h hs) fun D σ H ⟨Hs,ρ,o,E,q,k⟩=>?_;cases h1:g ρ with
  |none=>simp[abI,h1]at q
  | some d=>
   have:Out.nx (ρ.set i (some d))=o:=by simpa[abI,h1]using q
   subst this;exact⟨Hs,ρ,d,E,h1,fun H' E'=>k σ H' E'⟩
noncomputable def ajt(c d:OP):OP:=match c,d with
 |some (.list ds),some d=>if noL d=true/\ds.length<1000000 then some (.list (ds++[d])) else none
 |_,_=>none
noncomputable def afZ(i:Nat)(fa:RP):RP:=fun ρ=>ajt (lkp i ρ) (fa ρ)
theorem abJ{n:Nat}(h:n<1000000):n<sizeLine:=Nat.lt_of_lt_of_le h (by rw[sizeLine_eq];decide)
end
section
variable {X:Cx}{e a b c tg src:Expr}{es:List Expr}{st:Stmt}{sts rest body:List Stmt}{fa fb fc:RP}{F G:RO}{pos:Pos}
@[irreducible] noncomputable def PN(X:Cx)(e:Expr)(f:RP):Prop:=
 PE X e fun σ H Q=>∃ρ d,EnvR X.K H ρ σ/\f ρ=some d/\∀a H',jq H H'->H a=none->JK X.prog X.w X.K H' a d->Q (.ref a) H'
theorem ahC{fr:Rho->Option (LP)}(h:PAD X es fr):PN X (.List es pos) (Jq fr):=by
 with_unfolding_all
  intro Kp s σ H Q I ⟨ρ,d,en,hf,k⟩;cases h1:fr ρ with
  |none=>simp[Jq,h1]at hf
  | some ds=>
   by_cases hfew:few ds=true
   ·have:PyData.list ds=d:=by simpa[Jq,h1,hfew]using hf
    subst this;refine thn (aby h Kp s σ H (fun v H2=>∃a xs H1,v= .ref a/\H1 a=none/\jq H H1/\H2=upd H1 a (.lst xs)/\Reps X.K H1 ds xs) I ⟨ρ,ds,en,h1,fun vs H1 s1 r1=>⟨by rw[r1.length];exact QN (by simpa[few]using hfew),fun l hl=>⟨l,vs,H1,rfl,hl,s1,rfl,r1⟩⟩⟩) fun u s1 ⟨v,H2,I2,r,a,xs,H1,e1,e2,s1',e3,r1⟩=>?_;subst e1;have e4:H2 a=some (.lst xs):=by rw[e3];exact jr
    have e5:upd H2 a (JJ a xs)=upd H1 a (JJ a xs):=by rw[e3,ab8]
    have s2:jq H1 (upd H2 a (JJ a xs)):=by rw[e5];exact jz e2
    exact⟨.ref a,_,Inv.closed I2 (.l xs) e4 (fun ob u z=>by have:=I.base.frzs _ _ _ z;rw[s1'.free e2]at this;cases this),r,k a _ (s1'.trans s2) (s1'.free e2) ⟨xs,jr,Reps.mono s2 _ _ r1⟩⟩
   ·simp[Jq,h1,hfew]at hf
noncomputable def Zd(i:Nat)(f:RP)(G:RO):RO:=fun ρ=>(f ρ).bind fun d=>if i < ρ.length then (G (ρ.set i (some d))).bind fun o=>match o with
  |.rt c=>some (.rt c)
  |_=>none
 else none
theorem aem(i:Nat){x:Str}{pos':Pos}(hN:X.N.Nodup)(he:PN X e fa)(h:aaK X (some i) rest G)(hi:X.N[i]?=some x:=by rfl)(hx:Loc X.env.scope x:=by first|exact Or.inl rfl|exact Or.inr rfl)(hs:swapsWith e (some (.Name x pos')) pos.line X.env=pure false:=by rfl)
  (hf:X.fn x=true∨X.env.scope.names.lookup x=some .local:=by first|exact .inl rfl|exact .inr rfl|assumption):aaK X none (.Assign [.Name x pos'] e pos::rest) (Zd i fa G):=by
 with_unfolding_all
  refine PSs.imp (zO (abt hN hi hx he hs hf) h) fun D σ H ⟨Hs,ρ,o,E,q,k⟩=>?_;cases h1:fa ρ with
  |none=>simp[Zd,h1]at q
  | some d=>
   by_cases hl:i < ρ.length
   ·cases h2:G (ρ.set i (some d))with
    |none=>simp[Zd,h1,h2]at q
    | some p=>
     cases p with
     | rt c=>
      have:Out.rt c=o:=by simpa[Zd,h1,h2,hl]using q
      subst this;refine⟨ρ,d,E.to,h1,fun a H' s hn ow=>⟨Hs,ρ.set i (some d),.rt c,⟨by simp[E.len],E.sm.trans s,fun j y q n=>?_,fun j n=>?_⟩,h2,k⟩⟩
      ·have hj:i≠j:=fun z=>n (by rw[z])
       rw[List.getElem?_set_ne hj]at q ⊢;obtain⟨v,g1,g2⟩:=E.pl j y q (fun z=>nomatch z);exact⟨v,g1,Rep.mono s _ _ g2⟩
      ·cases n
       refine⟨d,a,by rw[List.getElem?_set_self hl],by rw[List.getElem?_set_self (by rw[←E.len];exact hl)],E.sm.free hn,ow⟩
     |nx _=>simp[Zd,h1,h2,hl]at q
     |bk _=>simp[Zd,h1,h2,hl]at q
     |ct _=>simp[Zd,h1,h2,hl]at q
   ·simp[Zd,h1,hl]at q
noncomputable def isI(n:Int):PyData->Bool
 |.int m=>decide (m=n)
 |_=>false
noncomputable def isS(t:Str):PyData->Bool
 |.str m=>decide (m=t)
 |_=>false
noncomputable def aaM(κ:Key)(d:PyData):Bool:=match κ with
 |.inl n=>isI n d
 |.inr t=>isS t d
theorem QU(κ κ':Key):aaM κ (abC κ')=decide (κ'=κ):=by
 cases κ<;>cases κ'<;>simp[aaM,isI,isS,abC]
noncomputable def agQ(r:List (PyData×PyData))(κ:Key)(d:PyData):List (PyData×PyData):=if r.any (fun p=>aaM κ p.1)=true then r.map (fun p=>if aaM κ p.1=true then (p.1,d) else p) else r++[(abC κ,d)]
noncomputable def aju(r:List (PyData×PyData))(n:Int)(d:PyData):List (PyData×PyData):=if r.any (fun p=>isI n p.1)=true then r.map (fun p=>if isI n p.1=true then (p.1,d) else p) else r++[(.int n,d)]
theorem RepM.anyK{K:Fg}{H:Hp}(n:Key):∀{r:List (PyData×PyData)}{ks:List (Key×V)},RepM K H r ks->r.any (fun p=>aaM n p.1)=ks.any fun kv=>decide (kv.1=n)
 | [],ks,h=>by cases (show ks=[] from h);rfl
 | (k,d)::r,ks,⟨i,x,s,h1,h2,h3,h4⟩=>by
  subst h1;subst h2;rw[List.any_cons,List.any_cons,RepM.anyK n h4,QU]
theorem RepM.any{K:Fg}{H:Hp}(n:Int){r:List (PyData×PyData)}{ks:List (Key×V)}(h:RepM K H r ks):r.any (fun p=>isI n p.1)=ks.any fun kv=>decide (kv.1=(Sum.inl n:Key)):=RepM.anyK (.inl n) h
theorem RepM.replK{K:Fg}{H:Hp}(n:Key){d':PyData}{x':V}(hr:Rep K H d' x'):∀{r:List (PyData×PyData)}{ks:List (Key×V)},RepM K H r ks->
  RepM K H (r.map fun p=>if aaM n p.1=true then (p.1,d') else p) (ks.map fun kv=>if kv.1=n then (kv.1,x') else kv)
 | [],ks,h=>by cases (show ks=[] from h);exact rfl
 | (k,d)::r,ks,⟨i,x,s,h1,h2,h3,h4⟩=>by
  subst h1;subst h2;by_cases hn:i=n
  ·subst hn
   have c1:aaM i ((abC i,d):PyData×PyData).1=true:=by simp[QU]
   rw[List.map_cons,List.map_cons,if_pos c1,if_pos rfl];exact⟨i,x',_,rfl,rfl,hr,RepM.replK i hr h4⟩
  ·have c1:¬ aaM n ((abC i,d):PyData×PyData).1=true:=by simp[QU,hn]
   rw[List.map_cons,List.map_cons,if_neg c1,if_neg hn];exact⟨i,x,_,rfl,rfl,h3,RepM.replK n hr h4⟩
theorem RepM.snocK{K:Fg}{H:Hp}(n:Key){d':PyData}{x':V}(hr:Rep K H d' x'):∀{r:List (PyData×PyData)}{ks:List (Key×V)},RepM K H r ks->RepM K H (r++[(abC n,d')]) (ks++[(n,x')])
 | [],ks,h=>by cases (show ks=[] from h);exact⟨n,x',[],rfl,rfl,hr,rfl⟩
 | (k,d)::r,ks,⟨i,x,s,h1,h2,h3,h4⟩=>by
  subst h2;exact⟨i,x,_,h1,rfl,h3,RepM.snocK n hr h4⟩
theorem RepM.putK{K:Fg}{H:Hp}(n:Key){d':PyData}{x':V}(hr:Rep K H d' x'){r:List (PyData×PyData)}{ks:List (Key×V)}(h:RepM K H r ks):RepM K H (agQ r n d') (_root_.L2.putK ks n x'):=by
 unfold agQ _root_.L2.putK;rw[h.anyK n];by_cases c:(ks.any fun kv=>decide (kv.1=n))=true
 ·rw[if_pos c,if_pos c];exact h.replK n hr
 ·rw[if_neg c,if_neg c];exact h.snocK n hr
theorem RepM.put{K:Fg}{H:Hp}(n:Int){d':PyData}{x':V}(hr:Rep K H d' x'){r:List (PyData×PyData)}{ks:List (Key×V)}(h:RepM K H r ks):RepM K H (aju r n d') (_root_.L2.putK ks (Sum.inl n) x'):=RepM.putK (.inl n) hr h
theorem RepM.length{K:Fg}{H:Hp}:∀{r:List (PyData×PyData)}{ks:List (Key×V)},RepM K H r ks->ks.length=r.length
 | [],ks,h=>by cases (show ks=[] from h);rfl
 | (k,d)::r,ks,⟨i,x,s,h1,h2,h3,h4⟩=>by subst h2;simp[RepM.length h4]
end
section
variable {X:Cx}{e a b c tg src:Expr}{es:List Expr}{fa fb fc:RP}{pos:Pos}
end
section
variable {X:Cx}{e a b c tg src:Expr}{es:List Expr}{fa fb fc:RP}{pos:Pos}
end
end BX
end
section
namespace BX
open PySem PySem.Spec L2
section
open PyProof.Rows hiding St
variable {X:Cx}{e a b c tg src:Expr}{es:List Expr}{fa fb fc:RP}{pos:Pos}{rest:List Expr}
end
end BX
end
section
namespace BX
open PySem PySem.Spec L2
open PyProof.Rows hiding St
section
variable {X:Cx}{e a b c tg src:Expr}{es:List Expr}{fa fb fc:RP}{pos:Pos}{rest:List Expr}
noncomputable def QV(fa fb:RP):RP:=fun ρ=>(fa ρ).bind fun x=>(asB x).bind fun t=>if t=true then fb ρ else some (.bool false)
noncomputable def orV(fa fb:RP):RP:=fun ρ=>(fa ρ).bind fun x=>(asB x).bind fun t=>if t=true then some (.bool true) else fb ρ
theorem abK{op:BoolOp}(ha:PD X a fa):PD X (.BoolOp op [a] pos) fa:=by
 with_unfolding_all exact(ag7 ha)
theorem abL(ha:PD X a fa)(hb:PD X (.BoolOp .And (b::rest) pos) fb):PD X (.BoolOp .And (a::b::rest) pos) (QV fa fb):=by
 with_unfolding_all
  refine PE.imp (ag8 ha hb) fun σ H Q ⟨ρ,d,en,h,k⟩=>?_;cases h1:fa ρ with
  |none=>simp[QV,h1]at h
  | some x=>
   cases h2:asB x with
   |none=>simp[QV,h1,h2]at h
   | some t=>
    have hx:=zw h2;subst hx;refine⟨ρ,_,en,h1,fun v H1 s1 r1=>⟨t,r1,?_⟩⟩;cases t with
    |true=>rw[if_pos rfl];exact⟨ρ,d,en.mono s1,by simpa[QV,h1,h2]using h,fun v H2 s2 r2=>k v H2 (s1.trans s2) r2⟩
    | false=>
     rw[if_neg Bool.false_ne_true];have:PyData.bool false=d:=by simpa[QV,h1,h2]using h
     subst this;exact k _ H1 s1 rfl
end
section
variable {X:Cx}{e a b c tg src:Expr}{es:List Expr}{fa fb fc:RP}{pos:Pos}
noncomputable def af0(c d:OP):OP:=match c,d with
 |some (.list ds),some (.list es)=>if noLs es=true/\ds.length+es.length<1000000 then some (.list (ds++es)) else none
 |_,_=>none
noncomputable def aen(i:Nat)(fa:RP):RP:=fun ρ=>af0 (lkp i ρ) (fa ρ)
theorem aeo{c d:OP}{r:PyData}(h:af0 c d=some r):∃ds es,c=some (.list ds)/\d=some (.list es)/\noLs es=true/\ds.length+es.length<1000000/\r= .list (ds++es):=by
 unfold af0 at h;split at h
 ·split at h
  ·rename_i hc
   cases h;exact⟨_,_,rfl,rfl,hc.1,hc.2,rfl⟩
  ·cases h
 ·cases h
theorem ade(i:Nat){x:Str}{p1 apos cpos:Pos}(h:PD X e fa)(hN:X.N[i]?=some x:=by rfl)(hv:Vis X.env.scope x:=by first|exact Or.inl rfl|exact Or.inr (Or.inl rfl)|exact Or.inr (Or.inr rfl))(hd:(x==("__debug__":Str))=false:=by decide)
  (hcd:(x==("__classdict__":Str))=false:=by decide) (hbase:attributeBase (.Name x p1) "extend" X.env (eval (.Name x p1) X.env)=eval (.Name x p1) X.env:=by rfl)
  (hfew:((backTo cpos (starEach [e] X.env)).all (fun x=>!x.1)&&(backToKw cpos (keywordEach [] X.env)).all (fun x=>x.1.isSome)&&decide ([e].length+([]:List Keyword).length+(if ([]:List Keyword).isEmpty then 0 else 1)<30))=true:=by rfl)
  (hline:(apos.endLine==cpos.line)=true:=by rfl) (hs:starEach [e] X.env=(false,eval e X.env)::starEach [] X.env:=by rfl) (hplain:(backTo cpos (starEach [] X.env)).any (·.1)=false:=by rfl):
  PE X (.Call (.Attribute (.Name x p1) "extend" apos) [e] [] cpos) (aiO X.prog X.w X.K i (aen i fa)):=by
 with_unfolding_all
  intro Kp s σ H Q I ⟨Hs,ρ,d',E,hg,k⟩;obtain⟨ds,es,q1,q2,hn,hl,rfl⟩:=aeo hg;obtain⟨a,xs,g2,g3,g4,g5,env⟩:=E.opnL (JD q1);have hlen:=g5.length;have W:=agL (X:=X) (cpos:=cpos) (apos:=apos) PySem.F.plainAttrs_list PySem.F.slot_list_extend PySem.F.type_list_extend ac2 (abq hN hv hd hcd) (qG h zP hs) hbase hfew hline hs hplain
  refine thn (W Kp s σ (upd H a (.lst xs)) (fun v H4=>∃H3 zs,v= .non/\H4=upd H3 a (.lst (xs++zs))/\jq (upd H a (.lst xs)) H3/\Reps X.K H3 es zs) (Inv.opened I (.l xs) g4)
   ⟨.ref a,g2,.inl ⟨rfl,_,SqL.of jr⟩,ρ,.list es,env,q2,fun y H3 s3 r3=>?_⟩) fun u s1 ⟨v,H4,I4,r,H3,zs,e1,e2,s3,r3⟩=>?_
  ·obtain⟨b,zs,z1,z2,z3⟩:=r3
   have hz:=z3.length;exact⟨a,b,xs,zs,rfl,by rw[z1],s3 _ _ jr,z2,by rw[hlen,hz];exact Nat.le_of_lt (abJ hl),H3,zs,rfl,rfl,s3,z3⟩
  subst e1;have e4:H4 a=some (.lst (xs++zs)):=by rw[e2];exact jr
  have sb:∀b u,b≠a->H b=some u->H4 b=some u:=fun b u n q=>by rw[e2,jm n];exact s3 b u (by rw[jm n];exact q)
  refine⟨.non,upd H4 a (JJ a (xs++zs)),Inv.closed I4 (.l _) e4 (Inv.nofrz I g4),r,k _ (E.put (JD q1) g2 g3 g4 sb ⟨xs++zs,jr,?_⟩)⟩
  have s5:jI H (upd H4 a (JJ a (xs++zs))):=fun b u q m=>by
   have:b≠a:=fun z=>by subst z;rw[g4]at q;cases q;exact m _ rfl
   rw[jm this];exact sb b u this q
  have s6:qK H3 (upd H4 a (JJ a (xs++zs))):=fun b u q m=>by
   have e3:H3 a=some (.lst xs):=s3 _ _ jr;have:b≠a:=fun z=>by subst z;rw[e3]at q;cases q;exact m _ rfl
   rw[jm this,e2,jm this];exact q
  exact(Reps.monoE s5 _ _ g5).append (Reps.monoN s6 _ _ hn r3)
end
section
variable {X:Cx}{e a b c tg src:Expr}{es:List Expr}{fa fb fc:RP}{pos:Pos}
theorem Reps.set{K:Fg}{H:Hp}{d:PyData}{v:V}(r:Rep K H d v):∀{ds:LP}{xs:List V} (j:Nat),Reps K H ds xs->Reps K H (ds.set j d) (xs.set j v)
 | [],xs,j,h=>by cases (show xs=[] from h);exact rfl
 |_::ds,xs,0,⟨x,q,h1,h2,h3⟩=>by subst h1;exact⟨v,q,rfl,r,h3⟩
 |_::ds,xs,j+1,⟨x,q,h1,h2,h3⟩=>by subst h1;exact⟨x,_,rfl,h2,Reps.set r j h3⟩
end
section
variable {X:Cx}{e a b c:Expr}{fa fb fc:RP}{pos p2:Pos}
noncomputable def ZV(ds:LP)(lo hi:Option Int):LP:=(ds.drop (HT.sIx ds.length 0 lo)).take (HT.sIx ds.length ds.length hi-HT.sIx ds.length 0 lo)
noncomputable def inI:PyData->Option Int
 |.int i=>some i
 |_=>none
theorem aaN{d:PyData}{i:Int}(h:inI d=some i):d= .int i:=by cases d<;>simp[inI]at h;rw[h]
end
section
variable {prog:Program}{w:World}{A:Around}{E:Value->SP0}{s:Shared}
noncomputable def ItA(g:Bool)(h:Heap)(i t:Addr)(k:Nat):Prop:=match g with
 |true=>h.IsListIter i t k
 |false=>h.IsTupleIter i t k
noncomputable def SrA(g:Bool)(h:Heap)(t:Addr)(xs:Array Value):Prop:=match g with
 |true=>h.IsList t xs
 |false=>h.IsTuple t xs
theorem ItA.to{g:Bool}{h h':Heap}{i t:Addr}{k:Nat}(x:ItA g h i t k)(kp:∀o,h.get? i=some o->h'.get? i=some o):ItA g h' i t k:=by
 cases g<;>exact(let ⟨o,e,r⟩:=x;⟨o,kp o e,r⟩)
theorem SrA.to{g:Bool}{h h':Heap}{t:Addr}{xs:Array Value}(x:SrA g h t xs)(kp:∀o,h.get? t=some o->h'.get? t=some o):SrA g h' t xs:=by
 cases g<;>exact(let ⟨o,e,r⟩:=x;⟨o,kp o e,r⟩)
theorem ItA.extBut{g:Bool}{h h':Heap}{i t b:Addr}{k:Nat}(x:ItA g h i t k)(e:Heap.ExtBut b h h')(n:i≠b):ItA g h' i t k:=x.to fun o q=>e i o n q
theorem SrA.extBut{g:Bool}{h h':Heap}{t b:Addr}{xs:Array Value}(x:SrA g h t xs)(e:Heap.ExtBut b h h')(n:t≠b):SrA g h' t xs:=x.to fun o q=>e t o n q
theorem ItA.obj{g:Bool}{h:Heap}{i t:Addr}{k:Nat}(x:ItA g h i t k):∃o vs,h.get? i=some o/\o.data= .fields vs:=by
 cases g<;>exact(let ⟨o,e,_,d⟩:=x;⟨o,_,e,d⟩)
structure Apart2(z TI TO i1 i2 t1 t2:Addr):Prop where
 nd:[z,TO,i1,i2].Nodup
 ti:TI∉[z,TO,i1,i2]
 s1:t1∉[z,TO,i1,i2]
 s2:t2∉[z,TO,i1,i2]
structure Zip2(ga gb:Bool)(h:Heap)(z TI TO i1 i2 t1 t2:Addr)(f0:Value)(k:Nat):Prop where
 hz:IsZip h z TI TO f0
 hTI:IsPair h TI (.ref i1) (.ref i2)
 hTO:∃a b,IsPair h TO a b
 g1:ItA ga h i1 t1 k
 g2:ItA gb h i2 t2 k
theorem Zip2.keep{ga gb:Bool}{h h':Heap}{z TI TO i1 i2 t1 t2:Addr}{f0:Value}{k:Nat}(S:Zip2 ga gb h z TI TO i1 i2 t1 t2 f0 k)(kp:∀b∈[z,TI,TO,i1,i2],∀o,h.get? b=some o->h'.get? b=some o):
  Zip2 ga gb h' z TI TO i1 i2 t1 t2 f0 k:=by
 obtain⟨hz,hTI,⟨a,b,hTO⟩,g1,g2⟩:=S;exact⟨kp z (by simp) _ hz,kp TI (by simp) _ hTI,⟨a,b,kp TO (by simp) _ hTO⟩,g1.to (kp i1 (by simp)),g2.to (kp i2 (by simp))⟩
end
noncomputable def Sq(g:Bool)(K:Fg)(H:Hp)(t:Addr)(xs:List V):Prop:=match g with
 |true=>SqL K H t xs
 |false=>SqT K H t xs
theorem Sq.inj{g:Bool}{X:Cx}{Kp:List (Addr×Obj)}{σ:St}{H:Hp}{s:Shared}{a:Addr}{xs ys:List V}(I:Inv X Kp σ H s)(q:Sq g X.K H a xs)(q':Sq g X.K H a ys):xs=ys:=by
 cases g with
 |true=>exact I.list_inj q q'
 |false=>exact I.tuple_inj q q'
theorem Sq.monoE{g:Bool}{K:Fg}{H H':Hp}{a:Addr}{xs:List V}(e:jI H H')(h:Sq g K H a xs):Sq g K H' a xs:=by
 cases g with
 |true=>exact jI.sql e h
 |false=>exact jI.tup e h
theorem Sq.monoA{g:Bool}{K:Fg}{H H':Hp}{a:Addr}{xs:List V}(e:jM H H')(h:Sq g K H a xs):Sq g K H' a xs:=by
 cases g with
 |true=>exact jM.sql e h
 |false=>exact jM.tup e h
theorem Sq.at{g:Bool}{K:Fg}{H:Hp}{a:Addr}{xs:List V}(h:Sq g K H a xs):(∃u,H a=some u)∨∃o,K.lookup a=some o:=by
 cases g with
 |true=>rcases h with (e | ⟨o,e⟩) | ⟨o,its,n,hk,_⟩<;>first|exact .inl ⟨_,e⟩|exact .inr ⟨_,hk⟩
 |false=>rcases h with (e | ⟨o,e⟩) | ⟨o,its,n,hk,_⟩<;>first|exact .inl ⟨_,e⟩|exact .inr ⟨_,hk⟩
section
variable {X:Cx}
end
section
variable {X:Cx}{e a b c:Expr}{fa fb fc:RP}{pos p2:Pos}
theorem zY:∀{is:List Int}{us:List Value},jx (is.map V.int) us->∀(j:Nat) (i:Int),is[j]?=some i->∃t,us[j]?=some (.int i t)
 | [],us,r,j,i,h=>by simp at h
 | i0::is,u::us,.cons r rr,j,i,h=>by
  cases j with
  |zero=>cases h;obtain⟨t,rfl⟩:=r;exact⟨t,rfl⟩
  |succ j=>exact zY rr j i (by simpa using h)
end
structure OneCell(sc:Scope)(y0:Str)(pre post:List (Str×NameKind)):Prop where
 split:sc.names=pre++(y0,.cell)::post
 pre:∀x∈pre,x.2 ≠ .cell
 post:∀x∈post,x.2 ≠ .cell
structure CompOk1(X:Cx)(sc:Scope)(N':List Str)(cap:List (Option Nat))(y0:Str):Prop where
 fr:∀x∈sc.names,x.2= .free->X.env.kindOf x.1=some .cell∨X.env.kindOf x.1=some .free
 one:∃pre post,OneCell sc y0 pre post
 lk:sc.names.lookup y0=some .cell
 kind:sc.kind= .function
 nm:∀x∈sc.names,x.2= .local->sc.names.lookup x.1=some .local
 len:cap.length=N'.length
 cp:∀(j i:Nat) (x:Str),N'[j]?=some x->cap[j]?=some (some i)->X.N[i]?=some x/\sc.names.lookup x=some .free
section
variable {X:Cx}{e:Expr}{fa:RP}
end
theorem af1{X : Cx}{i0 : Nat}{x0 : Str}{pos0 pos1 : Pos}{el tg src : Expr}{ts : List Expr}{sc : Scope}{ps : Pos}{wi : TI}{g : TG}{tt : TT}{te : TE}{N' : List Str}{cap : List (Option Nat)}(hc : X.calm = true)(hi : PI X tg src wi)(ok : CompOk X sc N' cap)
    (body : ∀cl C s0 H0 fp pn, PG (blk X N' sc cl C s0 H0 fp pn) tg g /\ PTs (blk X N' sc cl C s0 H0 fp pn) ts tt /\ PE (blk X N' sc cl C s0 H0 fp pn) el te)
    (hN : X.N.Nodup) (hi0 : X.N[i0]? = some x0) (hx0 : Loc X.env.scope x0) (hsw : swapsWith (.ListComp el [⟨tg, src, ts, 0⟩] sc ps) (some (.Name x0 pos0)) pos1.line X.env = pure true)
    (hf0 : X.fn x0 = true∨X.env.scope.names.lookup x0 = some .local)
    (hs : ∀x, foldedSetIterable src X.env x = pure x := by intro _;rfl) : PS X (.Assign [.Name x0 pos0] (.ListComp el [⟨tg, src, ts, 0⟩] sc ps) pos1) (aha (adY wi cap g tt te) (adL i0)) := by
  intro Kp s σ H Dn I h;have hfr : ∀x∈sc.names, x.2 = .free -> ∃c, X.env.cells.lookup x.1 = some c := fun x hx e => I.ok.has x.1 (ok.fr x hx e);have hcl := ack sc X.env hfr
  have clm : ∀x c, (zL X.env sc.names []).lookup x = some c -> X.env.cells.lookup x = some c := fun x c e =>
    J2 X.env sc.names [] hfr (fun _ z => nomatch z) (x, c) (PySem.mem_of_lookup e)
  generalize hgl : zL X.env sc.names [] = cl at hcl clm;rw[exec_Assign_Name_used _ _ _ _ hsw];refine wpAny_bind (wpAny_standAt (wpAny_bind ?_));show wpAny _ X.A (do let _ ← comprehension (.ListComp el [⟨tg, src, ts, 0⟩] sc ps) sc X.env _ (newList []) false (eval src X.env) (some (assign (.Name x0 pos0) X.env))) _ _ s;refine wpAny_bind (wpAny_mono (wpAny_comprehension_free (use := some (assign (.Name x0 pos0) X.env)) (Q := fun _ s' => SP X Kp Dn .next s') rfl hs hcl ok.kind ok.nm ?_) (fun _ s' hq => wpAny_pure (wpAny_pure hq)) fun _ _ e => e);refine thn (hi Kp s σ H _ I h) fun v s1 h1 => thn h1 fun itv s2 h2 => ?_;obtain⟨it, fp, tn, J, H2, e, I2, T, st2, f2, W, ⟨m0, w0⟩, turn⟩ := h2;subst e;refine wpAny_newObj_type (wpAny_newFunctionEnv ok.nc (by intro y hy;simp at hy) (fun h4 hns hsb => ?_) ok.kind);dsimp only at hns hsb ⊢;generalize hH3 : s2.heap.push { cls := .type "list", dict := none, data := .seq ([] : List Value).toArray } = h3 at hns hsb ⊢;have hC : h3.objs.size = s2.heap.objs.size + 1 := by rw[← hH3, Heap.size_push]
  generalize hCC : h3.objs.size = C at hns hsb hC ⊢;generalize hDD : s2.heap.objs.size = D at hC ⊢;have hDC : D≠C := by rw[hC];exact Nat.ne_of_lt (Nat.lt_succ_self _)
  have old : ∀b o, s2.heap.get? b = some o -> h4.get? b = some o := fun b o e => hsb.extBut b o (by have := Heap.lt_size e;rw[hDD]at this;rw[hC];exact Nat.ne_of_lt (Nat.lt_succ_of_lt this)) (Heap.get?_push_of_some _ (hH3▸Heap.get?_push_of_some _ e));have accO : h4.get? D = some { cls := .type "list", data := .seq ([] : List Value).toArray 0 } := hsb.extBut _ _ hDC (Heap.get?_push_of_some _ (by rw[← hH3, ← hDD];exact Heap.get?_push_size _ rfl));have H2D : H2 D = none := I2.hok.fresh (by rw[hDD];exact Nat.le_refl _);have H2C : H2 C = none := I2.hok.fresh (by rw[hDD, hC];exact Nat.le_succ _)
  have cellsLt : ∀x c, X.env.cells.lookup x = some c -> c<D := fun x c e => by
    obtain⟨v, q⟩ := I2.cell x c e;rw[← hDD];exact q.lt
  have pinLt : ∀p∈X.pn ++ Kp, p.1<D := fun p hp => by rw[← hDD];exact Heap.lt_size (I2.pin p hp).1
  have stkLt : ∀b∈frs X.stack, b<D := fun b hb => by
    obtain⟨_, o, ho, _⟩ := I2.stack.mem hb;rw[← hDD];exact Heap.lt_size ho
  have fpLt : ∀b∈fp, b<D := fun b hb => by
    obtain⟨o, ho, _⟩ := T.obj _ _ st2 b hb;rw[← hDD];exact Heap.lt_size ho
  have ltC : ∀{b : Addr}, b<D -> b≠C := fun hb => by rw[hC];exact Nat.ne_of_lt (Nat.lt_succ_of_lt hb)
  have locLt : X.env.locals<D := by rw[← hDD];exact I2.lt
  have hDge : s2.heap.objs.size <= D := by rw[hDD];exact Nat.le_refl _
  have hCge : s2.heap.objs.size <= C := by rw[hDD, hC];exact Nat.le_succ _
  have bok : (blk X N' sc cl C s2 H2 fp (X.pn ++ Kp)).Ok := by
    refine⟨I2.ok.mod, ok.kind, I2.ok.glob, I2.ok.blt, hCge, fun x y c e1 e2 => I2.ok.inj x y c (clm x c e1) (clm y c e2), fun x hx => ?_, fun x c z _ => ?_, I2.ok.hd, I2.ok.frames, .inl rfl, fun b hb => ?_, I2.bs, Nat.le_trans I2.ok.bsz I2.sz, fun b o e hb => ?_, fun b hb z => ?_, I2.stack, I2.stkFree⟩
    · have hx' : (relabel sc X.env).names.lookup x = some .cell∨(relabel sc X.env).names.lookup x = some .free := hx
      have hm : (x, NameKind.free)∈sc.names := by
        rcases hx' with z | z
        · exact zg (PySem.mem_of_lookup z) ok.nc (.inl rfl)
        · exact zg (PySem.mem_of_lookup z) ok.nc (.inr rfl)
      obtain⟨c, hc⟩ := zv X.env sc.names [] x hm;rw[hgl]at hc;exact qo hc
    · exact absurd (show false = true from z) Bool.false_ne_true
    · exact⟨ltC (fpLt b hb), fun x c e => (f2 b hb).2.2.2.2.1 x c (clm x c e)⟩
    · rcases (f2 b hb).2.2.2.1 with z | z
      · exact I2.ok.noex b o e z
      · have := Heap.lt_size e
        exact absurd (Nat.lt_of_lt_of_le this (Nat.le_trans I2.ok.bsz z)) (Nat.lt_irrefl _)
    · rcases List.mem_cons.mp (I2.stkSub b z)with q | q
      · exact(f2 b hb).2.1 q
      · exact(f2 b hb).2.2.1 q
  have pinB : ∀p∈X.pn ++ Kp, p.1≠C /\ p.1∉frs X.stack := fun p hp => ⟨ltC (pinLt p hp), fun z => by
    rcases List.mem_cons.mp (I2.stkSub p.1 z) with q | q
    · exact (I2.pin p hp).2.2.1 q
    · exact (I2.pin p hp).2.2.2.1 q⟩
  have I4 : Inv (blk X N' sc cl C s2 H2 fp (X.pn ++ Kp)) [] (Qp cap σ) H2 { s2 with heap := h4, toks := s2.toks + ([] : List (Str×Value)).length } := by
    refine⟨bok, rfl, I2.bare, Un.kept old, ⟨_, hns, fun j x v e1 e2 e3 => ?_⟩, fun x c e => ?_, H2C, fun x c e => I2.freeC x c (clm x c e), fun p hp => ?_, I2.hok.kept old, ?_⟩
    · unfold Qp at e2
      rw[List.getElem?_map]at e2;cases e4 : cap[j]? with
      |none => rw[e4]at e2;cases e2
      | some o =>
        rw[e4]at e2;cases o with
        |none => cases e2
        | some i =>
          obtain⟨hNi, hf⟩ := ok.cp j i x e1 e4
          have e5 : (σ[i]?).join = some v := by
            have := Option.some.inj e2;simpa using this
          have e6 : σ[i]? = some (some v) := by
            cases e7 : σ[i]? with
            |none => rw[e7]at e5;cases e5
            | some z => rw[e7]at e5;cases z with
              |none => cases e5
              |some z => cases e5;rfl
          have hk := ok.fr (x, .free) (PySem.mem_of_lookup hf) rfl;obtain⟨m, hn, hl⟩ := I2.loc
          have hv : Vis X.env.scope x := by
            rcases hk with z | z
            · exact .inr (.inl z)
            · exact .inr (.inr z)
          obtain⟨u, r, lk⟩ := hl i x v hNi e6 hv
          have cellX : ∃c, X.env.cells.lookup x = some c /\ s2.heap.IsCell c (some u) := by
            rcases lk with ⟨k1, _⟩ | ⟨_, c, e, z⟩
            · rcases hk with z | z
              · have z' : X.env.kindOf x = some .cell := z
                rw[k1]at z';cases z'
              · have z' : X.env.kindOf x = some .free := z
                rw[k1]at z';cases z'
            · exact⟨c, e, z⟩
          obtain⟨c, hc1, ob, hc2, hc3⟩ := cellX;obtain⟨c', hc'⟩ := zv X.env sc.names [] x (PySem.mem_of_lookup hf);rw[hgl]at hc';obtain⟨d, hd⟩ := qo hc'
          have ed : d = c := by
            have := clm x d hd;rw[hc1]at this;cases this;rfl
          subst ed;refine⟨u, r, .inr ⟨?_, d, hd, ob, old _ _ hc2, hc3⟩⟩;exact zC hf
    · obtain⟨v, ob, ho, hd⟩ := I2.cell x c (clm x c e)
      exact⟨v, ob, old _ _ ho, hd⟩
    · have hp' : p∈X.pn ++ Kp := by simpa[blk]using hp
      obtain⟨e1, e2, e3, e4, e5⟩ := I2.pin p hp';exact⟨old _ _ e1, e2, (pinB p hp').1, (pinB p hp').2, e5⟩
    · show(Qp cap σ).length = N'.length
      unfold Qp;rw[List.length_map];exact ok.len
  have fpB : ∀{H' : Hp} {pl : List (Addr×Obj)}, (∀b∈fp, H' b = none) -> (∀p∈pl, p.1∉fp) -> ∀b∈fp, aav (blk X N' sc cl C s2 H2 fp (X.pn ++ Kp)) pl H' b := fun {H' pl} hn hpl b hb =>
    ⟨hn b hb, ltC (fpLt b hb), bok.exfs b hb, .inl hb, fun x c e => (f2 b hb).2.2.2.2.1 x c (clm x c e), fun p hp z => by
      rcases List.mem_append.mp (show p ∈ (X.pn ++ Kp) ++ pl from hp) with q | q
      · exact (f2 b hb).2.2.2.2.2 p q z
      · exact hpl p q (by rw [z]; exact hb)⟩
  have Dfp : ∀(o : Obj), ∀p∈[(D, o)], p.1∉fp := fun o p hp z => by
    have e : p = (D, o) := by simpa using hp
    subst e;exact Nat.lt_irrefl _ (fpLt D z)
  have Dfs : D∉frs X.stack := fun z => Nat.lt_irrefl _ (stkLt D z);obtain⟨bG, bT, bE⟩ := body cl C s2 H2 fp (X.pn ++ Kp)
  have loop : codeAny (model X.prog X.w) X.A (.compLoop (.ListComp el [⟨tg, src, ts, 0⟩] sc ps) 0 (.ref it) (.ref D) (compEnvC sc cl C X.env)) (compPost (model X.prog X.w) X.A X.xe (some (assign (.Name x0 pos0) X.env)) (fun _ s' => SP X Kp Dn .next s') (.ref D) C)
      { s2 with heap := h4, toks := s2.toks + ([] : List (Str×Value)).length } := by
    refine Zq (fun n s' => ∃i τ ys us k H', Inv (blk X N' sc cl C s2 H2 fp (X.pn ++ Kp)) [] τ H' s' /\ tn i s'.heap /\ (∀b∈fp, H' b = none) /\ jx ys us /\ s'.heap.get? D = some { cls := .type "list", data := .seq us.toArray k } /\ H' D = none /\ W i n τ ys H') ?_ m0
      ⟨0, _, [], [], 0, H2, I4, T.keep _ _ _ st2 (fun b _ o e => old b o e), fun b hb => (f2 b hb).1, .nil, accO, H2D, w0⟩
    rintro n s5 ⟨i, τ, ys, us, k, H5, I5, st5, fr5, rv5, ho5, hD5, w5⟩
    obtain⟨hsz, alt⟩ := turn i n τ ys H5 w5
    have I5p : Inv (blk X N' sc cl C s2 H2 fp (X.pn ++ Kp)) [(D, { cls := .type "list", data := .seq us.toArray k })] τ H5 s5 := I5.pins_of fun p hp => by
      have e : p = (D, { cls := .type "list", data := .seq us.toArray k }) := by simpa using hp
      subst e;exact⟨ho5, hD5, hDC, Dfs, fun v z => by cases z⟩
    rcases alt with ⟨stop, fin⟩ | ⟨go, step⟩
    · refine thn (T.done (blk X N' sc cl C s2 H2 fp (X.pn ++ Kp)) rfl rfl rfl hc i _ s5 τ H5 NoX I5p (fpB fr5 (Dfp _)) st5 stop) fun r s6 ⟨hr, I6⟩ => ?_
      subst hr;have ho6 := (I6.pin (D, _) (List.mem_append_right _ (List.mem_singleton.mpr rfl))).1;obtain⟨m6, hn6, _⟩ := I6.loc;have J6 : Inv X Kp σ H5 s6 := I2.call' (ch := fp) I6.os I6.base I6.hok I6.bare fun b hb => ⟨(f2 b hb).2.2.2.1, (f2 b hb).2.1, (f2 b hb).2.2.2.2.1, (f2 b hb).2.2.2.2.2⟩;have H5C : H5 C = none := I6.free;have J7 : Inv X Kp σ (upd H5 D (.lst ys)) s6 := Inv.track J6 hD5 (Nat.le_trans I2.sz hDge) (Ne.symm (Nat.ne_of_lt locLt)) (fun x c e => Nat.ne_of_lt (cellsLt x c e)) (fun p hp => Nat.ne_of_lt (pinLt p hp)) ⟨Nat.le_of_lt hsz, us, k, rv5, ho6⟩;refine wpAny_assign_Name (Zj J7 hN hi0 hx0 (show jO (.ref D) (.ref D) from rfl) (fun s8 I8 ⟨a, sb, ha⟩ => ?_) hf0)
      have aC : C≠a := by
        rcases ha with z | z
        · rw[z];exact Ne.symm (ltC locLt)
        · exact Ne.symm (ltC (cellsLt _ _ z))
      refine⟨m6, hn6.sameBut sb aC, fun h7 hs7 => ?_⟩;have J8 : Inv X Kp (σ.set i0 (some (.ref D))) (upd H5 D (.lst ys)) { s8 with heap := h7, toks := s8.toks } := I8.turned (it := C) (fun b o hb e => hs7.extBut b o hb e) (by rw[jm (Ne.symm hDC)];exact H5C) (Ne.symm (ltC locLt)) (.inr (Nat.le_trans I2.sz hCge)) (fun x c e => ltC (cellsLt x c e)) (fun p hp => ltC (pinLt p hp));exact⟨_, _, J8, fin D hD5⟩
    · refine thn (T.item (blk X N' sc cl C s2 H2 fp (X.pn ++ Kp)) rfl rfl rfl hc i _ s5 τ H5 NoX I5p (fpB fr5 (Dfp _)) st5 go) fun r s6 ⟨u, hr, h6⟩ => ?_
      subst hr;refine thn h6 fun _ s7 ⟨x, H7, I7, r7, y7, st7, fr7⟩ => ?_;have I7p := I7.pinned (fpB fr7 (Dfp _)) (T.obj _ _ st7);refine thn (bG _ s7 τ H7 x u _ I7p r7 (step x H7 y7)) fun _ s8 ⟨τ8, H8, I8, q8⟩ => ?_
      have back : ∀{τ9 : St} {H9 : Hp} {s9 : Shared}, Inv (blk X N' sc cl C s2 H2 fp (X.pn ++ Kp)) ([(D, { cls := .type "list", data := .seq us.toArray k })] ++ J0 fp s7.heap) τ9 H9 s9 ->
          tn (i + 1) s9.heap /\ (∀b∈fp, H9 b = none) /\ s9.heap.get? D = some { cls := .type "list", data := .seq us.toArray k } /\ H9 D = none := fun {τ9 H9 s9} I9 => by
        have pD := I9.pin (D, { cls := .type "list", data := .seq us.toArray k }) (List.mem_append_right _ (List.mem_append_left _ (List.mem_singleton.mpr rfl)));refine⟨T.keep _ _ _ st7 fun b hb o e => (I9.pin (b, o) (List.mem_append_right _ (List.mem_append_right _ (qA hb e)))).1, fun b hb => ?_, pD.1, pD.2.1⟩;obtain⟨o, e, _⟩ := T.obj _ _ st7 b hb;exact(I9.pin (b, o) (List.mem_append_right _ (List.mem_append_right _ (qA hb e)))).2.1
      have drop : ∀{τ9 : St} {H9 : Hp} {s9 : Shared} {pl : List (Addr×Obj)}, Inv (blk X N' sc cl C s2 H2 fp (X.pn ++ Kp)) pl τ9 H9 s9 -> Inv (blk X N' sc cl C s2 H2 fp (X.pn ++ Kp)) [] τ9 H9 s9 := fun I9 => I9.pins_of fun p hp => nomatch hp
      refine thn (bT _ s8 τ8 H8 _ I8 q8) fun b s9 ⟨H9, I9, q9⟩ => ?_;cases b with
      | false =>
        rw[if_neg Bool.false_ne_true]at q9 ⊢;obtain⟨m', hm, w9⟩ := q9;obtain⟨t9, f9, o9, d9⟩ := back I9;exact⟨m', hm, i + 1, τ8, ys, us, k, H9, drop I9, t9, f9, rv5, o9, d9, w9⟩
      | true =>
        rw[if_pos rfl]at q9 ⊢;refine thn (bE _ s9 τ8 H9 _ I9 q9) fun y s10 ⟨z, H10, I10, r10, q10⟩ => ?_;obtain⟨m', hm, w10⟩ := q10;obtain⟨t10, f10, o10, d10⟩ := back I10;have hl := rv5.length;refine append_at (hsz := by show us.toArray.size <= sizeLine;rw[List.size_toArray, ← hl];exact Nat.le_of_lt hsz) o10 fun h11 hs11 hD11 => ?_
        have I11 : Inv (blk X N' sc cl C s2 H2 fp (X.pn ++ Kp)) [] τ8 H10 { s10 with heap := h11, toks := s10.toks } := (drop I10).turned (it := D) (fun b o hb e => hs11.extBut b o hb e) d10 hDC (.inr hDge) (fun x c e => Nat.ne_of_lt (cellsLt x c (clm x c e)))
          (fun p hp => by have hp' : p∈X.pn ++ Kp := by simpa[blk]using hp
                          exact Nat.ne_of_lt (pinLt p hp'))
        refine⟨m', hm, i + 1, τ8, ys ++ [z], us ++ [y], k + 1, H10, I11, T.keep _ _ _ t10 (fun b hb o e => hs11.extBut b o (Nat.ne_of_lt (fpLt b hb)) e), f10, rv5.append (.cons r10 .nil), ?_, d10, w10⟩;rw[hD11];simp
  refine codeAny_compStart_list loop ?_;exact T.self _ 0 _ _ _ (T.keep _ _ _ st2 (fun b _ o e => old b o e)) loop
theorem aep{K:Fg}{fi:Rho->Option (LP)}{cap:List (Option Nat)}{ga:PyData->Rho->Option Rho}{ft:Rho->Option Bool}{fe:RP}{σ:St}{H:Hp}{Q:VK}(h:tD K (qy fi cap ga ft fe) σ H Q):
  adY (tDI K fi) cap (tDG K ga) (tDT K ft) (tD K fe) σ H Q:=by
 obtain⟨ρ,d,en,q,k⟩:=h;cases h1:fi ρ with
 |none=>simp[qy,h1]at q
 | some ds=>
  by_cases hf:few ds=true
  ·cases h2:jN ga ft fe ds (Jt cap ρ)with
   |none=>simp[qy,h1,hf,h2]at q
   | some ys=>
    have:PyData.list ys=d:=by simpa[qy,h1,hf,h2]using q
    subst this;refine⟨ρ,ds,en,h1,fun J H1 s1 Y=>?_⟩
    refine⟨fun i m τ us H2=>m=ds.length-i/\i<=ds.length/\jq H1 H2/\us.length<=i/\∃ρ2 zs ws,EnvR K H2 ρ2 τ/\Reps K H2 zs us/\jN ga ft fe (ds.drop i) ρ2=some ws/\ys=zs++ws,
     ⟨ds.length,by simp,Nat.zero_le _,jq.refl _,Nat.le_refl _,Jt cap ρ,[],ys,(en.mono s1).cap cap,rfl,by simpa using h2,rfl⟩,?_⟩
    rintro i m τ us H2 ⟨rfl,hi',s2,hu,ρ2,zs,ws,en2,r2,q2,ey⟩
    have hsm:us.length<sizeLine:=Nat.lt_of_le_of_lt (Nat.le_trans hu hi') (Nat.lt_of_lt_of_le (by simpa[few]using hf) (by rw[sizeLine_eq];decide:1000000<=sizeLine));obtain⟨g1,g2,g3⟩:=Y i H2 (jq.a s2);refine⟨hsm,?_⟩;by_cases hlt:i<ds.length
    ·right
     have hd:ds.drop i=ds[i]::ds.drop (i+1):=List.drop_eq_getElem_cons hlt;rw[hd]at q2;refine⟨g1 hlt,fun x H3 y=>?_⟩;obtain⟨s3,r3⟩:=g3 x H3 y;have r3':=r3 ds[i] (by simp[hlt]);cases h4:ga ds[i] ρ2 with
     |none=>simp[jN,h4]at q2
     | some ρ4=>
      refine⟨ρ2,ds[i],ρ4,en2.mono s3,r3',h4,fun σ5 H5 s5 en5=>?_⟩;cases h5:ft ρ4 with
      |none=>simp[jN,h4,h5]at q2
      | some b=>
       refine⟨ρ4,b,en5,h5,fun H6 s6=>?_⟩;have s26:=s3.trans (s5.trans s6);cases b with
       | false=>
        refine aiw ?_;exact⟨ds.length-(i+1),by omega,rfl,hlt,s2.trans s26,by omega,ρ4,zs,ws,en5.mono s6,Reps.mono s26 _ _ r2,by simpa[jN,h4,h5]using q2,ey⟩
       | true=>
        refine aix ?_;cases h6:fe ρ4 with
        |none=>simp[jN,h4,h5,h6]at q2
        | some y=>
         cases h7:jN ga ft fe (ds.drop (i+1)) ρ4 with
         |none=>simp[jN,h4,h5,h6,h7]at q2
         | some ws'=>
          have hw:y::ws'=ws:=by simpa[jN,h4,h5,h6,h7]using q2
          refine⟨ρ4,y,en5.mono s6,h6,fun v H7 s7 r7=>?_⟩;refine⟨ds.length-(i+1),by omega,rfl,hlt,s2.trans (s26.trans s7),by rw[List.length_append];simp;omega,ρ4,zs++[y],ws',(en5.mono s6).mono s7,(Reps.mono (s26.trans s7) _ _ r2).append ⟨v,[],rfl,r7,rfl⟩,h7,?_⟩;rw[ey,←hw];simp
    ·left
     have he:i=ds.length:=by omega
     have hn:ds.drop i=[]:=by rw[he];simp
     rw[hn]at q2;have hw:[]=ws:=by simpa[jN]using q2
     subst hw;have ey':ys=zs:=by simpa using ey
     subst ey';exact⟨g2 (by omega),fun l hl=>k _ _ (s1.trans (s2.trans (jz hl))) ⟨l,us,rfl,jr,Reps.mono (jz hl) _ _ r2⟩⟩
  ·simp[qy,h1,hf]at q
section
variable {X:Cx}{tg src:Expr}{pos pos':Pos}
end
structure Mine(X:Cx)(H:Hp)(b:Addr):Prop where
 un:H b=none
 new:X.s₀.heap.get? b=none
 loc:b≠X.env.locals
 cel:∀x c,X.env.cells.lookup x=some c->c≠b
 pin:∀p∈X.pn,p.1≠b
structure Xc(X:Cx)(H:Hp)(h:Heap)(e C:Addr):Prop where
 mine:Mine X H e
 ob:∃oe vs,h.get? e=some oe/\(oe.cls= .ref C/\oe.dict=none)/\oe.data= .fields vs/\1<vs.size/\
  (vs[1]?=some .none∨∃T oT ts,vs[1]?=some (.ref T)/\T≠e/\Mine X H T/\h.get? T=some oT/\oT.data= .fields ts/\3<ts.size)
theorem Inv.exIn{X:Cx}{Kp:List (Addr×Obj)}{σ:St}{H:Hp}{s:Shared}{ch:List Addr}(I:Inv X Kp σ H s)(hn:∀b∈ch,X.s₀.heap.get? b=none/\b≠X.env.locals/\∀x c,X.env.cells.lookup x=some c->c≠b):Inv { X with ex:=ch++X.ex } Kp σ H s:=by
 have no:∀b,b∉ch++X.ex->b∉X.ex:=fun b h z=>h (List.mem_append_right _ z)
 refine⟨⟨I.ok.mod,I.ok.kind,I.ok.glob,I.ok.blt,I.ok.above,I.ok.inj,I.ok.has,I.ok.cab,I.ok.hd,I.ok.frames,I.ok.stk,fun b hb=>?_,I.ok.bs,I.ok.bsz,fun b o e hb=>?_,fun b hb z=>?_,I.ok.funs,I.ok.frf⟩,I.os,I.bare,
  ⟨fun b o e n hf hx=>I.base.keep b o e n hf (no b hx),fun b o e n hf hx=>I.base.slot b o e n hf (no b hx),fun b o e n hx=>I.base.free b o e n (no b hx),fun b o e hx=>I.base.there b o e (no b hx),I.base.tups,I.base.frzs,I.base.tbls⟩,I.loc,I.cell,I.free,I.freeC,I.pin,I.hok,I.len⟩
 ·rcases List.mem_append.mp hb with q | q
  ·exact(hn b q).2
  ·exact I.ok.exf b q
 ·rcases List.mem_append.mp hb with q | q
  ·have:=(I.ok.bs b o e).1
   rw[(hn b q).1]at this;cases this
  ·exact I.ok.noex b o e q
 ·rcases List.mem_append.mp hb with q | q
  ·obtain⟨_,o,ho,_⟩:=I.ok.funs.mem z
   rw[(hn b q).1]at ho;cases ho
  ·exact I.ok.exfs b q z
theorem Inv.exOut{X:Cx}{Kp:List (Addr×Obj)}{σ:St}{H:Hp}{s:Shared}{ch:List Addr}(I:Inv { X with ex:=ch++X.ex } Kp σ H s)(ok:X.Ok)(hn:∀b∈ch,X.s₀.heap.get? b=none):Inv X Kp σ H s:=by
 have no:∀b o,X.s₀.heap.get? b=some o->b∉X.ex->b∉ch++X.ex:=fun b o e h z=>by
  rcases List.mem_append.mp z with q | q
  ·rw[hn b q]at e;cases e
  ·exact h q
 exact⟨ok,I.os,I.bare,⟨fun b o e n hf hx=>I.base.keep b o e n hf (no b o e hx),fun b o e n hf hx=>I.base.slot b o e n hf (no b o e hx),fun b o e n hx=>I.base.free b o e n (no b o e hx),fun b o e hx=>I.base.there b o e (no b o e hx),I.base.tups,I.base.frzs,I.base.tbls⟩,I.loc,I.cell,I.free,I.freeC,I.pin,I.hok,I.len⟩
section
variable {X:Cx}{σ:St}{H:Hp}{s:Shared}{h':Heap}{e C:Addr}{E:Value->SP0}{A:Around}
theorem Inv.shake{ch:List Addr}(I:Inv X [] σ H s)(hm:∀b∈ch,Mine X H b)(keep:∀b o,b∉frs X.stack->b∉ch->s.heap.get? b=some o->h'.get? b=some o)
  (slot:∀b o,b∈frs X.stack->b∉ch->s.heap.get? b=some o->∃sl,h'.get? b=some { o with slots:=sl }):Inv X [] σ H { s with heap:=h' }:=by
 have u:Un (frs X.stack) ch H H s.heap h':=⟨fun b o q _ nf nc=>keep b o nf nc q,fun b o q _ hf nc=>slot b o hf nc q,fun _ _ _ n _=>n,fun b o q nc=>by
  by_cases hf:b ∈ frs X.stack
  ·obtain ⟨sl,z⟩:=slot b o hf nc q; exact ⟨_,z⟩
  ·exact ⟨o,keep b o hf nc q⟩,fun _ _ q=>q,fun _ _ _ q=>q,fun _ ps q=>⟨#[],by rw [q]; simp⟩⟩
 have hok:HOk X.prog X.w H h':=fun b o q=>(I.hok b o q).stay (fun c v hc r=>by
  have hb:H c ≠ none:=by
   rcases hc with rfl | hc
   ·rw [q]; exact fun z=>nomatch z
   ·rw [hc]; exact fun z=>nomatch z
  exact keep c v (fun z=>hb (I.stkFree c z)) (fun z=>hb (hm c z).un) r) (fun _ r=>r) fun _ _ r=>r
 exact Inv.exOut (Inv.call (X:={ X with ex:=ch++X.ex }) (g':=s.gens) (d':=s.drawn) (t':=s.toks) (Inv.exIn I fun b hb=>⟨(hm b hb).new,(hm b hb).loc,(hm b hb).cel⟩) u hok I.bare fun b hb=>⟨.inl (List.mem_append_left _ hb),(hm b hb).loc,(hm b hb).cel,fun p hp=>(hm b hb).pin p (by simpa using hp)⟩) I.ok fun b hb=>(hm b hb).new
structure XcT(X:Cx)(H:Hp)(h:Heap)(e C:Addr):Prop where
 mine:Mine X H e
 ob:∃oe vs T oT ts,h.get? e=some oe/\(oe.cls= .ref C/\oe.dict=none)/\oe.data= .fields vs/\vs[1]?=some (.ref T)/\T≠e/\Mine X H T/\h.get? T=some oT/\oT.data= .fields ts/\3<ts.size
theorem XcT.c{h:Heap}(x:XcT X H h e C):Xc X H h e C:=by
 obtain⟨oe,vs,T,oT,ts,h1,h2,h3,h4,h5,h6,h7,h8,h9⟩:=x.ob;exact⟨x.mine,oe,vs,h1,h2,h3,(Array.getElem?_eq_some_iff.mp h4).1,.inr ⟨T,oT,ts,h4,h5,h6,h7,h8,h9⟩⟩
structure Top0(X:Cx):Prop where
 st:X.stack=X.env::X.Ko
 fr:X.env.frame=some X.env.locals
 ex:X.ex=[]
theorem Mine.nofr{b:Addr}(m:Mine X H b)(I:Inv X [] σ H s):b∉frs X.stack:=fun z=>by
 rcases List.mem_cons.mp (I.stkSub b z)with q | q
 ·exact m.loc q
 ·obtain⟨_,o,ho,_⟩:=I.ok.funs.mem q
  rw[m.new]at ho;cases ho
theorem af2{P:Program}{w:World}{h:Heap}{b:Addr}{u:HO}(hok:HOk P w H h)(hH:H b=some u)(hb:h.get? b=none):False:=by
 have x:=hok b u hH;have no:∀{o:Obj},h.get? b=some o->False:=fun {o} q=>by rw[hb]at q;cases q
 cases u with
 |lst xs=>obtain⟨_,_,_,_,e⟩:=x;exact no e
 |tup xs=>obtain⟨_,_,_,⟨_,e,_⟩⟩:=x;exact no e
 |dK kvs=>obtain⟨_,_,_,_,o,_,_,e,_⟩:=x;exact no e
 |dT kvs=>obtain⟨_,_,_,_,o,_,_,e,_⟩:=x;exact no e
 |set S n=>obtain⟨o,_,_,_,e,_⟩:=x;exact no e
 |ins C dx fs=>obtain⟨_,_,_,e,_⟩:=x;exact no e
 |own y=>obtain⟨_,e⟩:=x;exact no e
 |xd fs=>obtain⟨_,⟨_,_,_,e,_⟩,_⟩:=x;exact no e
 |rng lo hi=>obtain⟨_,_,_,e⟩:=x;exact no e
 |frz ob u=>obtain⟨e,_⟩:=x;exact no e
 |tbl ps=>exact no (show h.get? b=some _ from x)
 |met f y=>exact no (show h.get? b=some _ from x)
 |ext φ=>obtain⟨_,⟨_,e⟩,_⟩:=x;exact no e
theorem QW(hx:X.ex=[])(I:Inv X [] σ H s){b:Addr}(hb:s.heap.get? b=none):Mine X H b:=by
 have no:∀{o:Obj},s.heap.get? b=some o->False:=fun {o} q=>by rw[hb]at q;cases q
 refine⟨?_,?_,fun z=>?_,fun x c q z=>?_,fun p hp z=>?_⟩
 ·cases hH:H b with
  |none=>rfl
  |some u=>exact(af2 I.hok hH hb).elim
 ·cases h0:X.s₀.heap.get? b with
  |none=>rfl
  | some o=>
   obtain⟨o',q⟩:=I.base.there b o h0 (by rw[hx];simp);exact(no q).elim
 ·subst z
  obtain⟨m,⟨o,_,_,ho,_⟩,_⟩:=I.loc;exact no ho
 ·obtain⟨v,o,ho,_⟩:=I.cell x c q
  subst z;exact no ho
 ·have:=(I.pin p (List.mem_append_left _ hp)).1
  rw[z]at this;exact no this
theorem aaO{oe:Obj}{vs:Array Value}{head:Value}{hadNext:Bool}(T0:Top0 X)(hA:A.frames=some X.stack)(I:Inv X [] σ H s)(me:Mine X H e)(he:s.heap.get? e=some oe)(hc:oe.cls= .ref C/\oe.dict=none)(hd:oe.data= .fields vs)(hsz:1<vs.size):
  wpAny (model X.prog X.w) A (do let a ←frameOf X.env;let pl ←entryPlaceOf X.env.locals hadNext;let b ←EntryCells.newEntry head a .none (rawInt X.env.locals) .none pl;setField (.ref e) 1 b) (fun _ s'=>Inv X [] σ H s'/\XcT X H s'.heap e C) E s:=by
 have hst:=T0.st;have hfn:=I.stack;rw[hst]at hfn hA
 have hene:e∉(X.env::X.Ko).filterMap (·.frame):=by
  have:=me.nofr I;rw[hst]at this;exact this
 refine wpAny_bind (wpAny_frameOf_fun hA hfn T0.fr fun h₁ hs₁=>?_);refine wpAny_bind (wpAny_entryPlaceOf fun pl hpl=>?_);unfold EntryCells.newEntry newFields;refine wpAny_bind (wpAny_newObj_type ?_ (hpl.sizeOk5 _ _ _ _ _));have he₁:h₁.get? e=some oe:=(hs₁.2.1 e hene).trans he;generalize hob:({ cls:= .type "traceback",dict:=none,data:= .fields ([head,Value.ref X.env.locals,.none,rawInt X.env.locals,.none]++(if pl.isEmpty then List.replicate 6 Value.none else pl)).toArray }:Obj)=ob;have obd:ob.data= .fields ([head,Value.ref X.env.locals,.none,rawInt X.env.locals,.none]++(if pl.isEmpty then List.replicate 6 Value.none else pl)).toArray:=by rw[←hob]
 have obf:ob.isFreed=false:=by rw[←hob];rfl
 have he₂:(h₁.push ob).get? e=some oe:=Heap.get?_push_of_some ob he₁;refine wpAny_setField he₂ hd hsz ?_;have hTe:h₁.objs.size≠e:=Nat.ne_of_gt (Heap.lt_size he₁);have hd₃:=Obj.data_mapFields hd (·.setIfInBounds 1 (Value.ref h₁.objs.size));have he₃:=Heap.get?_update_self (Obj.mapFields (·.setIfInBounds 1 (Value.ref h₁.objs.size))) he₂ (Obj.isFreed_of_fields hd₃);have hT₃:((h₁.push ob).update e (Obj.mapFields (·.setIfInBounds 1 (Value.ref h₁.objs.size)))).get? h₁.objs.size=some ob:=(Heap.get?_update_other _ _ (Ne.symm hTe)).trans (Heap.get?_push_size h₁ obf)
 have keep:∀b o,b≠e->h₁.get? b=some o->((h₁.push ob).update e (Obj.mapFields (·.setIfInBounds 1 (Value.ref h₁.objs.size)))).get? b=some o:=fun b o hb q=>by
  rw[Heap.get?_update_other _ _ (Ne.symm hb)];exact Heap.get?_push_of_some _ q
 have hfr:frs X.stack=(X.env::X.Ko).filterMap (·.frame):=by rw[hst];rfl
 have sz:h₁.objs.size=s.heap.objs.size:=hs₁.1
 have J:Inv X [] σ H { s with heap:=(h₁.push ob).update e (Obj.mapFields (·.setIfInBounds 1 (Value.ref h₁.objs.size))) }:=by
  refine Inv.shake (s:=s) (ch:=[e]) I (fun b hb=>by rw[List.mem_singleton.mp hb];exact me) (fun b o nf nc q=>keep b o (fun z=>nc (by simp[z])) ((hs₁.2.1 b (by rw[←hfr];exact nf)).trans q)) (fun b o _ nc q=>?_);obtain⟨sl,z⟩:=hs₁.2.2 b o q;exact⟨sl,keep b _ (fun w=>nc (by simp[w])) z⟩
 refine⟨J,me,_,_,h₁.objs.size,ob,_,he₃,?_,hd₃,by simp[hsz],hTe,?_,hT₃,obd,?_⟩
 ·rw[Obj.cls_mapFields];exact⟨hc.1,by unfold Obj.mapFields;split<;>exact hc.2⟩
 ·exact QW T0.ex I (Heap.get?_none_of_le (by rw[sz];exact Nat.le_refl _))
 ·simp only[List.size_toArray,List.length_append,List.length_cons,List.length_nil];omega
theorem af3(T0:Top0 X)(hA:A.frames=some X.stack)(I:Inv X [] σ H s)(x:Xc X H s.heap e C):wpAny (model X.prog X.w) A (noteFrame (.ref e) X.env) (fun _ s'=>Inv X [] σ H s'/\XcT X H s'.heap e C) E s:=by
 obtain⟨oe,vs,he,hc,hd,hsz,hT⟩:=x.ob;unfold noteFrame;simp only[T0.fr];rcases hT with h1 | ⟨T,oT,ts,h1,hTe,mT,hT,hdT,h3⟩
 ·refine wpAny_bind (wpAny_field he hd h1 ?_)
  rw[if_neg (by decide)];exact aaO T0 hA I x.mine he hc hd hsz
 ·refine wpAny_bind (wpAny_field he hd h1 ?_)
  rw[if_pos (show(Value.ref T != Value.none)=true from by simp)];refine wpAny_bind (wpAny_field hT hdT (x:=ts[3]) (by simp[h3]) ?_);by_cases hq:(ts[3]==rawInt X.env.locals)=true
  ·rw[if_pos hq]
   exact wpAny_pure ⟨I,x.mine,oe,vs,T,oT,ts,he,hc,hd,h1,hTe,mT,hT,hdT,h3⟩
  ·rw[if_neg hq]
   refine wpAny_bind (wpAny_setField hT hdT h3 ?_);have other:∀b,b≠T->(s.heap.update T (Obj.mapFields (·.setIfInBounds 3 Value.none))).get? b=s.heap.get? b:=fun b hb=>Heap.get?_update_other _ _ (Ne.symm hb)
   have J:Inv X [] σ H { s with heap:=s.heap.update T (Obj.mapFields (·.setIfInBounds 3 Value.none)) }:=
    Inv.shake (s:=s) (ch:=[T]) I (fun b hb=>by rw[List.mem_singleton.mp hb];exact mT) (fun b o _ nc q=>(other b fun z=>nc (by simp[z])).trans q) fun b o _ nc q=>⟨o.slots,(other b fun z=>nc (by simp[z])).trans q⟩
   exact aaO (s:={ s with heap:=s.heap.update T (Obj.mapFields (·.setIfInBounds 3 Value.none)) }) T0 hA J x.mine ((other e (Ne.symm hTe)).trans he) hc hd hsz
theorem Zv(fl:Option Addr)(I:Inv X [] σ H s)(x:XcT X H s.heap e C):wpAny (model X.prog X.w) A (setFlight (.ref e) fl) (fun _ s'=>Inv X [] σ H s'/\XcT X H s'.heap e C) E s:=by
 obtain⟨oe,vs,T,oT,ts,he,hc,hd,h1,hTe,mT,hT,hdT,h3⟩:=x.ob;unfold setFlight;refine wpAny_bind (wpAny_field he hd h1 ?_);rw[if_pos (show(Value.ref T != Value.none)=true from by simp)];refine wpAny_setField hT hdT h3 ?_;have other:∀b,b≠T->(s.heap.update T (Obj.mapFields (·.setIfInBounds 3 (fl.elim Value.none fun f=>rawInt f)))).get? b=s.heap.get? b:=fun b hb=>Heap.get?_update_other _ _ (Ne.symm hb)
 have J:Inv X [] σ H { s with heap:=s.heap.update T (Obj.mapFields (·.setIfInBounds 3 (fl.elim Value.none fun f=>rawInt f))) }:=
  Inv.shake (s:=s) (ch:=[T]) I (fun b hb=>by rw[List.mem_singleton.mp hb];exact mT) (fun b o _ nc q=>(other b fun z=>nc (by simp[z])).trans q) fun b o _ nc q=>⟨o.slots,(other b fun z=>nc (by simp[z])).trans q⟩
 exact⟨J,x.mine,oe,vs,T,_,_,(other e (Ne.symm hTe)).trans he,hc,hd,h1,hTe,mT,Heap.get?_update_self _ hT (Obj.isFreed_of_fields (Obj.data_mapFields hdT _)),Obj.data_mapFields hdT _,by simpa using h3⟩
theorem ajv{P:Value->SP0}(T0:Top0 X)(hA:A.frames=some X.stack)(hP:∀e s,P e s->∃a C σ H,e= .ref a/\Inv X [] σ H s/\Xc X H s.heap a C/\∀s',Inv X [] σ H s'->XcT X H s'.heap a C->P e s'):PassesOwn (model X.prog X.w) A X.env P:=fun ev s' h=>by
 obtain⟨a,C,σ,H,rfl,I,x,back⟩:=hP ev s' h;refine wpAny_mono (af3 (E:=fun _ _=>False) T0 hA I x) (fun _ s2 ⟨I2,x2⟩=>?_) fun _ _ z=>z.elim;obtain⟨oe,vs,T,oT,ts,he,hc,hd,h1,r⟩:=id x2.ob;unfold cameBackBy;refine wpAny_bind (wpAny_field he hd h1 ?_);rw[if_neg (by simp)]
 first
  |exact wpAny_mono (Zv (E:=fun _ _=>False) _ I2 x2) (fun _ s3 ⟨I3,x3⟩=>back s3 I3 x3) fun _ _ z=>z.elim
  |exact wpAny_bind (wpAny_pure (wpAny_mono (Zv (E:=fun _ _=>False) _ I2 x2) (fun _ s3 ⟨I3,x3⟩=>back s3 I3 x3) fun _ _ z=>z.elim))
end
structure XcO(h0:Heap)(H:Hp)(h:Heap)(e C:Addr):Prop where
 un:H e=none
 new:h0.get? e=none
 ob:∃oe vs T oT ts,h.get? e=some oe/\(oe.cls= .ref C/\oe.dict=none)/\oe.data= .fields vs/\vs[1]?=some (.ref T)/\T≠e/\H T=none/\h0.get? T=none/\h.get? T=some oT/\oT.data= .fields ts/\3<ts.size
noncomputable def CXt(P:Program)(w:World):CXT:=fun Ko H s E ev s'=>∃e C H',ev= .ref e/\s'.os=s.os/\AllBare s'.gens/\Un (frs Ko) [] H H' s.heap s'.heap/\HOk P w H' s'.heap/\XcO s.heap H' s'.heap e C/\E (.ref C) none H'
section
variable {X:Cx}
theorem Xc.of(hx:X.ex=[]){Kp:List (Addr×Obj)}{σ:St}{H H':Hp}{s s':Shared}{e0 C:Addr}(I:Inv X Kp σ H s)(x:XcO s.heap H' s'.heap e0 C):Xc X H' s'.heap e0 C:=by
 have J:Inv X [] σ H s:=I.pins_of fun p hp=>nomatch hp
 obtain⟨oe,ws,T,oT,ts,h1,h2,h3,h4,h5,h6,h7,h8,h9,h10⟩:=x.ob;have m1:=QW hx J x.new;have m2:=QW hx J h7;exact⟨⟨x.un,m1.new,m1.loc,m1.cel,m1.pin⟩,oe,ws,h1,h2,h3,(Array.getElem?_eq_some_iff.mp h4).1,.inr ⟨T,oT,ts,h4,h5,⟨h6,m2.new,m2.loc,m2.cel,m2.pin⟩,h8,h9,h10⟩⟩
end
noncomputable def Thr(X:Cx)(H:Hp)(c:Str)(ev:Value)(s':Shared):Prop:=∃e C σ' H',ev= .ref e/\X.mg c=some (.ref C)/\Inv X [] σ' H' s'/\jq H H'/\Xc X H' s'.heap e C
theorem Thr.mono{X:Cx}{H H1:Hp}{c:Str}{ev:Value}{s':Shared}(s:jq H H1)(h:Thr X H1 c ev s'):Thr X H c ev s':=by
 obtain⟨e,C,σ',H',h1,h2,h3,h4,h5⟩:=h;exact⟨e,C,σ',H',h1,h2,h3,s.trans h4,h5⟩
@[irreducible] noncomputable def ajw(X:Cx)(sts:List Stmt)(fx:Rho->Option Str):Prop:=∀(s:Shared) (σ:St) (H:Hp) (ρ:Rho) (c:Str),Inv X [] σ H s->EnvR X.K H ρ σ->fx ρ=some c->(∀ev s',Thr X H c ev s'->X.xe ev s')->wpAny (model X.prog X.w) X.A (execs sts X.env) (fun _ _=>False) X.xe s
noncomputable def vB:List Value:=[.type "ValueError",.type "Exception",.type "BaseException",.type "object"]
section
variable {X:Cx}{e a b c:Expr}{es:List Expr}{st:Stmt}{sts rest:List Stmt}{fx gx:Rho->Option Str}{F:RO}{pos:Pos}
noncomputable def nxX(F:RO)(gx:Rho->Option Str):Rho->Option Str:=fun ρ=>(F ρ).bind fun o=>match o with
 |.nx ρ'=>gx ρ'
 |_=>none
noncomputable def ifX(tc:Rho->Option Bool)(fx gx:Rho->Option Str):Rho->Option Str:=fun ρ=>(tc ρ).bind fun x=>if x=true then fx ρ else gx ρ
noncomputable def ahD:Rho->Option Str:=fun _=>none
end
noncomputable def ajx(K:Fg)(mg:SV)(n:Nat)(gx:LP->Option Str):Sp:=fun vs H _ E=>∃ds c,ds.length=n/\Reps K H ds vs/\gx ds=some c/\∀C H',mg c=some (.ref C)->jq H H'->E (.ref C) none H'
noncomputable def ajM(P:Program)(w:World)(K:Fg)(mg:SV)(base:Heap)(x:Str)(ps:List Str)(k n:Nat)(gx:LP->Option Str):Prop:=
 ∃(f:Addr) (fd:FuncData),FnOk P w K mg base (CXt P w) k f fd ps (ajx K mg n gx)/\mg x=some (.ref f)/\PySem.W.keepIn K (.ref f)=true/\JB K fd ps []
section
variable {X:Cx}{e a b c:Expr}{es:List Expr}{st:Stmt}{sts rest:List Stmt}{fx gx:Rho->Option Str}{F:RO}{pos:Pos}
end
section
variable {P:Program}{w:World}{K:Fg}{mg:SV}{base:Heap}
end
theorem Mine.unwish{X:Cx}{E:Value->SP0}{H:Hp}{b:Addr}(m:Mine (X.wish E) H b):Mine X H b:=⟨m.un,m.new,m.loc,m.cel,m.pin⟩
theorem Xc.unwish{X:Cx}{E:Value->SP0}{H:Hp}{h:Heap}{e C:Addr}(x:Xc (X.wish E) H h e C):Xc X H h e C:=by
 obtain⟨oe,vs,h1,h2,h3,h4,h5⟩:=x.ob;refine⟨x.mine.unwish,oe,vs,h1,h2,h3,h4,?_⟩;rcases h5 with q | ⟨T,oT,ts,q1,q2,q3,q4⟩
 ·exact .inl q
 ·exact .inr ⟨T,oT,ts,q1,q2,q3.unwish,q4⟩
section
variable {X:Cx}{st:Stmt}{sts rest tb hb:List Stmt}{F G:RO}{pos:Pos}
end
section
variable {X:Cx}{st b0:Stmt}{sts rest tb hb:List Stmt}{F G:RO}{fx:Rho->Option Str}{pos:Pos}
end
section
variable {P:Program}{w:World}{K:Fg}{mg:SV}{base:Heap}
end
theorem JL{t sl:Addr}{items:Array Value}{vl vu:Value}{lo hi:Option Int}{Q:Value->SP0}(ht:IsTup s.heap t items)(hs:s.heap.IsSliceOf sl vl vu .none)(pl:IsPart vl lo)(pu:IsPart vu hi)
  (hw:HT.sIx items.size 0 lo=0/\HT.sIx items.size items.size hi=items.size) (h:Q (.ref t) s):wpAny (model prog w) A (getItem (.ref t) (.ref sl)) Q E s:=by
 obtain⟨os,hos,hcs,hds⟩:=id hs;have hTs:s.TypeIs (.ref sl) "slice":=⟨os,hos,hcs⟩;unfold getItem
 first | (with_reducible refine wpAny_holding ?_) | skip
 first | refine wpAny_bind (wpAny_pure ?_) | skip
 refine wpAny_bind (wpAny_sequenceKey ht.typeIs (by decide) ?_);refine wpAny_bind (wpAny_callSpecial?_slot (name:=Str.ofString "__getitem__") ht.typeIs PyProof.Rows.slot_tuple_getitem (wpAny_call_entry PyProof.Rows.slot_tuple_getitem ht.typeIs entry_tuple_getitem ?_ (args_tuple_getitem _ _)));show wpAny _ _ (Builtin.Tuple.tupleItemsOf (.ref t) >>= _) _ _ s;refine wpAny_bind (tupleItemsOf_ ht (wpAny_bind (wpAny_typeOf hTs ?_)));rw[if_pos (show(Value.type "slice" == Value.type "slice")=true by decide)];refine wpAny_bind (HT.sliceApplied_gen hs pl pu ?_);rw[hw.1,hw.2];have hyes:((((0:Nat):Int)==0&&(1:Int)==1&&(items.size-0)==items.size)=true):=by simp
 show wpAny _ _ (if ((((0:Nat):Int)==0&&(1:Int)==1&&(items.size-0)==items.size)=true) then _ else _) _ _ s;rw[if_pos hyes];obtain⟨o,ho,hc,hd⟩:=id ht;have hT:s.TypeIs (.ref t) "tuple":=⟨o,ho,hc⟩
 have ex:∀{R:Bool->SP0} {A':Around} {E':Value->SP0},R true s->wpAny (model prog w) A' (Builtin.Tuple.tupleIsExact (.ref t)) R E' s:=fun {R A' E'} hR=>by
  unfold Builtin.Tuple.tupleIsExact
  first
   |exact wpAny_bind (wpAny_typeOf hT (wpAny_pure hR))
   | (wp_walk;exact hR)
 first
  |exact wpAny_bind (ex (wpAny_bind (wpAny_rule (wpAny_pure ⟨_,rfl,wpAny_pure h⟩))))
  |exact wpAny_bind (ex (by rw[if_pos rfl];exact wpAny_bind (wpAny_rule (wpAny_pure ⟨_,rfl,wpAny_pure h⟩))))
  | (refine wpAny_bind (ex ?_);wp_walk;exact⟨_,rfl,wpAny_pure h⟩)
  | (refine wpAny_bind (wpAny_bind (ex ?_));wp_walk;exact⟨_,rfl,wpAny_pure h⟩)
section
variable {X:Cx}{e a b c:Expr}{fa fb fc:RP}{pos p2:Pos}
noncomputable def aiP(K:Fg):V->Option Int->Option Int->Hp->VK->Prop:=fun x lo hi H Q=>∃a xs,x= .ref a/\SqT K H a xs/\(HT.sIx xs.length 0 lo=0/\HT.sIx xs.length xs.length hi=xs.length)/\Q (.ref a) H
theorem aaP:SlR X (aiP X.K):=by
 intro Kp s σ H x v vl vu lo hi sl Q I rx hs pl pu h;obtain⟨a,xs,rfl,hx,hw,q⟩:=h;cases rx;obtain⟨its,r,ht,hz⟩:=I.tuple hx;have hlen:its.toArray.size=xs.length:=by rw[List.size_toArray];exact r.length.symm
 exact⟨"tuple",_,PyProof.Rows.slot_tuple_getitem.lookup,ht.typeIs,JL ht hs pl pu (by rw[hlen];exact hw) ⟨.ref a,H,I,rfl,q⟩⟩
noncomputable def aaQ(p:PyData)(lo hi:Option Int):OP:=match p with
 |.tuple ds=>some (.tuple (ZV ds lo hi))
 |_=>none
theorem aeq{K:Fg}{p d:PyData}{lo hi:Option Int}{x:V}{H:Hp}{Q:VK}(h:aaQ p lo hi=some d)(r:Rep K H p x)(k:∀v H',jq H H'->Rep K H' d v->Q v H'):ais K x lo hi H Q∨aiP K x lo hi H Q:=by
 unfold aaQ at h;split at h
 ·rename_i ds
  cases h;obtain⟨a,xs,e1,e2,e3⟩:=r;have hl:=e3.length
  have rr:Reps K H (ZV ds lo hi) (ZM xs lo hi):=by
   unfold ZM ZV;rw[hl];exact(e3.drop _).take _
  by_cases hw:HT.sIx xs.length 0 lo=0/\HT.sIx xs.length xs.length hi=xs.length
  ·refine .inr ⟨a,xs,e1,e2,hw,k _ H (jq.refl H) ⟨a,xs,rfl,e2,?_⟩⟩
   have ex:ZM xs lo hi=xs:=by unfold ZM;rw[hw.1,hw.2];simp
   rw[ex]at rr;exact rr
  ·refine .inl ⟨a,xs,e1,e2,hw,fun q hq=>?_⟩
   have s1:=jz (o:= .tup (ZM xs lo hi)) hq;exact k _ _ s1 ⟨q,_,rfl,SqT.of jr,Reps.mono s1 _ _ rr⟩
 ·cases h
noncomputable def Zw(fa fb:RP):RP:=fun ρ=>(fa ρ).bind fun p=>(fb ρ).bind fun q=>(inI q).bind fun i=>aaQ p none (some i)
theorem aer(ha:PD X a fa)(hb:PD X b fb):PD X (.Subscript a (.Slice none (some b) none p2) pos) (Zw fa fb):=by
 with_unfolding_all
  refine PE.imp (aay (adV.or aaP) ha acf (acg hb)) fun σ H Q ⟨ρ,d,en,q,k⟩=>?_;cases h1:fa ρ with
  |none=>simp[Zw,h1]at q
  | some y=>
   cases h2:fb ρ with
   |none=>simp[Zw,h1,h2]at q
   | some z=>
    cases h3:inI z with
    |none=>simp[Zw,h1,h2,h3]at q
    | some i=>
     have q':aaQ y none (some i)=some d:=by simpa[Zw,h1,h2,h3]using q
     have hz:=aaN h3;subst hz;refine⟨ρ,y,en,h1,fun v H1 s1 r1=>⟨ρ,_,en.mono s1,h2,fun u H2 s2 r2=>?_⟩⟩;cases (show u=_ from r2);exact⟨i,rfl,aeq q' (Rep.mono s2 _ _ r1) fun v H' s r=>k v H' (s1.trans (s2.trans s)) r⟩
noncomputable def Jc(fa fb:RP):RP:=fun ρ=>(fa ρ).bind fun p=>(fb ρ).bind fun q=>(inI q).bind fun i=>aaQ p (some i) none
theorem abM(ha:PD X a fa)(hb:PD X b fb):PD X (.Subscript a (.Slice (some b) none none p2) pos) (Jc fa fb):=by
 with_unfolding_all
  refine PE.imp (aay (adV.or aaP) ha (acg hb) acf) fun σ H Q ⟨ρ,d,en,q,k⟩=>?_;cases h1:fa ρ with
  |none=>simp[Jc,h1]at q
  | some y=>
   cases h2:fb ρ with
   |none=>simp[Jc,h1,h2]at q
   | some z=>
    cases h3:inI z with
    |none=>simp[Jc,h1,h2,h3]at q
    | some i=>
     have q':aaQ y (some i) none=some d:=by simpa[Jc,h1,h2,h3]using q
     have hz:=aaN h3;subst hz;refine⟨ρ,y,en,h1,fun v H1 s1 r1=>⟨ρ,_,en.mono s1,h2,fun u H2 s2 r2=>?_⟩⟩;cases (show u=_ from r2);exact⟨i,rfl,aeq q' (Rep.mono s2 _ _ r1) fun v H' s r=>k v H' (s1.trans (s2.trans s)) r⟩
end
section
variable {X:Cx}
theorem aes{K:Fg}{T:String}(hT:T="list")(d:PyData):PySem.W.kitOne K (.type (tyn d)) (.type T)=some (qX T d):=by
 subst hT;cases d<;>first|rfl | (rename_i kvs;by_cases h:qz kvs=true<;>simp only[tyn,qX,h]<;>rfl)
theorem af4{a:Expr}{fa:RP}{T:Str}{Tn:String}{p p2 pos:Pos}(hT:Tn="list")(hm1:X.mg "isinstance"=none)(hm2:X.mg T=none)(hv:bootBuiltins T=some (.type Tn))(ha:PD X a fa)
  (hg1:Gl X "isinstance":=by rfl) (hg2:Gl X T:=by rfl) (hn:T≠"__name__":=by decide) (hd:(T==("__debug__":Str))=false:=by decide)
  (he:starEach [a,.Name T p2] X.env=[(false,eval a X.env),(false,eval (.Name T p2) X.env)]:=by rfl) (he2:starEach [.Name T p2] X.env=[(false,eval (.Name T p2) X.env)]:=by rfl) (hpl:(backTo pos (starEach [.Name T p2] X.env)).any (·.1)=false:=by rfl):
  PD X (.Call (.Name "isinstance" p) [a,.Name T p2] [] pos) (fun ρ=>(fa ρ).bind fun d=>Jx Tn d):=by
 with_unfolding_all
  have hT2:PE X (.Name T p2) (tC (.ty Tn)):=aca hg2 hm2 hv rfl hn hd;refine PE.imp (JC (aaH (T:=Tn)) hg1 hm1 (by decide +kernel) (qG ha (qG hT2 zP (by rw[he2];rfl)) (by rw[he,he2])) (by decide) (by decide) (by rw[he,he2]) hpl) fun σ H Q ⟨ρ,d,en,q,k⟩=>?_;cases h1:fa ρ with
  |none=>simp[h1]at q
  | some c=>
   obtain⟨hF,rfl⟩:=aaI (show Jx Tn c=some d by simpa[h1]using q);exact⟨ρ,c,en,h1,fun v H1 s1 r1=>⟨v,c,_,rfl,r1,hF,aes hT c,k _ H1 s1 rfl⟩⟩
end
section
variable {X:Cx}
end
section
variable {X:Cx}{e a b c:Expr}{fa fb fc:RP}{pos p2:Pos}
end
section
variable {X:Cx}
end
section
variable {X:Cx}{e:Expr}{es:List Expr}{pos p:Pos}
noncomputable def agR(x:Str):PyData->Bool
 |.dict [(.str y,.none)]=>decide (y=x)
 |_=>false
@[simp] theorem ahE(x:Str):agR x (fnD x)=true:=by simp[agR,fnD]
end
section
variable {X:Cx}{e a b c:Expr}{es:List Expr}{fa:RP}{fx gx:Rho->Option Str}{pos:Pos}
end
section
variable {X:Cx}{own:Option Nat}{e a b c tg src:Expr}{es:List Expr}{st:Stmt}{sts rest body:List Stmt}{fx gx:Rho->Option Str}{F:RO}{fa:RP}{pos:Pos}
theorem Thr.unwish{W:Value->SP0}{Hb Hs:Hp}{c:Str}{ev:Value}{s':Shared}(sb:∀H3,jq Hb H3->jq Hs H3)(h:Thr (X.wish W) Hb c ev s'):Thr X Hs c ev s':=by
 obtain⟨e,C,σ',H',h1,h2,h3,h4,h5⟩:=h;exact⟨e,C,σ',H',h1,h2,h3.unwish,sb _ h4,h5.unwish⟩
end
section
variable {X:Cx}{e a b c:Expr}{es:List Expr}{st:Stmt}{sts rest:List Stmt}{fx gx:Rho->Option Str}{F:RO}{pos p:Pos}
noncomputable def orX(fx gx:Rho->Option Str):Rho->Option Str:=fun ρ=>match fx ρ with
 |some c=>some c
 |none=>gx ρ
end
section
variable {X:Cx}{a b c:Expr}{tc ta tb:Rho->Option Bool}{pos:Pos}
end
section
variable {X:Cx}{a b:Expr}{fa fb:RP}
end
structure RoomH(k:Nat)(A:Around):Prop where
 dp:A.depth+3*k+5<recursionLimit
 un:A.units+16*k+200<cLine
theorem RoomH.deeper{k:Nat}{A:Around}(r:RoomH (k+1) A)(env:Env):RoomH k (A.deeper env):=
 ⟨by have:=r.dp;show A.depth+1+3*k+5<_;omega,by have:=r.un;show A.units+3+16*k+200<_;omega⟩
structure FnH(P:Program)(w:World)(K:Fg)(mg:SV)(base:Heap)(k:Nat)(f:Addr)(fd:FuncData)(ps:List Str)(sp:Sp):Prop where
 len:∀vs H Q E,sp vs H Q E->vs.length=ps.length
 run:∀(A:Around) (Ko:List Env) (s:Shared) (H:Hp) (args:Args) (us:List Value) (vs:List V) (Q:VK) (E:XK),RoomH k A->Env0 P w K mg base A Ko s H->BindsTo s fd args (ps.zip us)->jx vs us->sp vs H Q E->
  codeAny (model P w) A (.call (.ref f) args) (CR CX0 Ko P w H s Q E) s
noncomputable def ai2(P:Program)(w:World)(K:Fg)(mg:SV)(base:Heap)(x:Str)(ps:List Str)(k n:Nat)(g:LP->OP):Prop:=
 ∃(f:Addr) (fd:FuncData),FnH P w K mg base k f fd ps (Pur K n g)/\mg x=some (.ref f)/\PySem.W.keepIn K (.ref f)=true/\JB K fd ps []
section
variable {P:Program}{w:World}{K:Fg}{mg:SV}{base:Heap}
end
section
variable {X:Cx}{e:Expr}{es:List Expr}{pos:Pos}
end
structure ExcK(K:Fg)(C:Addr):Prop where
 exc:PySem.W.excIn K C vB "ValueError.__new__"=true
 ga:PySem.W.findIn K (.ref C) "__getattribute__"=some (some (.builtin "BaseException.__getattribute__"))
 gt:PySem.W.findIn K (.ref C) "__getattr__"=some none
 cl:PySem.W.findIn K (.ref C) "__class__"=some (some (.builtin "object.__class__"))
 mo:PySem.W.mroIn K C (.type "object")=some true
 mb:PySem.W.mroIn K C (.type "BaseException")=some true
structure ClsG(K:Fg):Prop where
 gt:PySem.W.specialIn K (.builtin "object.__class__") "__get__"=some (some (.builtin "getset_descriptor.__get__"))
 tk:PySem.W.takesIn K (.builtin "object.__class__")=some true
section
variable {prog:Program}{w:World}{A:Around}{E:Value->SP0}{s:Shared}{K:Fg}{a C:Addr}{oe:Obj}
end
noncomputable def adr(K:Fg)(c:Str):Option Addr:=match PySem.W.nsIn K mainGlobals c with
 |some (some (.ref C))=>some C
 |_=>none
noncomputable def ahF(K:Fg)(C:Addr):Bool:=PySem.W.excIn K C vB "ValueError.__new__" && ((PySem.W.findIn K (.ref C) "__getattribute__" == some (some (.builtin "BaseException.__getattribute__")))&&((PySem.W.findIn K (.ref C) "__getattr__" == some none)&&((PySem.W.findIn K (.ref C) "__class__" == some (some (.builtin "object.__class__")))&&((PySem.W.mroIn K C (.type "object")==some true)&&(PySem.W.mroIn K C (.type "BaseException")==some true)))))
theorem aet{K:Fg}{C:Addr}(h:ahF K C=true):ExcK K C:=by
 unfold ahF at h;simp only[Bool.and_eq_true,beq_iff_eq]at h;obtain⟨h1,h2,h3,h4,h5,h6⟩:=h;exact⟨h1,h2,h3,h4,h5,h6⟩
noncomputable def abN(K:Fg)(y:Str)(cs:List Str):Bool:=(PySem.W.specialIn K (.builtin "object.__class__") "__get__" == some (some (.builtin "getset_descriptor.__get__")))&&((PySem.W.takesIn K (.builtin "object.__class__")==some true)&&(match adr K y with
 | none=>false
 | some B=>(PySem.W.typeIn K (.ref B) == some (.type "type")) && ((PySem.W.mroIn K B (.type "BaseException") == some true) && cs.all fun c=>match adr K c with
  | none=>false
  | some C=>ahF K C && ((PySem.W.mroIn K C (.ref B) == some true) && ((PySem.W.kitOne K (.ref C) (.type "ValueError") == some true) && cs.all fun d=>match adr K d with
   | none=>false
   | some D=>PySem.W.kitOne K (.ref C) (.ref D) == some (c == d))))))
structure ErrT(K:Fg)(mg:SV)(y:Str)(cs:List Str):Prop where
 tab:abN K y cs=true
 mgs:∀c C,adr K c=some C->mg c=some (.ref C)
section
variable {K:Fg}{mg:SV}{y:Str}{cs:List Str}
theorem ErrT.g(h:ErrT K mg y cs):ClsG K:=by
 have:=h.tab;unfold abN at this;simp only[Bool.and_eq_true,beq_iff_eq]at this;exact⟨this.1,this.2.1⟩
theorem ErrT.par(h:ErrT K mg y cs):∃B,adr K y=some B/\mg y=some (.ref B)/\PySem.W.typeIn K (.ref B)=some (.type "type")/\PySem.W.mroIn K B (.type "BaseException")=some true/\
  ∀c∈cs,∃C,adr K c=some C/\mg c=some (.ref C)/\ExcK K C/\PySem.W.mroIn K C (.ref B)=some true/\PySem.W.kitOne K (.ref C) (.type "ValueError")=some true/\∀d∈cs,∃D,adr K d=some D/\mg d=some (.ref D)/\PySem.W.kitOne K (.ref C) (.ref D)=some (c==d):=by
 have q:=h.tab;unfold abN at q;simp only[Bool.and_eq_true,beq_iff_eq]at q;obtain⟨_,_,q⟩:=q;cases hB:adr K y with
 |none=>rw[hB]at q;cases q
 | some B=>
  rw[hB]at q;simp only[Bool.and_eq_true,beq_iff_eq,List.all_eq_true]at q;obtain⟨q1,q2,q3⟩:=q;refine⟨B,rfl,h.mgs y B hB,q1,q2,fun c hc=>?_⟩;have z:=q3 c hc;cases hC:adr K c with
  |none=>rw[hC]at z;cases z
  | some C=>
   rw[hC]at z;simp only[Bool.and_eq_true,beq_iff_eq,List.all_eq_true]at z;obtain⟨z1,z2,z3,z4⟩:=z;refine⟨C,rfl,h.mgs c C hC,aet z1,z2,z3,fun d hd=>?_⟩;have v:=z4 d hd;cases hD:adr K d with
   |none=>rw[hD]at v;cases v
   | some D=>
    rw[hD]at v;exact⟨D,rfl,h.mgs d D hD,beq_iff_eq.mp v⟩
end
noncomputable def aiQ:PyData->Option Str
 |.dict [(.str c,.bool true)]=>some c
 |_=>none
@[simp] theorem ahG(c:Str):aiQ (ajq c)=some c:=rfl
section
variable {X:Cx}{a:Expr}{fa:RP}{pos p p2:Pos}{y:Str}{cs:List Str}
end
section
variable {X:Cx}{σ:St}{H:Hp}{s:Shared}{e C:Addr}
theorem Inv.take{oe:Obj}(I:Inv X [] σ H s)(m:Mine X H e)(he:s.heap.get? e=some oe):Inv X [] σ (upd H e (.frz oe (.own e))) s/\jq H (upd H e (.frz oe (.own e))):=by
 have ne:∀b o,H b=some o->b≠e:=fun b o q z=>by subst z;rw[m.un]at q;cases q
 have sm:jq H (upd H e (.frz oe (.own e))):=fun b o q=>by rw[jm (ne b o q)];exact q
 have u:Un (frs X.stack) [e] H (upd H e (.frz oe (.own e))) s.heap s.heap:=⟨fun b o q _ _ _=>q,fun b o q _ _ _=>⟨o.slots,q⟩,fun b o q n nc=>by rw[jm (fun z=>nc (by simp[z]))];exact n,fun b o q _=>⟨o,q⟩,fun b xs q=>sm b _ q,fun b o v q=>sm b _ q,fun b ps q=>⟨#[],by rw[sm b _ q];simp⟩⟩
 have hok:HOk X.prog X.w (upd H e (.frz oe (.own e))) s.heap:=fun b o q=>by
  by_cases hb:b=e
  ·subst hb
   rw[jr]at q;cases q;exact⟨he,_,he⟩
  ·rw[jm hb]at q
   exact(I.hok b o q).stay (fun c v hc r=>r) (fun c r=>sm _ _ r) fun c v r=>sm _ _ r
 refine⟨?_,sm⟩
 have J:=Inv.call (X:={ X with ex:=[e]++X.ex }) (g':=s.gens) (d':=s.drawn) (t':=s.toks) (Inv.exIn I fun b hb=>by rw[List.mem_singleton.mp hb];exact⟨m.new,m.loc,m.cel⟩) u hok I.bare fun b hb=>by
  rw[List.mem_singleton.mp hb];exact⟨.inl (List.mem_append_left _ (by simp)),m.loc,m.cel,fun p hp=>m.pin p (by simpa using hp)⟩
 exact Inv.exOut J I.ok fun b hb=>by rw[List.mem_singleton.mp hb];exact m.new
end
section
variable {X:Cx}{st b0:Stmt}{sts rest tb hb:List Stmt}{F G:RO}{fx:Rho->Option Str}{pos:Pos}
end
noncomputable abbrev ajy:=Int×(Int×Int)
structure TripAt(h:Heap)(u:Value)(t:ajy):Prop where
 ex:∃a o k tk a2,u= .ref a/\h.get? a=some o/\o.cls= .type "tuple"/\o.data= .seq #[.int t.1 tk,.ref a2] k/\PairAt h (.ref a2) t.2
section
variable {X:Cx}
end
section
variable {α:Type}
end
section
variable {X:Cx}{e a b c:Expr}{es rest:List Expr}{st:Stmt}{sts srest:List Stmt}{fx gx:Rho->Option Str}{fa fb:RP}{F:RO}{pos:Pos}
noncomputable def items:PyData->Option (LP)
 |.list ds=>some ds
 |.tuple ds=>some ds
 |_=>none
noncomputable def itS(fa:RP):Rho->Option (LP):=fun ρ=>(fa ρ).bind items
theorem zF{tg:Expr}(h:PD X e fa):PID X tg e (itS fa):=by
 with_unfolding_all
  intro Kp s σ H R I ⟨ρ,ds,en,q,k⟩;cases hf:fa ρ with
  |none=>simp[itS,hf]at q
  | some d=>
   have q':items d=some ds:=by simpa[itS,hf]using q
   cases d with
   | list es=>
    cases q';exact aaE (tg:=tg) h Kp s σ H R I ⟨ρ,ds,en,by simp[itL,hf,QO],k⟩
   | tuple es=>
    cases q';exact ZP (tg:=tg) h Kp s σ H R I ⟨ρ,ds,en,by simp[itT,hf,J5],k⟩
   |_=>cases q'
end
theorem _root_.L2.Room.sort{k:Nat}{A:Around}(r:Room k A):A.in1.in1.units+8<cLine:=by
 have:=r.un;show A.units+1+1+8<cLine;omega
theorem RoomH.units{k:Nat}{A:Around}(r:RoomH k A):A.units+64<cLine:=by have:=r.un;omega
theorem RoomH.mono{j k:Nat}{A:Around}(r:RoomH k A)(h:j<=k):RoomH j A:=⟨by have:=r.dp;omega,by have:=r.un;omega⟩
section
variable {X:Cx}{a b:Expr}{pos:Pos}
end
section
variable {X:Cx}{e a b c:Expr}{l r:List Stmt}{fx gx:Rho->Option Str}{pos:Pos}
end
section
variable {X:Cx}{own:Option Nat}{tg:Expr}{st:Stmt}{sts:List Stmt}{fx:Rho->Option Str}{F:RO}
end
section
variable {X:Cx}{a i e:Expr}{es:List Expr}{pos fp:Pos}
end
section
variable {X:Cx}{own:Option Nat}{e a b c:Expr}{es:List Expr}{st:Stmt}{sts rest:List Stmt}{fa fb fc:RP}{F G:RO}{pos:Pos}
end
section
variable {X:Cx}{tg src:Expr}{pos pos':Pos}{own:Option Nat}
theorem aeu(i:Nat){x:Str}{el:Expr}{ts:List Expr}{sc:Scope}{ps:Pos}{fi:Rho->Option (LP)}{ga:PyData->Rho->Option Rho}{ft:Rho->Option Bool}{fe:RP}(N':List Str)(cap:List (Option Nat))(hc:X.calm=true)(hN:X.N.Nodup)(hi:PID X tg src fi)(ok:CompOk X sc N' cap)
  (body:∀cl C s0 H0 fp pn,PGD (blk X N' sc cl C s0 H0 fp pn) tg ga/\afM (blk X N' sc cl C s0 H0 fp pn) ts ft/\PD (blk X N' sc cl C s0 H0 fp pn) el fe)
  (ho:own≠some i:=by decide) (hi0:X.N[i]?=some x:=by rfl) (hx:Loc X.env.scope x:=by first|exact Or.inl rfl|exact Or.inr rfl) (hsw:swapsWith (.ListComp el [⟨tg,src,ts,0⟩] sc ps) (some (.Name x pos')) pos.line X.env=pure true:=by rfl)
  (hf:X.fn x=true∨X.env.scope.names.lookup x=some .local:=by first|exact .inl rfl|exact .inr rfl|assumption)
  (hs:∀x,foldedSetIterable src X.env x=pure x:=by intro _;rfl):PSO X own (.Assign [.Name x pos'] (.ListComp el [⟨tg,src,ts,0⟩] sc ps) pos) (qW (fun ρ=>qy fi cap ga ft fe (hid own ρ)) (jZ i)):=by
 with_unfolding_all
  refine PS.imp (af1 (g:=tDG X.K ga) (tt:=tDT X.K ft) (te:=tD X.K fe) hc hi ok (fun cl C s0 H0 fp pn=>body cl C s0 H0 fp pn) hN hi0 hx hsw hf hs) fun D σ H ⟨Hs,ρ,o,E,q,k⟩=>aep ?_;cases h1:qy fi cap ga ft fe (hid own ρ)with
  |none=>simp[qW,h1]at q
  | some d=>
   have:Out.nx (ρ.set i (some d))=o:=by simpa[qW,h1,jZ]using q
   subst this;exact⟨hid own ρ,d,E.hid,h1,fun v H1 s1 r1=>k _ H1 ((E.mono s1).set ho r1)⟩
end
noncomputable def ajK(ps:List (Int×Int)):PyData:= .tuple (ps.map aiM)
noncomputable def Qu(h:Heap):List Value->List (Int×Int)->Prop
 | [],ps=>ps=[]
 |v::vs,ps=>∃p r a,ps=p::r/\v= .ref a/\PairAt h (.ref a) p/\Qu h vs r
theorem Qu.len{h:Heap}:∀{vs:List Value}{ps:List (Int×Int)},Qu h vs ps->vs.length=ps.length
 | [],ps,e=>by cases (show ps=[] from e);rfl
 |v::vs,ps,⟨p,r,a,e,_,_,k⟩=>by rw[e,List.length_cons,List.length_cons,k.len]
structure SetAt(h:Heap)(u:Value)(ps:List (Int×Int)):Prop where
 ex:∃a o k vs,u= .ref a/\h.get? a=some o/\o.cls= .type "tuple"/\o.data= .seq (List.toArray vs) k/\Qu h vs ps
section
variable {X:Cx}
end
noncomputable def acv:PyData->Option (Int×Int)
 |.tuple [.int p,.int q]=>some (p,q)
 |_=>none
noncomputable def zS:LP->Option (List (Int×Int))
 | []=>some []
 |d::ds=>(acv d).bind fun t=>(zS ds).map fun ts=>t::ts
set_option maxHeartbeats 4000000 in
section
variable {X:Cx}
end
section
variable {prog:Program}{w:World}{A:Around}{E:Value->SP0}{s:Shared}
end
section
variable {X:Cx}{a:Expr}{fa:RP}{pos p1 p2 p3:Pos}{j:Nat}
end
section
variable {X:Cx}{e b ev:Expr}{rest:List Stmt}{fe fk fv:RP}{G:RO}{pos pos2:Pos}
end
section
variable {X:Cx}
end
section
variable {X:Cx}{σ:St}{H:Hp}{s:Shared}{h':Heap}{e C:Addr}{E:Value->SP0}{A:Around}
end
section
variable {X:Cx}{e a b c:Expr}{es:List Expr}{pos:Pos}
end
section
variable {prog:Program}{w:World}{A:Around}{s:Shared}{R:Result->SP0}
end
section
variable {X:Cx}{tg src:Expr}
end
section
variable {X:Cx}{e:Expr}{st:Stmt}{rest:List Stmt}{fa:RP}{G F:RO}{pos:Pos}
end
section
variable {X:Cx}{e a b c:Expr}{fa fb fc:RP}{pos p2:Pos}
end
section
variable {X:Cx}{own:Option Nat}{e a b c tg src:Expr}{body:List Stmt}{F:RO}{pos:Pos}
variable {es:List Expr}
end
section
variable {prog:Program}{w:World}{A:Around}{E:Value->SP0}{s:Shared}
section
variable {K:Type}[DecidableEq K]{knd:KeyKind prog w K}{R:Result->SP0}
end
end
section
variable {X:Cx}
end
section
theorem QX(xs:Array Nat)(j:Nat):∀(f lo hi:Nat),lo<=hi->SetTable.below.go xs j f lo hi<=hi
 |0,lo,hi,h=>h
 | f+1,lo,hi,h=>by
  rw[SetTable.below.go];split
  ·rename_i hlt
   dsimp only;split
   ·exact QX xs j f _ hi (by omega)
   ·exact Nat.le_trans (QX xs j f lo ((lo+hi) / 2) (by omega)) (by omega)
  ·exact h
theorem aaR(xs:Array Nat)(j:Nat):SetTable.below xs j<=xs.size:=QX xs j _ 0 _ (Nat.zero_le _)
theorem Jn{α:Type}(xs:Array α){p:Nat}(h:p<=xs.size)(x:α):(SetTable.insertAt xs p x).size=xs.size+1:=by
 unfold SetTable.insertAt;simp[Array.size_append,Array.size_push,Array.size_extract];omega
theorem aaS{α:Type}{xs:Array α}{a b:Nat}{y:α}(h:y∈xs.extract a b):y∈xs:=by
 obtain⟨i,hi,e⟩:=Array.mem_iff_getElem.mp h;rw[Array.getElem_extract]at e;rw[←e];exact Array.getElem_mem _
theorem ZW{α:Type}{xs:Array α}{p:Nat}{x y:α}(h:y∈SetTable.insertAt xs p x):y=x∨y∈xs:=by
 unfold SetTable.insertAt at h;rcases Array.mem_append.mp h with h | h
 ·rcases Array.mem_push.mp h with h | h
  ·exact .inr (aaS h)
  ·exact .inl h
 ·exact .inr (aaS h)
structure Tb(t:SetTable)(n:Nat):Prop where
 mask:t.mask=7∨t.mask=31
 dum:t.dummies=#[]
 size:t.place.size=n
 room:n<=t.mask
theorem Tb.has{t:SetTable}{n:Nat}(h:Tb t n)(j:Nat):SetTable.has t.dummies j=false:=by
 rw[h.dum];rfl
theorem Jy{t:SetTable}{n:Nat}(h:Tb t n)(j:Nat):(t.slot j= .empty)∨∃i,t.slot j= .live i/\t.place[i]?=some j:=by
 unfold SetTable.slot;dsimp only;by_cases c:(t.place[SetTable.below t.place j]? == some j)=true
 ·rw[if_pos c]
  exact .inr ⟨_,rfl,by simpa using c⟩
 ·rw[if_neg c,h.has j]
  exact .inl rfl
theorem acw:∀(N:Nat) (xs:List Nat),(∀j,j<N->j∈xs)->N<=xs.length
 |0,_,_=>Nat.zero_le _
 | N+1,xs,h=>by
  have hm:=h N (Nat.lt_succ_self _)
  have ih:=acw N (xs.erase N) fun j hj=>by
   have:=h j (by omega);exact(List.mem_erase_of_ne (by omega)).mpr this
  rw[List.length_erase_of_mem hm]at ih;have:0<xs.length:=List.length_pos_of_mem hm;omega
theorem abO{t:SetTable}{n:Nat}(h:Tb t n):∃j,j<=t.mask/\t.slot j= .empty:=by
 by_cases c:∃j,j<=t.mask/\t.slot j= .empty
 ·exact c
 ·exfalso
  have:=acw (t.mask+1) t.place.toList fun j hj=>by
   rcases Jy h j with z | ⟨i,z1,z2⟩
   ·exact absurd ⟨j,by omega,z⟩ c
   ·exact Array.mem_toList_iff.mpr (Array.mem_of_getElem? z2)
  rw[Array.length_toList,h.size]at this;have:=h.room;omega
noncomputable def adv(t:SetTable):Nat->SetTable.Probe->SetTable.Probe
 |0,p=>p
 |k+1,p=>adv t k (t.advance p)
theorem Jd(t:SetTable):∀(a b:Nat) (p:SetTable.Probe),adv t (a+b) p=adv t b (adv t a p)
 |0,b,p=>by rw[Nat.zero_add];rfl
 |a+1,b,p=>by rw[Nat.succ_add];exact Jd t a b _
theorem acx(t:SetTable):∀(k:Nat) (p:SetTable.Probe),p.more=k->adv t k p={ p with j:=p.j+k,more:=0 }
 |0,p,h=>by cases p;simp only at h;subst h;rfl
 | k+1,p,h=>by
  have e:t.advance p={ p with j:=p.j+1,more:=p.more-1 }:=by unfold SetTable.advance;rw[if_pos (by omega)]
  show adv t k (t.advance p)=_;rw[e,acx t k _ (by show p.more-1=k;omega)];show({ p with j:=p.j+1+k,more:=0 }:SetTable.Probe)=_;rw[show p.j+1+k=p.j+(k+1) by omega]
theorem ZX(mask i:Nat):SetTable.runEnd mask i-i<=9:=by unfold SetTable.runEnd;split<;>omega
noncomputable def lp(t:SetTable)(i pe:Nat):SetTable.Probe:={ j:=i,more:=SetTable.runEnd t.mask i-i,i:=i,perturb:=pe,dummy:=none }
theorem QY{t:SetTable}{p:SetTable.Probe}(hd:p.dummy=none):adv t (p.more+1) p=lp t ((p.i*5+1+p.perturb / 32) % (t.mask+1)) (p.perturb / 32):=by
 rw[Jd,acx t _ p rfl,show(1:Nat)=0+1 from rfl,adv,adv];unfold SetTable.advance;rw[if_neg (by show ¬ (0>0);omega)];unfold SetTable.leap lp;rw[hd]
noncomputable def orb(N:Nat):Nat->Nat->Nat
 |0,i=>i
 |k+1,i=>orb N k ((i*5+1) % N)
theorem ajz:∀i:Fin 8,∀j:Fin 8,∃k:Fin 8,orb 8 k.val i.val=j.val:=by decide +kernel
theorem aiR:∀i:Fin 32,∀j:Fin 32,∃k:Fin 32,orb 32 k.val i.val=j.val:=by decide +kernel
theorem aaT{m i j:Nat}(hm:m=7∨m=31)(hi:i<=m)(hj:j<=m):∃k,k<=m/\orb (m+1) k i=j:=by
 rcases hm with rfl|rfl
 ·obtain⟨k,hk⟩:=ajz ⟨i,by omega⟩ ⟨j,by omega⟩
  exact⟨k.val,by omega,hk⟩
 ·obtain⟨k,hk⟩:=aiR ⟨i,by omega⟩ ⟨j,by omega⟩
  exact⟨k.val,by omega,hk⟩
theorem acy(t:SetTable):∀(k i:Nat),∃n,n<=10*k/\adv t n (lp t i 0)=lp t (orb (t.mask+1) k i) 0
 |0,i=>⟨0,Nat.zero_le _,rfl⟩
 | k+1,i=>by
  have h1:=QY (t:=t) (p:=lp t i 0) rfl;obtain⟨n,hn,e⟩:=acy t k ((i*5+1) % (t.mask+1));have hr:(lp t i 0).more<=9:=ZX _ _;refine⟨((lp t i 0).more+1)+n,by omega,?_⟩;rw[Jd,h1];show adv t n (lp t ((i*5+1+0 / 32) % (t.mask+1)) (0 / 32))=_;rw[Nat.zero_div,Nat.add_zero];exact e
theorem agS(t : SetTable) : ∀(a : Nat) (i pe : Nat), i <= t.mask -> pe<32 ^ a -> ∃n i', n <= 10 * a /\ i' <= t.mask /\ adv t n (lp t i pe) = lp t i' 0
  | 0, i, pe, hi, hp => ⟨0, i, Nat.zero_le _, hi, by have : pe = 0 := by simpa using hp
                                                     subst this; rfl⟩
  | a + 1, i, pe, hi, hp => by
    have h1 := QY (t := t) (p := lp t i pe) rfl;have hlt : (i * 5 + 1 + pe / 32) % (t.mask + 1)<t.mask + 1 := Nat.mod_lt _ (Nat.succ_pos _);obtain⟨n, i', hn, hi', e⟩ := agS t a ((i * 5 + 1 + pe / 32) % (t.mask + 1)) (pe / 32) (by omega) (by rw[Nat.div_lt_iff_lt_mul (by omega)];rw[Nat.pow_succ]at hp;exact hp);have hr : (lp t i pe).more <= 9 := ZX _ _;refine⟨((lp t i pe).more + 1) + n, i', by omega, hi', ?_⟩;rw[Jd, h1];exact e
noncomputable def OkP(t:SetTable)(p:SetTable.Probe):Prop:=p.dummy=none/\p.more<=9/\p.perturb<32 ^ 13
theorem OkP.next{t:SetTable}{p:SetTable.Probe}(h:OkP t p):OkP t (t.advance p):=by
 obtain⟨h1,h2,h3⟩:=h;unfold SetTable.advance;split
 ·exact⟨h1,by show p.more-1<=9;omega,h3⟩
 ·unfold SetTable.leap
  exact⟨h1,ZX _ _,by show p.perturb / 32<_;exact Nat.lt_of_le_of_lt (Nat.div_le_self _ _) h3⟩
theorem OkP.start(t:SetTable)(h:Int):OkP t (t.probeStart h):=by
 refine⟨rfl,ZX _ _,?_⟩;show SetTable.bits h<_;unfold SetTable.bits;have h1:=Int.emod_nonneg h (show(2 ^ 64:Int)≠0 by decide);have h2:=Int.emod_lt_of_pos h (show(0:Int)<2 ^ 64 by decide);have h3:(32:Nat) ^ 13=36893488147419103232:=by decide
 rw[h3];have h4:(2 ^ 64:Int)=18446744073709551616:=by decide
 rw[h4]at h1 h2 ⊢;omega
theorem ajA{t:SetTable}{n:Nat}(h:Tb t n){p:SetTable.Probe}(ok:OkP t p):∃k,k<10*SetTable.turns t.mask/\t.slot (adv t k p).j= .empty:=by
 obtain⟨h1,h2,h3⟩:=ok;obtain⟨j,hj,he⟩:=abO h;have e1:=QY (t:=t) h1;have hlt:(p.i*5+1+p.perturb / 32) % (t.mask+1)<t.mask+1:=Nat.mod_lt _ (Nat.succ_pos _);obtain⟨n2,i',hn2,hi',e2⟩:=agS t 12 ((p.i*5+1+p.perturb / 32) % (t.mask+1)) (p.perturb / 32) (by omega) (by rw[Nat.div_lt_iff_lt_mul (by omega)];exact h3);obtain⟨k,hk,e3⟩:=aaT h.mask hi' hj;obtain⟨n3,hn3,e4⟩:=acy t k i';refine⟨(p.more+1)+n2+n3,?_,?_⟩
 ·unfold SetTable.turns;omega
 ·rw[Jd,Jd,e1,e2,e4,e3]
  exact he
theorem QZ{t:SetTable}{n:Nat}(h:Tb t n)(hashAt:Nat->Int)(x:Int):∀(f:Nat) (p:SetTable.Probe) (k:Nat),OkP t p->k<f->t.slot (adv t k p).j= .empty->
  (∃j,SetTable.probe.go t hashAt x f p=some (.empty j none))∨∃j i q k',SetTable.probe.go t hashAt x f p=some (.candidate j i q)/\t.slot j= .live i/\OkP t q/\k' < k/\t.slot (adv t k' q).j= .empty
 |0,p,k,ok,hk,he=>by omega
 | f+1,p,k,ok,hk,he=>by
  rw[SetTable.probe.go];rcases Jy h p.j with z | ⟨i,z,_⟩
  ·rw[z]
   exact .inl ⟨p.j,by show some (SetTable.Met.empty p.j p.dummy)=_;rw[ok.1]⟩
  ·rw[z]
   cases k with
   |zero=>have he:t.slot p.j= .empty:=he;rw[z]at he;cases he
   | succ k=>
    have he:t.slot (adv t k (t.advance p)).j= .empty:=he;show(∃j,(if hashAt i==x then some (SetTable.Met.candidate p.j i (t.advance p)) else SetTable.probe.go t hashAt x f (t.advance p))=_)∨∃j i' q k',(if hashAt i==x then some (SetTable.Met.candidate p.j i (t.advance p)) else SetTable.probe.go t hashAt x f (t.advance p))=_/\_;by_cases c:(hashAt i==x)=true
    ·rw[if_pos c]
     exact .inr ⟨p.j,i,t.advance p,k,rfl,z,ok.next,Nat.lt_succ_self _,he⟩
    ·rw[if_neg c]
     rcases QZ h hashAt x f (t.advance p) k ok.next (by omega) he with ⟨j,e⟩ | ⟨j,i',q,k',e1,e2,e3,e4,e5⟩
     ·exact .inl ⟨j,e⟩
     ·exact .inr ⟨j,i',q,k',e1,e2,e3,by omega,e5⟩
end
section
noncomputable def itl(m:Nat):Nat->Nat->Nat->Nat
 |0,i,_=>i
 |k+1,i,pe=>itl m k ((i*5+1+pe / 32) % (m+1)) (pe / 32)
theorem aaU(m:Nat):∀(k i:Nat),itl m k i 0=orb (m+1) k i
 |0,i=>rfl
 | k+1,i=>by
  show itl m k ((i*5+1+0 / 32) % (m+1)) (0 / 32)=orb (m+1) k ((i*5+1) % (m+1));rw[Nat.zero_div,Nat.add_zero];exact aaU m k _
theorem aaV{m j:Nat}(hm:m=7∨m=31)(hj:j<=m):∀(a i pe:Nat),i<=m->pe<32 ^ a->∃d,d<=a+m/\itl m d i pe=j
 | 0,i,pe,hi,hp=>by
  have:pe=0:=by simpa using hp
  subst this;obtain⟨k,hk,e⟩:=aaT hm hi hj;exact⟨k,by omega,by rw[aaU];exact e⟩
 | a+1,i,pe,hi,hp=>by
  have hlt:(i*5+1+pe / 32) % (m+1)<m+1:=Nat.mod_lt _ (Nat.succ_pos _);obtain⟨d,hd,e⟩:=aaV hm hj a ((i*5+1+pe / 32) % (m+1)) (pe / 32) (by omega) (by rw[Nat.div_lt_iff_lt_mul (by omega)];rw[Nat.pow_succ]at hp;exact hp);exact⟨d+1,by omega,e⟩
theorem acz{m j:Nat}{ow:Array (Option Nat)}(hs:ow.size=m+1)(he:ow.getD j (some 0)=none):∀(d f i pe:Nat),d<f->itl m d i pe=j->∃r,SetTable.layClean.free m ow f i pe=some r/\r<=m/\ow.getD r none=none
 |d,0,i,pe,hd,_=>by omega
 | d,f+1,i,pe,hd,e=>by
  rw[SetTable.layClean.free];cases hf:(List.range (SetTable.runEnd m i+1-i)).find? fun k=>(ow.getD (i+k) (some 0)).isNone with
  | some k=>
   have hp:(ow.getD (i+k) (some 0)).isNone=true:=List.find?_some (p:=fun k=>(ow.getD (i+k) (some 0)).isNone) hf;refine⟨i+k,rfl,?_,?_⟩
   ·by_cases c:i+k<ow.size
    ·omega
    ·rw[Array.getD_eq_getD_getElem?,Array.getElem?_eq_none (by omega)]at hp;cases hp
   ·rw[Array.getD_eq_getD_getElem?]at hp ⊢
    by_cases c:i+k<ow.size
    ·rw[Array.getElem?_eq_getElem c]at hp ⊢
     show ow[i+k]=none;exact Option.isNone_iff_eq_none.mp hp
    ·rw[Array.getElem?_eq_none (by omega)]at hp;cases hp
  | none=>
   cases d with
   | zero=>
    have e:i=j:=e;have:=List.find?_eq_none.mp hf 0 (List.mem_range.mpr (by unfold SetTable.runEnd;split<;>omega));rw[Nat.add_zero,e,he]at this;exact absurd rfl this
   | succ d=>
    obtain⟨r,r1,r2,r3⟩:=acz hs he d f _ _ (by omega) e;exact⟨r,r1,r2,r3⟩
noncomputable def tkn(m:Nat)(ow:Array (Option Nat)):Nat:=((List.range (m+1)).filter fun j=>(ow.getD j none).isSome).length
theorem Q0{P Q:Nat->Bool}{r:Nat}:∀(l:List Nat),l.Nodup->r∈l->P r=false->Q r=true->(∀x,x≠r->Q x=P x)->(l.filter Q).length=(l.filter P).length+1
 | [],_,h,_,_,_=>by cases h
 | x::l,hn,hm,h1,h2,h3=>by
  rw[List.nodup_cons]at hn;by_cases hx:x=r
  ·subst hx
   rw[List.filter_cons_of_pos h2,List.filter_cons_of_neg (by rw[h1];exact Bool.false_ne_true),List.length_cons]
   congr 2
   apply List.filter_congr;intro y hy;exact h3 y fun z=>hn.1 (z▸hy)
  ·have hm':r∈l:=(List.mem_cons.mp hm).resolve_left fun z=>hx z.symm
   have ih:=Q0 l hn.2 hm' h1 h2 h3;cases hp:P x with
   |true=>rw[List.filter_cons_of_pos hp,List.filter_cons_of_pos (by rw[h3 x hx];exact hp),List.length_cons,List.length_cons,ih]
   |false=>rw[List.filter_cons_of_neg (by rw[h3 x hx,hp];exact Bool.false_ne_true),List.filter_cons_of_neg (by rw[hp];exact Bool.false_ne_true),ih]
structure Ow(m:Nat)(ow:Array (Option Nat))(k:Nat):Prop where
 size:ow.size=m+1
 many:tkn m ow=k
 low:∀(j v:Nat),ow.getD j none=some v->v<k
theorem Ow.free{m k:Nat}{ow:Array (Option Nat)}(h:Ow m ow k)(hm:m=7∨m=31)(hk:k<=m)(x:Int):∃r,SetTable.layClean.free m ow (SetTable.turns m) (SetTable.bits x % (m+1)) (SetTable.bits x)=some r/\r<=m/\ow.getD r none=none:=by
 have hex:∃j,j<=m/\ow.getD j none=none:=by
  by_cases c:∃j,j<=m/\ow.getD j none=none
  ·exact c
  ·exfalso
   have:(List.range (m+1)).filter (fun j=>(ow.getD j none).isSome)=List.range (m+1):=List.filter_eq_self.mpr fun j hj=>by
    have hj:=List.mem_range.mp hj;cases ho:ow.getD j none with
    |none=>exact absurd ⟨j,by omega,ho⟩ c
    |some v=>rfl
   have hh:=h.many;unfold tkn at hh;rw[this,List.length_range]at hh;omega
 obtain⟨j,hj,he⟩:=hex
 have he':ow.getD j (some 0)=none:=by
  rw[Array.getD_eq_getD_getElem?]at he ⊢;have hl:j<ow.size:=by rw[h.size];omega
  rw[Array.getElem?_eq_getElem hl]at he ⊢;exact he
 have hb:SetTable.bits x<32 ^ 13:=(OkP.start (SetTable.fresh 0 0 false) x).2.2;obtain⟨d,hd,e⟩:=aaV hm hj 13 (SetTable.bits x % (m+1)) (SetTable.bits x) (Nat.le_of_lt_succ (Nat.mod_lt (SetTable.bits x) (Nat.succ_pos m))) hb;exact acz h.size he' d _ _ _ (by unfold SetTable.turns;omega) e
theorem Q1(ow:Array (Option Nat))(r:Nat)(v:Option Nat)(hr:r<ow.size)(j:Nat):(ow.setIfInBounds r v).getD j none=if j=r then v else ow.getD j none:=by
 rw[Array.getD_eq_getD_getElem?,Array.getD_eq_getD_getElem?,Array.getElem?_setIfInBounds];by_cases h:j=r
 ·subst h;simp[hr]
 ·rw[if_neg (fun z=>h z.symm),if_neg h]
theorem Ow.put{m k r:Nat}{ow:Array (Option Nat)}(h:Ow m ow k)(hr:r<=m)(he:ow.getD r none=none):Ow m (ow.setIfInBounds r (some k)) (k+1):=by
 have hs:r<ow.size:=by rw[h.size];omega
 refine⟨by rw[Array.size_setIfInBounds];exact h.size,?_,fun j v e=>?_⟩
 ·unfold tkn
  rw[←h.many];refine Q0 (P:=fun j=>(ow.getD j none).isSome) (r:=r) (List.range (m+1)) List.nodup_range (List.mem_range.mpr (by omega)) (by rw[he];rfl) ?_ (fun x hx=>?_)
  ·show((ow.setIfInBounds r (some _)).getD r none).isSome=true
   rw[Q1 ow r _ hs,if_pos rfl];rfl
  ·show((ow.setIfInBounds r (some _)).getD x none).isSome=(ow.getD x none).isSome
   rw[Q1 ow r _ hs,if_neg hx]
 ·rw[Q1 ow r _ hs]at e
  by_cases hj:j=r
  ·rw[if_pos hj]at e;have:k=v:=Option.some.inj e;omega
  ·rw[if_neg hj]at e;have:=h.low j v e;omega
noncomputable def ZY(m:Nat)(acc:Option (Array (Option Nat)×Nat))(h:Int):Option (Array (Option Nat)×Nat):=do
  let (owner,k) ←acc
  let j ←SetTable.layClean.free m owner (SetTable.turns m) (SetTable.bits h % (m+1)) (SetTable.bits h)
  pure (owner.setIfInBounds j (some k),k+1)
theorem aaW{m:Nat}(hm:m=7∨m=31):∀(hs:List Int) (ow:Array (Option Nat)) (k:Nat),Ow m ow k->k+hs.length<=m->∃ow',hs.foldl (ZY m) (some (ow,k))=some (ow',k+hs.length)/\Ow m ow' (k+hs.length)
 | [],ow,k,h,_=>⟨ow,rfl,h⟩
 | x::hs,ow,k,h,hl=>by
  rw[List.length_cons]at hl;obtain⟨r,r1,r2,r3⟩:=h.free hm (by omega) x;obtain⟨ow',e1,e2⟩:=aaW hm hs _ (k+1) (h.put r2 r3) (by omega);refine⟨ow',?_,?_⟩
  ·rw[List.foldl_cons]
   have:ZY m (some (ow,k)) x=some (ow.setIfInBounds r (some k),k+1):=by
    show(SetTable.layClean.free m ow (SetTable.turns m) (SetTable.bits x % (m+1)) (SetTable.bits x)).bind _=_;rw[r1];rfl
   rw[this,e1,List.length_cons,show k+1+hs.length=k+(hs.length+1) by omega]
  ·rw[List.length_cons,show k+(hs.length+1)=k+1+hs.length by omega];exact e2
theorem Ow.start(m:Nat):Ow m (Array.replicate (m+1) none) 0:=by
 have hg:∀j,(Array.replicate (m+1) (none:Option Nat)).getD j none=none:=fun j=>by
  rw[Array.getD_eq_getD_getElem?,Array.getElem?_replicate];split<;>rfl
 refine⟨Array.size_replicate,?_,fun j v e=>by rw[hg]at e;cases e⟩;unfold tkn;rw[List.filter_eq_nil_iff.mpr fun j _=>by rw[hg];exact Bool.false_ne_true];rfl
theorem aaX{m:Nat}(hm:m=7∨m=31)(hs:Array Int)(hl:hs.size<=m):∃ow,SetTable.layClean m hs=some ow/\Ow m ow hs.size:=by
 obtain⟨ow,e1,e2⟩:=aaW hm hs.toList _ 0 (Ow.start m) (by rw[Array.length_toList];omega);rw[Array.length_toList,Nat.zero_add]at e1 e2;refine⟨ow,?_,e2⟩;unfold SetTable.layClean;show(hs.foldl (ZY m) (some (Array.replicate (m+1) none,0))).map (·.1)=_;rw[←Array.foldl_toList,e1];rfl
theorem ZZ{α β:Type}(f:α->Option β):∀l:List α,(l.filterMap f).length=(l.filter fun x=>(f x).isSome).length
 | []=>rfl
 | x::l=>by
  cases hf:f x with
  |none=>rw[List.filterMap_cons_none hf,List.filter_cons_of_neg (by rw[hf];exact Bool.false_ne_true),ZZ f l]
  |some y=>rw[List.filterMap_cons_some hf,List.filter_cons_of_pos (by rw[hf];rfl),List.length_cons,List.length_cons,ZZ f l]
theorem af5{m:Nat}(hm:m=7∨m=31)(fi mo:Nat)(led pl:Bool)(hs:Array Int)(hl:hs.size<=m):∃t od,SetTable.laid m fi mo led pl hs=some (t,od)/\Tb t hs.size/\t.mask=m/\od.size=hs.size/\∀k∈od,k<hs.size:=by
 obtain⟨ow,e1,e2⟩:=aaX hm hs hl
 have hlen:((List.range (m+1)).filterMap fun j=>(ow.getD j none).map (j,·)).length=hs.size:=by
  rw[ZZ,←e2.many];unfold tkn
  congr 2
  funext j;cases ow.getD j none<;>rfl
 refine⟨{ mask:=m,place:=(((List.range (m+1)).filterMap fun j=>(ow.getD j none).map (j,·)).map (·.1)).toArray,dummies:=#[],finger:=fi,led:=led,moves:=mo,plain:=pl },(((List.range (m+1)).filterMap fun j=>(ow.getD j none).map (j,·)).map (·.2)).toArray,?_,⟨hm,rfl,?_,hl⟩,rfl,?_,fun k hk=>?_⟩
 ·unfold SetTable.laid
  rw[e1];rfl
 ·simpa using hlen
 ·simpa using hlen
 ·have hk:k∈(((List.range (m+1)).filterMap fun j=>(ow.getD j none).map (j,·)).map (·.2)):=by simpa using hk
  obtain⟨q,hq,rfl⟩:=List.mem_map.mp hk;obtain⟨j,_,e⟩:=List.mem_filterMap.mp hq;cases ho:ow.getD j none with
  |none=>rw[ho]at e;cases e
  | some v=>
   rw[ho]at e;have:(j,v)=q:=Option.some.inj e;rw[←this];exact e2.low j v ho
theorem ahH{α:Type}{es:Array α}{od:Array Nat}(h:∀k∈od,k<es.size):(od.filterMap (es[·]?)).size=od.size/\∀y∈od.filterMap (es[·]?),y∈es:=by
 constructor
 ·rw[←Array.length_toList,Array.toList_filterMap,ZZ,List.filter_eq_self.mpr fun k hk=>?_,Array.length_toList]
  have hlt:=h k (Array.mem_toList_iff.mp hk);rw[Array.getElem?_eq_getElem hlt];rfl
 ·intro y hy
  obtain⟨k,_,e⟩:=Array.mem_filterMap.mp hy;exact Array.mem_of_getElem? e
end
section
variable {prog:Program}{w:World}{A:Around}{E:Value->SP0}{s:Shared}{K:Type}[DecidableEq K]{knd:KeyKind prog w K}
theorem af6(d:Nat){v:Value}(h:carriedByValue v=true):ofAClassStatement d v=pure false:=by
 cases v<;>first|rfl | (cases d<;>rfl) | cases h
theorem Zx{ks:List K}{a:Addr}{Q:Bool->SP0}(hk:IsTupleKey knd s.heap ks a)(h:Q false s):wpAny (model prog w) A (ofAClassStatement 8 (.ref a)) Q E s:=by
 have hT:=hk.typeIs;obtain⟨o,items,n,ho,_,hd,hi⟩:=hk;unfold ofAClassStatement;refine wpAny_bind (wpAny_typeOf hT ?_);show wpAny _ _ (pure true >>= _) _ _ s;refine wpAny_bind (wpAny_pure ?_);refine wpAny_bind (wpAny_seqItems ho hd ?_);refine wpAny_bind ?_;show wpAny _ _ (forIn items _ _) _ _ s;rw[←Array.forIn_toList];refine wpAny_forIn_list _ (fun rest r s'=>r.1=none/\s'=s/\∀v∈rest,carriedByValue v=true) _ ?_ ?_ _ _ ⟨rfl,rfl,hi.byValue⟩
 ·rintro v rest r s' ⟨hr,rfl,hall⟩
  rw[af6 _ (hall v List.mem_cons_self)];refine wpAny_bind (wpAny_pure ?_);simp only[zzL,zzN];exact wpAny_pure ⟨rfl,rfl,fun u hu'=>hall u (List.mem_cons_of_mem _ hu')⟩
 ·rintro⟨r1,r2⟩ s' ⟨hr,rfl,_⟩
  simp only at hr;subst hr;exact wpAny_pure h
theorem aev(d:Nat){v:Value}(h:carriedByValue v=true):∃b,hashByValue d v=pure b:=by
 cases v<;>first|exact⟨_,rfl⟩ | (cases d<;>exact⟨_,rfl⟩) | cases h
theorem abP{ks:List K}{a:Addr}{Q:Bool->SP0}(hk:IsTupleKey knd s.heap ks a)(h:∀b,Q b s):wpAny (model prog w) A (hashByValue 8 (.ref a)) Q E s:=by
 have hT:=hk.typeIs;obtain⟨o,items,n,ho,_,hd,hi⟩:=hk;unfold hashByValue;refine wpAny_bind (wpAny_specialOf hT F.slot_tuple_hash.lookup ?_);refine wpAny_bind (wpAny_seqItems ho hd ?_);refine wpAny_bind ?_;show wpAny _ _ (forIn items _ _) _ _ s;rw[←Array.forIn_toList];refine wpAny_forIn_list _ (fun rest r s'=>s'=s/\∀v∈rest,carriedByValue v=true) _ ?_ ?_ _ _ ⟨rfl,hi.byValue⟩
 ·rintro v rest r s' ⟨rfl,hall⟩
  obtain⟨b,hb⟩:=aev 7 (hall v List.mem_cons_self);rw[hb];refine wpAny_bind (wpAny_pure ?_);cases b with
  | true=>
   simp only[zzJ,zzL,zzN];exact wpAny_pure ⟨rfl,fun u hu'=>hall u (List.mem_cons_of_mem _ hu')⟩
  | false=>
   simp only[zzK,zzM];exact wpAny_pure (wpAny_pure (h false))
 ·rintro⟨r1,r2⟩ s' ⟨rfl,_⟩
  cases r1 with
  |none=>exact wpAny_pure (h _)
  |some b=>exact wpAny_pure (h _)
theorem af7{x:Addr}{kx:List K}{Q:Bool->SP0}(hx:IsTupleKey knd s.heap kx x)(ys:List Value)(hy:∀y∈ys,∃a ks,y= .ref a/\IsTupleKey knd s.heap ks a)(h:Q false s):wpAny (model prog w) A (searchCouldBeSeen (.ref x) ys) Q E s:=by
 unfold searchCouldBeSeen;refine wpAny_bind ?_;refine wpAny_forIn_list _ (fun rest r s'=>r.1=none/\s'=s/\∀y∈rest,∃a ks,y= .ref a/\IsTupleKey knd s.heap ks a) _ ?_ ?_ _ _ ⟨rfl,rfl,hy⟩
 ·rintro v rest r s' ⟨hr,rfl,hall⟩
  obtain⟨a,ks,rfl,ha⟩:=hall v List.mem_cons_self;have fin:=fun u hu'=>hall u (List.mem_cons_of_mem _ hu');dsimp only;split
  ·exact wpAny_pure ⟨rfl,rfl,fin⟩
  ·refine wpAny_bind (wpAny_eqIsQuiet_tuple hx ?_)
   simp only[zzJ,zzL,zzN];refine wpAny_bind (wpAny_eqIsQuiet_tuple ha ?_);simp only[zzJ,zzL,zzN];refine wpAny_bind (Zx hx ?_);simp only[zzL,zzN];refine wpAny_bind (Zx ha ?_);simp only[zzL,zzN];exact wpAny_pure ⟨rfl,rfl,fin⟩
 ·rintro⟨r1,r2⟩ s' ⟨hr,rfl,_⟩
  simp only at hr;subst hr;exact wpAny_pure h
end
section
variable {prog:Program}{w:World}{A:Around}{E:Value->SP0}{s:Shared}{K:Type}[DecidableEq K]{knd:KeyKind prog w K}
theorem Tb.fits{t:SetTable}{n:Nat}(h:Tb t n):t.fits n=true:=by
 unfold SetTable.fits SetTable.fill;rw[h.dum,h.size];have:=h.room;simp;exact this
theorem Tb.gave{t:SetTable}{n:Nat}(h:Tb t n):t.gaveWay=false:=by
 unfold SetTable.gaveWay;rcases h.mask with e | e<;>rw[e]<;>rfl
theorem af8{t:SetTable}{n j i:Nat}(h:Tb t n)(e:t.slot j= .live i):i<n:=by
 rcases Jy h j with z | ⟨i',z1,z2⟩
 ·rw[z]at e;cases e
 ·rw[z1]at e;cases e
  have:=(Array.getElem?_eq_some_iff.mp z2).1;rw[h.size]at this;exact this
noncomputable def Oth(knd:KeyKind prog w K)(h:Heap)(es:Array (Int×Value))(kx:List K):Prop:=∀e∈es,∃a ks,e.2= .ref a/\IsTupleKey knd h ks a/\ks≠kx
theorem adf{S x:Addr}{o:Obj}{es:Array (Int×Value)}{ep n:Nat}{t:SetTable}{kx:List K}{hx:Int}(hu:A.units<cLine)(ho:s.heap.get? S=some o)(hd:o.data= .set es ep t)(hT:Tb t n)(hz:es.size=n)(hk:IsTupleKey knd s.heap kx x)(hO:Oth knd s.heap es kx)
  {Q:SetFound->SP0} (hQ:∀j,Q (.free j false) s):∀(k fuel:Nat) (stand:Option SetTable.Probe),OkP t (stand.getD (t.probeStart hx))->k<10*SetTable.turns t.mask->t.slot (adv t k (stand.getD (t.probeStart hx))).j= .empty->k<fuel->
  wpAny (model prog w) A (setSearchFrom S (.ref x) hx true fuel stand) Q E s:=by
 have hf:t.fits es.size=true:=by rw[hz];exact hT.fits
 intro k
 induction k using Nat.strongRecOn with
 | ind k ih=>
  intro fuel stand ok hk1 he hfu;cases fuel with
  |zero=>omega
  | succ fuel=>
   unfold setSearchFrom;refine wpAny_bind (wpAny_setState_of ho hd hf ?_);dsimp only;rw[hT.gave];simp only[zzL,zzN];split
   ·rename_i met hpr
    unfold SetTable.probe at hpr;obtain⟨ha,hpr⟩:∃ha,SetTable.probe.go t ha hx (10*SetTable.turns t.mask) (stand.getD (t.probeStart hx))=some met:=⟨_,hpr⟩;rcases QZ hT ha hx (10*SetTable.turns t.mask) _ k ok hk1 he with ⟨j,e⟩ | ⟨j,i,q,k',e1,e2,e3,e4,e5⟩
    ·rw[e]at hpr;cases hpr
     exact wpAny_pure (hQ j)
    ·rw[e1]at hpr;cases hpr
     have hi:=af8 hT e2;rw[←hz]at hi;have hei:es[i]?=some es[i]:=Array.getElem?_eq_getElem hi;obtain⟨a,ks,y1,y2,y3⟩:=hO es[i] (Array.getElem_mem hi)
     have rest:wpAny (model prog w) A (do
       let some (_,y):=es[i]? | unsupported "internal:set-entry"
       let equal ←holding [y] (eqBool y (.ref x))
       let (es',_,t') ←setState S
       if true && equal then return .there none
       let some same:=t'.sameMemory t.moves t.mask | unsupported "set.changed-during-lookup:is-the-new-block-at-the-old-address"
       let still ←match (if same then t'.slot j else .empty) with
        | .live i'=>match es'[i']? with
         | some (_,y')=>do pure (if ←isSame y' y then some i' else none)
         | none=>pure none
        | _=>pure none
       match still with
       | none=>rule "set.search.anew"; setSearchFrom S (.ref x) hx true fuel none
       | some i'=>if equal then return .there (some i') else setSearchFrom S (.ref x) hx true fuel (some q)) Q E s:=by
      rw[hei];generalize hq:es[i]=q0 at*;obtain⟨h0,v0⟩:=q0;simp only at y1;subst y1;show wpAny _ _ (holding [Value.ref a] (eqBool (.ref a) (.ref x)) >>= _) _ _ _;refine wpAny_bind (wpAny_holding (wpAny_eqBool_tuple hu y2 hk ?_));rw[decide_eq_false y3];refine wpAny_bind (wpAny_setState_of ho hd hf ?_);dsimp only;simp only[Bool.and_false,zzL,zzN];have sm:t.sameMemory t.moves t.mask=some true:=by unfold SetTable.sameMemory;simp
      rw[sm];dsimp only;simp only[zzM,e2];rw[hei];dsimp only;refine wpAny_bind (wpAny_isSame_ref_self (wpAny_bind (wpAny_pure ?_)));simp only[zzM];exact ih k' e4 fuel (some q) e3 (by omega) e5 (by omega)
     dsimp only;by_cases hl:t.led=true
     ·rw[hl]
      simp only[zzJ,zzL,zzN];exact rest
     ·have hl:t.led=false:=by simpa using hl
      rw[hl];simp only[zzK,zzM];refine wpAny_bind (af7 hk _ (fun y hy=>?_) ?_)
      ·obtain⟨e,he1,rfl⟩:=List.mem_map.mp hy
       have he2:e∈es:=(Array.mem_filter.mp (Array.mem_toList_iff.mp he1)).1;obtain⟨a',ks',z1,z2,_⟩:=hO e he2;exact⟨a',ks',z1,z2⟩
      ·simp only[zzL,zzN]
       exact rest
   ·rename_i hpr
    unfold SetTable.probe at hpr;obtain⟨ha,hpr⟩:∃ha,∀met,SetTable.probe.go t ha hx (10*SetTable.turns t.mask) (stand.getD (t.probeStart hx))=some met->False:=⟨_,hpr⟩;rcases QZ hT ha hx (10*SetTable.turns t.mask) _ k ok hk1 he with ⟨j,e⟩ | ⟨j,i,q,k',e1,_⟩
    ·exact(hpr _ e).elim
    ·exact(hpr _ e1).elim
structure St2(knd:KeyKind prog w K)(h:Heap)(S:Addr)(n:Nat)(KS:List (List K))(o:Obj)(es:Array (Int×Value))(ep:Nat)(t:SetTable):Prop where
 ho:h.get? S=some o
 ex:o.ExactSet
 hd:o.data= .set es ep t
 tb:Tb t n
 nf:n*5<t.mask*3
 hz:es.size=n
 el:∀e∈es,∃a ks,e.2= .ref a/\IsTupleKey knd h ks a/\ks∈KS
theorem ahI{t:SetTable}{n j:Nat}(h:Tb t n)(hn:n+1<=t.mask):Tb (t.put j).1 (n+1)/\(t.put j).1.mask=t.mask/\(t.put j).2<=n:=by
 have hb:=aaR t.place j;rw[h.size]at hb;refine⟨⟨h.mask,?_,?_,hn⟩,rfl,hb⟩
 ·show(if SetTable.has t.dummies j=true then _ else t.dummies)=#[]
  rw[h.has j,if_neg Bool.false_ne_true,h.dum]
 ·show(SetTable.insertAt t.place (SetTable.below t.place j) j).size=n+1
  rw[Jn _ (aaR _ _),h.size]
theorem aaY{h h':Heap}{S a:Addr}{o:Obj}{es:Array (Int×Value)}{ep:Nat}{t:SetTable}{ks:List K}(x:IsTupleKey knd h ks a)(ho:h.get? S=some o)(hd:o.data= .set es ep t)(hs:Heap.SameBut S h h'):IsTupleKey knd h' ks a:=by
 obtain⟨o',items,n,ho',hc,hd',hi⟩:=x
 have hne:a≠S:=by
  rintro rfl
  obtain rfl:o'=o:=Option.some.inj (ho'.symm.trans ho);rw[hd]at hd';exact nomatch hd'
 exact⟨o',items,n,(hs.2 a hne).trans ho',hc,hd',hi⟩
theorem stored{h:Heap}{S:Addr}{o:Obj}{es es':Array (Int×Value)}{ep:Nat}{t t':SetTable}(ho:h.get? S=some o)(hex:o.ExactSet)(hd:o.data= .set es ep t):
  (h.update S (Obj.putSet es' t')).get? S=some { o with data:= .set es' (ep+1) t' }/\({ o with data:= .set es' (ep+1) t' }:Obj).ExactSet:=by
 have:=Heap.get?_update_self (Obj.putSet es' t') ho (by rw[putSet_of es' t' hd];rfl);rw[putSet_of es' t' hd]at this;exact⟨this,hex⟩
theorem adg{S x:Addr}{n:Nat}{KS:List (List K)}{o:Obj}{es:Array (Int×Value)}{ep:Nat}{t:SetTable}{kx:List K}{hx:Int}(hu:A.units<cLine)(hS:St2 knd s.heap S n KS o es ep t)(hk:IsTupleKey knd s.heap kx x)(hn:kx∉KS)(h18:n+1<=18)
  {Q:Bool->SP0} (hQ:∀h' o' es' ep' t',Heap.SameBut S s.heap h'->St2 knd h' S (n+1) (kx::KS) o' es' ep' t'->Q true { s with heap:=h' }):
  wpAny (model prog w) A (setAddHashed S (.ref x) hx) Q E s:=by
 obtain⟨ho,hex,hd,tb,nf,hz,el⟩:=hS;have hf:t.fits es.size=true:=by rw[hz];exact tb.fits
 have hO:Oth knd s.heap es kx:=fun e he=>by
  obtain⟨a,ks,z1,z2,z3⟩:=el e he;exact⟨a,ks,z1,z2,fun z=>hn (z▸z3)⟩
 have hn1:n+1<=t.mask:=by rcases tb.mask with e | e<;>omega
 unfold setAddHashed setAddHashedIn;refine wpAny_holding (wpAny_bind (wpAny_setState_of ho hd hf ?_));dsimp only;have hb:byScan (.ref x) es=false:=rfl;rw[hb];simp only[zzL,zzN];obtain⟨k,k1,k2⟩:=ajA tb (OkP.start t hx);refine wpAny_bind (adf hu ho hd tb hz hk hO (fun j=>?_) k 100000 none (OkP.start t hx) k1 k2 ?_)
 ·dsimp only
  refine wpAny_bind (wpAny_setState_of ho hd hf ?_);dsimp only;obtain⟨p1,p2,p3⟩:=ahI (j:=j) tb hn1;generalize hp:t.put j=pp at p1 p2 p3 ⊢;obtain⟨t1,p⟩:=pp;dsimp only at p1 p2 p3 ⊢;have hzi:(SetTable.insertAt es p (hx,Value.ref x)).size=n+1:=by rw[Jn _ (by rw[hz];exact p3),hz]
  have go:∀b:Bool,wpAny (model prog w) A (do
    storeSet S (SetTable.insertAt es p (hx,Value.ref x)) (if b then t1 else { t1 with plain:=false })
    if (!false && (if b then t1 else { t1 with plain:=false }:SetTable).tooFull)=true then setRelay S (SetTable.grown (es.size+1))
    pure true) Q E s:=by
   intro b;have hm2:(if b then t1 else { t1 with plain:=false }:SetTable).mask=t.mask:=by cases b<;>exact p2
   have tb2:Tb (if b then t1 else { t1 with plain:=false }:SetTable) (n+1):=by
    cases b with
    |true=>exact p1
    |false=>exact⟨p1.mask,p1.dum,p1.size,p1.room⟩
   generalize (if b then t1 else { t1 with plain:=false }:SetTable)=t2 at hm2 tb2 ⊢;generalize hE:SetTable.insertAt es p (hx,Value.ref x)=es1 at hzi ⊢;have el1:∀e∈es1,e=(hx,Value.ref x)∨e∈es:=fun e he=>ZW (by rw[hE];exact he);refine wpAny_bind (wpAny_storeSet_of ho hd ?_ (by rw[hzi,sizeLine_eq];omega));obtain⟨g1,g2⟩:=stored (es':=es1) (t':=t2) ho hex hd;have sb1:=Heap.SameBut.update s.heap S (Obj.putSet es1 t2)
   have keyx:∀{h':Heap},Heap.SameBut S s.heap h'->∀e,(e=(hx,Value.ref x)∨e∈es)->∃a ks,e.2= .ref a/\IsTupleKey knd h' ks a/\ks∈kx::KS:=fun {h'} sb e he=>by
    rcases he with rfl | he
    ·exact⟨x,kx,rfl,aaY hk ho hd sb,List.mem_cons_self⟩
    ·obtain⟨a,ks,z1,z2,z3⟩:=el e he
     exact⟨a,ks,z1,aaY z2 ho hd sb,List.mem_cons_of_mem _ z3⟩
   have hfill:t2.fill=n+1:=by
    unfold SetTable.fill;rw[tb2.dum,tb2.size];rfl
   by_cases c:t2.tooFull=true
   ·rw[c]
    simp only[zzK,Bool.and_self,zzM]
    have c':t2.mask*3<=(n+1)*5:=by
     unfold SetTable.tooFull at c;rw[hfill]at c;simpa using c
    have hm7:t.mask=7:=by rcases tb.mask with e | e<;>omega
    have hn4:n=4:=by omega
    subst hn4;have hgr:SetTable.grown (es.size+1)=20:=by rw[hz];rfl
    rw[hgr];refine wpAny_bind ?_;unfold setRelay;have hf1:t2.fits es1.size=true:=by rw[hzi];exact tb2.fits
    refine wpAny_bind (wpAny_setState_of g1 rfl hf1 ?_);dsimp only
    have hsz:¬ (SetTable.sizeAbove 20>sizeLine):=by
     have:SetTable.sizeAbove 20=32:=by decide
     rw[this,sizeLine_eq];omega
    rw[if_neg hsz];obtain⟨t3,od,l1,l2,l3,l4,l5⟩:=af5 (m:=31) (.inr rfl) t2.finger (t2.movedTo 31) t2.led t2.plain (es1.map (·.1)) (by rw[Array.size_map,hzi];omega);rw[Array.size_map,hzi]at l2 l4 l5;have hrl:t2.relaid (es1.map (·.1)) 20=some (t3,od):=l1;obtain⟨f1,f2⟩:=ahH (es:=es1) (od:=od) (by rw[hzi];exact l5);have f1:=f1.trans l4;rw[hrl];generalize hE2:od.filterMap (es1[·]?)=es2 at f1 f2;refine wpAny_bind ?_
    have rr:wpAny (model prog w) A (do
      let es':=od.filterMap (es1[·]?)
      if es'.size != es1.size then unsupported "internal:set-table-lost-an-element"
      pure (es',t3)) (fun q s'=>wpAny (model prog w) A (storeSet S q.1 q.2) (fun _ s'=>wpAny (model prog w) A (pure true) Q E s') E s') E { s with heap:=s.heap.update S (Obj.putSet es1 t2) }:=by
     rw[hE2];dsimp only;rw[if_neg (by rw[f1,hzi];decide)];refine wpAny_pure ?_;dsimp only;refine wpAny_storeSet_of g1 rfl ?_ (by rw[f1,sizeLine_eq];omega);obtain⟨g3,g4⟩:=stored (es':=es2) (t':=t3) g1 g2 rfl;have sb2:=sb1.trans (Heap.SameBut.update (s.heap.update S (Obj.putSet es1 t2)) S (Obj.putSet es2 t3));exact wpAny_pure (hQ _ _ _ _ _ sb2 ⟨g3,g4,rfl,l2,by rw[l3];omega,f1,fun e he=>keyx sb2 e (el1 e (f2 e he))⟩)
    exact rr
   ·have c:t2.tooFull=false:=by simpa using c
    rw[c];simp only[Bool.and_false,zzL,zzN]
    have nf2:(n+1)*5<t2.mask*3:=by
     unfold SetTable.tooFull at c;rw[hfill]at c;have:=of_decide_eq_false c;omega
    exact wpAny_pure (hQ _ _ _ _ _ sb1 ⟨g1,g2,rfl,tb2,nf2,hzi,fun e he=>keyx sb1 e (el1 e he)⟩)
  cases hpl:t1.plain with
  | true=>
   simp only[zzM];refine wpAny_bind (abP hk fun b=>?_);exact go b
  | false=>
   simp only[zzL,zzN];refine wpAny_bind (wpAny_pure ?_);exact go true
 ·unfold SetTable.turns at k1
  rcases tb.mask with e | e<;>omega
end
section
variable {prog:Program}{w:World}{A:Around}{E:Value->SP0}{s:Shared}{K:Type}[DecidableEq K]{knd:KeyKind prog w K}{R:Result->SP0}
theorem af9{kss:List (List K)}(hn:kss.Nodup){i:Nat}{ks:List K}(h:kss[i]?=some ks):ks∉(kss.take i).reverse:=fun z=>by
 obtain⟨j,hj,e⟩:=List.mem_take_iff_getElem.mp (List.mem_reverse.mp z);obtain⟨hi,e2⟩:=List.getElem?_eq_some_iff.mp h;have:=(List.getElem_inj hn).mp (e.trans e2.symm);omega
theorem St2.kept{h h':Heap}{S n:Nat}{KS:List (List K)}{o:Obj}{es:Array (Int×Value)}{ep:Nat}{t:SetTable}(x:St2 knd h S n KS o es ep t)(k1:h'.get? S=some o)(k2:∀a ks,IsTupleKey knd h ks a->ks∈KS->IsTupleKey knd h' ks a):St2 knd h' S n KS o es ep t:=
 ⟨k1,x.ex,x.hd,x.tb,x.nf,x.hz,fun e he=>let ⟨a,ks,z1,z2,z3⟩:=x.el e he;⟨a,ks,z1,k2 a ks z2 z3,z3⟩⟩
theorem aew{I l S:Addr}{items:Array Value}{kss:List (List K)}{N:Nat}{h0:Heap}(hh:A.in1.handled=none)(hu:A.in1.units<cLine)(hne:l≠I)(hSI:S≠I)(hSl:S≠l)
  (hn:items.size=kss.length) (h18:kss.length<=18) (hnd:kss.Nodup) (hNI:N<=I) (hNS:N<=S) (hP:∀(i:Nat) (ks:List K),kss[i]?=some ks->∃a,items[i]?=some (.ref a)/\a<N/\IsTupleKey knd h0 ks a):
  ∀(m i:Nat) (s:Shared) (o:Obj) (es:Array (Int×Value)) (ep:Nat) (t:SetTable),kss.length-i=m->i<=kss.length->(s.heap.IsListIter I l i/\s.heap.IsList l items)->St2 knd s.heap S i (kss.take i).reverse o es ep t->(∀b ob,b<N->h0.get? b=some ob->s.heap.get? b=some ob)->
   (∀h' tk o' es' ep' t',St2 knd h' S kss.length kss.reverse o' es' ep' t'->(∀b ob,b<N->h0.get? b=some ob->h'.get? b=some ob)->R (.ok (.ret .none)) { s with heap:=h',toks:=tk })->
   codeAny (model prog w) A (.builtin "set.update.loop" ⟨[.ref S,.ref I],[]⟩) R s:=by
 have W:=Walks.list (prog:=prog) (w:=w) (A:=A.in1) hh I l hne items
 have tupN:∀{h h':Heap},(∀b ob,b≠I->h.get? b=some ob->h'.get? b=some ob)->∀a ks,IsTupleKey knd h ks a->a≠I->IsTupleKey knd h' ks a:=fun k a ks x ha=>by
  obtain⟨ob,its,n,z1,z2⟩:=x;exact⟨ob,its,n,k a ob ha z1,z2⟩
 intro m
 induction m with
 | zero=>
  intro i s o es ep t hm hi hst hS hk hR;have hin:i=kss.length:=by omega
  subst hin;refine codeAny_builtin PyProof.Rows.F.entry_set_update_loop ?_;rw[Around.under_plainId PyProof.Rows.F.plain_set_update_loop _];show wpAny _ A.in1 (pyNext (.ref I) >>= _) _ _ s;refine wpAny_bind (W.done s _ _ (by rw[hn];exact hst) fun h' tk kp=>?_);have kp':∀b ob,b≠I->s.heap.get? b=some ob->h'.get? b=some ob:=fun b ob hb e=>kp b ob (by simpa using hb) e;refine wpAny_pure (hR h' tk o es ep t ?_ fun b ob hb e=>kp' b ob (fun z=>absurd hb (by rw[z];exact Nat.not_lt.mpr hNI)) (hk b ob hb e));rw[List.take_length]at hS;refine hS.kept (kp' S _ hSI hS.ho) fun a ks x _=>tupN kp' a ks x ?_
  rintro rfl
  obtain⟨ob,its,n,z1,z2,z3,_⟩:=x;obtain⟨oi,y1,y2,_⟩:=hst.1;rw[y1]at z1;cases z1;rw[y2]at z2;exact absurd z2 (by decide)
 | succ m ih=>
  intro i s o es ep t hm hi hst hS hk hR;have hlt:i<kss.length:=by omega
  obtain⟨ks,hq⟩:∃q,kss[i]?=some q:=⟨_,List.getElem?_eq_getElem hlt⟩;obtain⟨a,hit,haN,hka⟩:=hP i ks hq;refine codeAny_builtin PyProof.Rows.F.entry_set_update_loop ?_;rw[Around.under_plainId PyProof.Rows.F.plain_set_update_loop _];show wpAny _ A.in1 (pyNext (.ref I) >>= _) _ _ s;refine wpAny_bind (W.item i s _ _ (by omega) hst fun v h' tk hPv hst' kp=>?_);rw[hit]at hPv;cases hPv;have kp':∀b ob,b≠I->s.heap.get? b=some ob->h'.get? b=some ob:=fun b ob hb e=>kp b ob (by simpa using hb) e;have hk':∀b ob,b<N->h0.get? b=some ob->h'.get? b=some ob:=fun b ob hb e=>kp' b ob (fun z=>absurd hb (by rw[z];exact Nat.not_lt.mpr hNI)) (hk b ob hb e)
  have notI:∀b ks,IsTupleKey knd s.heap ks b->b≠I:=fun b ks x z=>by
   subst z;obtain⟨ob,its,n,z1,z2,z3,_⟩:=x;obtain⟨oi,y1,y2,_⟩:=hst.1;rw[y1]at z1;cases z1;rw[y2]at z2;exact absurd z2 (by decide)
  have hS':St2 knd h' S i (kss.take i).reverse o es ep t:=hS.kept (kp' S _ hSI hS.ho) fun b ks x _=>tupN kp' b ks x (notI b ks x)
  have hka':IsTupleKey knd h' ks a:=by
   obtain⟨ob,its,n,z1,z2⟩:=hka;exact⟨ob,its,n,hk' a ob haN z1,z2⟩
  show wpAny _ A.in1 (holding [Value.ref a] (setAdd S (.ref a)) >>= _) _ _ _;refine wpAny_bind (wpAny_holding ?_);unfold setAdd;refine wpAny_holding (wpAny_bind (wpAny_pyHash_tuple hu hka' ?_));refine adg (knd:=knd) hu hS' hka' (af9 hnd hq) (by omega) fun h2 o' es' ep' t' sb S2=>?_;have et:ks::(kss.take i).reverse=(kss.take (i+1)).reverse:=by rw[List.take_add_one,hq];simp
  rw[et]at S2;refine wpAny_pure ⟨plainId_quiet PyProof.Rows.F.plain_set_update_loop _,?_⟩;refine ih (i+1) _ o' es' ep' t' (by omega) hlt ⟨?_,?_⟩ S2 (fun b ob hb e=>?_) fun h3 tk3 q1 q2 q3 q4 z1 z2=>hR h3 tk3 q1 q2 q3 q4 z1 z2
  ·exact hst'.1.at fun ob e=>(sb.2 I (Ne.symm hSI)).trans e
  ·exact hst'.2.at fun ob e=>(sb.2 l (Ne.symm hSl)).trans e
  ·exact(sb.2 b (fun z=>absurd hb (by rw[z];exact Nat.not_lt.mpr hNS))).trans (hk' b ob hb e)
theorem St2.start{h:Heap}(led:Bool):∃o:Obj,(o={ cls:= .type "set",dict:=none,data:= .set #[] 0 (.fresh 0 0 led) })/\∀{h':Heap}{S:Addr},h'.get? S=some o->St2 knd h' S 0 [] o #[] 0 (.fresh 0 0 led):=
 ⟨_,rfl,fun g=>⟨g,⟨rfl,rfl,rfl⟩,rfl,⟨.inl rfl,rfl,rfl,Nat.zero_le _⟩,by show 0*5<7*3;omega,rfl,fun e he=>by simp at he⟩⟩
set_option maxHeartbeats 8000000 in
theorem adh{l:Addr}{items:Array Value}{c:Nat}{kss:List (List K)}{Q:Value->SP0}(hh:A.handled=none)(hu:A.in1.in1.in1.units<cLine)(hl:s.heap.get? l=some { cls:= .type "list",data:= .seq items c })
  (hn:items.size=kss.length) (h18:kss.length<=18) (hnd:kss.Nodup) (hP:∀(i:Nat) (ks:List K),kss[i]?=some ks->∃a,items[i]?=some (.ref a)/\IsTupleKey knd s.heap ks a)
  (h:∀h' tk o es ep t,St2 knd h' s.heap.objs.size kss.length kss.reverse o es ep t->(∀b ob,s.heap.get? b=some ob->h'.get? b=some ob)->Q (.ref s.heap.objs.size) { s with heap:=h',toks:=tk }):
  wpAny (model prog w) A (call (.type "set") [.ref l]) Q E s:=by
 obtain⟨c0,tl,hmro⟩:=F.called_set.mro;have made0:=F.called_set.made;have sub0:=F.called_set.sub;refine wpAny_call (codeAny_of_tree ?_);show wpAny _ _ (callAny (.type "set") _) _ _ _;refine wpAny_pure ⟨Code.quiet_builtin _ (by decide +kernel),codeAny_builtin F.entry_type_call ?_⟩;rw[Around.under_plain (weight_type_call_type "set" [.ref l] []) rfl];have n1:=F.called_set.notType;have n2:=F.called_set.canCreate;have n3:=F.typeCall_set_1 (.ref l)
 repeat (any_goals (first|assumption | wp_step))
 refine codeAny_mono (code_set_new_1 (.ref l) (E:=E) (Q₁:=fun ob s₁=>∃led:Bool,ob= .ref s.heap.objs.size/\s₁={ s with heap:=s.heap.push { cls:= .type "set",dict:=none,data:= .set #[] 0 (.fresh 0 0 led) } }) fun led=>⟨led,rfl,rfl⟩) fun r s₁ hr=>?_;cases r with
 |error e=>exact hr
 | ok fl=>
  cases fl with
  | ret ob=>
   obtain⟨led,rfl,rfl⟩:=hr;obtain⟨so,hso,start⟩:=St2.start (knd:=knd) (h:=s.heap) led;rw[←hso];have gS:(s.heap.push so).get? s.heap.objs.size=some so:=Heap.get?_push_size _ (by rw[hso];rfl);have hT:Shared.TypeIs { s with heap:=s.heap.push so } (.ref s.heap.objs.size) "set":=⟨_,gS,by rw[hso]⟩;have i1:=F.called_set.init.lookup;have i2:=F.called_set.init.bind (.ref s.heap.objs.size)
   repeat (any_goals (first|assumption | wp_step))
   refine codeAny_mono (codeAny_call_builtin (R:=wants (fun r s₂=>r= .none/\∃h' tk o es ep t,s₂={ s with heap:=h',toks:=tk }/\St2 knd h' s.heap.objs.size kss.length kss.reverse o es ep t/\∀b ob,s.heap.get? b=some ob->h'.get? b=some ob) E) F.called_set.init.plain F.entry_set_init (check_set_init_1 hT ?_)) fun r₂ s₂ hr₂=>?_
   ·have hol:(s.heap.push so).get? l=some { cls:= .type "list",data:= .seq items c }:=Heap.get?_push_of_some _ hl
    have k1:=F.sub_list_set;have k2:=F.sub_list_frozenset;have k3:(Value.type "list" == Value.type "dict")=false:=by decide
    have hl1:(s.heap.push so).IsList l items:=⟨_,hol,rfl,c,rfl⟩;have hsd:so.data= .set #[] 0 (.fresh 0 0 led):=by rw[hso]
    unfold Builtin.«set.__init__» noKeywords Builtin.Frozenset.updateFrom;generalize hPI:pyIter=PI;rw[hso]at gS hT hol hl1 ⊢
    wp_walk
    subst hPI;have hlS:l<s.heap.objs.size:=Heap.lt_size hl;have hIl:l≠(s.heap.push { cls:= .type "set",dict:=none,data:= .set #[] 0 (.fresh 0 0 led) }).objs.size:=by rw[Heap.size_push];exact Nat.ne_of_lt (Nat.lt_succ_of_lt hlS)
    have hIS:s.heap.objs.size≠(s.heap.push { cls:= .type "set",dict:=none,data:= .set #[] 0 (.fresh 0 0 led) }).objs.size:=by rw[Heap.size_push];exact Nat.ne_of_lt (Nat.lt_succ_self _)
    have hIN:s.heap.objs.size<=(s.heap.push { cls:= .type "set",dict:=none,data:= .set #[] 0 (.fresh 0 0 led) }).objs.size:=by rw[Heap.size_push];exact Nat.le_succ _
    have hh3:A.in1.in1.in1.handled=none:=by simp[hh]
    refine wpAny_pyIter_list hl1 ?_;refine wpAny_bind (wpAny_runValue ?_);have gS2:((s.heap.push { cls:= .type "set",dict:=none,data:= .set #[] 0 (.fresh 0 0 led) }).push { cls:= .type "list_iterator",data:= .fields #[.ref l,.int 0 0] }).get? s.heap.objs.size=some { cls:= .type "set",dict:=none,data:= .set #[] 0 (.fresh 0 0 led) }:=Heap.get?_push_of_some _ gS;have z0:=start (h':=(s.heap.push { cls:= .type "set",dict:=none,data:= .set #[] 0 (.fresh 0 0 led) }).push { cls:= .type "list_iterator",data:= .fields #[.ref l,.int 0 0] }) (S:=s.heap.objs.size) (by rw[hso];exact gS2)
    refine aew (A:=A.in1.in1) (knd:=knd) (N:=s.heap.objs.size) (h0:=s.heap) hh3 hu hIl hIS (Ne.symm (Nat.ne_of_lt hlS)) hn h18 hnd hIN (Nat.le_refl _) (fun i ks e=>?_) kss.length 0 _ _ _ _ _ rfl (Nat.zero_le _)
     ⟨⟨_,Heap.get?_push_size _ rfl,rfl,rfl⟩,hl1.push _⟩ z0 (fun b ob _ e=>Heap.get?_push_of_some _ (Heap.get?_push_of_some _ e)) fun h3 tk3 o' es' ep' t' q1 q2=>?_
    ·obtain⟨a,y1,ob,y2⟩:=hP i ks e
     obtain⟨its,nn,y3,y4⟩:=y2;exact⟨a,y1,Heap.lt_size y3,ob,its,nn,y3,y4⟩
    ·show wpAny _ _ _ _ _ _
     refine wpAny_pure ?_;show wpAny _ _ (ret Value.none) _ _ _;exact wpAny_pure ⟨rfl,h3,tk3,o',es',ep',t',rfl,q1,fun b ob e=>q2 b ob (Heap.lt_size e) e⟩
   ·cases r₂ with
    |error e=>exact hr₂
    | ok fl₂=>
     cases fl₂ with
     | ret r=>
      obtain⟨rfl,h',tk,o,es,ep,t,rfl,z1,z2⟩:=hr₂
      repeat (any_goals (first|assumption | wp_step))
      exact h _ _ _ _ _ _ z1 z2
     |_=>exact hr₂.elim
  |_=>exact hr.elim
end
section
variable {X:Cx}
noncomputable def aga(n:Nat)(l:Addr):Heap->Prop:=fun h=>∃o es ep t,h.get? l=some o/\o.ExactSet/\o.data= .set es ep t/\t.fits es.size=true/\es.size=n
noncomputable def KVs(K:Fg)(H:Hp):List V->List (List Key)->Prop
 | [],ks=>ks=[]
 |y::ys,ks=>∃t k r,y= .ref t/\SqT K H t (k.map kV)/\ks=k::r/\KVs K H ys r
theorem aaZ{P:Program}{w:World}:∀(ks:List Key) (its:List Value),jx (ks.map kV) its->ItemsAre (qO P w) ks its
 | [],its,r=>by cases r;exact .nil
 | k::ks,its,r=>by
  cases r with
  | cons r1 r2=>
   refine .cons ?_ (aaZ ks _ r2);cases k with
   |inl i=>obtain⟨t,rfl⟩:=r1;exact aaq _ _ _ _
   |inr x=>obtain⟨t,rfl⟩:=r1;exact aar _ _ _ _
theorem aa0{Kp:List (Addr×Obj)}{σ:St}{H:Hp}{s:Shared}(I:Inv X Kp σ H s):∀(ys:List V) (its:List Value) (kss:List (List Key)),jx ys its->KVs X.K H ys kss->
  its.length=kss.length/\∀(i:Nat) (ks:List Key),kss[i]?=some ks->∃a,its[i]?=some (.ref a)/\IsTupleKey (qO X.prog X.w) s.heap ks a
 | [],its,kss,r,h=>by
  cases r;cases (show kss=[] from h);exact⟨rfl,fun i ks e=>by simp at e⟩
 | y::ys,its,kss,r,h=>by
  obtain⟨t,k,q,h1,h2,h3,h4⟩:=h;subst h1 h3;cases r with
  | cons r1 r2=>
   obtain⟨p1,p2⟩:=aa0 I ys _ q r2 h4;cases r1;obtain⟨its2,v2,⟨o,g1,g2,n,g3⟩,_⟩:=I.tuple h2;refine⟨by simp[p1],fun i ks e=>?_⟩;cases i with
   | zero=>
    have:k=ks:=by simpa using e
    subst this;exact⟨t,rfl,o,_,n,g1,g2,g3,by simpa using aaZ k its2 v2⟩
   |succ i=>exact p2 i ks (by simpa using e)
noncomputable def aiS(K:Fg):List V->Hp->VK->Prop:=fun xs H Q=>∃l ys kss,xs=[.ref l]/\H l=some (.lst ys)/\KVs K H ys kss/\kss.Nodup/\kss.length<=18/\∀l',H l'=none->Q (.ref l') (upd H l' (.ext (aga kss.length l')))
theorem agb(hc:X.calm=true)(hu:X.A.in1.in1.in1.units<cLine):zf X (.type "set") (aiS X.K):=by
 intro Kp s σ H xs us Q I r ⟨l,ys,kss,e,hl,hk,hn,h18,q⟩;subst e;obtain⟨u,rfl,rx⟩:=acd r;cases rx;obtain⟨_,its,c,rel,hg⟩:=I.hok l _ hl;obtain⟨p1,p2⟩:=aa0 I ys its kss rel hk;refine adh (knd:=qO X.prog X.w) (kss:=kss) (I.ok.hd hc) hu hg (by simpa using p1) h18 hn (fun i ks e=>?_) fun h' tk o es ep t st kp=>?_
 ·obtain⟨a,e1,e2⟩:=p2 i ks e
  exact⟨a,by simpa using e1,e2⟩
 ·have hf:t.fits es.size=true:=by rw[st.hz];exact st.tb.fits
  refine⟨.ref s.heap.objs.size,_,I.laid (t':=tk) (o:= .ext (aga kss.length s.heap.objs.size)) kp (Nat.le_refl _) ⟨⟨o,es,ep,t,st.ho,st.ex,st.hd,hf,st.hz⟩,⟨_,st.ho⟩,?_⟩,rfl,q _ (I.hok.fresh (Nat.le_refl _))⟩
  rintro h1 h2 ⟨o',es',ep',t',z1,z2⟩ k
  exact⟨o',es',ep',t',k _ z1,z2⟩
noncomputable def aiT:List V->Hp->VK->Prop:=fun xs H Q=>∃l n,xs=[.ref l]/\H l=some (.ext (aga n l))/\n<=1000/\Q (.int (n:Int)) H
theorem agc:zf X (.builtin "len") aiT:=by
 intro Kp s σ H xs us Q I r ⟨l,n,e,hl,hn,q⟩;subst e;obtain⟨u,rfl,rx⟩:=acd r;cases rx;obtain⟨⟨o,es,ep,t,z1,z2,z3,z4,z5⟩,_⟩:=(I.hok l _ hl:qw X.prog X.w H s.heap l (.ext (aga n l)));refine call_len_set z1 z2 z3 z4 (by rw[z5];omega) ?_;rw[z5];exact⟨.int (n:Int),H,I.kept (t':=s.toks+1+1) fun b o e=>e,⟨_,rfl⟩,q⟩
noncomputable def aex:PyData->Option Key
 |.int i=>some (.inl i)
 |.str x=>some (.inr x)
 |_=>none
noncomputable def zT:LP->Option (List Key)
 | []=>some []
 |d::ds=>(aex d).bind fun k=>(zT ds).map fun ks=>k::ks
noncomputable def Jo:LP->Option (List (List Key))
 | []=>some []
 |.tuple es::ds=>(zT es).bind fun k=>(Jo ds).map fun ks=>k::ks
 |_::_=>none
theorem Q2{K:Fg}{H:Hp}:∀(es:LP) (xs:List V) (ks:List Key),zT es=some ks->Reps K H es xs->xs=ks.map kV
 | [],xs,ks,h,r=>by cases h;exact r
 | e::es,xs,ks,h,⟨x,q,e1,e2,e3⟩=>by
  unfold zT at h;cases hk:aex e with
  |none=>simp[hk]at h
  | some k=>
   cases hr:zT es with
   |none=>simp[hk,hr]at h
   | some r=>
    have:k::r=ks:=by simpa[hk,hr]using h
    subst this;subst e1;rw[Q2 es q r hr e3,List.map_cons]
    congr 1
    unfold aex at hk;split at hk
    ·cases hk;exact e2
    ·cases hk;exact e2
    ·cases hk
theorem Zy{K:Fg}{H:Hp}:∀(ds:LP) (ys:List V) (kss:List (List Key)),Jo ds=some kss->Reps K H ds ys->KVs K H ys kss
 | [],ys,kss,h,r=>by
  cases h;cases (show ys=[] from r);rfl
 | d::ds,ys,kss,h,⟨x,q,e1,e2,e3⟩=>by
  subst e1;unfold Jo at h;split at h
  ·rename_i heq;cases heq
  ·rename_i es ds' heq
   cases heq;cases hk:zT es with
   |none=>simp[hk]at h
   | some k=>
    cases hr:Jo ds with
    |none=>simp[hk,hr]at h
    | some r=>
     have:k::r=kss:=by simpa[hk,hr]using h
     subst this;obtain⟨t,us,g1,g2,g3⟩:=e2;rw[Q2 es us k hk g3]at g2;exact⟨t,k,r,g1,g2,rfl,Zy ds q r hr e3⟩
  ·cases h
noncomputable def lsD(fr:Rho->Option (LP)):RP:=fun ρ=>(fr ρ).bind fun ds=>match ds with
 | [.list es]=>(Jo es).bind fun kss=>if kss.Nodup/\kss.length<=18 then some (.int (kss.length:Int)) else none
 |_=>none
theorem adi{a:Expr}{p p2 pos pos2:Pos}{fr:Rho->Option (LP)}(hc:X.calm=true)(hu:X.A.in1.in1.units+8<cLine)(hm:X.mg "len"=none)(hm2:X.mg "set"=none)(ha:PAD X [a] fr)(hg:Gl X "len":=by rfl)(hg2:Gl X "set":=by rfl)
  (he:starEach [a] X.env=(false,eval a X.env)::starEach [] X.env:=by rfl) (hpl:(backTo pos2 (starEach [] X.env)).any (·.1)=false:=by rfl)
  (he2:starEach [.Call (.Name "set" p2) [a] [] pos2] X.env=(false,eval (.Call (.Name "set" p2) [a] [] pos2) X.env)::starEach [] X.env:=by rfl) (hpl2:(backTo pos (starEach [] X.env)).any (·.1)=false:=by rfl):
  PD X (.Call (.Name "len" p) [.Call (.Name "set" p2) [a] [] pos2] [] pos) (lsD fr):=by
 with_unfolding_all
  have W1:=ac0 (X:=X) (pos:=pos2) (p:=p2) (agb hc (by have:X.A.in1.in1.in1.units<=X.A.in1.in1.units+1:=Nat.le_refl _;omega)) hg2 hm2 (show bootBuiltins "set"=some (.type "set") by decide +kernel) ha (by decide) (by decide) he hpl;have W2:=JC (X:=X) (pos:=pos) (p:=p) agc hg hm (show bootBuiltins "len"=some (.builtin "len") by decide +kernel) (qG W1 zP he2) (by decide) (by decide) he2 hpl2;refine PE.imp W2 fun σ H Q ⟨ρ,d,en,hf,k⟩=>?_;cases h1:fr ρ with
  |none=>simp[lsD,h1]at hf
  | some ds=>
   simp only[lsD,h1,zzD]at hf;split at hf
   ·rename_i es
    cases h2:Jo es with
    |none=>simp[h2]at hf
    | some kss=>
     simp only[h2,zzD]at hf;split at hf
     ·rename_i hn
      cases hf;refine⟨ρ,_,en,h1,fun vs H1 s1 r1=>?_⟩;obtain⟨x,q,z1,z2,z3⟩:=r1;cases (show q=[] from z3);obtain⟨l,ys,g1,g2,g3⟩:=z2;subst g1;refine⟨l,ys,kss,z1,g2,Zy es ys kss h2 g3,hn.1,hn.2,fun l' hl'=>?_⟩;exact⟨l',kss.length,rfl,jr,by omega,k _ _ (s1.trans (jz hl')) rfl⟩
     ·cases hf
   ·cases hf
end
end BX
end
local macro_rules
  | `(tactic| dsimp? [$xs,*])=>`(tactic| simp only [BX.jT,BX.ifS,BX.ifD,BX.ifX,BX.abE,BX.orB,BX.ze,BX.tst,BX.op2,BX.chn,BX.jH,BX.J4,BX.Jq,BX.jp,BX.jE,BX.lkp,BX.cst,BX.qq,BX.ZO,BX.qW,BX.jZ,BX.qr,BX.nxX,BX.orX,BX.ahD,BX.adZ,BX.asB,zzA,zzB,zzC,zzD,zzH,zzE,zzI,zzF,zzG,zzJ,zzK,zzL,zzM,zzN,$(⟨xs.elemsAndSeps⟩),*])
section
namespace Rods
open PySem L2 BX
open PyProof.Rows hiding St
noncomputable def top(i:Nat):Stmt:=PySem.Challenge.pw_beadrods_k23_whole_slips.main.body.getD i (.Pass ⟨0,0,0,0⟩)
structure Bare(mg:SV):Prop where
 isi:mg "isinstance"=none
 bool:mg "bool"=none
 int:mg "int"=none
 tuple:mg "tuple"=none
 zip:mg "zip"=none
 range:mg "range"=none
 all:mg "all"=none
 len:mg "len"=none
 max:mg "max"=none
 min:mg "min"=none
 sum:mg "sum"=none
 sorted:mg "sorted"=none
 abs:mg "abs"=none
 list:mg "list"=none
 enum:mg "enumerate"=none
 vale:mg "ValueError"=none
 str:mg "str"=none
 set:mg "set"=none
 dict:mg "dict"=none
theorem agd:bootBuiltins "bool"=some (.type "bool"):=by decide +kernel
theorem ahJ:bootBuiltins "int"=some (.type "int"):=by decide +kernel
theorem JM:bootBuiltins "tuple"=some (.type "tuple"):=by decide +kernel
theorem age:bootBuiltins "list"=some (.type "list"):=by decide +kernel
theorem aey:bootBuiltins "all"=some (.builtin "all"):=by decide +kernel
theorem qu:bootBuiltins "len"=some (.builtin "len"):=by decide +kernel
theorem aeh:bootBuiltins "max"=some (.builtin "max"):=by decide +kernel
theorem aeg:bootBuiltins "min"=some (.builtin "min"):=by decide +kernel
noncomputable abbrev JN:Stmt:=top 7
noncomputable abbrev Je:Stmt:=top 16
noncomputable abbrev JO:Stmt:=top 15
noncomputable abbrev qN(C:Program->World->Fg->(SV)->Heap->Prop)(qual:Str)(st:Stmt)(N:List Str)(k:Nat)(B:RO):Prop:=
 ∀(P:Program) (w:World) (K:Fg) (mg:SV) (base:Heap) (f:Addr) (Kc:Value) (A:Around) (Ko:List Env) (s:Shared) (H:Hp) (E:XK),C P w K mg base->Room k (A.deeper (envOfC qual (jj st) s.heap.objs.size f Kc))->
  QM (QH CX0 P w K mg base N qual (jj st) f Kc A Ko s H E).nox (jQ st) B
theorem abQ:FnScope ["thing","least","most"] ["thing","least","most"] (jj JN):=⟨rfl,rfl,rfl,by decide +kernel,rfl,by decide +kernel,by decide +kernel⟩
noncomputable def JP:{ B:RO // qN (fun _ _ _ mg _=>Bare mg) "is_whole" JN ["thing","least","most"] 0 B }:=
 ⟨_,fun P w K mg base f Kc A Ko s H E T hr=>
  jd (jS (qj (zq (j8 (Qa (.inl rfl) T.isi T.bool agd (jb 0))) (qP (qf (j8 (Qa (.inr (.inl rfl)) T.isi T.int ahJ (jb 0))))))) (jd (js qV) jf) jf)
  (jd (js (ad5 ZS ZS (jb 1) (jb 0) (jb 2))) jf)⟩
noncomputable def jC:LP->OP:=jy ["thing","least","most"] 3 JP.1
theorem aa1:FnScope ["manner","rod"] ["manner","rod"] (jj Je):=⟨rfl,rfl,rfl,by decide +kernel,rfl,by decide +kernel,by decide +kernel⟩
noncomputable def Qc:{ B:RO // qN (fun _ _ _ _ _=>True) "rod_worth" Je ["manner","rod"] 0 B }:=
 ⟨_,fun P w K mg base f Kc A Ko s H E T hr=>
  jd (js (jo jw (jo qg (jB (jb 1) jh) (jB (jb 0) jh)) (jB (jb 1) jh))) jf⟩
noncomputable def qB:LP->OP:=jy ["manner","rod"] 2 Qc.1
noncomputable def zt(i:Nat)(m:Nat):LP:=(List.range m).map fun (j:Nat)=>PyData.tuple [.int (i:Int),.int (j:Int)]
noncomputable def zM(n m:Nat):LP:=(List.range n).flatMap fun (i:Nat)=>zt i m
theorem aa2(i m:Nat):zt i (m+1)=zt i m++[PyData.tuple [.int (i:Int),.int (m:Int)]]:=by simp[zt,List.range_succ]
theorem Jz(n m:Nat):zM (n+1) m=zM n m++zt n m:=by simp[zM,List.range_succ]
theorem aa3(i m:Nat):noLs (zt i m)=true:=JH fun d hd=>by
 obtain⟨j,_,rfl⟩:=List.mem_map.mp hd;simp[noL,noLs]
theorem adj(n m:Nat):noLs (zM n m)=true:=by
 induction n with
 |zero=>simp[zM,noLs]
 |succ n ih=>rw[Jz,zR,ih,aa3];rfl
theorem acA(i m:Nat):(zt i m).length=m:=by simp[zt]
theorem aa4(n m:Nat):(zM n m).length=n*m:=by
 induction n with
 |zero=>simp[zM]
 |succ n ih=>rw[Jz,List.length_append,ih,acA,Nat.succ_mul]
noncomputable def zy(ds:LP):OP:=match ds with
 | [.tuple [.int u,.int _,.int l,.int _]]=>if 0<=u/\u<1000/\0<=l/\l<1000 then some (.list (zM (u+1).toNat (l+1).toNat)) else none
 |_=>none
theorem zG:FnScope ["manner","rods","upper","lower"] ["manner"] (jj JO):=⟨rfl,rfl,rfl,by decide +kernel,rfl,by decide +kernel,by decide +kernel⟩
section
variable {P:Program}{w:World}{K:Fg}{mg:SV}{base:Heap}
theorem abR{f:Addr}{fd:FuncData}(F:Fun K "all_rods" "all_rods" JO f fd)(T:Bare mg):FnOk P w K mg base CX0 1 f fd ["manner"] (Pur K 1 zy):=by
 with_unfolding_all
  refine F.ok zG (fun vs H Q E h=>?_) (fun Kc A Ko s H vs Q E hr h=>?_)
  ·obtain⟨ds,d,h1,h2,_⟩:=h
   rw[h2.length];exact h1
  ·obtain⟨ds,d,h1,h2,h3,k⟩:=h
   unfold zy at h3;split at h3
   ·rename_i u e l b
    split at h3
    ·rename_i hb
     obtain⟨hu0,hu1,hl0,hl1⟩:=hb;cases h3
     refine⟨_,zO (abt (i:=1) zG.nd rfl (Or.inl rfl) (aby zP))
      (zO (ZL PassesOwn.never rfl (JZ rfl T.range (ja (jo jw (jB (jb 0) jh) jh) je)) (Qr (i:=2) zG.nd rfl (Or.inl rfl))
       (ZJ (ZL PassesOwn.never rfl (JZ rfl T.range (ja (jo jw (jB (jb 0) jh) jh) je)) (Qr (i:=3) zG.nd rfl (Or.inl rfl))
        (ZJ (ZK (agL PySem.F.plainAttrs_list PySem.F.slot_list_append PySem.F.type_list_append ac1 (pv 1) (qG (adT (qG (pv 2) (qG (pv 3) zP))) zP)))))))
      (ZJ (abr (pv 1)))),?_⟩
     obtain⟨mv,rr,e1,em,e2⟩:=h2;cases (show rr=[] from e2);subst e1;have nm:noL (PyData.tuple [.int u,.int e,.int l,.int b])=true:=by simp[noL,noLs]
     refine⟨Nat.zero_le _,fun p hp=>?_⟩
     have envr:∀{H2:Hp} {x2 x3:Option V} {y:Option V},jq H H2->EnvR K H2 [some (PyData.tuple [.int u,.int e,.int l,.int b]),none,none,none] [some mv,y,x2,x3]:=fun {H2 x2 x3 y} s2=>
      ⟨rfl,fun i d q=>by
       cases i with
       | zero=>cases q; exact ⟨mv,rfl,Rep.mono s2 _ _ em⟩
       | succ i=>
        match i,q with
        | 0,q=>cases q
        | 1,q=>cases q
        | 2,q=>cases q
        | j+3,q=>simp at q⟩
     refine⟨_,[.int (u+1)],envr (jz hp),by simp[jp,jE,op2,lkp,dIx,atI,ixN,cst,Ju],fun vs1 H1 s1 r1=>?_⟩;obtain⟨y1,q1,f1,f2,f3⟩:=r1;cases (show y1=V.int (u+1) from f2);cases (show q1=[] from f3);subst f1
     refine⟨u+1,rfl,by omega,by omega,Zk (n:=(u+1).toNat) (fun i σ H2=>∃x2 x3 xs,σ=[some mv,some (.ref p),x2,x3]/\jq H H2/\H2 p=some (.lst xs)/\Reps K H2 (zM i (l+1).toNat) xs)
      ⟨none,none,[],rfl,(jz hp).trans s1,s1 _ _ jr,rfl⟩ ?_ ?_⟩
     ·rintro i σ H2 hi ⟨x2,x3,xs,rfl,s2,hp2,r2⟩
      refine⟨_,[.int (l+1)],envr s2,by simp[jp,jE,op2,lkp,dIx,atI,ixN,cst,Ju],fun vs2 H3 s3 r3=>?_⟩;obtain⟨y2,q2,g1,g2,g3⟩:=r3;cases (show y2=V.int (l+1) from g2);cases (show q2=[] from g3);subst g1
      refine⟨l+1,rfl,by omega,by omega,Zk (n:=(l+1).toNat) (fun j σ H4=>∃x3 ys,σ=[some mv,some (.ref p),some (.int (0+i)),x3]/\jq H H4/\H4 p=some (.lst ys)/\Reps K H4 (zM i (l+1).toNat++zt i j) ys)
       ⟨x3,xs,rfl,s2.trans s3,s3 _ _ hp2,by simpa [zt] using Reps.mono s3 _ _ r2⟩ ?_ ?_⟩
      ·rintro j σ H4 hj ⟨x3',ys,rfl,s4,hp4,r4⟩
       have hlen:ys.length<sizeLine:=by
        rw[r4.length,List.length_append,aa4,acA,sizeLine_eq];have h1:i*(l+1).toNat<=1000*1001:=Nat.mul_le_mul (by omega) (by omega);omega
       refine⟨_,rfl,.inl ⟨rfl,ys,SqL.of hp4⟩,_,rfl,_,rfl,by show 2<=sizeLine;rw[sizeLine_eq];decide,fun q hq=>?_⟩;have npq:p≠q:=j7 hp4 hq;refine⟨p,ys,.ref q,rfl,rfl,by rw[jm npq];exact hp4,hlen,?_⟩
       have t1:qK H4 (upd (upd H4 q (.tup [.int (0+(i:Int)),.int (0+(j:Int))])) p (.lst (ys++[.ref q]))):=
        (jq.n (jz hq)).trans (qK.upd (xs:=ys) (by rw[jm npq];exact hp4))
       refine⟨_,ys++[.ref q],rfl,fun c o hc=>?_,jr,?_⟩
       ·have hc4:=s4 c o hc
        rw[jm (j7 hc hp),jm (j7 hc4 hq)];exact hc4
       ·rw[aa2,←List.append_assoc]
        refine(Reps.monoN t1 _ _ (by rw[zR,adj,aa3];rfl) r4).append ⟨.ref q,[],rfl,⟨q,_,rfl,SqT.of (by rw[jm (Ne.symm npq)];exact jr),?_⟩,rfl⟩;exact⟨_,_,rfl,by show _=V.int _;rw[Int.zero_add],_,_,rfl,by show _=V.int _;rw[Int.zero_add],rfl⟩
      ·rintro σ H4 ⟨x3',ys,rfl,s4,hp4,r4⟩
       exact⟨_,x3',ys,rfl,s4,hp4,by rw[Jz];exact r4⟩
     ·rintro σ H2 ⟨x2,x3,xs,rfl,s2,hp2,r2⟩
      exact⟨_,rfl,k _ _ s2 ⟨p,xs,rfl,hp2,r2⟩⟩
    ·cases h3
   ·cases h3
end
noncomputable abbrev Jf:Stmt:=top 12
noncomputable abbrev Jg:Stmt:=top 11
noncomputable abbrev CC:=Program->World->Fg->(SV)->Heap->Prop
structure CHasAll(P:Program)(w:World)(K:Fg)(mg:SV)(base:Heap):Prop where
 t:Bare mg
 allRods:jk P w K mg base "all_rods" ["manner"] 1 1 zy
 rodWorth:jk P w K mg base "rod_worth" ["manner","rod"] 1 2 qB
theorem Zz:FnScope ["manner","worths"] ["manner"] (jj Jf):=⟨rfl,rfl,rfl,by decide +kernel,rfl,by decide +kernel,by decide +kernel⟩
theorem nd2:(["rod","manner"]:List Str).Nodup:=by decide +kernel
theorem nd3:(["digit","worths"]:List Str).Nodup:=by decide +kernel
noncomputable def Z0:{ B:RO // qN CHasAll "has_all_digits" Jf ["manner","worths"] 1 B }:=
 ⟨_,fun P w K mg base f Kc A Ko s H E C hr=>
  jd (jv 1 Zz.nd (Ja ["rod","manner"] [none,some 0] rfl (aaE (jg C.allRods hr (Nat.le_refl _) (ja (jb 0) je) (jc ji))) (zE (jj Jf) ["manner","worths"] (by decide +kernel))
   fun cl C' s0 H0 fp pn=>⟨jJ 0 nd2,JE,jg C.rodWorth hr (Nat.le_refl _) (ja (jb 1) (ja (jb 0) je)) (jc (jc ji))⟩))
  (jd (js (jF (ad9 rfl) C.t.all aey (ja (Ja ["digit","worths"] [none,some 1] rfl (zD rfl C.t.range (ja (jB (jb 0) jh) je)) (zE (jj Jf) ["manner","worths"] (by decide +kernel))
   fun cl C' s0 H0 fp pn=>⟨jJ 0 nd3,JE,J3 (ad3 hr.units) (jb 0) (jb 1)⟩) je))) jf)⟩
noncomputable abbrev Z1:Stmt:=top 13
noncomputable def GC(K:Fg)(mg:SV)(x:Str)(d:PyData):Prop:=∃v u,mg x=some u/\jO v u/\∀H,Rep K H d v
theorem Qm{X:Cx}{pos:Pos}{x:Str}{d:PyData}(c:GC X.K X.mg x d)(hg:Gl X x:=by rfl)(hd:(x==("__debug__":Str))=false:=by decide):PD X (.Name x pos) (cst d):=by
 with_unfolding_all
  obtain⟨v,u,h1,h2,h3⟩:=c;exact afI hg h1 h2 h3 hd
noncomputable def JQ:LP->OP:=jy ["manner","worths"] 1 Z0.1
structure CIsManner(P:Program)(w:World)(K:Fg)(mg:SV)(base:Heap):Prop where
 t:Bare mg
 least:GC K mg "LEAST_PARTS" (.tuple [.int 0,.int 1,.int 0,.int 2])
 most:GC K mg "MOST_PARTS" (.tuple [.int 3,.int 16,.int 12,.int 16])
 isWhole:jk P w K mg base "is_whole" ["thing","least","most"] 1 3 jC
 hasAll:jk P w K mg base "has_all_digits" ["manner"] 2 1 JQ
theorem zj:FnScope ["thing","part","least","most"] ["thing"] (jj Jg):=⟨rfl,rfl,rfl,by decide +kernel,rfl,by decide +kernel,by decide +kernel⟩
noncomputable def Qe:{ B:RO // qN CIsManner "is_manner" Jg ["thing","part","least","most"] 2 B }:=
 ⟨_,fun P w K mg base f Kc A Ko s H E C hr=>
  jd (jS (qj (zq (qf (j8 (Qa (.inr (.inr rfl)) C.t.isi C.t.tuple JM (jb 0)))) (qP (jK (qM hr.units) (jF qt C.t.len qu (ja (jb 0) je)) (jF qt C.t.len qu (ja (Qm C.most) je)))))) (jd (js qV) jf) jf)
  (jd (zZ PassesOwn.never rfl (aee C.t.zip (ja (jb 0) (ja (Qm C.least) (ja (Qm C.most) je)))) (acn (n:=3) rfl (qS (jJ 1 zj.nd) (qS (jJ 2 zj.nd) (qS (jJ 3 zj.nd) aaD))))
   (jd (jS (qf (j8 (jg C.isWhole hr (by decide) (ja (jb 1) (ja (jb 2) (ja (jb 3) je))) (jc (jc (jc ji)))))) (jd (js qV) jf) jf) jf))
  (jd (js (jg C.hasAll hr (Nat.le_refl _) (ja (jb 0) je) (jc ji))) jf))⟩
noncomputable def qT:LP->OP:=jy ["thing","part","least","most"] 1 Qe.1
structure CCheck(P:Program)(w:World)(K:Fg)(mg:SV)(base:Heap):Prop where
 isManner:jk P w K mg base "is_manner" ["thing"] 3 1 qT
theorem aez:FnScope ["thing"] ["thing"] (jj Z1):=⟨rfl,rfl,rfl,by decide +kernel,rfl,by decide +kernel,by decide +kernel⟩
noncomputable def abS:{ B:RO // qN CCheck "check_manner" Z1 ["thing"] 3 B }:=
 ⟨_,fun P w K mg base f Kc A Ko s H E C hr=>
  jd (jS (qf (j8 (jg C.isManner hr (Nat.le_refl _) (ja (jb 0) je) (jc ji)))) Js jf) jf⟩
noncomputable def Qf:LP->OP:=jy ["thing"] 1 abS.1
noncomputable abbrev qQ:Stmt:=top 22
noncomputable abbrev qU:Stmt:=top 24
noncomputable abbrev aa5(C:CC)(qual:Str)(st:Stmt)(N:List Str)(k:Nat)(sts:List Stmt)(B:RO):Prop:=
 ∀(P:Program) (w:World) (K:Fg) (mg:SV) (base:Heap) (f:Addr) (Kc:Value) (A:Around) (Ko:List Env) (s:Shared) (H:Hp) (E:XK),C P w K mg base->Room k (A.deeper (envOfC qual (jj st) s.heap.objs.size f Kc))->
  QM (QH CX0 P w K mg base N qual (jj st) f Kc A Ko s H E).nox sts B
noncomputable abbrev agT(own:Nat)(C:CC)(qual:Str)(st:Stmt)(N:List Str)(k:Nat)(sts:List Stmt)(B:RO):Prop:=
 ∀(P:Program) (w:World) (K:Fg) (mg:SV) (base:Heap) (f:Addr) (Kc:Value) (A:Around) (Ko:List Env) (s:Shared) (H:Hp) (E:XK),C P w K mg base->Room k (A.deeper (envOfC qual (jj st) s.heap.objs.size f Kc))->
  aaK (QH CX0 P w K mg base N qual (jj st) f Kc A Ko s H E).nox (some own) sts B
noncomputable def zk:Stmt->List Stmt
 |.For _ _ b _ _=>b
 |_=>[]
noncomputable def aa6(l:List Stmt)(i:Nat):Stmt:=l.getD i (.Pass ⟨0,0,0,0⟩)
structure CNum(P:Program)(w:World)(K:Fg)(mg:SV)(base:Heap):Prop where
 rodWorth:jk P w K mg base "rod_worth" ["manner","rod"] 1 2 qB
noncomputable abbrev agf:List Str:=["manner","setting","number","rod"]
theorem Z2:FnScope agf ["manner","setting"] (jj qU):=⟨rfl,rfl,rfl,by decide +kernel,rfl,by decide +kernel,by decide +kernel⟩
noncomputable def Z3:{ B:RO // aa5 CNum "number_on" qU agf 1 (zk (aa6 (jQ qU) 1)) B }:=
 ⟨_,fun P w K mg base f Kc A Ko s H E C hr=>
  jd (jv 2 Z2.nd (jo jw (jo qg (jb 2) (jB (jb 0) jh)) (jg C.rodWorth hr (Nat.le_refl _) (ja (jb 0) (ja (jb 3) je)) (jc (jc ji))))) jf⟩
noncomputable def agg:{ B:RO // qN CNum "number_on" qU agf 1 B }:=
 ⟨_,fun P w K mg base f Kc A Ko s H E C hr=>
  jd (jv 2 Z2.nd jh) (jd (zZ PassesOwn.never rfl (ZP (jb 1)) (jJ 3 Z2.nd) (Z3.2 P w K mg base f Kc A Ko s H E C hr)) (jd (js (jb 2)) jf))⟩
noncomputable def abT:LP->OP:=jy agf 2 agg.1
structure CChkNum(P:Program)(w:World)(K:Fg)(mg:SV)(base:Heap):Prop where
 isWhole:jk P w K mg base "is_whole" ["thing","least","most"] 1 3 jC
 most:GC K mg "MOST_NUMBER" (.int 99999)
theorem adk:FnScope ["number"] ["number"] (jj qQ):=⟨rfl,rfl,rfl,by decide +kernel,rfl,by decide +kernel,by decide +kernel⟩
noncomputable def Z4:{ B:RO // qN CChkNum "check_number" qQ ["number"] 1 B }:=
 ⟨_,fun P w K mg base f Kc A Ko s H E C hr=>
  jd (jS (qf (j8 (jg C.isWhole hr (Nat.le_refl _) (ja (jb 0) (ja jh (ja (Qm C.most) je))) (jc (jc (jc ji)))))) Js jf) jf⟩
noncomputable def JR:LP->OP:=jy ["number"] 1 Z4.1
noncomputable abbrev Z5:Stmt:=top 14
noncomputable abbrev qY:Stmt:=top 20
noncomputable abbrev qH:Stmt:=top 21
noncomputable def ah7:Stmt->List Stmt
 |.While _ b _ _=>b
 |_=>[]
structure CIsRod(P:Program)(w:World)(K:Fg)(mg:SV)(base:Heap):Prop where
 t:Bare mg
 isWhole:jk P w K mg base "is_whole" ["thing","least","most"] 1 3 jC
theorem aeA:FnScope ["manner","thing"] ["manner","thing"] (jj Z5):=⟨rfl,rfl,rfl,by decide +kernel,rfl,by decide +kernel,by decide +kernel⟩
noncomputable def Qg:{ B:RO // qN CIsRod "is_rod" Z5 ["manner","thing"] 1 B }:=
 ⟨_,fun P w K mg base f Kc A Ko s H E C hr=>
  jd (jS (qj (zq (qf (j8 (Qa (.inr (.inr rfl)) C.t.isi C.t.tuple JM (jb 1)))) (qP (jK (qM hr.units) (jF qt C.t.len qu (ja (jb 1) je)) jh)))) (jd (js qV) jf) jf)
  (jd (js (abL (jg C.isWhole hr (Nat.le_refl _) (ja (jB (jb 1) jh) (ja jh (ja (jB (jb 0) jh) je))) (jc (jc (jc ji)))) (abK (jg C.isWhole hr (Nat.le_refl _) (ja (jB (jb 1) jh) (ja jh (ja (jB (jb 0) jh) je))) (jc (jc (jc ji))))))) jf)⟩
noncomputable def zu:LP->OP:=jy ["manner","thing"] 2 Qg.1
structure CIsSet(P:Program)(w:World)(K:Fg)(mg:SV)(base:Heap):Prop where
 t:Bare mg
 check:jk P w K mg base "check_manner" ["thing"] 4 1 Qf
 isRod:jk P w K mg base "is_rod" ["manner","thing"] 2 2 zu
 most:GC K mg "MOST_RODS" (.int 4)
theorem aeB:FnScope ["manner","thing"] ["manner","thing"] (jj qY):=⟨rfl,rfl,rfl,by decide +kernel,rfl,by decide +kernel,by decide +kernel⟩
theorem ndp:(["part","manner"]:List Str).Nodup:=by decide +kernel
noncomputable def Qh:{ B:RO // qN CIsSet "is_setting" qY ["manner","thing"] 4 B }:=
 ⟨_,fun P w K mg base f Kc A Ko s H E C hr=>
  jd (qI (jg C.check hr (Nat.le_refl _) (ja (jb 0) je) (jc ji)))
  (jd (jS (qj (zq (qf (j8 (Qa (.inr (.inr rfl)) C.t.isi C.t.tuple JM (jb 1)))) (qP (qf (ac8 ZS ZS jh (jF qt C.t.len qu (ja (jb 1) je)) (Qm C.most)))))) (jd (js qV) jf) jf)
  (jd (js (jF (ad9 rfl) C.t.all aey (ja (Ja ["part","manner"] [none,some 0] rfl (ZP (jb 1)) (zE (jj qY) ["manner","thing"] (by decide +kernel))
   fun cl C' s0 H0 fp pn=>⟨jJ 0 ndp,JE,jg C.isRod hr (by decide) (ja (jb 1) (ja (jb 0) je)) (jc (jc ji))⟩) je))) jf))⟩
noncomputable def Z6:LP->OP:=jy ["manner","thing"] 2 Qh.1
structure CChkSet(P:Program)(w:World)(K:Fg)(mg:SV)(base:Heap):Prop where
 isSet:jk P w K mg base "is_setting" ["manner","thing"] 5 2 Z6
theorem adl:FnScope ["manner","thing"] ["manner","thing"] (jj qH):=⟨rfl,rfl,rfl,by decide +kernel,rfl,by decide +kernel,by decide +kernel⟩
noncomputable def Qv:{ B:RO // qN CChkSet "check_setting" qH ["manner","thing"] 5 B }:=
 ⟨_,fun P w K mg base f Kc A Ko s H E C hr=>
  jd (jS (qf (j8 (jg C.isSet hr (Nat.le_refl _) (ja (jb 0) (ja (jb 1) je)) (jc (jc ji))))) Js jf) jf⟩
noncomputable def jY:LP->OP:=jy ["manner","thing"] 2 Qv.1
noncomputable abbrev Z7:Stmt:=top 23
noncomputable abbrev acB:Stmt:=top 39
noncomputable abbrev Z8:Stmt:=top 40
noncomputable abbrev Qw:Stmt:=top 41
noncomputable abbrev zz:Stmt:=top 42
noncomputable abbrev nMS:List Str:=["manner","setting"]
structure CValue(P:Program)(w:World)(K:Fg)(mg:SV)(base:Heap):Prop where
 check:jk P w K mg base "check_setting" ["manner","thing"] 6 2 jY
 num:jk P w K mg base "number_on" ["manner","setting"] 2 2 abT
theorem aeC:FnScope nMS nMS (jj Z7):=⟨rfl,rfl,rfl,by decide +kernel,rfl,by decide +kernel,by decide +kernel⟩
noncomputable def abU:{ B:RO // qN CValue "value" Z7 nMS 6 B }:=
 ⟨_,fun P w K mg base f Kc A Ko s H E C hr=>
  jd (qI (jg C.check hr (by decide) (ja (jb 0) (ja (jb 1) je)) (jc (jc ji)))) (jd (js (jg C.num hr (by decide) (ja (jb 0) (ja (jb 1) je)) (jc (jc ji)))) jf)⟩
noncomputable def qZ:LP->OP:=jy nMS 2 abU.1
theorem agh:FnScope ["_law_script","_law_k"] ["_law_script","_law_k"] (jj acB):=⟨rfl,rfl,rfl,by decide +kernel,rfl,by decide +kernel,by decide +kernel⟩
noncomputable def acC:{ B:RO // qN (fun _ _ _ mg _=>Bare mg) "_law_cell" acB ["_law_script","_law_k"] 0 B }:=
 ⟨_,fun P w K mg base f Kc A Ko s H E C hr=>
  jd (jS (jK (Jv hr.units) (jb 0) (Jr je)) (jd (js (jo qg jh (jb 1))) jf) jf)
  (jd (js (jo jw (jB (jb 0) (jo zi (jb 1) (jF qt C.len qu (ja (jb 0) je)))) (jo qg jh (jo JF (jb 1) (jF qt C.len qu (ja (jb 0) je)))))) jf)⟩
noncomputable def aa7:LP->OP:=jy ["_law_script","_law_k"] 2 acC.1
structure CDrawn(P:Program)(w:World)(K:Fg)(mg:SV)(base:Heap):Prop where
 cell:jk P w K mg base "_law_cell" ["_law_script","_law_k"] 1 2 aa7
theorem Q3:FnScope ["_law_script","_law_k","_law_many","_law_cell_here"] ["_law_script","_law_k","_law_many"] (jj Z8):=⟨rfl,rfl,rfl,by decide +kernel,rfl,by decide +kernel,by decide +kernel⟩
noncomputable def abV:{ B:RO // qN CDrawn "_law_drawn" Z8 ["_law_script","_law_k","_law_many","_law_cell_here"] 1 B }:=
 ⟨_,fun P w K mg base f Kc A Ko s H E C hr=>
  jd (jv 3 Q3.nd (jo zi (jo jw (jo qg (jo zi (jg C.cell hr (Nat.le_refl _) (ja (jb 0) (ja (jb 1) je)) (jc (jc ji))) jh) jh) (jo qg jh (jo jw (jb 1) jh))) jh))
  (jd (jv 3 Q3.nd (jo zi (jo jw (jo qg (jb 3) (jb 3)) (jo JF (jb 3) jh)) jh))
  (jd (js (jo zi (jo JF (jo zi (jo jw (jo qg (jb 3) (jb 3)) (jo JF (jb 3) jh)) jh) jh) (jb 2))) jf))⟩
noncomputable def zH:LP->OP:=jy ["_law_script","_law_k","_law_many","_law_cell_here"] 3 abV.1
noncomputable abbrev Z9:List Str:=["_law_script","_law_at","_law_known","_law_way","_law_each","_law_upper","_law_lower"]
structure CManner(P:Program)(w:World)(K:Fg)(mg:SV)(base:Heap):Prop where
 t:Bare mg
 drawn:jk P w K mg base "_law_drawn" ["_law_script","_law_k","_law_many"] 2 3 zH
theorem qC:FnScope Z9 ["_law_script","_law_at"] (jj Qw):=⟨rfl,rfl,rfl,by decide +kernel,rfl,by decide +kernel,by decide +kernel⟩
noncomputable def jl(a b c d:Int):PyData:= .tuple [.int a,.int b,.int c,.int d]
noncomputable def Qi:LP:=[jl 1 5 4 10,jl 2 5 5 10,jl 0 1 9 10,jl 1 5 5 10,jl 0 1 10 10,jl 1 2 1 4,jl 0 1 1 2]
noncomputable def Qj:LP:=[jl 1 4 3 8,jl 1 3 2 5,jl 3 4 3 16,jl 2 3 2 7,jl 1 1 1 3]
noncomputable def Qx:{ B:RO // qN CManner "_law_manner" Qw Z9 2 B }:=
 ⟨_,fun P w K mg base f Kc A Ko s H E C hr=>
  jd (jv 2 qC.nd (Qb 3 (.list Qi) (by kernel_rfl)))
  (jd (jv 2 qC.nd (jo jw (jb 2) (Qb 3 (.list Qj) (by kernel_rfl))))
  (jd (jv 3 qC.nd (jg C.drawn hr (Nat.le_refl _) (ja (jb 0) (ja (jb 1) (ja (jo qg jh (jF qt C.t.len qu (ja (jb 2) je))) je))) (jc (jc (jc ji)))))
  (jd (jS (jK ad4 (jb 3) (jF qt C.t.len qu (ja (jb 2) je))) (jd (js (jB (jb 2) (jb 3))) jf) jf)
  (jd (jv 4 qC.nd (jo jw jh (jg C.drawn hr (Nat.le_refl _) (ja (jb 0) (ja (jo jw (jb 1) jh) (ja jh je))) (jc (jc (jc ji))))))
  (jd (jv 5 qC.nd (jg C.drawn hr (Nat.le_refl _) (ja (jb 0) (ja (jo jw (jb 1) jh) (ja jh je))) (jc (jc (jc ji)))))
  (jd (jv 6 qC.nd (jo jw (jF (afR rfl) C.t.max aeh (ja (jo zh (jb 4) jh) (ja jh je))) (jg C.drawn hr (Nat.le_refl _) (ja (jb 0) (ja (jo jw (jb 1) jh) (ja jh je))) (jc (jc (jc ji))))))
  (jd (js (qx (ja (jb 5) (ja (jb 4) (ja (jb 6) (ja (jo jw jh (jg C.drawn hr (Nat.le_refl _) (ja (jb 0) (ja (jo jw (jb 1) jh) (ja (jF (afS rfl) C.t.min aeg (ja jh (ja (jo jw (jo qg (jb 5) (jb 4)) (jb 6)) je))) je))) (jc (jc (jc ji))))) je)))))) jf)))))))⟩
noncomputable def Jh:LP->OP:=jy Z9 2 Qx.1
structure CSetting(P:Program)(w:World)(K:Fg)(mg:SV)(base:Heap):Prop where
 t:Bare mg
 drawn:jk P w K mg base "_law_drawn" ["_law_script","_law_k","_law_many"] 2 3 zH
noncomputable abbrev agi:List Str:=["_law_script","_law_at","_law_manner_here","_law_most","_law_rods_here","_law_found","_law_k","_law_rod"]
theorem Qk:FnScope agi ["_law_script","_law_at","_law_manner_here","_law_most"] (jj zz):=⟨rfl,rfl,rfl,by decide +kernel,rfl,by decide +kernel,by decide +kernel⟩
noncomputable def aaa:{ B:RO // aa5 CSetting "_law_setting" zz agi 2 (zk (aa6 (jQ zz) 2)) B }:=
 ⟨_,fun P w K mg base f Kc A Ko s H E C hr=>
  (jd (jv 7 Qk.nd (qx (ja (jg C.drawn hr (by decide) (ja (jb 0) (ja (jo jw (jo jw (jb 1) jh) (jo qg jh (jb 6))) (ja (jo jw (jB (jb 2) jh) jh) je))) (jc (jc (jc ji)))) (ja (jg C.drawn hr (by decide) (ja (jb 0) (ja (jo jw (jo jw (jb 1) jh) (jo qg jh (jb 6))) (ja (jo jw (jB (jb 2) jh) jh) je))) (jc (jc (jc ji)))) je))))
  (jd (jv 5 Qk.nd (jo jw (jb 5) (qx (ja (jb 7) je))))
  jf))⟩
noncomputable def agj:{ B:RO // qN CSetting "_law_setting" zz agi 2 B }:=
 ⟨_,fun P w K mg base f Kc A Ko s H E C hr=>
  (jd (jv 4 Qk.nd (jo jw jh (jg C.drawn hr (by decide) (ja (jb 0) (ja (jb 1) (ja (jb 3) je))) (jc (jc (jc ji))))))
  (jd (jv 5 Qk.nd (qx je))
  (jd (zZ PassesOwn.never rfl (zD rfl C.t.range (ja (jb 4) je)) (jJ 6 Qk.nd) (aaa.2 P w K mg base f Kc A Ko s H E C hr))
  (jd (js (jb 5))
  jf))))⟩
noncomputable def agk:LP->OP:=jy agi 4 agj.1
noncomputable abbrev ajL(C:CC)(qual:Str)(st:Stmt)(N:List Str)(k:Nat)(Fx:Rho->Option Str):Prop:=
 ∀(P:Program) (w:World) (K:Fg) (mg:SV) (base:Heap) (f:Addr) (Kc:Value) (A:Around) (Ko:List Env) (s:Shared) (H:Hp) (E:XK),C P w K mg base->Room k (A.deeper (envOfC qual (jj st) s.heap.objs.size f Kc))->
  ajw (QH (CXt P w) P w K mg base N qual (jj st) f Kc A Ko s H E) (jQ st) Fx
noncomputable def qR(k:Bool):PyData:= .str (if k=true then "lower" else "upper")
noncomputable def mv(r:Int)(k:Bool)(c:Int):PyData:= .tuple [.int r,qR k,.int c]
theorem JH{ds:LP}(h:∀d∈ds,noL d=true):noLs ds=true:=by
 induction ds with
 |nil=>rfl
 |cons d ds ih=>simp only[noLs,h d List.mem_cons_self,ih fun c hc=>h c (List.mem_cons_of_mem _ hc),Bool.and_self]
noncomputable def ab(i:Int):Int:=if i<0 then -i else i
noncomputable def fd(p q:Int×Int):Int:=ab (q.1-p.1)+ab (q.2-p.2)
noncomputable abbrev acD:Stmt:=top 37
structure CRest(P:Program)(w:World)(K:Fg)(mg:SV)(base:Heap):Prop where
 chkSet:jk P w K mg base "check_setting" ["manner","thing"] 6 2 jY
 num:jk P w K mg base "number_on" ["manner","setting"] 2 2 abT
theorem agl:FnScope nMS nMS (jj acD):=⟨rfl,rfl,rfl,by decide +kernel,rfl,by decide +kernel,by decide +kernel⟩
noncomputable def acE:{ B:RO // qN CRest "rest" acD nMS 6 B }:=
 ⟨_,fun P w K mg base f Kc A Ko s H E C hr=>
  (jd (qI (jg C.chkSet hr (by decide) (ja (jb 0) (ja (jb 1) je)) (jc (jc ji))))
  (jd (js (jo zi (jg C.num hr (by decide) (ja (jb 0) (ja (jb 1) je)) (jc (jc ji))) (jo zh (jB (jb 0) jh) jh)))
  jf))⟩
noncomputable def aa8:LP->OP:=jy nMS 2 acE.1
noncomputable abbrev zl:Stmt:=top 29
structure CNamesBeads(P:Program)(w:World)(K:Fg)(mg:SV)(base:Heap):Prop where
 t:Bare mg
 c_isWhole:jk P w K mg base "is_whole" ["thing","least","most"] 1 3 jC
 k_DECKS:GC K mg "DECKS" (.tuple [.str "upper",.str "lower"])
noncomputable abbrev zU:List Str:=["setting","thing"]
theorem Ze:FnScope zU ["setting","thing"] (jj zl):=⟨rfl,rfl,rfl,by decide +kernel,rfl,by decide +kernel,by decide +kernel⟩
noncomputable def qk:{ B:RO // qN CNamesBeads "names_beads" zl zU 1 B }:=
 ⟨_,fun P w K mg base f Kc A Ko s H E C hr=>
  (jd (jS (qj (zq (qf (j8 (Qa (.inr (.inr rfl)) C.t.isi C.t.tuple JM (jb 1)))) (qP (jK (qM hr.units) (jF qt C.t.len qu (ja (jb 1) je)) jh)))) (jd (js qV)
  jf) jf)
  (jd (jS (qj (zq (qf (j8 (jg C.c_isWhole hr (by decide) (ja (jB (jb 1) jh) (ja jh (ja (jo zh (jF qt C.t.len qu (ja (jb 0) je)) jh) je))) (jc (jc (jc ji)))))) (qP (jK (J9 hr.units) (jB (jb 1) jh) (Qm C.k_DECKS))))) (jd (js qV)
  jf) jf)
  (jd (js (abL (jg C.c_isWhole hr (by decide) (ja (jB (jb 1) jh) (ja (aei jh) (ja jh je))) (jc (jc (jc ji)))) (abK (J3 (qM hr.units) (jB (jb 1) jh) jh))))
  jf)))⟩
noncomputable def zm:LP->OP:=jy zU 2 qk.1
noncomputable abbrev Qy:Stmt:=top 30
structure CPushed(P:Program)(w:World)(K:Fg)(mg:SV)(base:Heap):Prop where
 tr:True
noncomputable abbrev aab:List Str:=["rod","deck","by"]
theorem adm:FnScope aab ["rod","deck","by"] (jj Qy):=⟨rfl,rfl,rfl,by decide +kernel,rfl,by decide +kernel,by decide +kernel⟩
noncomputable def JS:{ B:RO // qN CPushed "pushed" Qy aab 0 B }:=
 ⟨_,fun P w K mg base f Kc A Ko s H E C hr=>
  (jd (jS (jK (Jv hr.units) (jb 1) abD) (jd (js (qx (ja (jo jw (jB (jb 0) jh) (jb 2)) (ja (jB (jb 0) jh) je))))
  jf) jf)
  (jd (js (qx (ja (jB (jb 0) jh) (ja (jo jw (jB (jb 0) jh) (jb 2)) je))))
  jf))⟩
noncomputable def Qz:LP->OP:=jy aab 3 JS.1
noncomputable abbrev JT:Stmt:=top 28
structure CCanMove(P:Program)(w:World)(K:Fg)(mg:SV)(base:Heap):Prop where
 c_NamesBeads:jk P w K mg base "names_beads" ["setting","thing"] 2 2 zm
 c_isRod:jk P w K mg base "is_rod" ["manner","thing"] 2 2 zu
 c_Pushed:jk P w K mg base "pushed" ["rod","deck","by"] 1 3 Qz
noncomputable abbrev Q4:List Str:=["manner","setting","thing"]
theorem abW:FnScope Q4 ["manner","setting","thing"] (jj JT):=⟨rfl,rfl,rfl,by decide +kernel,rfl,by decide +kernel,by decide +kernel⟩
noncomputable def JU:{ B:RO // qN CCanMove "can_move" JT Q4 2 B }:=
 ⟨_,fun P w K mg base f Kc A Ko s H E C hr=>
  (jd (jS (qf (j8 (jg C.c_NamesBeads hr (by decide) (ja (jb 1) (ja (jb 2) je)) (jc (jc ji))))) (jd (js qV)
  jf) jf)
  (jd (js (jg C.c_isRod hr (by decide) (ja (jb 0) (ja (jg C.c_Pushed hr (by decide) (ja (jB (jb 1) (jB (jb 2) jh)) (ja (jB (jb 2) jh) (ja (jB (jb 2) jh) je))) (jc (jc (jc ji)))) je)) (jc (jc ji))))
  jf))⟩
noncomputable def za:LP->OP:=jy Q4 3 JU.1
noncomputable abbrev zn:Stmt:=top 31
structure CBehindMove(P:Program)(w:World)(K:Fg)(mg:SV)(base:Heap):Prop where
 c_Pushed:jk P w K mg base "pushed" ["rod","deck","by"] 1 3 Qz
noncomputable abbrev zV:List Str:=["setting","move","at"]
theorem Jp:FnScope zV ["setting","move"] (jj zn):=⟨rfl,rfl,rfl,by decide +kernel,rfl,by decide +kernel,by decide +kernel⟩
noncomputable def zo:{ B:RO // qN CBehindMove "behind_move" zn zV 1 B }:=
 ⟨_,fun P w K mg base f Kc A Ko s H E C hr=>
  (jd (jv 2 Jp.nd (jB (jb 1) jh))
  (jd (js (jo jw (jo jw (aer (jb 0) (jb 2)) (qx (ja (jg C.c_Pushed hr (by decide) (ja (jB (jb 0) (jb 2)) (ja (jB (jb 1) jh) (ja (jB (jb 1) jh) je))) (jc (jc (jc ji)))) je))) (abM (jb 0) (jo jw (jb 2) jh))))
  jf))⟩
noncomputable def j5:LP->OP:=jy zV 2 zo.1
noncomputable abbrev aac:Stmt:=top 32
structure CMoved(P:Program)(w:World)(K:Fg)(mg:SV)(base:Heap):Prop where
 c_chkSet:jk P w K mg base "check_setting" ["manner","thing"] 6 2 jY
 c_CanMove:jk P w K mg base "can_move" ["manner","setting","thing"] 3 3 za
 c_BehindMove:jk P w K mg base "behind_move" ["setting","move"] 2 2 j5
noncomputable abbrev abX:List Str:=["manner","setting","move"]
theorem aeD:FnScope abX ["manner","setting","move"] (jj aac):=⟨rfl,rfl,rfl,by decide +kernel,rfl,by decide +kernel,by decide +kernel⟩
noncomputable def aad:{ B:RO // qN CMoved "moved" aac abX 6 B }:=
 ⟨_,fun P w K mg base f Kc A Ko s H E C hr=>
  (jd (qI (jg C.c_chkSet hr (by decide) (ja (jb 0) (ja (jb 1) je)) (jc (jc ji))))
  (jd (jS (qf (j8 (jg C.c_CanMove hr (by decide) (ja (jb 0) (ja (jb 1) (ja (jb 2) je))) (jc (jc (jc ji)))))) (jd Zs
  jf) jf)
  (jd (js (jg C.c_BehindMove hr (by decide) (ja (jb 1) (ja (jb 2) je)) (jc (jc ji))))
  jf)))⟩
noncomputable def qD:LP->OP:=jy abX 3 aad.1
noncomputable abbrev qd:Stmt:=top 33
structure CAllMoves(P:Program)(w:World)(K:Fg)(mg:SV)(base:Heap):Prop where
 t:Bare mg
 c_chkSet:jk P w K mg base "check_setting" ["manner","thing"] 6 2 jY
 c_CanMove:jk P w K mg base "can_move" ["manner","setting","thing"] 3 3 za
 k_DECKS:GC K mg "DECKS" (.tuple [.str "upper",.str "lower"])
 k_WAYS:GC K mg "WAYS" (.tuple [.int 1,.int (-1)])
noncomputable abbrev qE:List Str:=["manner","setting","told","rod","deck","several"]
theorem qL:FnScope qE ["manner","setting"] (jj qd):=⟨rfl,rfl,rfl,by decide +kernel,rfl,by decide +kernel,by decide +kernel⟩
theorem aeE:(["by","rod","deck"]:List Str).Nodup:=by decide +kernel
theorem aeF:(["move","manner","setting"]:List Str).Nodup:=by decide +kernel
noncomputable def JA:{ B:RO // agT 2 CAllMoves "all_moves" qd qE 6 (zk (aa6 (zk (aa6 (jQ qd) 2)) 0)) B }:=
 ⟨_,fun P w K mg base f Kc A Ko s H E C hr=>
  (zx (aeu 5 ["by","rod","deck"] [none,some 3,some 4] rfl qL.nd (zF (Qm C.k_WAYS)) (zE (jj qd) qE (by decide +kernel))
   fun cl C' s0 H0 fp pn=>⟨(jJ 0 aeE),JE,(qx (ja (jb 1) (ja (jb 2) (ja (jb 0) je))))⟩)
  (zx (afY (ade 2 (Ja ["move","manner","setting"] [none,some 0,some 1] rfl (zF (jb 5)) (zE (jj qd) qE (by decide +kernel))
   fun cl C' s0 H0 fp pn=>⟨(jJ 0 aeF),(QQ (j8 (jg C.c_CanMove hr (by decide) (ja (jb 1) (ja (jb 2) (ja (jb 0) je))) (jc (jc (jc ji)))))),(jb 0)⟩)))
  QT))⟩
noncomputable def zb:{ B:RO // agT 2 CAllMoves "all_moves" qd qE 6 (zk (aa6 (jQ qd) 2)) B }:=
 ⟨_,fun P w K mg base f Kc A Ko s H E C hr=>
  (zx (acu PassesOwn.never rfl (zF (Qm C.k_DECKS)) (aaL 4 qL.nd) (JA.2 P w K mg base f Kc A Ko s H E C hr))
  QT)⟩
noncomputable def Ji:{ B:RO // qN CAllMoves "all_moves" qd qE 6 B }:=
 ⟨_,fun P w K mg base f Kc A Ko s H E C hr=>
  (jd (qI (jg C.c_chkSet hr (by decide) (ja (jb 0) (ja (jb 1) je)) (jc (jc ji))))
  (ael (aem 2 qL.nd (ahC je)
  (zx (acu PassesOwn.never rfl (zD rfl C.t.range (ja (jF qt C.t.len qu (ja (jb 1) je)) je)) (aaL 3 qL.nd) (zb.2 P w K mg base f Kc A Ko s H E C hr))
  (zx (afX (jb 2))
  QT)))))⟩
noncomputable def qv:LP->OP:=jy qE 2 Ji.1
noncomputable abbrev adn:Stmt:=top 34
structure CRun(P:Program)(w:World)(K:Fg)(mg:SV)(base:Heap):Prop where
 t:Bare mg
 c_chkSet:jk P w K mg base "check_setting" ["manner","thing"] 6 2 jY
 c_Moved:jk P w K mg base "moved" ["manner","setting","move"] 7 3 qD
noncomputable abbrev agm:List Str:=["manner","setting","moves","now","move"]
theorem aae:FnScope agm ["manner","setting","moves"] (jj adn):=⟨rfl,rfl,rfl,by decide +kernel,rfl,by decide +kernel,by decide +kernel⟩
noncomputable def aa9:{ B:RO // aa5 CRun "run" adn agm 7 (zk (aa6 (jQ adn) 3)) B }:=
 ⟨_,fun P w K mg base f Kc A Ko s H E C hr=>
  (jd (jv 3 aae.nd (jg C.c_Moved hr (by decide) (ja (jb 0) (ja (jb 3) (ja (jb 4) je))) (jc (jc (jc ji)))))
  jf)⟩
noncomputable def agn:{ B:RO // qN CRun "run" adn agm 7 B }:=
 ⟨_,fun P w K mg base f Kc A Ko s H E C hr=>
  (jd (qI (jg C.c_chkSet hr (by decide) (ja (jb 0) (ja (jb 1) je)) (jc (jc ji))))
  (jd (jS (qf (j8 (af4 rfl C.t.isi C.t.list age (jb 2)))) (jd Zs
  jf) jf)
  (jd (jv 3 aae.nd (jb 1))
  (jd (zZ PassesOwn.never rfl (zF (jb 2)) (jJ 4 aae.nd) (aa9.2 P w K mg base f Kc A Ko s H E C hr))
  (jd (js (jb 3))
  jf)))))⟩
noncomputable def aeG:LP->OP:=jy agm 3 agn.1
noncomputable abbrev Q5:Stmt:=top 35
structure CSlips(P:Program)(w:World)(K:Fg)(mg:SV)(base:Heap):Prop where
 c_chkSet:jk P w K mg base "check_setting" ["manner","thing"] 6 2 jY
 c_chkNum:jk P w K mg base "check_number" ["number"] 2 1 JR
 c_AllMoves:jk P w K mg base "all_moves" ["manner","setting"] 7 2 qv
 c_num:jk P w K mg base "number_on" ["manner","setting"] 2 2 abT
 c_BehindMove:jk P w K mg base "behind_move" ["setting","move"] 2 2 j5
noncomputable abbrev aaf:List Str:=["manner","setting","number","several"]
theorem aba:FnScope aaf ["manner","setting","number"] (jj Q5):=⟨rfl,rfl,rfl,by decide +kernel,rfl,by decide +kernel,by decide +kernel⟩
theorem aeH:(["move","number","manner","setting"]:List Str).Nodup:=by decide +kernel
noncomputable def aag:{ B:RO // qN CSlips "slips" Q5 aaf 7 B }:=
 ⟨_,fun P w K mg base f Kc A Ko s H E C hr=>
  (jd (qI (jg C.c_chkSet hr (by decide) (ja (jb 0) (ja (jb 1) je)) (jc (jc ji))))
  (jd (qI (jg C.c_chkNum hr (by decide) (ja (jb 2) je) (jc ji)))
  (jd (jv 3 aba.nd (jg C.c_AllMoves hr (by decide) (ja (jb 0) (ja (jb 1) je)) (jc (jc ji))))
  (jd (js (Ja ["move","number","manner","setting"] [none,some 2,some 0,some 1] rfl (zF (jb 3)) (zE (jj Q5) aaf (by decide +kernel))
   fun cl C' s0 H0 fp pn=>⟨(jJ 0 aeH),(QQ (jK (Jv hr.units) (jg C.c_num hr (by decide) (ja (jb 2) (ja (jg C.c_BehindMove hr (by decide) (ja (jb 3) (ja (jb 0) je)) (jc (jc ji))) je)) (jc (jc ji))) (jb 1))),(jb 0)⟩))
  jf))))⟩
noncomputable def qF:LP->OP:=jy aaf 3 aag.1
noncomputable abbrev aah:Stmt:=top 47
structure CLaw(P:Program)(w:World)(K:Fg)(mg:SV)(base:Heap):Prop where
 t:Bare mg
 c_manner:jk P w K mg base "_law_manner" ["_law_script","_law_at"] 3 2 Jh
 c_setting:jk P w K mg base "_law_setting" ["_law_script","_law_at","_law_manner_here","_law_most"] 3 4 agk
 c_value:jk P w K mg base "value" ["manner","setting"] 7 2 qZ
 c_AllMoves:jk P w K mg base "all_moves" ["manner","setting"] 7 2 qv
 c_drawn:jk P w K mg base "_law_drawn" ["_law_script","_law_k","_law_many"] 2 3 zH
 c_Moved:jk P w K mg base "moved" ["manner","setting","move"] 7 3 qD
 c_Slips:jk P w K mg base "slips" ["manner","setting","number"] 8 3 qF
 c_rest:jk P w K mg base "rest" ["manner","setting"] 7 2 aa8
 c_Run:jk P w K mg base "run" ["manner","setting","moves"] 8 3 aeG
noncomputable abbrev ado:List Str:=["_law_script","_law_manner_here","_law_setting_here","_law_number","_law_rows","_law_rod","_law_deck","_law_by","_law_slipped","_law_found","_law_move","_law_there","_law_same","_law_far_here","_law_k","_law_more","_law_second","_law_twice","_law_back","_law_known"]
theorem jX:FnScope ado ["_law_script"] (jj aah):=⟨rfl,rfl,rfl,by decide +kernel,rfl,by decide +kernel,by decide +kernel⟩
theorem aeI:(["_law_move","_law_number","_law_manner_here","_law_slipped"]:List Str).Nodup:=by decide +kernel
noncomputable def Q6:{ B:RO // aa5 CLaw "law" aah ado 8 (zk (aa6 (jQ aah) 9)) B }:=
 ⟨_,fun P w K mg base f Kc A Ko s H E C hr=>
  (jd (jv 11 jX.nd (jg C.c_value hr (by decide) (ja (jb 1) (ja (jg C.c_Moved hr (by decide) (ja (jb 1) (ja (jb 2) (ja (jb 10) je))) (jc (jc (jc ji)))) je)) (jc (jc ji))))
  (jd (jS (qj (zq (jK (J9 hr.units) (jb 10) (jg C.c_Slips hr (by decide) (ja (jb 1) (ja (jb 2) (ja (jb 11) je))) (jc (jc (jc ji))))) (qP (jK (Jv hr.units) (jb 11) (jb 3))))) (jd (js qV)
  jf) jf)
  (jd (jv 12 jX.nd (J3 (Jv hr.units) (jg C.c_rest hr (by decide) (ja (jb 1) (ja (jg C.c_Moved hr (by decide) (ja (jb 1) (ja (jb 2) (ja (jb 10) je))) (jc (jc (jc ji)))) je)) (jc (jc ji))) (jg C.c_rest hr (by decide) (ja (jb 1) (ja (jb 2) je)) (jc (jc ji)))))
  (jd (jS (qj (acm (jK ahx (jB (jb 1) jh) jh) (aaC (jK (qM hr.units) (jb 12) (J3 (Jv hr.units) (jo zi (jo zh (jb 11) (jb 3)) (jo zh (jB (jb 1) jh) jh)) jh))))) (jd (js qV)
  jf) jf)
  jf))))⟩
noncomputable def abb:{ B:RO // aa5 CLaw "law" aah ado 8 (zk (aa6 (jQ aah) 11)) B }:=
 ⟨_,fun P w K mg base f Kc A Ko s H E C hr=>
  (jd (jv 13 jX.nd (jo qg (jb 13) (jB (jb 1) jh)))
  jf)⟩
noncomputable def ago:{ B:RO // qN CLaw "law" aah ado 8 B }:=
 ⟨_,fun P w K mg base f Kc A Ko s H E C hr=>
  (jd (jv 1 jX.nd (jg C.c_manner hr (by decide) (ja (jb 0) (ja jh je)) (jc (jc ji))))
  (jd (jv 2 jX.nd (jg C.c_setting hr (by decide) (ja (jb 0) (ja jh (ja (jb 1) (ja jh je)))) (jc (jc (jc (jc ji))))))
  (jd (jv 3 jX.nd (jg C.c_value hr (by decide) (ja (jb 1) (ja (jb 2) je)) (jc (jc ji))))
  (jd (jv 4 jX.nd (jg C.c_AllMoves hr (by decide) (ja (jb 1) (ja (jb 2) je)) (jc (jc ji))))
  (jd (afL (jB (jb 4) (jg C.c_drawn hr (by decide) (ja (jb 0) (ja jh (ja (jF qt C.t.len qu (ja (jb 4) je)) je))) (jc (jc (jc ji))))) (acn (n:=3) rfl (qS (jJ 5 jX.nd) (qS (jJ 6 jX.nd) (qS (jJ 7 jX.nd) aaD)))))
  (jd (jv 8 jX.nd (jg C.c_Moved hr (by decide) (ja (jb 1) (ja (jb 2) (ja (qx (ja (jb 5) (ja (jb 6) (ja (jb 7) je)))) je))) (jc (jc (jc ji)))))
  (jd (jv 9 jX.nd (jg C.c_Slips hr (by decide) (ja (jb 1) (ja (jb 8) (ja (jb 3) je))) (jc (jc (jc ji)))))
  (jd (jS (qj (zq (jK (J9 hr.units) (qx (ja (jb 5) (ja (jb 6) (ja (jo zh jh (jb 7)) je)))) (jb 9)) (zq (jK (qM hr.units) (adi rfl hr.sort C.t.len C.t.set (ja (jb 9) je)) (jF qt C.t.len qu (ja (jb 9) je))) (qP (jK (qM hr.units) (jg C.c_Slips hr (by decide) (ja (jb 1) (ja (jb 2) (ja (jb 3) je))) (jc (jc (jc ji)))) (Jr je)))))) (jd (js qV)
  jf) jf)
  (jd (jS (jK (qM hr.units) (Ja ["_law_move","_law_number","_law_manner_here","_law_slipped"] [none,some 3,some 1,some 8] rfl (zF (jb 9)) (zE (jj aah) ado (by decide +kernel))
   fun cl C' s0 H0 fp pn=>⟨(jJ 0 aeI),(QQ (jK (qM hr.units) (jg C.c_value hr (by decide) (ja (jb 2) (ja (jg C.c_Moved hr (by decide) (ja (jb 2) (ja (jb 3) (ja (jb 0) je))) (jc (jc (jc ji)))) je)) (jc (jc ji))) (jb 1))),(jb 0)⟩) (Jr je)) (jd (js qV)
  jf) jf)
  (jd (zZ PassesOwn.never rfl (zF (jb 4)) (jJ 10 jX.nd) (Q6.2 P w K mg base f Kc A Ko s H E C hr))
  (jd (jv 13 jX.nd (jo qg jh (jB (jb 1) jh)))
  (jd (zZ PassesOwn.never rfl (zD rfl C.t.range (ja (jF qt C.t.len qu (ja (jb 2) je)) je)) (jJ 14 jX.nd) (abb.2 P w K mg base f Kc A Ko s H E C hr))
  (jd (jS (qj (acm (jK ad4 (jo jw (jb 3) (jb 13)) jh) (aaC (jK (qM hr.units) (jg C.c_Slips hr (by decide) (ja (jb 1) (ja (jb 2) (ja (jo jw (jb 3) (jb 13)) je))) (jc (jc (jc ji)))) (Jr je))))) (jd (js qV)
  jf) jf)
  (jd (jv 15 jX.nd (jg C.c_AllMoves hr (by decide) (ja (jb 1) (ja (jb 8) je)) (jc (jc ji))))
  (jd (jv 16 jX.nd (jB (jb 15) (jg C.c_drawn hr (by decide) (ja (jb 0) (ja jh (ja (jF qt C.t.len qu (ja (jb 15) je)) je))) (jc (jc (jc ji))))))
  (jd (jv 17 jX.nd (jg C.c_Moved hr (by decide) (ja (jb 1) (ja (jb 8) (ja (jb 16) je))) (jc (jc (jc ji)))))
  (jd (jv 18 jX.nd (Jr (ja (qx (ja (jB (jb 16) jh) (ja (jB (jb 16) jh) (ja (jo zh jh (jB (jb 16) jh)) je)))) (ja (qx (ja (jb 5) (ja (jb 6) (ja (jo zh jh (jb 7)) je)))) je))))
  (jd (jv 19 jX.nd (Qb 3 (.tuple [.tuple [.int 1,.int 0],.tuple [.int 0,.int 3]]) (by kernel_rfl)))
  (jd (jS (qj (zq (jK (qM hr.units) (jg C.c_Slips hr (by decide) (ja (Qb 2 (.tuple [.int 1,.int 5,.int 4,.int 10]) (by kernel_rfl)) (ja (jb 19) (ja jh je))) (jc (jc (jc ji)))) (Jr (ja (qx (ja jh (ja abD (ja (aei jh) je)))) je))) (qP (jK (qM hr.units) (jg C.c_Slips hr (by decide) (ja (Qb 2 (.tuple [.int 1,.int 5,.int 4,.int 10]) (by kernel_rfl)) (ja (jb 19) (ja jh je))) (jc (jc (jc ji)))) (Qb 3 (.list [.tuple [.int 1,.str "upper",.int 1]]) (by kernel_rfl)))))) (jd (js qV)
  jf) jf)
  (jd (js (abL (J3 (Jv hr.units) (jg C.c_Run hr (by decide) (ja (jb 1) (ja (jb 17) (ja (jb 18) je))) (jc (jc (jc ji)))) (jb 2)) (abK (J3 (ad3 hr.units) (jB (jb 18) jh) (jg C.c_Slips hr (by decide) (ja (jb 1) (ja (jb 17) (ja (jg C.c_value hr (by decide) (ja (jb 1) (ja (jb 8) je)) (jc (jc ji))) je))) (jc (jc (jc ji))))))))
  jf))))))))))))))))))))⟩
noncomputable def agp:LP->OP:=jy ado 1 ago.1
theorem jP(i a b:Int):jC [.int i,.int a,.int b]=some (.bool (decide (a<=i)&&decide (i<=b))):=by
 by_cases h:a<=i<;>simp[jC,jy,JP,jL,jT,ifS,orB,tst,lkp,qX,tyn,asB,ze,chn,zN,qq,qr,h]
theorem JV(u e l b x y:Int)(h:-18446744073709551616<x/\x<18446744073709551616):qB [.tuple [.int u,.int e,.int l,.int b],.tuple [.int x,.int y]]=some (.int (x*e+y)):=by
 simp[qB,jy,Qc,jL,jT,op2,lkp,dIx,atI,ixN,qq,qr,cst,Jl,Ju,h]
theorem abY{n:Nat}{i:Int}(h0:0<=i)(h:i.toNat<n):ixN n i=some i.toNat:=by
 unfold ixN;rw[if_pos h0,if_pos (by omega)]
noncomputable def okN(u e l b:Int):Bool:=decide (0<=u)&&decide (u<=3)&&decide (1<=e)&&decide (e<=5)&&decide (e-1<=l)&&decide (1<=l)&&decide (l<=11)&&decide (2<=b)&&decide (b<=16)&&decide (b<=u*e+l+1)
noncomputable def ql(u l:Int):LP:=zM (u+1).toNat (l+1).toNat
noncomputable def jG(e:Int):PyData->Int
 |.tuple [.int x,.int y]=>x*e+y
 |_=>-1
noncomputable def pr(p:Int×Int):PyData:= .tuple [.int p.1,.int p.2]
noncomputable def jn(ps:List (Int×Int)):PyData:= .tuple (ps.map pr)
noncomputable def okP(u l:Int)(p:Int×Int):Bool:=decide (0<=p.1)&&decide (p.1<=u)&&decide (0<=p.2)&&decide (p.2<=l)
noncomputable def okS(u l:Int)(ps:List (Int×Int)):Bool:=decide (1<=ps.length)&&decide (ps.length<=4)&&ps.all (okP u l)
noncomputable def wt(e:Int)(p:Int×Int):Int:=p.1*e+p.2
noncomputable def val(b e:Int)(ps:List (Int×Int)):Int:=ps.foldl (fun n p=>n*b+wt e p) 0
noncomputable def aiU(e:Int):List Int->LP->List Int
 |c,[]=>c
 |c,r::rs=>aiU e (c.set (jG e r).toNat (c.getD (jG e r).toNat 0+1)) rs
noncomputable def aiV(u e l:Int):List Int:=aiU e (List.replicate (u*e+l+1).toNat 0) (ql u l)
noncomputable def cnt(u e l n:Int):Int:=((ql u l).filter fun r=>jG e r==n).length
noncomputable def okM(u e l b:Int):Bool:=decide (0<=u)&&decide (u<=3)&&decide (1<=e)&&decide (e<=5)&&decide (e-1<=l)&&decide (1<=l)&&decide (l<=10)&&decide (2<=b)&&decide (b<=16)&&decide (b<=u*e+l+1)
theorem adp{n m:Nat}{d:PyData}(h:d∈zM n m):∃i j:Nat,i<n/\j<m/\d= .tuple [.int i,.int j]:=by
 obtain⟨i,hi,hd⟩:=List.mem_flatMap.mp h;obtain⟨j,hj,rfl⟩:=List.mem_map.mp hd;exact⟨i,j,List.mem_range.mp hi,List.mem_range.mp hj,rfl⟩
theorem zp(i:Int):okD (.int i)=true:=by simp[okD,PyData.canLay0,PyData.depth]
theorem abc{u e l b:Int}(hu:0<=u)(hu':u<100)(hl:0<=l)(hl':l<100):zy [jl u e l b]=some (.list (ql u l)):=by
 simp[zy,jl,ql,hu,hl,show u<1000 by omega,show l<1000 by omega]
theorem aeJ{u l:Int}(hu':u<100)(hl':l<100):few (ql u l)=true:=by
 simp only[few,ql,aa4,decide_eq_true_eq];have:(u+1).toNat*(l+1).toNat<=100*100:=Nat.mul_le_mul (by omega) (by omega);omega
theorem adq{u e l b:Int}(hu':u<100){d:PyData}(h:d∈ql u l):qB [jl u e l b,d]=some (.int (jG e d)):=by
 obtain⟨i,j,hi,hj,rfl⟩:=adp h;exact JV u e l b i j (by omega)
theorem aeK(ns:List Int):okD (.list (ns.map PyData.int))=true:=by
 have h1:∀ns:List Int,PyData.canLayAll0 (ns.map PyData.int)=true:=fun ns=>by
  induction ns with
  |nil=>rfl
  |cons n ns ih=>simp[PyData.canLayAll0,PyData.canLay0,ih]
 have h2:∀ns:List Int,PyData.depthAll (ns.map PyData.int)=0:=fun ns=>by
  induction ns with
  |nil=>rfl
  |cons n ns ih=>simp[PyData.depthAll,PyData.depth,ih]
 simp[okD,PyData.canLay0,h1,PyData.depth,h2]
theorem aeL(ns:List Int)(d:Int):(ns.map PyData.int).any (fun z=>PyData.eqv z (.int d))=ns.any (fun z=>z==d):=by
 induction ns with
 |nil=>rfl
 |cons n ns ih=>simp only[List.map_cons,List.any_cons,ih];rfl
theorem QA{α:Type}(f:α->Bool):∀xs:List α,bls (xs.map fun d=>PyData.bool (f d))=some (xs.map f)
 | []=>rfl
 |x::xs=>by simp[bls,asB,QA f xs]
theorem ix0(u e l b:Int):dIx (jl u e l b) (.int 0)=some (.int u):=rfl
theorem ix1(u e l b:Int):dIx (jl u e l b) (.int 1)=some (.int e):=rfl
theorem ix2(u e l b:Int):dIx (jl u e l b) (.int 2)=some (.int l):=rfl
theorem ix3(u e l b:Int):dIx (jl u e l b) (.int 3)=some (.int b):=rfl
theorem QB{j:Int}(h:0<=j)(h':j<1000000):Qq [.int j]=some (zr 0 j.toNat):=by
 unfold Qq;exact if_pos (by omega)
theorem zI(a b:Int):PyData.eqv (.int a) (.int b)=(a==b):=by unfold PyData.eqv;rfl
theorem Q7{u e l b:Int}(hu:0<=u)(hu':u<100)(hl:0<=l)(hl':l<100)(hb:0<=b)(hb':b<100):JQ [jl u e l b]=some (.bool ((List.range b.toNat).all fun d=>((ql u l).map (jG e)).any fun z=>z==(d:Int))):=by
 have h1:=abc (e:=e) (b:=b) hu hu' hl hl';have h2:=aeJ hu' hl';have h4:few (zr 0 b.toNat)=true:=by simp[few,zr];omega
 simp only[JQ,jy,Z0,jL,jT,qq,qy,itL,jH,jp,jE,lkp,QO,List.length_cons,List.length_nil,zzM,List.map_cons,List.map_nil,List.cons_append,List.nil_append,zzA,zzC,zzD,zzE,h1,h2,Jt,qW];rw[Jb (fun d=> .int (jG e d))]
 ·simp only[jZ,qr,op2,cst,lkp,zzD,zzE,zzF,zzG,List.replicate,List.length_cons,List.length_nil,zzA,zzB,zzC,ix3,QB hb (show b<1000000 by omega),h4,zzM]
  rw[Jb (fun d=> .bool (((ql u l).map (jG e)).any fun z=>z==(aea d).getD 0))]
  ·have:(zr 0 b.toNat).map (fun d=>PyData.bool (((ql u l).map (jG e)).any fun z=>z==(aea d).getD 0))=(List.range b.toNat).map fun (d:Nat)=>PyData.bool (((ql u l).map (jG e)).any fun z=>z==(d:Int)):=by
    simp[zr,aea,Function.comp_def]
   simp only[zzE,zzD,this,ad8,QA (fun (d:Nat)=>((ql u l).map (jG e)).any fun z=>z==(d:Int)),List.all_map,Function.comp_def,id]
  ·intro d hd
   obtain⟨k,_,rfl⟩:=List.mem_map.mp hd;have h5:(ql u l).map (fun d=>PyData.int (jG e d))=((ql u l).map (jG e)).map PyData.int:=by simp
   have h6:=aeK ((ql u l).map (jG e));simp only[op2,lkp,zzG,zzA,zzB,zzC,zzD,dIn,zp,h5,h6,aeL];simp[aea]
 ·intro d hd
  simp[jH,jp,jE,lkp,adq (b:=b) (e:=e) hu' hd]
theorem aai{u e l b:Int}(hu:0<=u)(hu':u<=3)(he:1<=e)(he':e<=16)(hl:0<=l)(hl':l<=12)(hb:2<=b)(hb':b<=16):qT [jl u e l b]=JQ [jl u e l b]:=by
 have g:=Q7 (e:=e) hu (by omega) hl (by omega) (show 0<=b by omega) (by omega);have w1:jC [.int u,.int 0,.int 3]=some (.bool true):=by rw[jP];simp[hu,hu']
 have w2:jC [.int e,.int 1,.int 16]=some (.bool true):=by rw[jP];simp[he,he']
 have w3:jC [.int l,.int 0,.int 12]=some (.bool true):=by rw[jP];simp[hl,hl']
 have w4:jC [.int b,.int 2,.int 16]=some (.bool true):=by rw[jP];simp[hb,hb']
 have z:acr [jl u e l b,.tuple [.int 0,.int 1,.int 0,.int 2],.tuple [.int 3,.int 16,.int 12,.int 16]]=some [.tuple [.int u,.int 0,.int 3],.tuple [.int e,.int 1,.int 16],.tuple [.int l,.int 0,.int 12],.tuple [.int b,.int 2,.int 16]]:=rfl;rw[g];rw[show jl u e l b= .tuple [.int u,.int e,.int l,.int b] from rfl]at g z ⊢;simp[qT,jy,Qe,jL,jT,ifS,orB,ze,tst,qX,tyn,asB,lkp,op2,jH,jp,jE,qJ,cst,dNe,zp,zI,qr,QP,z,jD,ad1,Qs,ad0,jZ,w1,w2,w3,w4,qq,g]
theorem ZA{m:PyData}(h:qT [m]=some (.bool true)):Qf [m]=some .none:=by
 simp[Qf,jy,abS,jL,jT,ifS,ze,tst,asB,jH,jp,jE,lkp,h,qr]
theorem aaj:few []=true:=by simp[few]
theorem add_int(i j:Int):Ju (.int i) (.int j)=some (.int (i+j)):=rfl
theorem j4{i j:Int}(h:-1000000000000<i/\i<1000000000000):Jl (.int i) (.int j)=some (.int (i*j)):=by
 unfold Jl;exact if_pos (.inl ⟨by omega,by omega⟩)
theorem QC{i j:Int}(h:0<j):ac6 (.int i) (.int j)=some (.int (i % j)):=by unfold ac6;exact if_pos h
theorem abd{i j:Int}(h:0<j)(h':j<1000000000):aco (.int i) (.int j)=some (.int (i / j)):=by unfold aco;exact if_pos ⟨h,by omega⟩
theorem aeM(ns:List Int)(hn:ns.length<1000000)(k:Int)(hk:0<=k):∃c,aa7 [scr ns,.int k]=some (.int c):=by
 cases ns with
 | nil=>
  refine⟨7*k,?_⟩;simp[aa7,jy,acC,jL,jT,ifS,tst,op2,lkp,Jq,jE,few,dEq,scr,qz,asB,qq,cst,j4,qr]
 | cons n ns=>
  have hl:0<(((n::ns).map fun n=>(PyData.int n,PyData.none)).length:Int):=by simp
  have hl':(((n::ns).map fun n=>(PyData.int n,PyData.none)).length:Int)<1000000:=by simp at hn ⊢;omega
  have hsc:=Zr (n::ns)
  have e1:dEq (scr (n::ns)) (.list [])=some (.bool false):=by
   show(if qz ((n::ns).map fun n=>(PyData.int n,PyData.none))=true then some (PyData.bool ((n::ns).map fun n=>(PyData.int n,PyData.none)).isEmpty) else none)=_;rw[if_pos hsc];rfl
  have e2:qJ [scr (n::ns)]=some (.int (((n::ns).map fun n=>(PyData.int n,PyData.none)).length)):=by
   show(if qz ((n::ns).map fun n=>(PyData.int n,PyData.none))=true then some (PyData.int ((n::ns).map fun n=>(PyData.int n,PyData.none)).length) else none)=_;rw[if_pos hsc]
  generalize hL:(((n::ns).map fun n=>(PyData.int n,PyData.none)).length:Int)=L at*;have h0:0<=k % L:=Int.emod_nonneg _ (by omega);have h1:k % L<L:=Int.emod_lt_of_pos _ hl
  have e3:∃c,dIx (scr (n::ns)) (.int (k % L))=some (.int c):=by
   have hlen:((n::ns).map fun n=>(PyData.int n,PyData.none)).length<1000000:=by omega
   have hlt:(k % L).toNat<((n::ns).map fun n=>(PyData.int n,PyData.none)).length:=by omega
   have hx:ixN ((n::ns).map fun n=>(PyData.int n,PyData.none)).length (k % L)=some (k % L).toNat:=abY h0 hlt;refine⟨((n::ns)[(k % L).toNat]'(by simpa using hlt)),?_⟩;show(if ((n::ns).map fun n=>(PyData.int n,PyData.none)).length<1000000/\qz ((n::ns).map fun n=>(PyData.int n,PyData.none))=true then (atI ((n::ns).map fun n=>(PyData.int n,PyData.none)) (k % L)).map (·.1) else none)=_;rw[if_pos ⟨hlen,hsc⟩];unfold atI;rw[hx,zzD,List.getElem?_eq_getElem hlt,zzE,List.getElem_map]
  obtain⟨c,e3⟩:=e3;refine⟨c+6553*(k / L),?_⟩;simp[aa7,jy,acC,jL,jT,ifS,tst,op2,lkp,Jq,jE,few,asB,qq,cst,qr,jH,jp,e1,e2,e3,QC hl,abd hl (show L<1000000000 by omega),j4,add_int]
theorem qe(ns:List Int)(hn:ns.length<1000000)(k m:Int)(hk:0<=k)(hm:0<m):∃r,zH [scr ns,.int k,.int m]=some (.int r)/\0<=r/\r<m:=by
 obtain⟨c,hc⟩:=aeM ns hn k hk;generalize h1:(c % 2147483563*69069+104723*(k+1)) % 2147483563=a;generalize h2:(a*a+a / 3) % 2147483399=d;have ha:0<=a/\a<2147483563:=by rw[←h1];exact⟨Int.emod_nonneg _ (by omega),Int.emod_lt_of_pos _ (by omega)⟩
 have hd:0<=d/\d<2147483399:=by rw[←h2];exact⟨Int.emod_nonneg _ (by omega),Int.emod_lt_of_pos _ (by omega)⟩
 have hc':0<=c % 2147483563/\c % 2147483563<2147483563:=⟨Int.emod_nonneg _ (by omega),Int.emod_lt_of_pos _ (by omega)⟩;refine⟨(d*d+d / 7) % 2147483647 / 11 % m,?_,Int.emod_nonneg _ (by omega),Int.emod_lt_of_pos _ hm⟩;have m1:Jl (.int (c % 2147483563)) (.int 69069)=some (.int (c % 2147483563*69069)):=j4 (by omega);have m2:Jl (.int 104723) (.int (k+1))=some (.int (104723*(k+1))):=j4 (by omega);have m3:Jl (.int a) (.int a)=some (.int (a*a)):=j4 (by omega);have m4:Jl (.int d) (.int d)=some (.int (d*d)):=j4 (by omega);simp[zH,jy,abV,jL,jT,qW,jZ,op2,lkp,jE,qq,cst,qr,jH,jp,hc,m1,m2,m3,m4,QC,abd,add_int,h1,h2,hm]
theorem aeN(w:Int)(h0:0<=w)(h:w<12):∃u e l b,dIx (.list (Qi++Qj)) (.int w)=some (jl u e l b)/\okM u e l b=true:=by
 obtain⟨n,rfl⟩:=Int.eq_ofNat_of_zero_le h0;have hn:n<12:=by omega
 have:∀n<12,∃u e l b,dIx (.list (Qi++Qj)) (.int (n:Nat))=some (jl u e l b)/\okM u e l b=true:=by
  intro n hn
  match n,hn with
  |0,_=>exact⟨_,_,_,_,rfl,by decide⟩
  |1,_=>exact⟨_,_,_,_,rfl,by decide⟩
  |2,_=>exact⟨_,_,_,_,rfl,by decide⟩
  |3,_=>exact⟨_,_,_,_,rfl,by decide⟩
  |4,_=>exact⟨_,_,_,_,rfl,by decide⟩
  |5,_=>exact⟨_,_,_,_,rfl,by decide⟩
  |6,_=>exact⟨_,_,_,_,rfl,by decide⟩
  |7,_=>exact⟨_,_,_,_,rfl,by decide⟩
  |8,_=>exact⟨_,_,_,_,rfl,by decide⟩
  |9,_=>exact⟨_,_,_,_,rfl,by decide⟩
  |10,_=>exact⟨_,_,_,_,rfl,by decide⟩
  |11,_=>exact⟨_,_,_,_,rfl,by decide⟩
  |k+12,h=>omega
 exact this n hn
theorem abZ(ns:List Int)(hn:ns.length<1000000)(k:Int)(hk:0<=k):∃u e l b,Jh [scr ns,.int k]=some (jl u e l b)/\okM u e l b=true:=by
 obtain⟨w,hw,hw0,hw1⟩:=qe ns hn k 24 hk (by omega);have a1:Ju (.list Qi) (.list Qj)=some (.list (Qi++Qj)):=rfl;have a2:qJ [.list (Qi++Qj)]=some (.int 12):=rfl;have a3:Jl (.int 2) (.int 12)=some (.int 24):=rfl;by_cases hlt:w<12
 ·obtain⟨u,e,l,b,h1,h2⟩:=aeN w hw0 hlt
  refine⟨u,e,l,b,?_,h2⟩;simp[Jh,jy,Qx,jL,jT,qW,jZ,op2,lkp,jE,qq,cst,qr,jH,jp,ifS,tst,asB,a1,a2,a3,hw,zN,hlt,h1]
 ·obtain⟨r1,e1,p1,q1⟩:=qe ns hn (k+1) 5 (by omega) (by omega)
  obtain⟨r2,e2,p2,q2⟩:=qe ns hn (k+2) 4 (by omega) (by omega);obtain⟨r3,e3,p3,q3⟩:=qe ns hn (k+3) 4 (by omega) (by omega);generalize hlo:(if (1:Int)>1+r1-1 then 1 else 1+r1-1)+r3=lo
  have hlo1:1<=lo/\r1<=lo/\lo<=10:=by
   rw[←hlo];split<;>omega
  have hue:0<=r2*(1+r1)/\r2*(1+r1)<=3*5:=⟨Int.mul_nonneg p2 (by omega),Int.mul_le_mul (by omega) (by omega) (by omega) (by omega)⟩;generalize hmn:(if r2*(1+r1)+lo<15 then r2*(1+r1)+lo else 15)=mn
  have hmn1:0<mn/\mn<=15/\mn<=r2*(1+r1)+lo:=by
   rw[←hmn];split<;>omega
  obtain⟨r4,e4,p4,q4⟩:=qe ns hn (k+4) mn (by omega) (by omega);refine⟨r2,1+r1,lo,2+r4,?_,?_⟩
  ·have m1:Jl (.int r2) (.int (1+r1))=some (.int (r2*(1+r1))):=j4 (by omega)
   have x1:ad6 [.int (1+r1-1),.int 1]=some (.int (if (1:Int)>1+r1-1 then 1 else 1+r1-1)):=rfl;have x2:ad7 [.int 15,.int (r2*(1+r1)+lo)]=some (.int (if r2*(1+r1)+lo<15 then r2*(1+r1)+lo else 15)):=rfl;have x3:ZR (.int (1+r1)) (.int 1)=some (.int (1+r1-1)):=rfl;simp only[Jh,jy,Qx,jL,jT,qW,jZ,op2,lkp,jE,qq,cst,qr,jH,jp,ifS,tst,asB,a1,a2,a3,hw,zN,hlt,zzD,zzE,zzF,zzG,List.replicate,List.length_cons,List.length_nil,zzM,List.map_cons,List.map_nil,List.cons_append,List.nil_append,zzA,zzB,zzC,add_int,e1,e2,e3,m1,x1,x2,x3,decide_false,hlo,hmn,e4];simp[e1,e2,e3,m1,x1,x2,x3,hlo,hmn,e4,add_int,lkp,J4,jp,jE,few,jl];simp only[J4,jp,jE,lkp,op2,jH,cst,zzD,zzE,zzA,zzB,zzC,add_int,m1,x2,hmn,e4];simp
  ·have:=hue.1
   simp[okM];omega
noncomputable def isInt(t:Int):PyData->Bool
 |.int x=>x==t
 |_=>false
noncomputable def ahK(u e l:Int):Bool:=
 isInt (u*e+l) (ahA none ((ql u l).map (jG e))) &&
 ((List.range (u*e+l+1).toNat).all fun n=>(ql u l).any fun r=>jG e r==(n:Int)) &&
 ((ql u l).all fun r=>decide (0<=jG e r)&&decide (jG e r<=u*e+l)) &&
 decide (aiV u e l=(List.range (u*e+l+1).toNat).map fun (n:Nat)=>cnt u e l n)
noncomputable def zc:Bool:=(List.range 4).all fun (i:Nat)=>(List.range 5).all fun (j:Nat)=>(List.range 11).all fun (k:Nat)=>decide (k+1<j)||ahK i (j+1) (k+1)
structure Chk(u e l:Int):Prop where
 most:ahA none ((ql u l).map (jG e))= .int (u*e+l)
 dig:∀n:Nat,n<(u*e+l+1).toNat->((ql u l).any fun r=>jG e r==(n:Int))=true
 rng:∀r∈ql u l,0<=jG e r/\jG e r<=u*e+l
 lst:aiV u e l=(List.range (u*e+l+1).toNat).map fun (n:Nat)=>cnt u e l n
theorem ahL{u e l:Int}(h:ahK u e l=true):Chk u e l:=by
 simp only[ahK,Bool.and_eq_true,List.all_eq_true,decide_eq_true_eq]at h;obtain⟨⟨⟨h1,h2⟩,h3⟩,h4⟩:=h;refine⟨?_,fun n hn=>h2 n (List.mem_range.mpr hn),fun r hr=>h3 r hr,h4⟩;generalize ahA none ((ql u l).map (jG e))=x at h1;cases x<;>simp[isInt]at h1
 rw[h1]
theorem qh{u e l b:Int}(h:okN u e l b=true):0<=u/\u<=3/\1<=e/\e<=5/\e-1<=l/\1<=l/\l<=11/\2<=b/\b<=16/\b<=u*e+l+1:=by
 simp only[okN,Bool.and_eq_true,decide_eq_true_eq]at h;omega
theorem ahM{u e l b:Int}(H:zc=true)(h:okN u e l b=true):Chk u e l:=by
 obtain⟨a1,a2,a3,a4,a5,a6,a7,_⟩:=qh h;simp only[zc,List.all_eq_true,Bool.or_eq_true,decide_eq_true_eq]at H;have:=H u.toNat (List.mem_range.mpr (by omega)) (e-1).toNat (List.mem_range.mpr (by omega)) (l-1).toNat (List.mem_range.mpr (by omega));rcases this with z | z
 ·exfalso;omega
 ·rw[show((u.toNat:Nat):Int)=u by omega,show(((e-1).toNat:Nat):Int)+1=e by omega,show(((l-1).toNat:Nat):Int)+1=l by omega]at z
  exact ahL z
theorem agq{u e l b:Int}(h:okM u e l b=true):okN u e l b=true:=by
 simp only[okM,okN,Bool.and_eq_true,decide_eq_true_eq]at h ⊢;omega
theorem ahN{u e l b:Int}(H:zc=true)(h:okN u e l b=true){n:Int}(h0:0<=n)(hn:n<b):((ql u l).any fun r=>jG e r==n)=true:=by
 obtain⟨a1,a2,a3,a4,a5,a6,a7,a8,a9,a10⟩:=qh h;have:=(ahM H h).dig n.toNat (by omega);rw[show((n.toNat:Nat):Int)=n by omega]at this;exact this
end Rods
theorem Rods.allN_true:Rods.zc=true:=by decide +kernel
namespace Rods
open PySem L2 BX
open PyProof.Rows hiding St
theorem ju{F G:RO}{ρ ρ1:Rho}(h:F ρ=some (.nx ρ1)):jT F G ρ=G ρ1:=by
 unfold jT;rw[h];rfl
theorem qi{N:List Str}{n:Nat}{B:RO}{ds:LP}{d:PyData}(hl:ds.length=n)(h:B (jL N ds)=some (.rt d)):jy N n B ds=some d:=by
 unfold jy;rw[if_pos hl,h]
theorem zd{b:Int}(hb:0<b):∀r:Nat,0<b ^ r
 |0=>by simp
 |r+1=>by rw[Int.pow_succ];exact Int.mul_pos (zd hb r) hb
theorem agU{b:Int}(h0:0<b)(h:b<=16):∀r:Nat,b ^ r<=16 ^ r
 |0=>by simp
 | r+1=>by
  rw[Int.pow_succ,Int.pow_succ];exact Int.mul_le_mul (agU h0 h r) h (by omega) (Int.le_of_lt (zd (by decide) r))
theorem ahO{b:Int}(h0:0<b)(h:b<=16){r:Nat}(hr:r<=4):b ^ r<=65536:=by
 have:r=0∨r=1∨r=2∨r=3∨r=4:=by omega
 have:=agU h0 h r;rcases ‹r=0∨_› with e | e | e | e | e<;>subst e<;>first | (exact Int.le_trans this (by decide))
section
variable {u e l b:Int}
theorem Jj{u l:Int}{p:Int×Int}(h:okP u l p=true):0<=p.1/\p.1<=u/\0<=p.2/\p.2<=l:=by
 simp only[okP,Bool.and_eq_true,decide_eq_true_eq]at h;exact⟨h.1.1.1,h.1.1.2,h.1.2,h.2⟩
theorem aeO{e u l:Int}(he:1<=e){p:Int×Int}(h:okP u l p=true):0<=wt e p:=by
 obtain⟨h1,h2,h3,h4⟩:=Jj h;have:=Int.mul_nonneg h1 (show 0<=e by omega);unfold wt;omega
theorem aeP{e u l:Int}(he:1<=e)(he5:e<=5)(hu:u<=3)(hl:l<=11){p:Int×Int}(h:okP u l p=true):wt e p<=26:=by
 obtain⟨h1,h2,h3,h4⟩:=Jj h;have:p.1*e<=3*5:=Int.mul_le_mul (by omega) he5 (by omega) (by omega);unfold wt;omega
theorem acF{b e u l:Int}(h2:2<=b)(hb:b<=16)(he:1<=e)(he5:e<=5)(hu:u<=3)(hl:l<=11):∀(ps:List (Int×Int)) (acc:Int),ps.all (okP u l)=true->0<=acc->0<=ps.foldl (fun n p=>n*b+wt e p) acc/\ps.foldl (fun n p=>n*b+wt e p) acc+30<=(acc+30)*16 ^ ps.length
 | [],acc,_,h=>⟨h,by simp⟩
 | p::ps,acc,hp,h=>by
  rw[List.all_cons,Bool.and_eq_true]at hp;have w0:=aeO he hp.1;have w1:=aeP he he5 hu hl hp.1;have ha:0<=acc*b:=Int.mul_nonneg h (by omega);have hb2:acc*b<=acc*16:=Int.mul_le_mul_of_nonneg_left hb h;obtain⟨h1,h3⟩:=acF h2 hb he he5 hu hl ps (acc*b+wt e p) hp.2 (by omega);refine⟨h1,Int.le_trans h3 ?_⟩;rw[List.length_cons,Int.pow_succ,Int.mul_comm (16 ^ ps.length) 16,←Int.mul_assoc];refine Int.mul_le_mul_of_nonneg_right ?_ (Int.le_of_lt (zd (by decide) _));omega
theorem ahP(h:okN u e l b=true){ps:List (Int×Int)}(hp:ps.all (okP u l)=true):0<=val b e ps:=by
 obtain⟨a1,a2,a3,a4,a5,a6,a7,a8,a9,a10⟩:=qh h;exact(acF a8 a9 a3 a4 a2 a7 ps 0 hp (by omega)).1
end
theorem zJ{ds:LP}(h:ds.length<10000):few ds=true:=by
 rw[few];refine decide_eq_true ?_;omega
theorem aiW{u e l b:Int}(H:zc=true)(h:okN u e l b=true):qT [jl u e l b]=some (.bool true):=by
 obtain⟨a1,a2,a3,a4,a5,a6,a7,a8,a9,a10⟩:=qh h;rw[aai a1 a2 a3 (by omega) (by omega) (by omega) a8 a9,Q7 a1 (by omega) (by omega) (by omega) (by omega) (by omega)]
 congr 2
 refine List.all_eq_true.mpr fun d hd=>?_;have:=ahN H h (n:=(d:Int)) (by omega) (by have:=List.mem_range.mp hd;omega);simpa[List.any_map,Function.comp_def]using this
theorem jU{u l:Int}{ps:List (Int×Int)}(h:okS u l ps=true):1<=ps.length/\ps.length<=4/\ps.all (okP u l)=true:=by
 simp only[okS,Bool.and_eq_true,decide_eq_true_eq]at h;exact⟨h.1.1,h.1.2,h.2⟩
theorem aeQ{u l:Int}{ps:List (Int×Int)}(h1:1<=ps.length)(h2:ps.length<=4)(h3:ps.all (okP u l)=true):okS u l ps=true:=by
 simp only[okS,Bool.and_eq_true,decide_eq_true_eq];exact⟨⟨h1,h2⟩,h3⟩
section
variable {u e l b:Int}{ps qs:List (Int×Int)}
theorem abe(h:okN u e l b=true){S:PyData}:∀(qs:List (Int×Int)) (acc:Int) (x:OP),qs.all (okP u l)=true->0<=acc->(acc+30)*16 ^ qs.length<=1000000000->
  ∃y,jD (jZ 3) Z3.1 (qs.map pr) [some (jl u e l b),some S,some (.int acc),x]=some (.nx [some (jl u e l b),some S,some (.int (qs.foldl (fun n p=>n*b+wt e p) acc)),y])
 | [],acc,x,_,_,_=>⟨x,rfl⟩
 | q::qs,acc,x,hq,h0,hB=>by
  obtain⟨a1,a2,a3,a4,a5,a6,a7,a8,a9,a10⟩:=qh h;rw[List.all_cons,Bool.and_eq_true]at hq;obtain⟨q1,q2,q3,q4⟩:=Jj hq.1;have w0:=aeO a3 hq.1;have w1:=aeP a3 a4 a2 a7 hq.1;have hp:=zd (b:=16) (by decide) qs.length;rw[List.length_cons,Int.pow_succ,Int.mul_comm (16 ^ qs.length) 16,←Int.mul_assoc]at hB;have ha:0<=acc*b:=Int.mul_nonneg h0 (by omega);have hb2:acc*b<=acc*16:=Int.mul_le_mul_of_nonneg_left a9 h0;have hB':(acc*b+wt e q+30)*16 ^ qs.length<=1000000000:=Int.le_trans (Int.mul_le_mul_of_nonneg_right (by omega) (Int.le_of_lt hp)) hB
  have hacc:acc<=1000000000:=by
   have h1:(acc+30)*16*1<=(acc+30)*16*16 ^ qs.length:=Int.mul_le_mul_of_nonneg_left (by omega) (by omega);omega
  have m1:Jl (.int acc) (.int b)=some (.int (acc*b)):=j4 ⟨by omega,by omega⟩;have w':qB [jl u e l b,pr q]=some (.int (wt e q)):=JV u e l b q.1 q.2 (by omega)
  have step:Z3.1 [some (jl u e l b),some S,some (.int acc),some (pr q)]=some (.nx [some (jl u e l b),some S,some (.int (acc*b+wt e q)),some (pr q)]):=by
   simp only[Z3,jT,qW,op2,jH,jp,jE,lkp,cst,jZ,zzA,zzB,zzC,zzD,zzE,ix3,m1,w',add_int,zzF,zzG,qr]
  obtain⟨y,hy⟩:=abe h (S:=S) qs (acc*b+wt e q) (some (pr q)) hq.2 (by omega) hB';refine⟨y,?_⟩;rw[List.map_cons];simp only[jD,jZ,zzD,zzF,zzG,step];exact hy
theorem aak(h:okN u e l b=true)(h4:ps.length<=4)(hp:ps.all (okP u l)=true):abT [jl u e l b,jn ps]=some (.int (val b e ps)):=by
 have hB:(0+30:Int)*16 ^ ps.length<=1000000000:=by
  have:=ahO (b:=16) (by decide) (by decide) h4;omega
 obtain⟨y,hy⟩:=abe h (S:=jn ps) ps 0 none hp (by omega) hB;refine qi rfl ?_;show agg.1 [some (jl u e l b),some (jn ps),none,none]=_;simp only[agg];refine(ju (ρ1:=[some (jl u e l b),some (jn ps),some (.int 0),none]) ?_).trans ?_
 ·simp only[qW,cst,jZ,zzD,zzE,zzF,zzG]
 refine(ju (ρ1:=[some (jl u e l b),some (jn ps),some (.int (val b e ps)),y]) ?_).trans ?_
 ·show(itT (lkp 1) _).bind _=_
  rw[show itT (lkp 1) [some (jl u e l b),some (jn ps),some (.int 0),none]=some (ps.map pr) from rfl];exact hy
 rfl
theorem ads{p:Int×Int}(hp:okP u l p=true):zu [jl u e l b,pr p]=some (.bool true):=by
 obtain⟨q1,q2,q3,q4⟩:=Jj hp;have w1:jC [.int p.1,.int 0,.int u]=some (.bool true):=by rw[jP];simp[q1,q2]
 have w2:jC [.int p.2,.int 0,.int l]=some (.bool true):=by rw[jP];simp[q3,q4]
 simp[zu,jy,Qg,jL,jT,ifS,orB,ze,tst,qX,tyn,asB,lkp,op2,jH,jp,jE,qJ,cst,dNe,zp,zI,qr,qq,QV,pr,jl,dIx,atI,ixN,w1,w2]
theorem adt(H:zc=true)(h:okN u e l b=true)(hs:okS u l ps=true):Z6 [jl u e l b,jn ps]=some (.bool true):=by
 obtain⟨h1,h4,hp⟩:=jU hs;have g0:=ZA (aiW H h);have hf:few (ps.map pr)=true:=zJ (by rw[List.length_map];omega)
 have c1:zN (fun i j=>decide (i<=j)) (.int 1) (.int ((ps.map pr).length:Int))=some (.bool true):=by
  show some (PyData.bool (decide ((1:Int)<=((ps.map pr).length:Int))))=_;rw[decide_eq_true (by rw[List.length_map];omega)]
 have c2:zN (fun i j=>decide (i<=j)) (.int ((ps.map pr).length:Int)) (.int 4)=some (.bool true):=by
  show some (PyData.bool (decide (((ps.map pr).length:Int)<=4)))=_;rw[decide_eq_true (by rw[List.length_map];omega)]
 refine qi rfl ?_;show Qh.1 [some (jl u e l b),some (jn ps)]=_;simp only[Qh];refine(ju (ρ1:=[some (jl u e l b),some (jn ps)]) ?_).trans ?_
 ·simp only[ZO,jH,jp,jE,lkp,zzA,zzB,zzC,zzD,zzE,g0]
 refine(ju (ρ1:=[some (jl u e l b),some (jn ps)]) ?_).trans ?_
 ·simp[ifS,orB,ze,tst,qX,tyn,asB,lkp,jn,chn,jH,jp,jE,qJ,cst,qr]
  simp[List.length_map]at c1 c2;simp[c1,c2];rfl
 simp only[jT,qq,jH,jp,jE,qy,itT,lkp,jn,J5,zzA,zzB,zzC,zzD,zzE,hf,zzM,Jt,List.map_cons,List.map_nil,zzH];rw[Jb (fun _=> .bool true)]
 ·have:bls ((ps.map pr).map fun _=>PyData.bool true)=some ((ps.map pr).map fun _=>true):=QA (fun _=>true) _
  simp only[zzE,zzD,ad8,this];simp
 ·intro d hd
  obtain⟨p,hp',rfl⟩:=List.mem_map.mp hd;simp[jH,jp,jE,lkp,ads (e:=e) (b:=b) (List.all_eq_true.mp hp p hp')]
theorem aeR(H:zc=true)(h:okN u e l b=true)(hs:okS u l ps=true):jY [jl u e l b,jn ps]=some .none:=by
 have g:=adt H h hs;simp[jY,jy,Qv,jL,jT,ifS,ze,tst,asB,jH,jp,jE,lkp,g,qr]
theorem Jk(H:zc=true)(h:okN u e l b=true)(hs:okS u l ps=true):qZ [jl u e l b,jn ps]=some (.int (val b e ps)):=by
 obtain⟨h1,h4,hp⟩:=jU hs;have g:=aeR H h hs;have g2:=aak h h4 hp;simp[qZ,jy,abU,jL,jT,ZO,qq,jH,jp,jE,lkp,g,g2,qr]
end
theorem aeS{n:Int}(h0:0<=n)(h1:n<=99999):JR [.int n]=some .none:=by
 have w:jC [.int n,.int 0,.int 99999]=some (.bool true):=by rw[jP];simp[h0,h1]
 simp[JR,jy,Z4,jL,jT,ifS,ze,tst,asB,jH,jp,jE,lkp,cst,w,qr]
section
variable {u e l b:Int}{ps qs:List (Int×Int)}
theorem QD(i j:Int):dEq (.int i) (.int j)=some (.bool (decide (i=j))):=by
 have:(i==j)=decide (i=j):=rfl;simp only[dEq,zp,zI,and_self,zzM,this]
theorem abf(ps:List (Int×Int)):qJ [jn ps]=some (.int (ps.length:Int)):=by
 show some (PyData.int ((ps.map pr).length:Int))=_;rw[List.length_map]
theorem ahQ(p q:Int×Int):PyData.eqv (pr p) (pr q)=decide (p=q):=by
 obtain⟨a,b⟩:=p;obtain⟨c,d⟩:=q;simp only[pr,PyData.eqv,PyData.eqvAll,Prod.mk.injEq,Bool.and_true,Bool.decide_and];rfl
theorem ZB:∀(ps qs:List (Int×Int)),PyData.eqvAll (ps.map pr) (qs.map pr)=decide (ps=qs)
 | [],[]=>by simp[PyData.eqvAll]
 | [],q::qs=>by simp[PyData.eqvAll]
 |p::ps,[]=>by simp[PyData.eqvAll]
 |p::ps,q::qs=>by simp[PyData.eqvAll,ahQ,ZB ps qs]
theorem aeT(ps qs:List (Int×Int)):PyData.eqv (jn ps) (jn qs)=decide (ps=qs):=by
 unfold jn PyData.eqv;exact ZB ps qs
theorem abg(ps:List (Int×Int)):okD (jn ps)=true:=by
 have h1:∀ps:List (Int×Int),PyData.canLayAll0 (ps.map pr)=true:=fun ps=>by
  induction ps with
  |nil=>rfl
  |cons p ps ih=>simp[PyData.canLayAll0,PyData.canLay0,pr,ih]
 have h2:∀ps:List (Int×Int),PyData.depthAll (ps.map pr)<=1:=fun ps=>by
  induction ps with
  |nil=>simp[PyData.depthAll]
  |cons p ps ih=>simp[PyData.depthAll,PyData.depth,pr]at ih ⊢;omega
 have:=h2 ps;simp[okD,jn,PyData.canLay0,h1,PyData.depth];omega
theorem agr(ps qs:List (Int×Int)):dEq (jn ps) (jn qs)=some (.bool (decide (ps=qs))):=by
 show(if okD _=true/\okD _=true then some (PyData.bool _) else none)=_;rw[if_pos ⟨abg ps,abg qs⟩,aeT]
end
end Rods
namespace BX
open PySem PySem.Spec L2
open PyProof.Rows hiding St
theorem Q8{ga:PyData->Rho->Option Rho}{F:RO}(Iv:Nat->Rho->Prop):∀(ds:LP) (i:Nat) (ρ:Rho),Iv i ρ->
  (∀j d ρ,ds[j]?=some d->Iv (i+j) ρ->∃ρ1 ρ2,ga d ρ=some ρ1/\F ρ1=some (.nx ρ2)/\Iv (i+j+1) ρ2)->∃ρ',jD ga F ds ρ=some (.nx ρ')/\Iv (i+ds.length) ρ'
 | [],i,ρ,h,_=>⟨ρ,rfl,h⟩
 | d::ds,i,ρ,h,hs=>by
  obtain⟨ρ1,ρ2,h1,h2,h3⟩:=hs 0 d ρ rfl h
  obtain⟨ρ',h4,h5⟩:=Q8 Iv ds (i+1) ρ2 h3 fun j d ρ hd hi=>by
   have:=hs (j+1) d ρ (by simpa using hd) (by rw[show i+(j+1)=i+1+j by omega];exact hi);rw[show i+1+j+1=i+(j+1)+1 by omega];exact this
  refine⟨ρ',?_,by rw[List.length_cons,show i+(ds.length+1)=i+1+ds.length by omega];exact h5⟩;simp[jD,h1,h2,h4]
theorem abh{n j:Nat}{d:PyData}(h:(zr 0 n)[j]?=some d):j<n/\d= .int j:=by
 simp only[zr,List.getElem?_map]at h;cases hj:(List.range n)[j]? with
 |none=>rw[hj]at h;cases h
 | some k=>
  rw[hj]at h;obtain⟨h1,h2⟩:=List.getElem?_eq_some_iff.mp hj;simp at h1 h2;subst h2;simp at h;exact⟨h1,h.symm⟩
theorem JW(n:Nat):(zr 0 n).length=n:=by simp[zr]
end BX
namespace Rods
open PySem L2 BX
open PyProof.Rows hiding St
section
variable {u e l b:Int}
theorem JX(b e:Int)(p:Int×Int)(t:List (Int×Int)):val b e (p::t)=wt e p*b ^ t.length+val b e t:=by
 have key:∀(t:List (Int×Int)) (acc:Int),t.foldl (fun n p=>n*b+wt e p) acc=acc*b ^ t.length+val b e t:=by
  intro t
  induction t with
  |nil=>intro acc;simp[val]
  | cons q t ih=>
   intro acc;rw[List.foldl_cons,ih];show _=acc*b ^ (q::t).length+(q::t).foldl (fun n p=>n*b+wt e p) 0;rw[List.foldl_cons,ih,List.length_cons,Int.pow_succ,Int.mul_comm (b ^ t.length) b,←Int.mul_assoc,Int.add_mul,Int.zero_mul,Int.zero_add,Int.add_assoc]
 show(p::t).foldl (fun n p=>n*b+wt e p) 0=_;rw[List.foldl_cons,key];simp
theorem ahR{n:Nat}(hn:n<=1000):Qq [.int (n:Int)]=some (zr 0 n):=by
 have:=QB (j:=(n:Int)) (by omega) (by omega);rw[show((n:Int)).toNat=n by omega]at this;exact this
end
section
variable {u e l b:Int}{ps qs:List (Int×Int)}
theorem aal{xs ys:LP}(hx:xs≠[]∨True)(hl:xs.length+ys.length<10000):Ju (.tuple xs) (.tuple ys)=some (.tuple (xs++ys)):=by
 cases xs with
 |nil=>rfl
 | cons x xs=>
  have hf:few ((x::xs)++ys)=true:=zJ (by rw[List.length_append];exact hl);show(if few ((x::xs)++ys)=true then some (PyData.tuple ((x::xs)++ys)) else none)=_;rw[if_pos hf]
theorem ahS{ns:List Int}(hn:ns.length<1000000)(h:okN u e l b=true){at_:Int}(ha:0<=at_){j:Nat}(hj:j<4){x3 x4 x7:OP}(hq:qs.length<=4):
  ∃p,okP u l p=true/\aaa.1 [some (scr ns),some (.int at_),some (jl u e l b),x3,x4,some (jn qs),some (.int (j:Int)),x7]=some (.nx [some (scr ns),some (.int at_),some (jl u e l b),x3,x4,some (jn (qs++[p])),some (.int (j:Int)),some (pr p)]):=by
 obtain⟨a1,a2,a3,a4,a5,a6,a7,a8,a9,a10⟩:=qh h;obtain⟨x,d1,x0,x1⟩:=qe ns hn (at_+1+2*(j:Int)) (u+1) (by omega) (by omega);obtain⟨y,d2,y0,y1⟩:=qe ns hn (at_+2+2*(j:Int)) (l+1) (by omega) (by omega);have m1:Jl (.int 2) (.int (j:Int))=some (.int (2*(j:Int))):=j4 ⟨by omega,by omega⟩;have f2:few [PyData.int x,.int y]=true:=zJ (by simp);have f1:few [PyData.tuple [.int x,.int y]]=true:=zJ (by simp)
 have ad:Ju (jn qs) (.tuple [.tuple [.int x,.int y]])=some (jn (qs++[(x,y)])):=by
  have:=aal (xs:=qs.map pr) (ys:=[pr (x,y)]) (.inr trivial) (by simp;omega);rw[show jn (qs++[(x,y)])= .tuple (qs.map pr++[pr (x,y)]) by simp[jn]];exact this
 generalize scr ns=S at*;refine⟨(x,y),?_,?_⟩
 ·simp only[okP,Bool.and_eq_true,decide_eq_true_eq]
  exact⟨⟨⟨x0,by omega⟩,y0⟩,by omega⟩
 ·simp only[aaa]
  refine(ju (ρ1:=[some S,some (.int at_),some (jl u e l b),x3,x4,some (jn qs),some (.int (j:Int)),some (.tuple [.int x,.int y])]) ?_).trans ?_
  ·simp only[qW,J4,jH,jp,jE,op2,lkp,cst,jZ,zzA,zzB,zzC,zzD,zzE,ix0,ix2,m1,add_int,d1,d2,f2,zzM,zzF,zzG]
  simp only[jT,qW,J4,jp,jE,op2,lkp,jZ,zzA,zzB,zzC,zzD,zzE,f1,zzM,ad,zzF,zzG,qr];rfl
theorem aeU{ns:List Int}(hn:ns.length<1000000)(h:okN u e l b=true){at_:Int}(ha:0<=at_){mo:Int}(hm1:1<=mo)(hm4:mo<=4):∃ps,agk [scr ns,.int at_,jl u e l b,.int mo]=some (jn ps)/\okS u l ps=true/\(ps.length:Int)<=mo:=by
 obtain⟨r,d0,r0,r1⟩:=qe ns hn at_ mo ha (by omega);have hr:Qq [.int (1+r)]=some (zr 0 (1+r).toNat):=QB (by omega) (by omega)
 obtain⟨ρ',hl,hI⟩:=Q8 (ga:=jZ 6) (F:=aaa.1) (fun i ρ=>∃qs x6 x7,ρ=[some (scr ns),some (.int at_),some (jl u e l b),some (.int mo),some (.int (1+r)),some (jn qs),x6,x7]/\qs.length=i/\qs.all (okP u l)=true) (zr 0 (1+r).toNat) 0
  [some (scr ns),some (.int at_),some (jl u e l b),some (.int mo),some (.int (1+r)),some (jn []),none,none] ⟨[],none,none,rfl,rfl,rfl⟩ (fun j d ρ hd hi=>by
   obtain ⟨hj,rfl⟩:=abh hd;obtain ⟨qs,x6,x7,rfl,hlen,hall⟩:=hi;obtain ⟨p,hp,hb⟩:=ahS hn h ha (j:=j) (by omega) (x3:=some (.int mo)) (x4:=some (.int (1+r))) (x7:=x7) (qs:=qs) (by omega);exact ⟨_,_,rfl,hb,qs++[p],_,_,rfl,by rw [List.length_append,hlen]; rfl,by rw [List.all_append,hall,List.all_cons,hp]; rfl⟩)
 obtain⟨qs,x6,x7,rfl,hlen,hall⟩:=hI;rw[JW,Nat.zero_add]at hlen;refine⟨qs,qi rfl ?_,aeQ (by omega) (by omega) hall,by omega⟩;generalize scr ns=S at*;show agj.1 [some S,some (.int at_),some (jl u e l b),some (.int mo),none,none,none,none]=_;simp only[agj];refine(ju (ρ1:=[some S,some (.int at_),some (jl u e l b),some (.int mo),some (.int (1+r)),none,none,none]) ?_).trans ?_
 ·simp only[qW,jH,jp,jE,op2,lkp,cst,jZ,zzA,zzB,zzC,zzD,zzE,d0,add_int,zzF,zzG]
 refine(ju (ρ1:=[some S,some (.int at_),some (jl u e l b),some (.int mo),some (.int (1+r)),some (jn []),none,none]) rfl).trans ?_;refine(ju (ρ1:=[some S,some (.int at_),some (jl u e l b),some (.int mo),some (.int (1+r)),some (jn qs),x6,x7]) ?_).trans ?_
 ·show(Option.bind (Option.bind _ Qq) _)=_
  simp only[jp,jE,lkp,zzA,zzB,zzC,zzD,zzE,hr];exact hl
 rfl
theorem aeV(i j:Int):dNe (.int i) (.int j)=some (.bool (!decide (i=j))):=by
 have:(i==j)=decide (i=j):=rfl;simp only[dNe,zp,zI,and_self,zzM,this]
theorem ahT(h:okN u e l b=true)(hp:ps.all (okP u l)=true):val b e ps+2<=2*16 ^ ps.length:=by
 obtain⟨a1,a2,a3,a4,a5,a6,a7,a8,a9,a10⟩:=qh h
 have key:∀(ps:List (Int×Int)) (acc:Int),ps.all (okP u l)=true->0<=acc->ps.foldl (fun n p=>n*b+wt e p) acc+2<=(acc+2)*16 ^ ps.length:=by
  intro ps
  induction ps with
  |nil=>intro acc _ h;simp
  | cons p ps ih=>
   intro acc hp h0;rw[List.all_cons,Bool.and_eq_true]at hp;have w0:=aeO a3 hp.1;have w1:=aeP a3 a4 a2 a7 hp.1;have ha:0<=acc*b:=Int.mul_nonneg h0 (by omega);have hb2:acc*b<=acc*16:=Int.mul_le_mul_of_nonneg_left a9 h0;refine Int.le_trans (ih (acc*b+wt e p) hp.2 (by omega)) ?_;rw[List.length_cons,Int.pow_succ,Int.mul_comm (16 ^ ps.length) 16,←Int.mul_assoc];exact Int.mul_le_mul_of_nonneg_right (by omega) (Int.le_of_lt (zd (by decide) _))
 have:=key ps 0 hp (by omega);simpa[val]using this
end
theorem aiX(ds:LP)(k:Nat):ZV ds none (some (k:Int))=ds.take k:=by
 unfold ZV;rw[HT.sIx_none,HT.sIx_nat,List.drop_zero,Nat.sub_zero];by_cases h:k<=ds.length
 ·rw[Nat.min_eq_left h]
 ·rw[Nat.min_eq_right (by omega),List.take_of_length_le (by omega),List.take_of_length_le (by omega)]
theorem ags(ds:LP)(k:Nat):ZV ds (some (k:Int)) none=ds.drop k:=by
 unfold ZV;rw[HT.sIx_none,HT.sIx_nat];by_cases h:k<=ds.length
 ·rw[Nat.min_eq_left h,List.take_of_length_le (by rw[List.length_drop];omega)]
 ·rw[Nat.min_eq_right (by omega),List.drop_of_length_le (by omega),List.drop_of_length_le (by omega),List.take_nil]
section
variable {u e l b:Int}{ps qs:List (Int×Int)}
end
noncomputable def whB(a b:Int):PyData->Bool
 |.int i=>decide (a<=i)&&decide (i<=b)
 |_=>false
theorem Qn(d:PyData)(hd:noD d=true)(a b:Int):jC [d,.int a,.int b]=some (.bool (whB a b d)):=by
 cases d with
 |int i=>exact jP i a b
 |dict k=>simp[noD]at hd
 |_=>simp[jC,jy,JP,jL,jT,ifS,orB,tst,lkp,qX,tyn,asB,ze,chn,zN,qq,qr,whB,cst]
noncomputable def Zf(u l:Int):PyData->Bool
 |.tuple [x,y]=>whB 0 u x&&whB 0 l y
 |_=>false
theorem aeW{ds:LP}(h:noDs ds=true):∀d∈ds,noD d=true:=by
 induction ds with
 |nil=>intro d hd;cases hd
 | cons x xs ih=>
  have h':noD x=true/\noDs xs=true:=by simpa[noDs]using h
  intro d hd;rcases List.mem_cons.mp hd with rfl | q
  ·exact h'.1
  ·exact ih h'.2 d q
section
variable {u e l b:Int}
theorem adu(d:PyData)(hd:noD d=true)(h:∀x y,d ≠ .tuple [x,y]):zu [jl u e l b,d]=some (.bool false):=by
 cases d with
 |dict k=>simp[noD]at hd
 | tuple ds=>
  have hl:¬ (ds.length:Int)=2:=fun z=>by
   have z':ds.length=2:=by omega
   match ds,z' with
   | [x,y],_=>exact h x y rfl
  simp[zu,jy,Qg,jL,jT,ifS,orB,ze,tst,qX,tyn,asB,lkp,op2,jH,jp,jE,qJ,cst,dNe,zp,zI,qr,qq,hl]
 |_=>simp[zu,jy,Qg,jL,jT,ifS,orB,ze,tst,qX,tyn,asB,lkp,op2,jH,jp,jE,qJ,cst,dNe,zp,zI,qr,qq]
theorem ZC(d:PyData)(hd:noD d=true):zu [jl u e l b,d]=some (.bool (Zf u l d)):=by
 by_cases h:∃x y,d= .tuple [x,y]
 ·obtain⟨x,y,rfl⟩:=h
  have hx:noD x=true/\noD y=true:=by simpa[noD,noDs]using hd
  have w1:=Qn x hx.1 0 u;have w2:=Qn y hx.2 0 l;cases c1:whB 0 u x<;>rw[c1]at w1<;>simp[zu,jy,Qg,jL,jT,ifS,orB,ze,tst,qX,tyn,asB,lkp,op2,jH,jp,jE,qJ,cst,dNe,zp,zI,qr,qq,QV,jl,dIx,atI,ixN,w1,w2,Zf,c1]
 ·rw[adu d hd fun x y z=>h ⟨x,y,z⟩]
  congr 2
  unfold Zf;split
  ·exact absurd ⟨_,_,rfl⟩ h
  ·rfl
noncomputable def aam(u l:Int):PyData->Bool
 |.tuple ds=>decide (1<=ds.length)&&decide (ds.length<=4)&&ds.all (Zf u l)
 |_=>false
theorem adw(hm:Qf [jl u e l b]=some .none)(d:PyData)(hd:noD d=true):Z6 [jl u e l b,d]=some (.bool (aam u l d)):=by
 refine qi rfl ?_;show Qh.1 [some (jl u e l b),some d]=_;simp only[Qh];refine(ju (ρ1:=[some (jl u e l b),some d]) ?_).trans ?_
 ·simp only[ZO,jH,jp,jE,lkp,zzA,zzB,zzC,zzD,zzE,hm]
 cases d with
 |dict k=>simp[noD]at hd
 | tuple ds=>
  by_cases h1:1<=ds.length
  ·by_cases h4:ds.length<=4
   ·have hf:few ds=true:=zJ (by omega)
    have c1:zN (fun i j=>decide (i<=j)) (.int 1) (.int (ds.length:Int))=some (.bool true):=by
     show some (PyData.bool (decide ((1:Int)<=(ds.length:Int))))=_;rw[decide_eq_true (by omega)]
    have c2:zN (fun i j=>decide (i<=j)) (.int (ds.length:Int)) (.int 4)=some (.bool true):=by
     show some (PyData.bool (decide ((ds.length:Int)<=4)))=_;rw[decide_eq_true (by omega)]
    refine(ju (ρ1:=[some (jl u e l b),some (.tuple ds)]) ?_).trans ?_
    ·simp[ifS,orB,ze,tst,qX,tyn,asB,lkp,chn,jH,jp,jE,qJ,cst,qr,c1,c2]
    simp only[jT,qq,jH,jp,jE,qy,itT,lkp,J5,zzA,zzB,zzC,zzD,zzE,hf,zzM,Jt,List.map_cons,List.map_nil,zzH];rw[Jb (fun d=> .bool (Zf u l d))]
    ·have:bls (ds.map fun d=>PyData.bool (Zf u l d))=some (ds.map (Zf u l)):=QA (Zf u l) _
     simp only[zzE,zzD,ad8,this,aam,decide_eq_true h1,decide_eq_true h4,Bool.true_and,List.all_map,Function.comp_def,id]
    ·intro d hd'
     simp[jH,jp,jE,lkp,ZC (e:=e) (b:=b) d (aeW (by simpa[noD]using hd) d hd')]
   ·have c1:zN (fun i j=>decide (i<=j)) (.int 1) (.int (ds.length:Int))=some (.bool true):=by
     show some (PyData.bool (decide ((1:Int)<=(ds.length:Int))))=_;rw[decide_eq_true (by omega)]
    have c2:zN (fun i j=>decide (i<=j)) (.int (ds.length:Int)) (.int 4)=some (.bool false):=by
     show some (PyData.bool (decide ((ds.length:Int)<=4)))=_;rw[decide_eq_false (by omega)]
    simp[jT,ifS,orB,ze,tst,qX,tyn,asB,lkp,chn,jH,jp,jE,qJ,cst,qr,c1,c2,qq,aam,h4]
  ·have c1:zN (fun i j=>decide (i<=j)) (.int 1) (.int (ds.length:Int))=some (.bool false):=by
    show some (PyData.bool (decide ((1:Int)<=(ds.length:Int))))=_;rw[decide_eq_false (by omega)]
   simp[jT,ifS,orB,ze,tst,qX,tyn,asB,lkp,chn,jH,jp,jE,qJ,cst,qr,c1,qq,aam,h1]
 |_=>simp[jT,ifS,orB,ze,tst,qX,tyn,asB,lkp,chn,jH,jp,jE,cst,qr,qq,aam]
theorem ab0(hm:Qf [jl u e l b]=some .none)(d:PyData)(hd:noD d=true)(hs:aam u l d=true):jY [jl u e l b,d]=some .none:=by
 have g:=adw (e:=e) hm d hd;rw[hs]at g;simp[jY,jy,Qv,jL,jT,ifS,ze,tst,asB,jH,jp,jE,lkp,g,qr]
end
theorem acG{u l:Int}(p:Int×Int):Zf u l (pr p)=okP u l p:=by
 simp[Zf,pr,whB,okP,Bool.and_assoc]
theorem adx{u l:Int}(ps:List (Int×Int)):aam u l (jn ps)=okS u l ps:=by
 simp only[aam,jn,okS,List.length_map,List.all_map]
 congr 2
 funext p;exact acG p
theorem acH:∀ps:List (Int×Int),noDs (ps.map pr)=true
 | []=>rfl
 |p::ps=>by simp[noDs,noD,pr,acH ps]
theorem aeX(ps:List (Int×Int)):noD (jn ps)=true:=by
 simp[noD,jn,acH]
theorem agt{ds:LP}(h:ds.length<50):few ds=true:=zJ (by omega)
theorem fw1{a:PyData}:few [a]=true:=agt (by simp)
theorem fw2{a b:PyData}:few [a,b]=true:=agt (by simp)
theorem fw3{a b c:PyData}:few [a,b,c]=true:=agt (by simp)
theorem ng1:afW (.int 1)=some (.int (-1)):=rfl
noncomputable def shl(n:Nat)(d:PyData):Prop:=d.canLay0=true/\d.depth<=n
theorem QE{ds:LP}:PyData.canLayAll0 ds=true↔∀d∈ds,d.canLay0=true:=by
 induction ds with
 |nil=>simp[PyData.canLayAll0]
 |cons x xs ih=>simp[PyData.canLayAll0,ih]
theorem QF{ds:LP}{n:Nat}:PyData.depthAll ds<=n↔∀d∈ds,d.depth<=n:=by
 induction ds with
 |nil=>simp[PyData.depthAll]
 |cons x xs ih=>simp only[PyData.depthAll,List.mem_cons,forall_eq_or_imp,←ih];omega
theorem agu{n:Nat}{ds:LP}:shl (n+1) (.tuple ds)↔∀d∈ds,shl n d:=by
 constructor
 ·rintro⟨h1,h2⟩ d hd
  refine⟨QE.mp (by simpa[PyData.canLay0]using h1) d hd,QF.mp ?_ d hd⟩;simp only[PyData.depth]at h2;omega
 ·intro h
  refine⟨by simp only[PyData.canLay0];exact QE.mpr fun d hd=>(h d hd).1,?_⟩;have:=QF.mpr fun d hd=>(h d hd).2;simp only[PyData.depth];omega
theorem agv{n:Nat}{ds:LP}:shl (n+1) (.list ds)↔∀d∈ds,shl n d:=by
 constructor
 ·rintro⟨h1,h2⟩ d hd
  refine⟨QE.mp (by simpa[PyData.canLay0]using h1) d hd,QF.mp ?_ d hd⟩;simp only[PyData.depth]at h2;omega
 ·intro h
  refine⟨by simp only[PyData.canLay0];exact QE.mpr fun d hd=>(h d hd).1,?_⟩;have:=QF.mpr fun d hd=>(h d hd).2;simp only[PyData.depth];omega
theorem aeY{n:Nat}{d:PyData}(h:shl n d)(hn:n<30):okD d=true:=by
 unfold okD;rw[h.1,decide_eq_true (show d.depth<30 by have:=h.2;omega)];rfl
theorem acI(i:Int):shl 1 (.int i):=⟨rfl,by simp[PyData.depth]⟩
theorem aeZ{ds:LP}{k:Int}(h0:0<=k)(hk:k<ds.length)(hl:ds.length<9999):∃v,dIx (.list ds) (.int k)=some v/\v∈ds:=by
 have hlt:k.toNat<ds.length:=by omega
 refine⟨ds[k.toNat],?_,List.getElem_mem _⟩;have e1:ixN ds.length k=some k.toNat:=abY h0 hlt;show(if ds.length<1000000 then atI ds k else none)=_;rw[if_pos (by omega)];unfold atI;rw[e1];show ds[k.toNat]?=_;rw[List.getElem?_eq_getElem hlt]
theorem agw{ps:List (Int×Int)}{i:Nat}{p:Int×Int}(h4:ps.length<=4)(hd:ps[i]?=some p):dIx (jn ps) (.int (i:Int))=some (pr p):=by
 have hi:i<ps.length:=(List.getElem?_eq_some_iff.mp hd).1;show(if (ps.map pr).length<1000000 then atI (ps.map pr) (i:Int) else none)=_;rw[if_pos (by rw[List.length_map];omega)];unfold atI;rw[abY (by omega) (by rw[List.length_map];simpa using hi),zzD,List.getElem?_map];rw[show((i:Int)).toNat=i by simp,hd];rfl
section
variable {m s t:PyData}{c:Str}
theorem ae0{d:PyData}(g:jY [m,s]=some .none)(k:za [m,s,t]=some (.bool true))(bm:j5 [s,t]=some d):qD [m,s,t]=some d:=by
 refine qi rfl ?_;show aad.1 [some m,some s,some t]=_;dsimp? [aad,g,k,bm]
end
noncomputable def shP(p:Int×Int)(k:Bool)(c:Int):Int×Int:=if k=true then (p.1,p.2+c) else (p.1+c,p.2)
theorem ajB{x y z:PyData}:dIx (.tuple [x,y,z]) (.int 0)=some x:=rfl
theorem ajC{x y z:PyData}:dIx (.tuple [x,y,z]) (.int 1)=some y:=rfl
theorem ajD{x y z:PyData}:dIx (.tuple [x,y,z]) (.int 2)=some z:=rfl
theorem lnt{x y z:PyData}:qJ [.tuple [x,y,z]]=some (.int 3):=rfl
theorem itt{xs:LP}:Jx "tuple" (.tuple xs)=some (.bool true):=rfl
theorem agx:dNe (.int 3) (.int 3)=some (.bool false):=by kernel_rfl
theorem aiY(k:Bool):dIn true (qR k) (.tuple [.str "upper",.str "lower"])=some (.bool false):=by cases k<;>kernel_rfl
theorem agy{c:Int}(hc:c=1∨c=-1):jC [.int c,.int (-1),.int 1]=some (.bool true)/\dNe (.int c) (.int 0)=some (.bool true)/\dIn true (.int c) (.tuple [.int 1,.int (-1)])=some (.bool false)/\Jx "bool" (.int c)=some (.bool false):=by
 rcases hc with rfl|rfl<;>exact⟨by kernel_rfl,by kernel_rfl,by kernel_rfl,rfl⟩
section
variable {u e l b:Int}{ps:List (Int×Int)}
theorem ae1(x y z:PyData){X Y Z N:Bool}(ln:qJ [jn ps]=some (.int (ps.length:Int)))(wx:jC [x,.int 0,.int ((ps.length:Int)-1)]=some (.bool X))(iy:X=true->dIn true y (.tuple [.str "upper",.str "lower"])=some (.bool !Y))(wz:X=true->Y=true->jC [z,.int (-1),.int 1]=some (.bool Z))(nz:X=true->Y=true->Z=true->dNe z (.int 0)=some (.bool N)):zm [jn ps,.tuple [x,y,z]]=some (.bool (X&&Y&&Z&&N)):=by
 have sb:ZR (.int (ps.length:Int)) (.int 1)=some (.int ((ps.length:Int)-1)):=rfl;have e0:=ajB (x:=x) (y:=y) (z:=z);have e1:=ajC (x:=x) (y:=y) (z:=z);have e2:=ajD (x:=x) (y:=y) (z:=z);have e3:=lnt (x:=x) (y:=y) (z:=z);have e4:=itt (xs:=[x,y,z]);generalize PyData.tuple [x,y,z]=D at*;generalize (ps.length:Int)=n at*;refine qi rfl ?_;show qk.1 [some (jn ps),some D]=_;cases X with
 |false=>dsimp? [qk,e0,e3,e4,agx,ln,sb,wx,Bool.false_and]
 | true=>
  have iy:=iy rfl;cases Y with
  |false=>dsimp? [qk,e0,e1,e3,e4,agx,ln,sb,wx,iy,Bool.false_and,Bool.true_and]
  | true=>
   have wz:=wz rfl rfl;cases Z with
   |false=>dsimp? [qk,QV,e0,e1,e2,e3,e4,agx,ln,sb,wx,iy,wz,ng1,Bool.false_and,Bool.true_and]
   | true=>
    have nz:=nz rfl rfl rfl;dsimp? [qk,QV,e0,e1,e2,e3,e4,agx,ln,sb,wx,iy,wz,nz,ng1,Bool.false_and,Bool.true_and]
theorem ajE{r:Nat}(hr:r<ps.length):jC [.int (r:Int),.int 0,.int ((ps.length:Int)-1)]=some (.bool true):=by
 rw[jP,decide_eq_true (by omega),decide_eq_true (by omega)];rfl
end
theorem ZD(p:Int×Int)(k:Bool)(c:Int):Qz [pr p,qR k,.int c]=some (pr (shP p k c)):=by
 have i0:dIx (pr p) (.int 0)=some (.int p.1):=rfl;have i1:dIx (pr p) (.int 1)=some (.int p.2):=rfl;have a1:Ju (.int p.1) (.int c)=some (.int (p.1+c)):=rfl;have a2:Ju (.int p.2) (.int c)=some (.int (p.2+c)):=rfl;refine qi rfl ?_;show JS.1 [some (pr p),some (qR k),some (.int c)]=_;cases k with
 | false=>
  have q:dEq (qR false) (.str "upper")=some (.bool true):=by kernel_rfl
  dsimp? [JS,q,i0,i1,a1,fw2];rfl
 | true=>
  have q:dEq (qR true) (.str "upper")=some (.bool false):=by kernel_rfl
  dsimp? [JS,q,i0,i1,a2,fw2];rfl
theorem ZE{α:Type}:∀(ps:List α) (r:Nat) (q:α),r<ps.length->ps.set r q=ps.take r++[q]++ps.drop (r+1)
 | [],r,q,h=>by simp at h
 |p::ps,0,q,h=>rfl
 | p::ps,r+1,q,h=>by
  simp only[zzF,List.take_succ_cons,List.drop_succ_cons,List.cons_append];rw[ZE ps r q (by simpa using h)]
section
variable {u e l b:Int}{ps:List (Int×Int)}
theorem ajF{r:Nat}(hr:r<ps.length)(h4:ps.length<=4)(q:Int×Int):∃A1 A2 A3,aaQ (jn ps) none (some (r:Int))=some A1/\Ju A1 (.tuple [pr q])=some A2/\aaQ (jn ps) (some ((r:Int)+1)) none=some A3/\Ju A2 A3=some (jn (ps.set r q)):=by
 refine⟨.tuple ((ps.map pr).take r),.tuple ((ps.map pr).take r++[pr q]),.tuple ((ps.map pr).drop (r+1)),?_,?_,?_,?_⟩
 ·show some (PyData.tuple (ZV _ none (some (r:Int))))=_
  rw[aiX]
 ·exact aal (.inr trivial) (by rw[List.length_take,List.length_map];simp;omega)
 ·show some (PyData.tuple (ZV _ (some ((r:Int)+1)) none))=_
  rw[show(r:Int)+1=((r+1:Nat):Int) by omega,ags]
 ·rw[aal (.inr trivial) (by rw[List.length_append,List.length_take,List.length_drop,List.length_map];simp only[List.length_cons,List.length_nil];omega),ZE ps r q hr]
  show some (PyData.tuple _)=some (PyData.tuple (List.map pr _));rw[List.map_append,List.map_append,List.map_take,List.map_drop];rfl
theorem agz(hs:okS u l ps=true)(r:Nat){q:Int×Int}(hq:okP u l q=true):okS u l (ps.set r q)=true:=by
 obtain⟨h1,h4,hp⟩:=jU hs;refine aeQ (by rw[List.length_set];exact h1) (by rw[List.length_set];exact h4) (List.all_eq_true.mpr fun x hx=>?_);rcases List.mem_or_eq_of_mem_set hx with z|rfl
 ·exact List.all_eq_true.mp hp x z
 ·exact hq
end
structure Th(u e l b:Int)(ps:List (Int×Int))(d:PyData)(o:Option (List (Int×Int))):Prop where
 cm:za [jl u e l b,jn ps,d]=some (.bool o.isSome)
 bm:∀qs,o=some qs->j5 [jn ps,d]=some (jn qs)/\okS u l qs=true
section
variable {u e l b:Int}{ps:List (Int×Int)}
theorem JY(hs:okS u l ps=true){r:Nat}{p:Int×Int}(hp:ps[r]?=some p)(k:Bool){c:Int}(hc:c=1∨c=-1):Th u e l b ps (mv (r:Int) k c) (if okP u l (shP p k c)=true then some (ps.set r (shP p k c)) else none):=by
 obtain⟨h1,h4,hall⟩:=jU hs;obtain⟨hr,hpe⟩:=List.getElem?_eq_some_iff.mp hp;have hpo:okP u l p=true:=List.all_eq_true.mp hall p (by rw[←hpe];exact List.getElem_mem _);have hpo':0<=p.1/\p.1<=u/\0<=p.2/\p.2<=l:=by simp only[okP,Bool.and_eq_true,decide_eq_true_eq]at hpo;omega
 obtain⟨f1,f2,f3,f4⟩:=agy hc;have ixT:=agw h4 hp;have k1:=ae1 (X:=true) (Y:=true) (Z:=true) (N:=true) (.int (r:Int)) (qR k) (.int c) (abf ps) (ajE hr) (fun _=>aiY k) (fun _ _=>f1) (fun _ _ _=>f2);obtain⟨A1,A2,A3,s1,s2,s3,s4⟩:=ajF hr h4 (shP p k c);have gr:=ZC (u:=u) (e:=e) (l:=l) (b:=b) (pr (shP p k c)) rfl;rw[acG]at gr;refine⟨?_,fun qs z=>?_⟩
 ·have e0:dIx (mv (r:Int) k c) (.int 0)=some (.int (r:Int)):=rfl
  have e1:dIx (mv (r:Int) k c) (.int 1)=some (qR k):=rfl;have e2:dIx (mv (r:Int) k c) (.int 2)=some (.int c):=rfl;have pu:=ZD p k c;have k1':zm [jn ps,mv (r:Int) k c]=some (.bool true):=k1;have io:(if okP u l (shP p k c)=true then some (ps.set r (shP p k c)) else none).isSome=okP u l (shP p k c):=by split<;>simp_all
  rw[io];generalize mv (r:Int) k c=D at*;generalize okP u l (shP p k c)=OK at*;generalize pr (shP p k c)=Q at*;refine qi rfl ?_;show JU.1 [some (jl u e l b),some (jn ps),some D]=_;dsimp? [JU,k1',e0,e1,e2,ixT,pu,gr]
 ·by_cases ho:okP u l (shP p k c)=true
  ·rw[if_pos ho]at z
   cases z;refine⟨?_,agz hs r ho⟩;have e0:dIx (mv (r:Int) k c) (.int 0)=some (.int (r:Int)):=rfl;have e1:dIx (mv (r:Int) k c) (.int 1)=some (qR k):=rfl;have e2:dIx (mv (r:Int) k c) (.int 2)=some (.int c):=rfl;have a1:Ju (.int (r:Int)) (.int 1)=some (.int ((r:Int)+1)):=rfl;have pu:=ZD p k c;generalize mv (r:Int) k c=D at*;generalize pr (shP p k c)=Q at*;generalize jn (ps.set r (shP p k c))=R at*;refine qi rfl ?_;show zo.1 [some (jn ps),some D,none]=_;dsimp? [zo,Zw,Jc,inI,e0,e1,e2,a1,ixT,pu,s1,fw1,s2,s3,s4]
  ·rw[if_neg ho]at z;cases z
theorem abi(H:zc=true)(h:okN u e l b=true)(hs:okS u l ps=true):jY [jl u e l b,jn ps]=some .none/\True:=by
 have hM:=aiW H h;have hb:aam u l (jn ps)=true:=by rw[adx];exact hs
 exact⟨ab0 (ZA hM) _ (aeX ps) hb,trivial⟩
theorem zW(H:zc=true)(h:okN u e l b=true){ps qs:List (Int×Int)}{d:PyData}(hs:okS u l ps=true)(t:Th u e l b ps d (some qs)):qD [jl u e l b,jn ps,d]=some (jn qs):=
 ae0 (abi H h hs).1 t.cm (t.bm _ rfl).1
end
noncomputable def tM(M T d:PyData):Bool:=match za [M,T,d]with
 |some (.bool x)=>x
 |_=>false
noncomputable def c4(r:Nat):LP:=[mv (r:Int) false 1,mv (r:Int) false (-1),mv (r:Int) true 1,mv (r:Int) true (-1)]
noncomputable def ab1(M T:PyData)(r:Nat):LP:=(c4 r).filter (tM M T)
noncomputable def qm(M T:PyData)(n:Nat):LP:=(List.range n).flatMap (ab1 M T)
theorem ZF(M T:PyData)(k:Nat):qm M T (k+1)=qm M T k++ab1 M T k:=by
 unfold qm;rw[List.range_succ,List.flatMap_append];simp
theorem ae2(M T:PyData)(r:Nat):(ab1 M T r).length<=4:=List.length_filter_le _ _
theorem zA(M T:PyData):∀n:Nat,(qm M T n).length<=4*n
 |0=>by simp[qm]
 | n+1=>by
  rw[ZF,List.length_append];have:=ae2 M T n;have:=zA M T n;omega
theorem abj{u e l b:Int}{ps:List (Int×Int)}{d:PyData}{o:Option (List (Int×Int))}(t:Th u e l b ps d o):tM (jl u e l b) (jn ps) d=o.isSome:=by
 unfold tM;rw[t.cm]
section
variable {u e l b:Int}{ps:List (Int×Int)}
theorem agV(hs:okS u l ps=true){r:Nat}(hr:r<ps.length):∀d∈c4 r,∃o,Th u e l b ps d o:=fun d hd=>by
 have hp:ps[r]?=some ps[r]:=List.getElem?_eq_getElem hr;simp only[c4,List.mem_cons,List.not_mem_nil,or_false]at hd;rcases hd with rfl|rfl|rfl|rfl
 ·exact⟨_,JY hs hp false (.inl rfl)⟩
 ·exact⟨_,JY hs hp false (.inr rfl)⟩
 ·exact⟨_,JY hs hp true (.inl rfl)⟩
 ·exact⟨_,JY hs hp true (.inr rfl)⟩
theorem Q9(hs:okS u l ps=true){n:Nat}(hn:n<=ps.length){d:PyData}(hd:d∈qm (jl u e l b) (jn ps) n):(∃qs,Th u e l b ps d (some qs))/\noL d=true/\shl 2 d:=by
 obtain⟨r,hr,hm⟩:=List.mem_flatMap.mp hd;obtain⟨h1,h2⟩:=List.mem_filter.mp hm;obtain⟨o,t⟩:=agV (e:=e) (b:=b) hs (show r<ps.length by have:=List.mem_range.mp hr;omega) d h1;rw[abj t]at h2;refine⟨?_,?_⟩
 ·cases o with
  |none=>cases h2
  |some qs=>exact⟨qs,t⟩
 ·simp only[c4,List.mem_cons,List.not_mem_nil,or_false]at h1
  rcases h1 with rfl|rfl|rfl|rfl
  all_goals exact⟨by kernel_rfl,agu.mpr fun x hx=>by
   simp only [List.mem_cons,List.not_mem_nil,or_false] at hx;rcases hx with rfl | rfl | rfl
   ·exact acI _
   ·exact ⟨by kernel_rfl,by simp [qR,PyData.depth]⟩
   ·exact acI _⟩
theorem acJ(h:okN u e l b=true)(hs:okS u l ps=true):1<=(qm (jl u e l b) (jn ps) ps.length).length:=by
 obtain⟨a1,a2,a3,a4,a5,a6,a7,a8,a9,a10⟩:=qh h;obtain⟨h1,h4,hall⟩:=jU hs;have hr:0<ps.length:=by omega
 have hp:ps[0]?=some ps[0]:=List.getElem?_eq_getElem hr;have hpo:okP u l ps[0]=true:=List.all_eq_true.mp hall _ (List.getElem_mem _);generalize ps[0]=p at*;have hpo':0<=p.1/\p.1<=u/\0<=p.2/\p.2<=l:=by simp only[okP,Bool.and_eq_true,decide_eq_true_eq]at hpo;omega
 have key:∃c:Int,(c=1∨c=-1)/\okP u l (shP p true c)=true:=by
  by_cases q:p.2<l
  ·exact⟨1,.inl rfl,by simp[okP,shP];omega⟩
  ·exact⟨-1,.inr rfl,by simp[okP,shP];omega⟩
 obtain⟨c,hc,ho⟩:=key;have t:=JY (e:=e) (b:=b) hs hp true hc;rw[if_pos ho]at t
 have hm:mv ((0:Nat):Int) true c∈ab1 (jl u e l b) (jn ps) 0:=by
  refine List.mem_filter.mpr ⟨?_,by rw[abj t];rfl⟩;rcases hc with rfl|rfl
  ·simp[c4]
  ·simp[c4]
 have hx:mv ((0:Nat):Int) true c∈qm (jl u e l b) (jn ps) ps.length:=List.mem_flatMap.mpr ⟨0,List.mem_range.mpr hr,hm⟩;exact List.length_pos_of_mem hx
theorem acK(hs:okS u l ps=true){r:Nat}(hr:r<ps.length){F:LP}(hF:F.length<1000)(k:Bool){x:OP}:∃y,JA.1 [some (jl u e l b),some (jn ps),some (.list F),some (.int (r:Int)),some (qR k),x]=some (.nx [some (jl u e l b),some (jn ps),some (.list (F++[mv (r:Int) k 1,mv (r:Int) k (-1)].filter (tM (jl u e l b) (jn ps)))),some (.int (r:Int)),some (qR k),y]):=by
 refine⟨some (.list [mv (r:Int) k 1,mv (r:Int) k (-1)]),?_⟩
 have hin:∀d∈[mv (r:Int) k 1,mv (r:Int) k (-1)],d∈c4 r:=fun d hd=>by
  simp only[List.mem_cons,List.not_mem_nil,or_false]at hd;cases k<;>rcases hd with rfl|rfl<;>simp[c4]
 have cp:=JI (ft:=tst (jH za (jp (lkp 1) (jp (lkp 2) (jp (lkp 0) jE))))) (fe:=lkp 0) (i:=0) (tM (jl u e l b) (jn ps)) id [mv (r:Int) k 1,mv (r:Int) k (-1)] [none,some (jl u e l b),some (jn ps)] (fun d hd=>by
   obtain ⟨o,t⟩:=agV (e:=e) (b:=b) hs hr d (hin d hd);have cm:=t.cm;rw [abj t];dsimp? [cm]) (fun d hd _=>by dsimp? [id])
 rw[List.map_id]at cp
 have w1:jN (jZ 0) afN (J4 (jp (lkp 1) (jp (lkp 2) (jp (lkp 0) jE)))) [.int 1,.int (-1)] [none,some (.int (r:Int)),some (qR k)]=some [mv (r:Int) k 1,mv (r:Int) k (-1)]:=by
  dsimp? [jN,afN,fw3];rfl
 have el:af0 (some (.list F)) (some (.list ([mv (r:Int) k 1,mv (r:Int) k (-1)].filter (tM (jl u e l b) (jn ps)))))=some (.list (F++[mv (r:Int) k 1,mv (r:Int) k (-1)].filter (tM (jl u e l b) (jn ps)))):=by
  have hl:([mv (r:Int) k 1,mv (r:Int) k (-1)].filter (tM (jl u e l b) (jn ps))).length<=2:=List.length_filter_le _ _
  have hn:noLs ([mv (r:Int) k 1,mv (r:Int) k (-1)].filter (tM (jl u e l b) (jn ps)))=true:=JH fun d hd=>by
   have:=(List.mem_filter.mp hd).1;simp only[List.mem_cons,List.not_mem_nil,or_false]at this;rcases this with rfl|rfl<;>rfl
  show(if _/\_ then _ else _)=_;rw[if_pos ⟨hn,by omega⟩]
 have iw:items (.tuple [.int 1,.int (-1)])=some [.int 1,.int (-1)]:=rfl;simp only[JA];refine(ju (ρ1:=[some (jl u e l b),some (jn ps),some (.list F),some (.int (r:Int)),some (qR k),some (.list [mv (r:Int) k 1,mv (r:Int) k (-1)])]) ?_).trans ?_
 ·dsimp? [brw,hid,okB,abI,aen,afZ,qy,itS,iw,Jt,List.map_cons,List.map_nil,fw2]
  try simp only[jT,ifS,ifD,ifX,abE,orB,ze,tst,op2,chn,jH,J4,Jq,jp,jE,lkp,cst,qq,ZO,qW,jZ,qr,nxX,orX,ahD,adZ,asB,zzA,zzB,zzC,zzD,zzH,zzE,zzI,zzF,zzG,zzJ,zzK,zzL,zzM,zzN]at w1
  dsimp? [w1]
 have it:items (.list [mv (r:Int) k 1,mv (r:Int) k (-1)])=some [mv (r:Int) k 1,mv (r:Int) k (-1)]:=rfl;have f2:few [mv (r:Int) k 1,mv (r:Int) k (-1)]=true:=fw2;generalize [mv (r:Int) k 1,mv (r:Int) k (-1)]=TWO at*;generalize PyData.list TWO=C at*
 try simp only[jT,ifS,ifD,ifX,abE,orB,ze,tst,op2,chn,jH,J4,Jq,jp,jE,lkp,cst,qq,ZO,qW,jZ,qr,nxX,orX,ahD,adZ,asB,zzA,zzB,zzC,zzD,zzH,zzE,zzI,zzF,zzG,zzJ,zzK,zzL,zzM,zzN]at cp
 dsimp? [brw,hid,okB,abI,aen,afZ,qy,itS,it,Jt,List.map_cons,List.map_nil,f2,cp,el]
theorem agA(hs:okS u l ps=true){r:Nat}(hr:r<ps.length){F:LP}(hF:F.length<900){x4 x5:OP}:∃y4 y5,zb.1 [some (jl u e l b),some (jn ps),some (.list F),some (.int (r:Int)),x4,x5]=some (.nx [some (jl u e l b),some (jn ps),some (.list (F++ab1 (jl u e l b) (jn ps) r)),some (.int (r:Int)),y4,y5]):=by
 obtain⟨y,s1⟩:=acK (e:=e) (b:=b) hs hr (F:=F) (by omega) false (x:=x5);have hl:([mv (r:Int) false 1,mv (r:Int) false (-1)].filter (tM (jl u e l b) (jn ps))).length<=2:=List.length_filter_le _ _;obtain⟨y',s2⟩:=acK (e:=e) (b:=b) hs hr (F:=F++[mv (r:Int) false 1,mv (r:Int) false (-1)].filter (tM (jl u e l b) (jn ps))) (by rw[List.length_append];omega) true (x:=y);refine⟨some (qR true),y',?_⟩;have iw:items (.tuple [.str "upper",.str "lower"])=some [qR false,qR true]:=rfl
 have eR:F++ab1 (jl u e l b) (jn ps) r=(F++[mv (r:Int) false 1,mv (r:Int) false (-1)].filter (tM (jl u e l b) (jn ps)))++[mv (r:Int) true 1,mv (r:Int) true (-1)].filter (tM (jl u e l b) (jn ps)):=by
  rw[List.append_assoc,←List.filter_append];rfl
 rw[eR];simp only[zb];refine(ju (ρ1:=[some (jl u e l b),some (jn ps),some (.list ((F++[mv (r:Int) false 1,mv (r:Int) false (-1)].filter (tM (jl u e l b) (jn ps)))++[mv (r:Int) true 1,mv (r:Int) true (-1)].filter (tM (jl u e l b) (jn ps)))),some (.int (r:Int)),some (qR true),y']) ?_).trans rfl;generalize mv (r:Int) false 1=m1 at*;generalize mv (r:Int) false (-1)=m2 at*;generalize mv (r:Int) true 1=m3 at*;generalize mv (r:Int) true (-1)=m4 at*;dsimp? [QP,itS,brw,hid,okB,abI,aen,afZ,iw,jD,s1,s2]
theorem ae3{M T:PyData}{n:Int}{RR F:LP}{x3 x4 x5:OP}(ck:jY [M,T]=some .none)(ln:qJ [T]=some (.int n))(rg:Qq [.int n]=some RR)(lp:jD (jZ 3) zb.1 RR [some M,some T,some (.list []),none,none,none]=some (.nx [some M,some T,some (.list F),x3,x4,x5])):qv [M,T]=some (.list F):=by
 refine qi rfl ?_;show Ji.1 [some M,some T,none,none,none,none]=_;simp only[Ji];refine(ju (ρ1:=[some M,some T,none,none,none,none]) ?_).trans ?_
 ·dsimp? [ck]
 have key:∀{Y:RO} {d:PyData},Y [some M,some T,some (.list []),none,none,none]=some (.rt d)->Zd 2 (Jq jE) Y [some M,some T,none,none,none,none]=some (.rt d):=fun {Y d} hy=>by
  have l8:2<[some M,some T,none,none,none,none].length:=by simp
  dsimp? [Zd,aaj,hy];rw[if_pos l8]
 refine key ?_;refine(ju (ρ1:=[some M,some T,some (.list F),x3,x4,x5]) ?_).trans ?_
 ·dsimp? [QP,brw,hid,okB,abI,aen,afZ,ln,rg]
  exact lp
 dsimp? [zzA]
end
inductive Path (u e l b:Int):List (Int×Int)->LP->List (Int×Int)->Prop
 |nil (ps:List (Int×Int)):Path u e l b ps [] ps
 |cons {ps qs rs:List (Int×Int)} {d:PyData} {ms:LP}:Th u e l b ps d (some qs)->Path u e l b qs ms rs->Path u e l b ps (d::ms) rs
theorem Path.snoc{u e l b:Int}{ps qs rs:List (Int×Int)}{d:PyData}{ms:LP}(p:Path u e l b ps ms qs)(t:Th u e l b qs d (some rs)):Path u e l b ps (ms++[d]) rs:=by
 induction p with
 |nil ps=>exact .cons t (.nil _)
 |cons t' _ ih=>exact .cons t' (ih t)
section
variable {u e l b:Int}
theorem Path.ok{ps qs:List (Int×Int)}{ms:LP}(p:Path u e l b ps ms qs)(hs:okS u l ps=true):okS u l qs=true:=by
 induction p with
 |nil ps=>exact hs
 |cons t _ ih=>exact ih (t.bm _ rfl).2
theorem ahU{M T0 L N D Q x:PyData}(g:qD [M,N,D]=some Q):aa9.1 [some M,some T0,some L,some N,some D]=some (.nx [some M,some T0,some L,some Q,some D]):=by
 dsimp? [aa9,g]
theorem abk(H:zc=true)(h:okN u e l b=true){T0 L:PyData}:∀(ms:LP) (ps qs:List (Int×Int)) (x:OP),okS u l ps=true->Path u e l b ps ms qs->∃y,jD (jZ 4) aa9.1 ms [some (jl u e l b),some T0,some L,some (jn ps),x]=some (.nx [some (jl u e l b),some T0,some L,some (jn qs),y])
 | [],ps,qs,x,_,p=>by cases p;exact⟨x,rfl⟩
 | d::ms,ps,qs,x,hs,p=>by
  cases p with
  | cons t p'=>
   obtain⟨y,hy⟩:=abk H h (T0:=T0) (L:=L) ms _ qs (some d) (t.bm _ rfl).2 p';refine⟨y,?_⟩;have st:=ahU (T0:=T0) (L:=L) (x:= .none) (zW H h hs t);simp only[jD,jZ,zzD,zzF,zzG,st];exact hy
theorem ae4{M T T' L:PyData}{ms:LP}{y:OP}(ck:jY [M,T]=some .none)(il:Jx "list" L=some (.bool true))(it:items L=some ms)(lp:jD (jZ 4) aa9.1 ms [some M,some T,some L,some T,none]=some (.nx [some M,some T,some L,some T',y])):aeG [M,T,L]=some T':=by
 refine qi rfl ?_;show agn.1 [some M,some T,some L,none,none]=_;simp only[agn];refine(ju (ρ1:=[some M,some T,some L,none,none]) ?_).trans ?_
 ·dsimp? [ck]
 refine(ju (ρ1:=[some M,some T,some L,none,none]) ?_).trans ?_
 ·dsimp? [il]
 refine(ju (ρ1:=[some M,some T,some L,some T,none]) ?_).trans ?_
 ·dsimp? [zzA]
 refine(ju (ρ1:=[some M,some T,some L,some T',y]) ?_).trans ?_
 ·dsimp? [QP,itS,it]
  exact lp
 dsimp? [zzA]
end
section
variable {u e l b:Int}{ps:List (Int×Int)}
theorem zK(H:zc=true)(h:okN u e l b=true)(hs:okS u l ps=true):qv [jl u e l b,jn ps]=some (.list (qm (jl u e l b) (jn ps) ps.length)):=by
 obtain⟨h1,h4,hall⟩:=jU hs;have ck:=(abi H h hs).1
 have rg:Qq [.int (ps.length:Int)]=some (zr 0 ps.length):=by
  have:Qq [.int (ps.length:Int)]=some (zr 0 (ps.length:Int).toNat):=QB (by omega) (by omega);rw[Int.toNat_natCast]at this;exact this
 have ln:=abf ps
 obtain⟨ρ',lp,x3,x4,x5,e'⟩:=Q8 (ga:=jZ 3) (F:=zb.1) (fun k ρ=>∃x3 x4 x5,ρ=[some (jl u e l b),some (jn ps),some (.list (qm (jl u e l b) (jn ps) k)),x3,x4,x5]) (zr 0 ps.length) 0 [some (jl u e l b),some (jn ps),some (.list []),none,none,none] ⟨none,none,none,rfl⟩ (fun j d ρ hd ⟨x3,x4,x5,e⟩=>by
  obtain ⟨hj,rfl⟩:=abh hd;subst e;have hl:=zA (jl u e l b) (jn ps) j;obtain ⟨y4,y5,q⟩:=agA (e:=e) (b:=b) hs (r:=j) hj (F:=qm (jl u e l b) (jn ps) (0+j)) (by rw [Nat.zero_add]; omega) (x4:=x4) (x5:=x5);refine ⟨_,_,rfl,q,⟨some (.int (j:Int)),y4,y5,?_⟩⟩;rw [Nat.zero_add,ZF])
 rw[JW,Nat.zero_add]at e';subst e';exact ae3 ck ln rg lp
theorem agB(H:zc=true)(h:okN u e l b=true){ps qs:List (Int×Int)}{ms:LP}(hs:okS u l ps=true)(p:Path u e l b ps ms qs):aeG [jl u e l b,jn ps,.list ms]=some (jn qs):=by
 obtain⟨y,lp⟩:=abk H h (T0:=jn ps) (L:= .list ms) ms ps qs none hs p;exact ae4 (abi H h hs).1 rfl rfl lp
end
section
variable {u e l b:Int}
end
section
variable {u e l b:Int}
theorem ae5{ps:List (Int×Int)}{r:Nat}{p:Int×Int}(h:ps[r]?=some p):ps.set r p=ps:=by
 obtain⟨hr,rfl⟩:=List.getElem?_eq_some_iff.mp h;exact List.set_getElem_self hr
theorem ae6(p:Int×Int)(k:Bool):shP p k 0=p:=by unfold shP;cases k<;>simp
theorem agC(p:Int×Int)(k:Bool)(c d:Int):shP (shP p k c) k d=shP p k (c+d):=by
 unfold shP;cases k<;>simp[Int.add_assoc]
theorem ZG{ps:List (Int×Int)}(hs:okS u l ps=true){d:PyData}:d∈qm (jl u e l b) (jn ps) ps.length↔∃(r:Nat) (k:Bool) (c:Int) (p:Int×Int),ps[r]?=some p/\(c=1∨c=-1)/\okP u l (shP p k c)=true/\d=mv (r:Int) k c:=by
 constructor
 ·intro hd
  obtain⟨r,hr,hm⟩:=List.mem_flatMap.mp hd;obtain⟨h1,h2⟩:=List.mem_filter.mp hm;have hr:=List.mem_range.mp hr;have hp:ps[r]?=some ps[r]:=List.getElem?_eq_getElem hr
  have key:∀(k:Bool) (c:Int),(c=1∨c=-1)->tM (jl u e l b) (jn ps) (mv (r:Int) k c)=true->okP u l (shP ps[r] k c)=true:=fun k c hc ht=>by
   rw[abj (JY (e:=e) (b:=b) hs hp k hc)]at ht;by_cases ho:okP u l (shP ps[r] k c)=true
   ·exact ho
   ·rw[if_neg ho]at ht;cases ht
  simp only[c4,List.mem_cons,List.not_mem_nil,or_false]at h1;rcases h1 with rfl|rfl|rfl|rfl
  ·exact⟨r,false,1,_,hp,.inl rfl,key false 1 (.inl rfl) h2,rfl⟩
  ·exact⟨r,false,-1,_,hp,.inr rfl,key false (-1) (.inr rfl) h2,rfl⟩
  ·exact⟨r,true,1,_,hp,.inl rfl,key true 1 (.inl rfl) h2,rfl⟩
  ·exact⟨r,true,-1,_,hp,.inr rfl,key true (-1) (.inr rfl) h2,rfl⟩
 ·rintro⟨r,k,c,p,hp,hc,ho,rfl⟩
  obtain⟨hr,_⟩:=List.getElem?_eq_some_iff.mp hp;refine List.mem_flatMap.mpr ⟨r,List.mem_range.mpr hr,List.mem_filter.mpr ⟨?_,?_⟩⟩
  ·rcases hc with rfl|rfl<;>cases k<;>simp[c4]
  ·rw[abj (JY (e:=e) (b:=b) hs hp k hc),if_pos ho];rfl
theorem acL(b e:Int):∀(ps:List (Int×Int)) (r:Nat) (p q:Int×Int),ps[r]?=some p->val b e (ps.set r q)=val b e ps+(wt e q-wt e p)*b ^ (ps.length-1-r)
 | [],r,p,q,h=>by simp at h
 | a::ps,0,p,q,h=>by
  have:a=p:=by simpa using h
  subst this;rw[zzG,JX,JX,List.length_cons,Int.sub_mul];simp only[Nat.add_sub_cancel,Nat.sub_zero];omega
 | a::ps,r+1,p,q,h=>by
  have h':ps[r]?=some p:=by simpa using h
  obtain⟨hr,_⟩:=List.getElem?_eq_some_iff.mp h';rw[zzF,JX,JX,acL b e ps r p q h',List.length_set,List.length_cons,show ps.length+1-1-(r+1)=ps.length-1-r by omega];omega
end
noncomputable abbrev St1:=List (Int×Int)
section
variable {u e l b:Int}
noncomputable def nuB(b e:Int)(ps:St1)(d:PyData):Int:=match j5 [jn ps,d]with
 | some (.tuple xs)=>match zS xs with
  |some qs=>val b e qs
  |none=>0
 |_=>0
theorem abl:∀qs:St1,zS (qs.map pr)=some qs
 | []=>rfl
 | q::qs=>by
  have:=abl qs;simp only[List.map_cons,zS];have e1:acv (pr q)=some q:=rfl;rw[e1,this];rfl
theorem aan{ps qs:St1}{d:PyData}(t:Th u e l b ps d (some qs)):nuB b e ps d=val b e qs:=by
 unfold nuB;rw[(t.bm _ rfl).1];show(match zS (qs.map pr)with | some qs=>val b e qs | none=>0)=_;rw[abl]
noncomputable def j6(u e l b:Int)(ps:St1)(n:Int):LP:=(qm (jl u e l b) (jn ps) ps.length).filter fun d=>decide (nuB b e ps d=n)
theorem ab2{M S:PyData}{ms zs:LP}{n:Int}(c1:jY [M,S]=some .none)(c2:JR [.int n]=some .none)(am:qv [M,S]=some (.list ms))(fw:few ms=true)(cp:jN (jZ 0) (tst (op2 dEq (jH abT (jp (lkp 2) (jp (jH j5 (jp (lkp 3) (jp (lkp 0) jE))) jE))) (lkp 1))) (lkp 0) ms [none,some (.int n),some M,some S]=some zs):qF [M,S,.int n]=some (.list zs):=by
 have it:items (.list ms)=some ms:=rfl;refine qi rfl ?_;show aag.1 [some M,some S,some (.int n),none]=_;simp only[aag];refine(ju (ρ1:=[some M,some S,some (.int n),none]) ?_).trans ?_
 ·dsimp? [c1]
 refine(ju (ρ1:=[some M,some S,some (.int n),none]) ?_).trans ?_
 ·dsimp? [c2]
 refine(ju (ρ1:=[some M,some S,some (.int n),some (.list ms)]) ?_).trans ?_
 ·dsimp? [am]
 dsimp? [qy,itS,Jt,List.map_cons,List.map_nil,it,fw,cp]
theorem ady(H:zc=true)(h:okN u e l b=true){ps:St1}(hs:okS u l ps=true){n:Int}(h0:0<=n)(hn:n<=99999):qF [jl u e l b,jn ps,.int n]=some (.list (j6 u e l b ps n)):=by
 obtain⟨h1,h4,hp⟩:=jU hs;have ml:=zA (jl u e l b) (jn ps) ps.length;refine ab2 (abi H h hs).1 (aeS h0 hn) (zK H h hs) (agt (by omega)) ?_
 have cp:=JI (ft:=tst (op2 dEq (jH abT (jp (lkp 2) (jp (jH j5 (jp (lkp 3) (jp (lkp 0) jE))) jE))) (lkp 1))) (fe:=lkp 0) (i:=0) (fun d=>decide (nuB b e ps d=n)) id (qm (jl u e l b) (jn ps) ps.length) [none,some (.int n),some (jl u e l b),some (jn ps)] (fun d hd=>by
   obtain ⟨⟨qs,t⟩,_⟩:=Q9 hs (Nat.le_refl _) hd;obtain ⟨bm,ok⟩:=t.bm _ rfl;obtain ⟨_,q4,qp⟩:=jU ok;have g:=aak (e:=e) h q4 qp;have dq:=QD (val b e qs) n;rw [aan t];generalize jl u e l b=M at*;generalize jn ps=T at*;generalize jn qs=Q at*;dsimp? [bm,g,dq]) (fun d hd _=>by dsimp? [id])
 rw[List.map_id]at cp;exact cp
end
theorem adz{tt:Rho->Option Bool}{A:RO}{ρ:Rho}(h:tt ρ=some false):ifS tt A (fun ρ=>some (.nx ρ)) ρ=some (.nx ρ):=by
 show(tt ρ).bind _=_;rw[h];rfl
theorem ae7{g:PyData->PyData->OP}{f1 f2:RP}{ρ:Rho}{x y z:PyData}(h1:f1 ρ=some x)(h2:f2 ρ=some y)(h3:g x y=some z):op2 g f1 f2 ρ=some z:=by
 show(f1 ρ).bind _=_;rw[h1,zzD,h2,zzD,h3]
theorem agD{fi:Rho->Option (LP)}{cap:List (Option Nat)}{ga:PyData->Rho->Option Rho}{ft:Rho->Option Bool}{fe:RP}{ρ:Rho}{ds ys:LP}(h1:fi ρ=some ds)(hf:few ds=true)(h2:jN ga ft fe ds (Jt cap ρ)=some ys):qy fi cap ga ft fe ρ=some (.list ys):=by
 show(fi ρ).bind _=_;rw[h1,zzD,if_pos hf,h2];rfl
theorem ahV{g:LP->OP}{fs:Rho->Option (LP)}{ρ:Rho}{ds:LP}{d:PyData}(h1:fs ρ=some ds)(h2:g ds=some d):jH g fs ρ=some d:=by
 show(fs ρ).bind _=_;rw[h1,zzD,h2]
theorem ae8{f:RP}{ρ:Rho}{c:Bool}(h:f ρ=some (.bool c)):tst f ρ=some c:=by
 show(f ρ).bind _=_;rw[h];rfl
theorem ae9{fi:Rho->Option (LP)}{ga:PyData->Rho->Option Rho}{F:RO}{ρ:Rho}{ds:LP}{o:Option Out}(h1:fi ρ=some ds)(h2:jD ga F ds ρ=o):QP fi ga F ρ=o:=by
 show(fi ρ).bind _=_;rw[h1,zzD];exact h2
theorem ahW{f:RP}{G:RO}{ρ:Rho}{d:PyData}(h:f ρ=some d):jT (qq f) G ρ=some (.rt d):=by
 unfold jT qq;rw[h];rfl
theorem afa{A B:Rho->Option Bool}{ρ:Rho}(h1:A ρ=some false)(h2:B ρ=some false):orB A B ρ=some false:=by
 unfold orB;rw[h1,zzD,if_neg (by decide),h2]
theorem agE{A B:RP}{ρ:Rho}{c d:Bool}(h1:A ρ=some (.bool c))(h2:c=true->B ρ=some (.bool d)):QV A B ρ=some (.bool (c&&d)):=by
 unfold QV;rw[h1];cases c with
 |true=>exact h2 rfl
 |false=>rfl
noncomputable def el(x:PyData):Prop:=noD x=true/\shl 2 x
noncomputable abbrev T3:=Nat×Bool×Int
noncomputable def mvt(t:T3):PyData:=mv (t.1:Int) t.2.1 t.2.2
noncomputable def c4t(r:Nat):List T3:=[(r,false,1),(r,false,-1),(r,true,1),(r,true,-1)]
noncomputable def ab3(t:T3):List Key:=[.inl (t.1:Int),.inr (if t.2.1=true then "lower" else "upper"),.inl t.2.2]
theorem afb{a b:T3}(h:ab3 a=ab3 b):a=b:=by
 obtain⟨r,k,c⟩:=a;obtain⟨r',k',c'⟩:=b;unfold ab3 at h;obtain⟨h1,h2⟩:=List.cons.inj h;obtain⟨h2,h3⟩:=List.cons.inj h2;obtain⟨h3,_⟩:=List.cons.inj h3;have e1:(r:Int)=(r':Int):=Sum.inl.inj h1;have e3:c=c':=Sum.inl.inj h3
 have e2:k=k':=by
  have h2:=Sum.inr.inj h2;cases k<;>cases k'<;>first|rfl | (simp only[zzL,zzN,zzM]at h2;exact absurd h2 (by decide))
 have e1':r=r':=by omega
 rw[e1',e2,e3]
theorem ZH:∀ts:List T3,Jo (ts.map mvt)=some (ts.map ab3)
 | []=>rfl
 | t::ts=>by
  rw[List.map_cons];show(zT [.int (t.1:Int),qR t.2.1,.int t.2.2]).bind _=_
  have:zT [.int (t.1:Int),qR t.2.1,.int t.2.2]=some (ab3 t):=by
   unfold qR ab3;cases t.2.1<;>rfl
  rw[this,zzD,ZH ts];rfl
theorem ahX(r:Nat):(c4t r).Nodup:=by
 unfold c4t;simp
theorem afc:∀n:Nat,((List.range n).flatMap c4t).Nodup/\∀t∈(List.range n).flatMap c4t,t.1<n
 |0=>⟨List.nodup_nil,fun t ht=>by simp at ht⟩
 | n+1=>by
  obtain⟨h1,h2⟩:=afc n;have e:(List.range (n+1)).flatMap c4t=(List.range n).flatMap c4t++c4t n:=by rw[List.range_succ,List.flatMap_append];simp
  rw[e]
  have hc:∀t∈c4t n,t.1=n:=fun t ht=>by
   unfold c4t at ht;simp only[List.mem_cons,List.not_mem_nil,or_false]at ht;rcases ht with rfl|rfl|rfl|rfl<;>rfl
  refine⟨List.nodup_append.mpr ⟨h1,ahX n,fun a ha b hb z=>?_⟩,fun t ht=>?_⟩
  ·have:=h2 a ha
   have:=hc b hb;rw[z]at *;omega
  ·rcases List.mem_append.mp ht with z | z
   ·have:=h2 t z;omega
   ·have:=hc t z;omega
theorem ahY(M T:PyData)(n:Nat):∃ts:List T3,qm M T n=ts.map mvt/\ts.Nodup:=by
 refine⟨((List.range n).flatMap c4t).filter fun t=>tM M T (mvt t),?_,(afc n).1.sublist List.filter_sublist⟩;unfold qm;rw[List.filter_flatMap,List.map_flatMap]
 congr 1
 funext r;unfold ab1;rw[show c4 r=(c4t r).map mvt from rfl,List.filter_map];rfl
theorem agF{M T:PyData}{n:Nat}(p:PyData->Bool)(hn:n<=4):∃kss,Jo ((qm M T n).filter p)=some kss/\kss.Nodup/\kss.length<=18/\kss.length=((qm M T n).filter p).length:=by
 obtain⟨ts,e,nd⟩:=ahY M T n;have hl:=zA M T n;have hf:=List.length_filter_le p (qm M T n);rw[e,List.filter_map]at hf ⊢;refine⟨_,ZH _,?_,?_,by rw[List.length_map,List.length_map]⟩
 ·refine List.Pairwise.map ab3 (fun a b hab z=>hab (afb z)) (nd.sublist List.filter_sublist)
 ·rw[List.length_map]at hf ⊢
  rw[e]at hl;rw[List.length_map]at hf hl;omega
theorem ahZ(r:Int)(k:Bool)(c:Int):PyData.eqv (mv r k c) (mv r k c)=true:=by
 cases k<;>simp[mv,qR,PyData.eqv,PyData.eqvAll]
section
variable {u e l b:Int}
theorem aao{ps:List (Int×Int)}(hs:okS u l ps=true){r:Int}{k:Bool}{c n:Int}(hm:mv r k c∈j6 u e l b ps n):dIn true (mv r k c) (.list (j6 u e l b ps n))=some (.bool false)/\dIn false (mv r k c) (.list (j6 u e l b ps n))=some (.bool true):=by
 have h2:∀d∈j6 u e l b ps n,shl 2 d:=fun d hd=>(Q9 hs (Nat.le_refl _) (List.mem_filter.mp hd).1).2.2;have o1:okD (mv r k c)=true:=aeY (h2 _ hm) (by omega);have o2:okD (.list (j6 u e l b ps n))=true:=aeY (n:=3) (agv.mpr h2) (by omega);have an:((j6 u e l b ps n).any fun z=>PyData.eqv z (mv r k c))=true:=List.any_eq_true.mpr ⟨_,hm,ahZ r k c⟩;constructor
 ·show(if okD (mv r k c)=true/\okD (.list (j6 u e l b ps n))=true then some (PyData.bool (if true then !((j6 u e l b ps n).any fun z=>PyData.eqv z (mv r k c)) else _)) else none)=_
  rw[if_pos ⟨o1,o2⟩,an];rfl
 ·show(if okD (mv r k c)=true/\okD (.list (j6 u e l b ps n))=true then some (PyData.bool (if false=true then _ else ((j6 u e l b ps n).any fun z=>PyData.eqv z (mv r k c)))) else none)=_
  rw[if_pos ⟨o1,o2⟩,an];rfl
theorem aap(h:okN u e l b=true){ps:List (Int×Int)}(hs:okS u l ps=true){d:PyData}(hd:d∈qm (jl u e l b) (jn ps) ps.length):∃(r:Nat) (k:Bool) (c:Int) (qs:List (Int×Int)),d=mv (r:Int) k c/\(c=1∨c=-1)/\Th u e l b ps d (some qs)/\okS u l qs=true/\qs.length=ps.length/\
  (∃f j:Nat,f<=ps.length-1/\(val b e qs-val b e ps=c*e*b ^ f∨val b e qs-val b e ps=c*b ^ f))/\Th u e l b qs (mv (r:Int) k (0-c)) (some ps)/\mv (r:Int) k (0-c)∈qm (jl u e l b) (jn qs) qs.length:=by
 obtain⟨a1,a2,a3,a4,a5,a6,a7,a8,a9,a10⟩:=qh h;obtain⟨r,k,c,p,hp,hc,ho,rfl⟩:=(ZG hs).mp hd;obtain⟨h1,h4,hall⟩:=jU hs;have hr:r<ps.length:=(List.getElem?_eq_some_iff.mp hp).1;have hpok:okP u l p=true:=List.all_eq_true.mp hall p (List.mem_of_getElem? hp);have t:=JY (e:=e) (b:=b) hs hp k hc;rw[if_pos ho]at t;have ok:=(t.bm _ rfl).2;have hq:(ps.set r (shP p k c))[r]?=some (shP p k c):=by rw[List.getElem?_set_self hr]
 have back:shP (shP p k c) k (0-c)=p:=by rw[agC,show c+(0-c)=0 by omega,ae6]
 have hc':(0-c)=1∨(0-c)=-1:=by omega
 have t':=JY (e:=e) (b:=b) ok hq k hc';rw[back,if_pos hpok,List.set_set,ae5 hp]at t';have vs:=acL b e ps r p (shP p k c) hp;refine⟨r,k,c,_,rfl,hc,t,ok,by rw[List.length_set],⟨ps.length-1-r,0,by omega,?_⟩,t',(ZG ok).mpr ⟨r,k,0-c,shP p k c,hq,hc',by rw[back];exact hpok,rfl⟩⟩;rw[vs];unfold wt shP;cases k with
 | true=>
  right
  simp only[zzM];rw[show p.1*e+(p.2+c)-(p.1*e+p.2)=c by omega];omega
 | false=>
  left
  simp only[zzL,zzN];rw[show(p.1+c)*e+p.2-(p.1*e+p.2)=c*e by rw[Int.add_mul];omega];omega
end
section
variable {u e l b:Int}
theorem afd(H:zc=true)(h:okN u e l b=true){ps:List (Int×Int)}(hs:okS u l ps=true):aa8 [jl u e l b,jn ps]=some (.int (val b e ps % (b-1))):=by
 obtain⟨a1,a2,a3,a4,a5,a6,a7,a8,a9,a10⟩:=qh h;obtain⟨h1,h4,hall⟩:=jU hs;have c1:=(abi H h hs).1;have c2:=aak (e:=e) h h4 hall;have md:ac6 (.int (val b e ps)) (.int (b-1))=some (.int (val b e ps % (b-1))):=QC (by omega);have sb:ZR (.int b) (.int 1)=some (.int (b-1)):=rfl;refine qi rfl ?_;show acE.1 [some (jl u e l b),some (jn ps)]=_;generalize val b e ps=V at*;dsimp? [acE,c1,c2,ix3,sb,md]
theorem acM(h:okN u e l b=true){ps:List (Int×Int)}(hs:okS u l ps=true)(h3:ps.length<=3):0<=val b e ps/\val b e ps<=8190:=by
 obtain⟨h1,h4,hall⟩:=jU hs;refine⟨ahP h hall,?_⟩;have:=ahT h hall
 have:(16:Int) ^ ps.length<=4096:=by
  have hc:ps.length=1∨ps.length=2∨ps.length=3:=by omega
  rcases hc with z | z | z<;>rw[z]<;>decide
 omega
theorem acN(h:okN u e l b=true){x c:Int}{f:Nat}(hc:c=1∨c=-1)(hd:x=c*e*b ^ f∨x=c*b ^ f):x≠0/\x<=e*b ^ f:=by
 obtain⟨a1,a2,a3,a4,a5,a6,a7,a8,a9,a10⟩:=qh h;have hp:0<b ^ f:=zd (by omega) f
 have he:b ^ f<=e*b ^ f:=by
  have:=Int.mul_le_mul_of_nonneg_right (show 1<=e by omega) (show 0<=b ^ f by omega);omega
 rcases hc with rfl|rfl
 ·rcases hd with rfl|rfl
  ·rw[Int.one_mul];omega
  ·rw[Int.one_mul];omega
 ·rcases hd with rfl|rfl
  ·rw[Int.neg_mul,Int.one_mul,Int.neg_mul];omega
  ·rw[Int.neg_mul,Int.one_mul];omega
theorem Za{ps qs:List (Int×Int)}{d:PyData}(hd:d∈qm (jl u e l b) (jn ps) ps.length)(t:Th u e l b ps d (some qs)):d∈j6 u e l b ps (val b e qs):=
 List.mem_filter.mpr ⟨hd,by rw[aan t];simp⟩
theorem abm(h:okN u e l b=true){ps:List (Int×Int)}(hs:okS u l ps=true){x:Int}(hx:x=0∨99*e*b ^ ps.length<=x):j6 u e l b ps (val b e ps+x)=[]:=by
 obtain⟨a1,a2,a3,a4,a5,a6,a7,a8,a9,a10⟩:=qh h;unfold j6;rw[List.filter_eq_nil_iff];intro d hd z;obtain⟨r,k,c,qs,e1,hc,t,ok,hl,⟨f,_,hf,hdif⟩,_⟩:=aap h hs hd;rw[aan t]at z;have z:val b e qs=val b e ps+x:=by simpa using z
 obtain⟨n0,n1⟩:=acN h hc hdif;rcases hx with rfl | hx
 ·omega
 ·have hle:b ^ f<=b ^ ps.length:=by
   have:b ^ ps.length=b ^ f*b ^ (ps.length-f):=by rw[←Int.pow_add];congr 1;omega
   rw[this];have hp:=zd (show 0<b by omega) f;have hq:=zd (show 0<b by omega) (ps.length-f);have:=Int.mul_le_mul_of_nonneg_left (show 1<=b ^ (ps.length-f) by omega) (show 0<=b ^ f by omega);omega
  have h2:=Int.mul_le_mul_of_nonneg_left hle (show 0<=e by omega);have hp:=zd (show 0<b by omega) ps.length;have h3:=Int.mul_le_mul_of_nonneg_right (show 1<=e by omega) (show 0<=b ^ ps.length by omega);rw[Int.mul_assoc]at hx;generalize e*b ^ ps.length=Y at*;generalize e*b ^ f=Z at*;omega
theorem zX(H:zc=true)(h:okN u e l b=true){ps:List (Int×Int)}(hs:okS u l ps=true){n:Int}(h0:0<=n)(hn:n<=99999):qF [jl u e l b,jn ps,.int n]=some (.list (j6 u e l b ps n)):=ady H h hs h0 hn
theorem adA(x y m:Int):decide (x % m=y % m)=decide ((x-y) % m=0):=by
 apply decide_eq_decide.mpr;exact Int.emod_eq_emod_iff_emod_sub_eq_zero
end
theorem kn3:qF [.tuple [.int 1,.int 5,.int 4,.int 10],.tuple [.tuple [.int 1,.int 0],.tuple [.int 0,.int 3]],.int 3]=some (.list [.tuple [.int 0,.str "upper",.int (-1)]]):=by kernel_rfl
theorem ajG:qF [.tuple [.int 1,.int 5,.int 4,.int 10],.tuple [.tuple [.int 1,.int 0],.tuple [.int 0,.int 3]],.int 58]=some (.list [.tuple [.int 1,.str "upper",.int 1]]):=by kernel_rfl
theorem ajH:dNe (.list [.tuple [.int 0,.str "upper",.int (-1)]]) (.list [.tuple [.int 0,.str "upper",.int (-1)]])=some (.bool false):=by kernel_rfl
theorem aiZ:dNe (.list [.tuple [.int 1,.str "upper",.int 1]]) (.list [.tuple [.int 1,.str "upper",.int 1]])=some (.bool false):=by kernel_rfl
theorem afe{S m T Q W R K R2 K2:PyData}{n c c2 far0 far ee v8 nr nm lenT:Int}{rows F more RR:LP}{x10 x11 x12 x14:OP}{B:Bool}{kss:List (List Key)}{LF:Int}{d20 d21:Int}{FW:LP}
  (g0:Jh [S,.int 0]=some m) (g1:agk [S,.int 10,m,.int 3]=some T) (g2:qZ [m,T]=some (.int n)) (g3:qv [m,T]=some (.list rows)) (ln:qJ [.list rows]=some (.int nr)) (g4:zH [S,.int 20,.int nr]=some (.int d20)) (ix:dIx (.list rows) (.int d20)=some (.tuple [R,K,.int c]))
  (mvd:qD [m,T,.tuple [R,K,.int c]]=some Q) (sl:qF [m,Q,.int n]=some (.list F)) (sb:ZR (.int 0) (.int c)=some (.int (0-c))) (in1:dIn true (.tuple [R,K,.int (0-c)]) (.list F)=some (.bool false))
  (tk:Jo F=some kss) (nd:kss.Nodup/\kss.length<=18) (lF:qJ [.list F]=some (.int LF)) (neL:dNe (.int (kss.length:Int)) (.int LF)=some (.bool false)) (sl0:qF [m,T,.int n]=some (.list [])) (nil0:dNe (.list []) (.list [])=some (.bool false))
  (fF:few F=true) (cp:jN (jZ 0) (tst (op2 dNe (jH qZ (jp (lkp 2) (jp (jH qD (jp (lkp 2) (jp (lkp 3) (jp (lkp 0) jE)))) jE))) (lkp 1))) (lkp 0) F [none,some (.int n),some m,some Q]=some [])
  (lp1:jD (jZ 10) Q6.1 rows [some S,some m,some T,some (.int n),some (.list rows),some R,some K,some (.int c),some Q,some (.list F),none,none,none,none,none,none,none,none,none,none]=some (.nx [some S,some m,some T,some (.int n),some (.list rows),some R,some K,some (.int c),some Q,some (.list F),x10,x11,x12,none,none,none,none,none,none,none]))
  (i1:dIx m (.int 1)=some (.int ee)) (m99:Jl (.int 99) (.int ee)=some (.int far0)) (lT:qJ [T]=some (.int lenT)) (rg:Qq [.int lenT]=some RR)
  (lp2:jD (jZ 14) abb.1 RR [some S,some m,some T,some (.int n),some (.list rows),some R,some K,some (.int c),some Q,some (.list F),x10,x11,x12,some (.int far0),none,none,none,none,none,none]=some (.nx [some S,some m,some T,some (.int n),some (.list rows),some R,some K,some (.int c),some Q,some (.list F),x10,x11,x12,some (.int far),x14,none,none,none,none,none]))
  (ad:Ju (.int n) (.int far)=some (.int (n+far))) (lt:zN (fun i j=>decide (i<j)) (.int (n+far)) (.int 99999)=some (.bool B)) (slf:B=true->qF [m,T,.int (n+far)]=some (.list []))
  (g5:qv [m,Q]=some (.list more)) (ln2:qJ [.list more]=some (.int nm)) (g6:zH [S,.int 21,.int nm]=some (.int d21)) (ix2:dIx (.list more) (.int d21)=some (.tuple [R2,K2,.int c2])) (mv2:qD [m,Q,.tuple [R2,K2,.int c2]]=some W)
  (j0:dIx (.tuple [R2,K2,.int c2]) (.int 0)=some R2) (j1:dIx (.tuple [R2,K2,.int c2]) (.int 1)=some K2) (j2:dIx (.tuple [R2,K2,.int c2]) (.int 2)=some (.int c2)) (sb2:ZR (.int 0) (.int c2)=some (.int (0-c2)))
  (rn:aeG [m,W,.list [.tuple [R2,K2,.int (0-c2)],.tuple [R,K,.int (0-c)]]]=some T) (eqT:dEq T T=some (.bool true)) (gv8:qZ [m,Q]=some (.int v8)) (slw:qF [m,W,.int v8]=some (.list FW)) (in2:dIn false (.tuple [R2,K2,.int (0-c2)]) (.list FW)=some (.bool true)):
  ago.1 [some S,none,none,none,none,none,none,none,none,none,none,none,none,none,none,none,none,none,none,none]=some (.rt (.bool true)):=by
 simp only[ago];refine(ju (ρ1:=[some S,some m,none,none,none,none,none,none,none,none,none,none,none,none,none,none,none,none,none,none]) ?_).trans ?_
 ·dsimp? [g0]
 refine(ju (ρ1:=[some S,some m,some T,none,none,none,none,none,none,none,none,none,none,none,none,none,none,none,none,none]) ?_).trans ?_
 ·dsimp? [g1]
 refine(ju (ρ1:=[some S,some m,some T,some (.int n),none,none,none,none,none,none,none,none,none,none,none,none,none,none,none,none]) ?_).trans ?_
 ·dsimp? [g2]
 refine(ju (ρ1:=[some S,some m,some T,some (.int n),some (.list rows),none,none,none,none,none,none,none,none,none,none,none,none,none,none,none]) ?_).trans ?_
 ·dsimp? [g3]
 refine(ju (ρ1:=[some S,some m,some T,some (.int n),some (.list rows),some R,some K,some (.int c),none,none,none,none,none,none,none,none,none,none,none,none]) ?_).trans ?_
 ·have e1:op2 dIx (lkp 4) (jH zH (jp (lkp 0) (jp (cst (.int 20)) (jp (jH qJ (jp (lkp 4) jE)) jE)))) [some S,some m,some T,some (.int n),some (.list rows),none,none,none,none,none,none,none,none,none,none,none,none,none,none,none]=some (.tuple [R,K,.int c]):=by dsimp? [ln,g4,ix]
  unfold qW;rw[e1];rfl
 refine(ju (ρ1:=[some S,some m,some T,some (.int n),some (.list rows),some R,some K,some (.int c),some Q,none,none,none,none,none,none,none,none,none,none,none]) ?_).trans ?_
 ·dsimp? [mvd,fw3]
 refine(ju (ρ1:=[some S,some m,some T,some (.int n),some (.list rows),some R,some K,some (.int c),some Q,some (.list F),none,none,none,none,none,none,none,none,none,none]) ?_).trans ?_
 ·dsimp? [sl]
 refine(ju (ρ1:=[some S,some m,some T,some (.int n),some (.list rows),some R,some K,some (.int c),some Q,some (.list F),none,none,none,none,none,none,none,none,none,none]) ?_).trans ?_
 ·refine adz (afa ?_ (afa ?_ ?_))
  ·dsimp? [sb,fw3,in1]
  ·have e9:lsD (jp (lkp 9) jE) [some S,some m,some T,some (.int n),some (.list rows),some R,some K,some (.int c),some Q,some (.list F),none,none,none,none,none,none,none,none,none,none]=some (.int (kss.length:Int)):=by
    show(Jo F).bind _=_;rw[tk,zzD,if_pos nd]
   exact ae8 (ae7 e9 (ahV rfl lF) neL)
  ·have fn:=aaj
   dsimp? [sl0,nil0,fn]
 refine(ju (ρ1:=[some S,some m,some T,some (.int n),some (.list rows),some R,some K,some (.int c),some Q,some (.list F),none,none,none,none,none,none,none,none,none,none]) ?_).trans ?_
 ·refine adz (ae8 (ae7 (x:= .list []) (y:= .list []) (agD (ds:=F) ?_ fF cp) rfl nil0))
  have it:items (.list F)=some F:=rfl;dsimp? [itS,it]
 refine(ju (ρ1:=[some S,some m,some T,some (.int n),some (.list rows),some R,some K,some (.int c),some Q,some (.list F),x10,x11,x12,none,none,none,none,none,none,none]) ?_).trans ?_
 ·refine ae9 (ds:=rows) ?_ lp1
  have it:items (.list rows)=some rows:=rfl;dsimp? [itS,it]
 refine(ju (ρ1:=[some S,some m,some T,some (.int n),some (.list rows),some R,some K,some (.int c),some Q,some (.list F),x10,x11,x12,some (.int far0),none,none,none,none,none,none]) ?_).trans ?_
 ·dsimp? [i1,m99]
 refine(ju (ρ1:=[some S,some m,some T,some (.int n),some (.list rows),some R,some K,some (.int c),some Q,some (.list F),x10,x11,x12,some (.int far),x14,none,none,none,none,none]) ?_).trans ?_
 ·refine ae9 (ds:=RR) ?_ lp2
  dsimp? [lT,rg]
 refine(ju (ρ1:=[some S,some m,some T,some (.int n),some (.list rows),some R,some K,some (.int c),some Q,some (.list F),x10,x11,x12,some (.int far),x14,none,none,none,none,none]) ?_).trans ?_
 ·refine adz ?_
  cases B with
  |false=>dsimp? [ad,lt]
  | true=>
   have slf:=slf rfl;have fn:=aaj;dsimp? [ad,lt,slf,nil0,fn]
 refine(ju (ρ1:=[some S,some m,some T,some (.int n),some (.list rows),some R,some K,some (.int c),some Q,some (.list F),x10,x11,x12,some (.int far),x14,some (.list more),none,none,none,none]) ?_).trans ?_
 ·dsimp? [g5]
 refine(ju (ρ1:=[some S,some m,some T,some (.int n),some (.list rows),some R,some K,some (.int c),some Q,some (.list F),x10,x11,x12,some (.int far),x14,some (.list more),some (.tuple [R2,K2,.int c2]),none,none,none]) ?_).trans ?_
 ·dsimp? [ln2,g6,ix2]
 refine(ju (ρ1:=[some S,some m,some T,some (.int n),some (.list rows),some R,some K,some (.int c),some Q,some (.list F),x10,x11,x12,some (.int far),x14,some (.list more),some (.tuple [R2,K2,.int c2]),some W,none,none]) ?_).trans ?_
 ·dsimp? [mv2]
 refine(ju (ρ1:=[some S,some m,some T,some (.int n),some (.list rows),some R,some K,some (.int c),some Q,some (.list F),x10,x11,x12,some (.int far),x14,some (.list more),some (.tuple [R2,K2,.int c2]),some W,some (.list [.tuple [R2,K2,.int (0-c2)],.tuple [R,K,.int (0-c)]]),none]) ?_).trans ?_
 ·dsimp? [j0,j1,j2,sb2,sb,fw3,fw2]
 refine(ju (ρ1:=[some S,some m,some T,some (.int n),some (.list rows),some R,some K,some (.int c),some Q,some (.list F),x10,x11,x12,some (.int far),x14,some (.list more),some (.tuple [R2,K2,.int c2]),some W,some (.list [.tuple [R2,K2,.int (0-c2)],.tuple [R,K,.int (0-c)]]),some (.tuple [.tuple [.int 1,.int 0],.tuple [.int 0,.int 3]])]) ?_).trans ?_
 ·rfl
 refine(ju (ρ1:=[some S,some m,some T,some (.int n),some (.list rows),some R,some K,some (.int c),some Q,some (.list F),x10,x11,x12,some (.int far),x14,some (.list more),some (.tuple [R2,K2,.int c2]),some W,some (.list [.tuple [R2,K2,.int (0-c2)],.tuple [R,K,.int (0-c)]]),some (.tuple [.tuple [.int 1,.int 0],.tuple [.int 0,.int 3]])]) ?_).trans ?_
 ·refine adz ?_
  have k3:=kn3;have k58:=ajG;have n3:=ajH;have n58:=aiZ;have ng:afW (.int 1)=some (.int (-1)):=rfl;dsimp? [k3,k58,n3,n58,ng,fw1,fw3]
 refine ahW (agE (c:=true) (d:=true) ?_ fun _=>?_)
 ·dsimp? [rn,eqT]
 ·have hx:dIx (.list [.tuple [R2,K2,.int (0-c2)],.tuple [R,K,.int (0-c)]]) (.int 0)=some (.tuple [R2,K2,.int (0-c2)]):=rfl
  dsimp? [hx,gv8,slw,in2]
theorem ai0{S m T R K Q d Qd:PyData}{rows F G:LP}{n c v a a' b z:Int}{sm g:Bool}{x11 x12:OP}(mvd:qD [m,T,d]=some Qd)(gv:qZ [m,Qd]=some (.int v))(sl:qF [m,T,.int v]=some (.list G))(in1:dIn true d (.list G)=some (.bool false))(ne:dEq (.int v) (.int n)=some (.bool false))
  (r1:aa8 [m,Qd]=some (.int a)) (r2:aa8 [m,T]=some (.int a')) (dq:dEq (.int a) (.int a')=some (.bool sm)) (i3:dIx m (.int 3)=some (.int b)) (gt:zN (fun i j=>decide (i>j)) (.int b) (.int 2)=some (.bool g)) (sb1:ZR (.int v) (.int n)=some (.int (v-n))) (sb2:ZR (.int b) (.int 1)=some (.int (b-1))) (md:ac6 (.int (v-n)) (.int (b-1))=some (.int z)) (dz:dEq (.int z) (.int 0)=some (.bool sm)) (nb:dNe (.bool sm) (.bool sm)=some (.bool false)):
  Q6.1 [some S,some m,some T,some (.int n),some (.list rows),some R,some K,some (.int c),some Q,some (.list F),some d,x11,x12,none,none,none,none,none,none,none]=some (.nx [some S,some m,some T,some (.int n),some (.list rows),some R,some K,some (.int c),some Q,some (.list F),some d,some (.int v),some (.bool sm),none,none,none,none,none,none,none]):=by
 simp only[Q6];refine(ju (ρ1:=[some S,some m,some T,some (.int n),some (.list rows),some R,some K,some (.int c),some Q,some (.list F),some d,some (.int v),x12,none,none,none,none,none,none,none]) ?_).trans ?_
 ·dsimp? [mvd,gv]
 refine(ju (ρ1:=[some S,some m,some T,some (.int n),some (.list rows),some R,some K,some (.int c),some Q,some (.list F),some d,some (.int v),x12,none,none,none,none,none,none,none]) (adz (afa ?_ ?_))).trans ?_
 ·dsimp? [sl,in1]
 ·dsimp? [ne]
 refine(ju (ρ1:=[some S,some m,some T,some (.int n),some (.list rows),some R,some K,some (.int c),some Q,some (.list F),some d,some (.int v),some (.bool sm),none,none,none,none,none,none,none]) ?_).trans ?_
 ·dsimp? [mvd,r1,r2,dq]
 refine(ju (ρ1:=[some S,some m,some T,some (.int n),some (.list rows),some R,some K,some (.int c),some Q,some (.list F),some d,some (.int v),some (.bool sm),none,none,none,none,none,none,none]) (adz ?_)).trans rfl;cases g with
 |false=>dsimp? [i3,gt]
 |true=>dsimp? [i3,gt,sb1,sb2,md,dz,nb]
theorem acO{S m T R K Q:PyData}{rows F:LP}{n c:Int}:∀(ds:LP) (x10 x11 x12:OP),(∀d∈ds,∀x11 x12:OP,∃y11 y12,Q6.1 [some S,some m,some T,some (.int n),some (.list rows),some R,some K,some (.int c),some Q,some (.list F),some d,x11,x12,none,none,none,none,none,none,none]=some (.nx [some S,some m,some T,some (.int n),some (.list rows),some R,some K,some (.int c),some Q,some (.list F),some d,y11,y12,none,none,none,none,none,none,none]))->
  ∃y10 y11 y12,jD (jZ 10) Q6.1 ds [some S,some m,some T,some (.int n),some (.list rows),some R,some K,some (.int c),some Q,some (.list F),x10,x11,x12,none,none,none,none,none,none,none]=some (.nx [some S,some m,some T,some (.int n),some (.list rows),some R,some K,some (.int c),some Q,some (.list F),y10,y11,y12,none,none,none,none,none,none,none])
 | [],x10,x11,x12,_=>⟨x10,x11,x12,rfl⟩
 | d::ds,x10,x11,x12,h=>by
  obtain⟨y11,y12,s⟩:=h d List.mem_cons_self x11 x12;obtain⟨z10,z11,z12,ih⟩:=acO ds (some d) y11 y12 fun q hq=>h q (List.mem_cons_of_mem _ hq);refine⟨z10,z11,z12,?_⟩;rw[jD,show jZ 10 d [some S,some m,some T,some (.int n),some (.list rows),some R,some K,some (.int c),some Q,some (.list F),x10,x11,x12,none,none,none,none,none,none,none]=some [some S,some m,some T,some (.int n),some (.list rows),some R,some K,some (.int c),some Q,some (.list F),some d,x11,x12,none,none,none,none,none,none,none] from rfl,zzD,s,zzD];exact ih
theorem acP{S m T R K Q:PyData}{rows F:LP}{n c b:Int}{x10 x11 x12:OP}(i3:dIx m (.int 3)=some (.int b))(b0:2<=b)(b1:b<=16):∀(ds:LP) (x:Int) (y:OP),0<=x->x*16 ^ ds.length<1000000000->
  ∃y',jD (jZ 14) abb.1 ds [some S,some m,some T,some (.int n),some (.list rows),some R,some K,some (.int c),some Q,some (.list F),x10,x11,x12,some (.int x),y,none,none,none,none,none]=some (.nx [some S,some m,some T,some (.int n),some (.list rows),some R,some K,some (.int c),some Q,some (.list F),x10,x11,x12,some (.int (x*b ^ ds.length)),y',none,none,none,none,none])
 | [],x,y,_,_=>⟨y,by rw[show x*b ^ ([]:LP).length=x by simp];rfl⟩
 | d::ds,x,y,h0,h1=>by
  rw[List.length_cons]at h1;have hp:(1:Int)<=16 ^ ds.length:=zd (by omega) ds.length;have e16:x*16 ^ (ds.length+1)=x*16*16 ^ ds.length:=by rw[Int.pow_succ,Int.mul_comm (16 ^ ds.length) 16,Int.mul_assoc]
  rw[e16]at h1
  have hx16:x*16<1000000000:=by
   have:=Int.mul_le_mul_of_nonneg_left hp (show 0<=x*16 by omega);omega
  have hxb:x*b<=x*16:=Int.mul_le_mul_of_nonneg_left b1 h0;have hx0:0<=x*b:=Int.mul_nonneg h0 (by omega);have ml:Jl (.int x) (.int b)=some (.int (x*b)):=j4 ⟨by omega,by omega⟩
  have s:abb.1 [some S,some m,some T,some (.int n),some (.list rows),some R,some K,some (.int c),some Q,some (.list F),x10,x11,x12,some (.int x),some d,none,none,none,none,none]=some (.nx [some S,some m,some T,some (.int n),some (.list rows),some R,some K,some (.int c),some Q,some (.list F),x10,x11,x12,some (.int (x*b)),some d,none,none,none,none,none]):=by
   dsimp? [abb,i3,ml]
  obtain⟨y',ih⟩:=acP (S:=S) (T:=T) (R:=R) (K:=K) (Q:=Q) (rows:=rows) (F:=F) (n:=n) (c:=c) (x10:=x10) (x11:=x11) (x12:=x12) i3 b0 b1 ds (x*b) (some d) hx0 (by
   have:=Int.mul_le_mul_of_nonneg_right hxb (show 0<=(16:Int) ^ ds.length by omega);omega)
  refine⟨y',?_⟩;rw[jD,show jZ 14 d [some S,some m,some T,some (.int n),some (.list rows),some R,some K,some (.int c),some Q,some (.list F),x10,x11,x12,some (.int x),y,none,none,none,none,none]=some [some S,some m,some T,some (.int n),some (.list rows),some R,some K,some (.int c),some Q,some (.list F),x10,x11,x12,some (.int x),some d,none,none,none,none,none] from rfl,zzD,s,zzD];have e2:x*b ^ (d::ds).length=x*b*b ^ ds.length:=by rw[List.length_cons,Int.pow_succ,Int.mul_comm (b ^ ds.length) b,Int.mul_assoc]
  rw[e2];exact ih
section
variable {u e l b:Int}
theorem adB(H:zc=true)(h:okN u e l b=true){qs:List (Int×Int)}(hs:okS u l qs=true){n:Int}:jN (jZ 0) (tst (op2 dNe (jH qZ (jp (lkp 2) (jp (jH qD (jp (lkp 2) (jp (lkp 3) (jp (lkp 0) jE)))) jE))) (lkp 1))) (lkp 0) (j6 u e l b qs n) [none,some (.int n),some (jl u e l b),some (jn qs)]=some []:=by
 have key:∀(ds:LP) (x:OP),(∀d∈ds,d∈j6 u e l b qs n)->jN (jZ 0) (tst (op2 dNe (jH qZ (jp (lkp 2) (jp (jH qD (jp (lkp 2) (jp (lkp 3) (jp (lkp 0) jE)))) jE))) (lkp 1))) (lkp 0) ds [x,some (.int n),some (jl u e l b),some (jn qs)]=some []:=by
  intro ds
  induction ds with
  |nil=>intro x _;rfl
  | cons d ds ih=>
   intro x hd;obtain⟨m1,m2⟩:=List.mem_filter.mp (hd d List.mem_cons_self);obtain⟨⟨rs,t⟩,_⟩:=Q9 hs (Nat.le_refl _) m1;rw[aan t]at m2;have m2:val b e rs=n:=by simpa using m2
   have g1:=zW H h hs t;have g2:=Jk H h (t.bm _ rfl).2;rw[m2]at g2;have ne:dNe (.int n) (.int n)=some (.bool false):=by rw[aeV];simp
   have ih:=ih (some d) fun q hq=>hd q (List.mem_cons_of_mem _ hq);generalize jn rs=Z at*;generalize jn qs=Y at*;generalize jl u e l b=M at*;rw[jN];show(Option.bind (some [some d,some (.int n),some M,some Y]) _)=_;rw[zzD]
   have tt:tst (op2 dNe (jH qZ (jp (lkp 2) (jp (jH qD (jp (lkp 2) (jp (lkp 3) (jp (lkp 0) jE)))) jE))) (lkp 1)) [some d,some (.int n),some M,some Y]=some false:=by
    dsimp? [g1,g2,ne]
   rw[tt,zzD,if_neg Bool.false_ne_true];exact ih
 exact key _ none fun d hd=>hd
theorem ah0(H:zc=true)(h:okN u e l b=true){ps:List (Int×Int)}(hs:okS u l ps=true)(h3:ps.length<=3){S R K Q:PyData}{rows F:LP}{c:Int}{d:PyData}(hd:d∈qm (jl u e l b) (jn ps) ps.length)(x11 x12:OP):
  ∃y11 y12,Q6.1 [some S,some (jl u e l b),some (jn ps),some (.int (val b e ps)),some (.list rows),some R,some K,some (.int c),some Q,some (.list F),some d,x11,x12,none,none,none,none,none,none,none]=some (.nx [some S,some (jl u e l b),some (jn ps),some (.int (val b e ps)),some (.list rows),some R,some K,some (.int c),some Q,some (.list F),some d,y11,y12,none,none,none,none,none,none,none]):=by
 obtain⟨a1,a2,a3,a4,a5,a6,a7,a8,a9,a10⟩:=qh h;obtain⟨r,k,c',qs,e1,hc,t,ok,hl,⟨f,_,hf,hdif⟩,_⟩:=aap h hs hd;have v0:=acM h hs h3;have v1:=acM h ok (by omega);obtain⟨n0,_⟩:=acN h hc hdif;have hm:=Za hd t;subst e1;refine⟨_,_,ai0 (zW H h hs t) (Jk H h ok) (zX H h hs v1.1 (by omega)) (aao hs hm).1 ?_ (afd H h ok) (afd H h hs) (QD _ _) (ix3 u e l b) rfl rfl rfl (QC (by omega)) ?_ (by cases decide (val b e qs % (b-1)=val b e ps % (b-1))<;>kernel_rfl)⟩
 ·rw[QD,decide_eq_false (by omega)]
 ·rw[QD,adA]
theorem adC(H:zc=true)(ns:List Int)(hn:ns.length<1000000):agp [scr ns]=some (.bool true):=by
 obtain⟨u,e,l,b,g0,om⟩:=abZ ns hn 0 (by omega);have h:=agq om;obtain⟨a1,a2,a3,a4,a5,a6,a7,a8,a9,a10⟩:=qh h;obtain⟨ps,g1,hs,hl3⟩:=aeU hn h (at_:=10) (mo:=3) (by omega) (by omega) (by omega);have h3:ps.length<=3:=by omega
 have v0:=acM h hs h3;have ml:=zA (jl u e l b) (jn ps) ps.length;have mn:=acJ h hs;obtain⟨d20,g4,q0,q1⟩:=qe ns hn 20 ((qm (jl u e l b) (jn ps) ps.length).length:Int) (by omega) (by omega);obtain⟨d,ix,hd⟩:=aeZ (ds:=qm (jl u e l b) (jn ps) ps.length) q0 q1 (by omega);obtain⟨r,k,c,qs,e1,hc,t,ok,hlq,⟨f,_,hf,hdif⟩,tb,hmb⟩:=aap h hs hd;subst e1;have q3:qs.length<=3:=by omega
 have vq:=acM h ok q3;have ml2:=zA (jl u e l b) (jn qs) qs.length;have mn2:=acJ h ok;obtain⟨d21,g6,w0,w1⟩:=qe ns hn 21 ((qm (jl u e l b) (jn qs) qs.length).length:Int) (by omega) (by omega);obtain⟨d2,ix2,hd2⟩:=aeZ (ds:=qm (jl u e l b) (jn qs) qs.length) w0 w1 (by omega);obtain⟨r2,k2,c2,ws,e2,hc2,t2,ok2,hlw,_,tb2,hmb2⟩:=aap h ok hd2;subst e2;have inb:=Za hmb tb;have inb2:=Za hmb2 tb2;obtain⟨kss,kk1,kk2,kk3,kk4⟩:=agF (M:=jl u e l b) (T:=jn qs) (n:=qs.length) (fun d=>decide (nuB b e qs d=val b e ps)) (by omega)
 have fl:(j6 u e l b qs (val b e ps)).length<=12:=by
  have:=List.length_filter_le (fun d=>decide (nuB b e qs d=val b e ps)) (qm (jl u e l b) (jn qs) qs.length);unfold j6;omega
 have s0:=zX H h hs v0.1 (by omega:val b e ps<=99999);have z0:=abm h hs (x:=0) (.inl rfl);rw[Int.add_zero]at z0;rw[z0]at s0;obtain⟨y10,y11,y12,lp1⟩:=acO (S:=scr ns) (m:=jl u e l b) (T:=jn ps) (R:= .int (r:Int)) (K:=qR k) (Q:=jn qs) (rows:=qm (jl u e l b) (jn ps) ps.length) (F:=j6 u e l b qs (val b e ps)) (n:=val b e ps) (c:=c) (qm (jl u e l b) (jn ps) ps.length) none none none fun d hd x11 x12=>ah0 H h hs h3 hd x11 x12;have m99:Jl (.int 99) (.int e)=some (.int (99*e)):=j4 ⟨by omega,by omega⟩
 obtain⟨y14,lp2⟩:=acP (S:=scr ns) (m:=jl u e l b) (T:=jn ps) (R:= .int (r:Int)) (K:=qR k) (Q:=jn qs) (rows:=qm (jl u e l b) (jn ps) ps.length) (F:=j6 u e l b qs (val b e ps)) (n:=val b e ps) (c:=c) (x10:=y10) (x11:=y11) (x12:=y12) (ix3 u e l b) a8 a9 (zr 0 ps.length) (99*e) none (by omega) (by
  rw [JW];have hc:ps.length=1 ∨ ps.length=2 ∨ ps.length=3:=by have:=(jU hs).1; omega
  rcases hc with z | z | z <;> rw [z]
  ·show 99*e*16<_; omega
  ·show 99*e*256<_; omega
  ·show 99*e*4096<_; omega)
 rw[JW]at lp2;have pth:Path u e l b ws [mv (r2:Int) k2 (0-c2),mv (r:Int) k (0-c)] ps:= .cons tb2 (.cons tb (.nil _))
 have slf:decide (val b e ps+99*e*b ^ ps.length<99999)=true->qF [jl u e l b,jn ps,.int (val b e ps+99*e*b ^ ps.length)]=some (.list []):=fun z=>by
  have z:=of_decide_eq_true z;have hp:=zd (show 0<b by omega) ps.length;have h0:0<=99*e*b ^ ps.length:=Int.mul_nonneg (by omega) (by omega);rw[zX H h hs (by omega) (by omega),abm h hs (.inr (Int.le_refl _))]
 refine qi rfl ?_;have ln:qJ [.list (qm (jl u e l b) (jn ps) ps.length)]=some (.int ((qm (jl u e l b) (jn ps) ps.length).length:Int)):=rfl;have ln2:qJ [.list (qm (jl u e l b) (jn qs) qs.length)]=some (.int ((qm (jl u e l b) (jn qs) qs.length).length:Int)):=rfl;have lF:qJ [.list (j6 u e l b qs (val b e ps))]=some (.int ((j6 u e l b qs (val b e ps)).length:Int)):=rfl
 have neL:dNe (.int (kss.length:Int)) (.int ((j6 u e l b qs (val b e ps)).length:Int))=some (.bool false):=by
  have:kss.length=(j6 u e l b qs (val b e ps)).length:=kk4;rw[this,aeV];simp
 have lT:qJ [jn ps]=some (.int (ps.length:Int)):=by
  show some (PyData.int ((ps.map pr).length:Int))=_;rw[List.length_map]
 have nil0:dNe (.list []) (.list [])=some (.bool false):=by kernel_rfl
 have eqT:dEq (jn ps) (jn ps)=some (.bool true):=by rw[agr];simp
 have fF:few (j6 u e l b qs (val b e ps))=true:=zJ (by omega)
 exact afe g0 g1 (Jk H h hs) (zK H h hs) ln g4 ix (zW H h hs t) (zX H h ok v0.1 (by omega)) rfl (aao ok inb).1 kk1 ⟨kk2,kk3⟩ lF neL s0 nil0 fF (adB H h ok) lp1 (ix1 u e l b) m99 lT (ahR (by omega)) lp2 rfl rfl slf
  (zK H h ok) ln2 g6 ix2 (zW H h ok t2) rfl rfl rfl rfl (agB H h ok2 pth) eqT (Jk H h ok) (zX H h ok2 vq.1 (by omega)) (aao ok2 inb2).2
end
end Rods
end
section
namespace BX
open PySem L2
open PyProof.Rows hiding St
end BX
namespace Rods
open PySem L2 BX
open PyProof.Rows hiding St
structure Tops(K:Fg):Prop where
 isWhole:jW K "is_whole" JN
 rodWorth:jW K "rod_worth" Je
 allRods:jW K "all_rods" JO
 hasAll:jW K "has_all_digits" Jf
 isManner:jW K "is_manner" Jg
 check:jW K "check_manner" Z1
 chkNum:jW K "check_number" qQ
 num:jW K "number_on" qU
 isRod:jW K "is_rod" Z5
 isSet:jW K "is_setting" qY
 chkSet:jW K "check_setting" qH
 cell:jW K "_law_cell" acB
 drawn:jW K "_law_drawn" Z8
 manner:jW K "_law_manner" Qw
 value:jW K "value" Z7
 setting:jW K "_law_setting" zz
 rest:jW K "rest" acD
 NamesBeads:jW K "names_beads" zl
 Pushed:jW K "pushed" Qy
 CanMove:jW K "can_move" JT
 BehindMove:jW K "behind_move" zn
 Moved:jW K "moved" aac
 AllMoves:jW K "all_moves" qd
 Run:jW K "run" adn
 Slips:jW K "slips" Q5
 law:jW K "law" aah
structure Consts(K:Fg)(mg:SV):Prop where
 b:Bare mg
 least:GC K mg "LEAST_PARTS" (.tuple [.int 0,.int 1,.int 0,.int 2])
 most:GC K mg "MOST_PARTS" (.tuple [.int 3,.int 16,.int 12,.int 16])
 mostRods:GC K mg "MOST_RODS" (.int 4)
 mostNumber:GC K mg "MOST_NUMBER" (.int 99999)
 decks:GC K mg "DECKS" (.tuple [.str "upper",.str "lower"])
 ways:GC K mg "WAYS" (.tuple [.int 1,.int (-1)])
theorem ab4:jt "is_whole" JN ["thing","least","most"]:=fun _ _ _ _ _ _ us hl=>by obtain⟨v0,v1,v2,rfl⟩:=aaw us hl;rfl
theorem abn:jt "rod_worth" Je ["manner","rod"]:=fun _ _ _ _ _ _ us hl=>by obtain⟨v0,v1,rfl⟩:=J1 us hl;rfl
theorem ab5:jt "all_rods" JO ["manner"]:=fun _ _ _ _ _ _ us hl=>by obtain⟨v0,rfl⟩:=acY us hl;rfl
theorem adD:jt "has_all_digits" Jf ["manner"]:=fun _ _ _ _ _ _ us hl=>by obtain⟨v0,rfl⟩:=acY us hl;rfl
theorem abo:jt "is_manner" Jg ["thing"]:=fun _ _ _ _ _ _ us hl=>by obtain⟨v0,rfl⟩:=acY us hl;rfl
theorem aff:jt "check_manner" Z1 ["thing"]:=fun _ _ _ _ _ _ us hl=>by obtain⟨v0,rfl⟩:=acY us hl;rfl
theorem adE:jt "check_number" qQ ["number"]:=fun _ _ _ _ _ _ us hl=>by obtain⟨v0,rfl⟩:=acY us hl;rfl
theorem ah1:jt "number_on" qU ["manner","setting"]:=fun _ _ _ _ _ _ us hl=>by obtain⟨v0,v1,rfl⟩:=J1 us hl;rfl
theorem afg:jt "is_rod" Z5 ["manner","thing"]:=fun _ _ _ _ _ _ us hl=>by obtain⟨v0,v1,rfl⟩:=J1 us hl;rfl
theorem afh:jt "is_setting" qY ["manner","thing"]:=fun _ _ _ _ _ _ us hl=>by obtain⟨v0,v1,rfl⟩:=J1 us hl;rfl
theorem adF:jt "check_setting" qH ["manner","thing"]:=fun _ _ _ _ _ _ us hl=>by obtain⟨v0,v1,rfl⟩:=J1 us hl;rfl
theorem agG:jt "_law_cell" acB ["_law_script","_law_k"]:=fun _ _ _ _ _ _ us hl=>by obtain⟨v0,v1,rfl⟩:=J1 us hl;rfl
theorem afi:jt "_law_drawn" Z8 ["_law_script","_law_k","_law_many"]:=fun _ _ _ _ _ _ us hl=>by obtain⟨v0,v1,v2,rfl⟩:=aaw us hl;rfl
theorem adG:jt "_law_manner" Qw ["_law_script","_law_at"]:=fun _ _ _ _ _ _ us hl=>by obtain⟨v0,v1,rfl⟩:=J1 us hl;rfl
theorem afj:jt "value" Z7 ["manner","setting"]:=fun _ _ _ _ _ _ us hl=>by obtain⟨v0,v1,rfl⟩:=J1 us hl;rfl
theorem ab6:jt "_law_setting" zz ["_law_script","_law_at","_law_manner_here","_law_most"]:=fun _ _ _ _ _ _ us hl=>by obtain⟨v0,v1,v2,v3,rfl⟩:=ajh us hl;rfl
theorem agH:jt "rest" acD ["manner","setting"]:=fun _ _ _ _ _ _ us hl=>by obtain⟨v0,v1,rfl⟩:=J1 us hl;rfl
theorem Zg:jt "names_beads" zl ["setting","thing"]:=fun _ _ _ _ _ _ us hl=>by obtain⟨v0,v1,rfl⟩:=J1 us hl;rfl
theorem adH:jt "pushed" Qy ["rod","deck","by"]:=fun _ _ _ _ _ _ us hl=>by obtain⟨v0,v1,v2,rfl⟩:=aaw us hl;rfl
theorem ab7:jt "can_move" JT ["manner","setting","thing"]:=fun _ _ _ _ _ _ us hl=>by obtain⟨v0,v1,v2,rfl⟩:=aaw us hl;rfl
theorem Zh:jt "behind_move" zn ["setting","move"]:=fun _ _ _ _ _ _ us hl=>by obtain⟨v0,v1,rfl⟩:=J1 us hl;rfl
theorem afk:jt "moved" aac ["manner","setting","move"]:=fun _ _ _ _ _ _ us hl=>by obtain⟨v0,v1,v2,rfl⟩:=aaw us hl;rfl
theorem abp:jt "all_moves" qd ["manner","setting"]:=fun _ _ _ _ _ _ us hl=>by obtain⟨v0,v1,rfl⟩:=J1 us hl;rfl
theorem ah2:jt "run" adn ["manner","setting","moves"]:=fun _ _ _ _ _ _ us hl=>by obtain⟨v0,v1,v2,rfl⟩:=aaw us hl;rfl
theorem afl:jt "slips" Q5 ["manner","setting","number"]:=fun _ _ _ _ _ _ us hl=>by obtain⟨v0,v1,v2,rfl⟩:=aaw us hl;rfl
theorem ajI(HT:zc=true){P:Program}{w:World}{K:Fg}{h:Heap}{mg:SV}{base:Heap}(X:K.In h)(G:h.Ns mainGlobals mg)(T:Tops K)(C:Consts K mg):CLaw P w K mg base:=by
 have c_isWhole:jk P w K mg base "is_whole" ["thing","least","most"] 1 3 jC:=T.isWhole.callee X G ab4 fun f fd F=>jA F abQ fun Kc A Ko s H E hr=>JP.2 P w K mg base f Kc A Ko s H E C.b hr;have c_rodWorth:jk P w K mg base "rod_worth" ["manner","rod"] 1 2 qB:=T.rodWorth.callee X G abn fun f fd F=>jA F aa1 fun Kc A Ko s H E hr=>Qc.2 P w K mg base f Kc A Ko s H E trivial hr;have c_allRods:jk P w K mg base "all_rods" ["manner"] 1 1 zy:=T.allRods.callee X G ab5 fun f fd F=>abR F C.b;have c_hasAll:jk P w K mg base "has_all_digits" ["manner"] 2 1 JQ:=T.hasAll.callee X G adD fun f fd F=>jA F Zz fun Kc A Ko s H E hr=>Z0.2 P w K mg base f Kc A Ko s H E ⟨C.b,c_allRods,c_rodWorth⟩ hr;have c_isManner:jk P w K mg base "is_manner" ["thing"] 3 1 qT:=T.isManner.callee X G abo fun f fd F=>jA F zj fun Kc A Ko s H E hr=>Qe.2 P w K mg base f Kc A Ko s H E ⟨C.b,C.least,C.most,c_isWhole,c_hasAll⟩ hr;have c_check:jk P w K mg base "check_manner" ["thing"] 4 1 Qf:=T.check.callee X G aff fun f fd F=>jA F aez fun Kc A Ko s H E hr=>abS.2 P w K mg base f Kc A Ko s H E ⟨c_isManner⟩ hr;have c_chkNum:jk P w K mg base "check_number" ["number"] 2 1 JR:=T.chkNum.callee X G adE fun f fd F=>jA F adk fun Kc A Ko s H E hr=>Z4.2 P w K mg base f Kc A Ko s H E ⟨c_isWhole,C.mostNumber⟩ hr;have c_num:jk P w K mg base "number_on" ["manner","setting"] 2 2 abT:=T.num.callee X G ah1 fun f fd F=>jA F Z2 fun Kc A Ko s H E hr=>agg.2 P w K mg base f Kc A Ko s H E ⟨c_rodWorth⟩ hr;have c_isRod:jk P w K mg base "is_rod" ["manner","thing"] 2 2 zu:=T.isRod.callee X G afg fun f fd F=>jA F aeA fun Kc A Ko s H E hr=>Qg.2 P w K mg base f Kc A Ko s H E ⟨C.b,c_isWhole⟩ hr;have c_isSet:jk P w K mg base "is_setting" ["manner","thing"] 5 2 Z6:=T.isSet.callee X G afh fun f fd F=>jA F aeB fun Kc A Ko s H E hr=>Qh.2 P w K mg base f Kc A Ko s H E ⟨C.b,c_check,c_isRod,C.mostRods⟩ hr;have c_chkSet:jk P w K mg base "check_setting" ["manner","thing"] 6 2 jY:=T.chkSet.callee X G adF fun f fd F=>jA F adl fun Kc A Ko s H E hr=>Qv.2 P w K mg base f Kc A Ko s H E ⟨c_isSet⟩ hr;have c_cell:jk P w K mg base "_law_cell" ["_law_script","_law_k"] 1 2 aa7:=T.cell.callee X G agG fun f fd F=>jA F agh fun Kc A Ko s H E hr=>acC.2 P w K mg base f Kc A Ko s H E C.b hr
 have c_drawn:jk P w K mg base "_law_drawn" ["_law_script","_law_k","_law_many"] 2 3 zH:=T.drawn.callee X G afi fun f fd F=>jA F Q3 fun Kc A Ko s H E hr=>abV.2 P w K mg base f Kc A Ko s H E ⟨c_cell⟩ hr;have c_manner:jk P w K mg base "_law_manner" ["_law_script","_law_at"] 3 2 Jh:=T.manner.callee X G adG fun f fd F=>jA F qC fun Kc A Ko s H E hr=>Qx.2 P w K mg base f Kc A Ko s H E ⟨C.b,c_drawn⟩ hr;have c_value:jk P w K mg base "value" ["manner","setting"] 7 2 qZ:=T.value.callee X G afj fun f fd F=>jA F aeC fun Kc A Ko s H E hr=>abU.2 P w K mg base f Kc A Ko s H E ⟨c_chkSet,c_num⟩ hr;have c_setting:jk P w K mg base "_law_setting" ["_law_script","_law_at","_law_manner_here","_law_most"] 3 4 agk:=T.setting.callee X G ab6 fun f fd F=>jA F Qk fun Kc A Ko s H E hr=>agj.2 P w K mg base f Kc A Ko s H E ⟨C.b,c_drawn⟩ hr;have c_rest:jk P w K mg base "rest" ["manner","setting"] 7 2 aa8:=T.rest.callee X G agH fun f fd F=>jA F agl fun Kc A Ko s H E hr=>acE.2 P w K mg base f Kc A Ko s H E ⟨c_chkSet,c_num⟩ hr;have c_NamesBeads:jk P w K mg base "names_beads" ["setting","thing"] 2 2 zm:=T.NamesBeads.callee X G Zg fun f fd F=>jA F Ze fun Kc A Ko s H E hr=>qk.2 P w K mg base f Kc A Ko s H E ⟨C.b,c_isWhole,C.decks⟩ hr;have c_Pushed:jk P w K mg base "pushed" ["rod","deck","by"] 1 3 Qz:=T.Pushed.callee X G adH fun f fd F=>jA F adm fun Kc A Ko s H E hr=>JS.2 P w K mg base f Kc A Ko s H E ⟨trivial⟩ hr;have c_CanMove:jk P w K mg base "can_move" ["manner","setting","thing"] 3 3 za:=T.CanMove.callee X G ab7 fun f fd F=>jA F abW fun Kc A Ko s H E hr=>JU.2 P w K mg base f Kc A Ko s H E ⟨c_NamesBeads,c_isRod,c_Pushed⟩ hr;have c_BehindMove:jk P w K mg base "behind_move" ["setting","move"] 2 2 j5:=T.BehindMove.callee X G Zh fun f fd F=>jA F Jp fun Kc A Ko s H E hr=>zo.2 P w K mg base f Kc A Ko s H E ⟨c_Pushed⟩ hr;have c_Moved:jk P w K mg base "moved" ["manner","setting","move"] 7 3 qD:=T.Moved.callee X G afk fun f fd F=>jA F aeD fun Kc A Ko s H E hr=>aad.2 P w K mg base f Kc A Ko s H E ⟨c_chkSet,c_CanMove,c_BehindMove⟩ hr;have c_AllMoves:jk P w K mg base "all_moves" ["manner","setting"] 7 2 qv:=T.AllMoves.callee X G abp fun f fd F=>jA F qL fun Kc A Ko s H E hr=>Ji.2 P w K mg base f Kc A Ko s H E ⟨C.b,c_chkSet,c_CanMove,C.decks,C.ways⟩ hr
 have c_Run:jk P w K mg base "run" ["manner","setting","moves"] 8 3 aeG:=T.Run.callee X G ah2 fun f fd F=>jA F aae fun Kc A Ko s H E hr=>agn.2 P w K mg base f Kc A Ko s H E ⟨C.b,c_chkSet,c_Moved⟩ hr;have c_Slips:jk P w K mg base "slips" ["manner","setting","number"] 8 3 qF:=T.Slips.callee X G afl fun f fd F=>jA F aba fun Kc A Ko s H E hr=>aag.2 P w K mg base f Kc A Ko s H E ⟨c_chkSet,c_chkNum,c_AllMoves,c_num,c_BehindMove⟩ hr;exact⟨C.b,c_manner,c_setting,c_value,c_AllMoves,c_drawn,c_Moved,c_Slips,c_rest,c_Run⟩
theorem ah3(HT:zc=true){P:Program}{w:World}{K:Fg}{h:Heap}{mg:SV}{fa:Addr}(X:K.In h)(G:h.Ns mainGlobals mg)(hfa:mg "law"=some (.ref fa))(T:Tops K)(C:Consts K mg):
  ∃fd:FuncData,(∀(s:Shared) (v:Value),BindsTo s fd ⟨[v],[]⟩ [("_law_script",v)])/\∀base:Heap,K.In base->base.Ns mainGlobals mg->FnOk P w K mg base CX0 9 fa fd ["_law_script"] (Pur K 1 agp):=by
 have Q:∀base:Heap,CLaw P w K mg base:=fun base=>ajI HT X G T C;obtain⟨f,oc,od,an,kV,doc,pm,Kc,ct,osl,a,l,c,kp⟩:=T.law;have e:=hfa.symm.trans (PySem.W.mg_of X G a);cases e;have F1:=adX (st:=aah) l c kp;exact⟨_,fun s v=> .of_eq rfl,fun base _ _=>jA F1 jX fun Kc A Ko s H E hr=>ago.2 P w K mg base fa Kc A Ko s H E (Q base) hr⟩
theorem ai1(HT:zc=true)(K:Fg)(H:Hp)(a:Addr)(ns:List Int)(hl:ns.length<=63)(hS:SqL K H a (ns.map V.int)):Pur K 1 agp [.ref a] H (fun v _=>v= .bl true) fun _ _ _=>False:=
 ⟨[scr ns],.bool true,rfl,⟨_,_,rfl,⟨a,rfl,.inl ⟨ns,hS,rfl⟩⟩,rfl⟩,adC HT ns (by omega),fun v H' _ r=>r⟩
theorem ajJ(HT:zc=true){l:PySem.W.OpenLaw}{q:Program}{loose:List Str}{XP:(SV)->Heap->Prop}{YP:World->Heap->Prop}{d:DefRec}{K:Params->Fg}(hn:l.most=some 63)(hdf:d.params.defaults=[])
  (hY:∀(w:World) (h:Heap),YP w h->(K w.params).In h) (hnm:d.name="law")
  (F:∀(w:World) (mg:SV) (h:Heap),(K w.params).In h->h.Ns mainGlobals mg->Tops (K w.params)/\Consts (K w.params) mg):
  PySem.W.WalkO q loose XP YP l.row.toRowW d [] (fun f vs=>PySem.call f vs):=
 L2.afE (n:=63) (k:=9) (x:="_law_script") (CX:=fun _=>CX0) (sp:=fun w=>Pur (K w.params) 1 agp) hn (by decide) hdf ⟨rfl,by decide,by decide⟩ hY (fun w mg fa h KX G hm=>by
  obtain ⟨T,C⟩:=F w mg h KX G;rw [hnm] at hm;exact ah3 HT KX G hm T C) (fun w H a ns hl _ hS=>ai1 HT (K w.params) H a ns hl hS) fun _ _ _ _ _ z=>z
theorem agI{K:Fg}{mg:SV}{h:Heap}(X:K.In h)(G:h.Ns mainGlobals mg)(z1:PySem.W.nsIn K mainGlobals "isinstance"=some none)(z2:PySem.W.nsIn K mainGlobals "bool"=some none)(z3:PySem.W.nsIn K mainGlobals "int"=some none)(z4:PySem.W.nsIn K mainGlobals "tuple"=some none)(z5:PySem.W.nsIn K mainGlobals "zip"=some none)(z6:PySem.W.nsIn K mainGlobals "range"=some none)(z7:PySem.W.nsIn K mainGlobals "all"=some none)(z8:PySem.W.nsIn K mainGlobals "len"=some none)(z9:PySem.W.nsIn K mainGlobals "max"=some none)(z10:PySem.W.nsIn K mainGlobals "min"=some none)(z11:PySem.W.nsIn K mainGlobals "sum"=some none)(z12:PySem.W.nsIn K mainGlobals "sorted"=some none)(z13:PySem.W.nsIn K mainGlobals "abs"=some none)(z14:PySem.W.nsIn K mainGlobals "list"=some none)(z15:PySem.W.nsIn K mainGlobals "enumerate"=some none)(z16:PySem.W.nsIn K mainGlobals "ValueError"=some none)(z17:PySem.W.nsIn K mainGlobals "str"=some none)(z18:PySem.W.nsIn K mainGlobals "set"=some none)(z19:PySem.W.nsIn K mainGlobals "dict"=some none):Bare mg:=
 have f:∀{x:Str},PySem.W.nsIn K mainGlobals x=some none->mg x=none:=fun z=>PySem.W.mg_none_of X G z
 ⟨f z1,f z2,f z3,f z4,f z5,f z6,f z7,f z8,f z9,f z10,f z11,f z12,f z13,f z14,f z15,f z16,f z17,f z18,f z19⟩
theorem gc4{K:Fg}{mg:SV}{h:Heap}{x:Str}{a:Addr}{od:Option Addr}{n:Nat}{osl:Array (Option Value)}{i1 i2 i3 i4:Int}{t1 t2 t3 t4:Tok}(X:K.In h)(G:h.Ns mainGlobals mg)(e:PySem.W.nsIn K mainGlobals x=some (some (.ref a)))
  (l:K.lookup a=some ⟨.type "tuple",od,.seq #[.int i1 t1,.int i2 t2,.int i3 t3,.int i4 t4] n,osl⟩):GC K mg x (.tuple [.int i1,.int i2,.int i3,.int i4]):=
 QS X G e l rfl ⟨_,_,[.int i1,.int i2,.int i3,.int i4],rfl,(by show 4<=sizeLine;rw[sizeLine_eq];decide),.cons ⟨_,rfl⟩ (.cons ⟨_,rfl⟩ (.cons ⟨_,rfl⟩ (.cons ⟨_,rfl⟩ .nil))),fun H=>⟨_,_,rfl,rfl,_,_,rfl,rfl,_,_,rfl,rfl,_,_,rfl,rfl,rfl⟩⟩
theorem gcI{K:Fg}{mg:SV}{h:Heap}{x:Str}{i:Int}{t:Tok}(X:K.In h)(G:h.Ns mainGlobals mg)(e:PySem.W.nsIn K mainGlobals x=some (some (.int i t))):GC K mg x (.int i):=
 ⟨.int i,_,PySem.W.mg_of X G e,⟨t,rfl⟩,fun H=>rfl⟩
theorem afm{K:Fg}{mg:SV}{h:Heap}{x:Str}{a:Addr}{od:Option Addr}{n:Nat}{osl:Array (Option Value)}{i1 i2:Str}{t1 t2:Tok}(X:K.In h)(G:h.Ns mainGlobals mg)(e:PySem.W.nsIn K mainGlobals x=some (some (.ref a)))
  (l:K.lookup a=some ⟨.type "tuple",od,.seq #[.str i1 t1,.str i2 t2] n,osl⟩):GC K mg x (.tuple [.str i1,.str i2]):=
 QS X G e l rfl ⟨_,_,[.str i1,.str i2],rfl,(by show 2<=sizeLine;rw[sizeLine_eq];decide),.cons ⟨_,rfl⟩ (.cons ⟨_,rfl⟩ .nil),fun H=>⟨_,_,rfl,rfl,_,_,rfl,rfl,rfl⟩⟩
theorem agJ{K:Fg}{mg:SV}{h:Heap}{x:Str}{a:Addr}{od:Option Addr}{n:Nat}{osl:Array (Option Value)}{i1 i2:Int}{t1 t2:Tok}(X:K.In h)(G:h.Ns mainGlobals mg)(e:PySem.W.nsIn K mainGlobals x=some (some (.ref a)))
  (l:K.lookup a=some ⟨.type "tuple",od,.seq #[.int i1 t1,.int i2 t2] n,osl⟩):GC K mg x (.tuple [.int i1,.int i2]):=
 QS X G e l rfl ⟨_,_,[.int i1,.int i2],rfl,(by show 2<=sizeLine;rw[sizeLine_eq];decide),.cons ⟨_,rfl⟩ (.cons ⟨_,rfl⟩ .nil),fun H=>⟨_,_,rfl,rfl,_,_,rfl,rfl,rfl⟩⟩
end Rods
def PySem.W.Fast.tw8927674993438729846:Unit:=()
def PySem.W.Fast.tw13386094848395192677:Unit:=()
def PySem.W.Fast.tw18091855051886240800:Unit:=()
def PySem.W.Fast.tw11588034896610492190:Unit:=()
def PySem.W.Fast.tw18265113142416944973:Unit:=()
def PySem.W.Fast.tw10299068106244742817:Unit:=()
def PySem.W.Fast.tw15201190535532238526:Unit:=()
open PySem PySem.W PyProof.Rows
set_option maxRecDepth 100000 in
set_option maxHeartbeats 0 in
theorem PySem.Challenge.cw_beadrods_k23_whole_slips_holds : PySem.Challenge.rw_beadrods_k23_whole_slips.Holds := by
  w_on; o_law; k_head; (case hw => w_witness2)
  k_fill
  refine Rods.ajJ Rods.allN_true (l := PySem.Challenge.rw_beadrods_k23_whole_slips) rfl rfl (fun w h Y => PySem.W.kIn_of Y) rfl ?F
  case F =>
    intro w mg h KX G
    refine ⟨⟨?f1, ?f2, ?f3, ?f4, ?f5, ?f6, ?f7, ?f8, ?f9, ?f10, ?f11, ?f12, ?f13, ?f14, ?f15, ?f16, ?f17, ?f18, ?f19, ?f20, ?f21, ?f22, ?f23, ?f24, ?f25, ?f26⟩, ⟨?b, ?c1, ?c2, ?c3, ?c4, ?c5, ?c6⟩⟩
    case b => refine' Rods.agI KX G ?_ ?_ ?_ ?_ ?_ ?_ ?_ ?_ ?_ ?_ ?_ ?_ ?_ ?_ ?_ ?_ ?_ ?_ ?_ <;> k_is
    case c1 =>
      refine' Rods.gc4 KX G ?a ?l
      (case a => k_is); (case l => k_is)
    case c2 =>
      refine' Rods.gc4 KX G ?a ?l
      (case a => k_is); (case l => k_is)
    case c3 =>
      refine' Rods.gcI KX G ?a
      (case a => k_is)
    case c4 =>
      refine' Rods.gcI KX G ?a
      (case a => k_is)
    case c5 =>
      refine' Rods.afm KX G ?a ?l
      (case a => k_is); (case l => k_is)
    case c6 =>
      refine' Rods.agJ KX G ?a ?l
      (case a => k_is); (case l => k_is)
    all_goals
      refine' BX.aek ?a ?l ?c ?k
      (case a => k_is); (case l => k_is); (case c => k_is); (case k => k_is)
#print axioms PySem.Challenge.cw_beadrods_k23_whole_slips_holds
end
