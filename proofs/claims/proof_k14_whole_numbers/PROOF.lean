import PyProof.Rows.All
import Wide.All
import OpenK.AllK
import Wide.FinOn
import Lean
import PyProof.EqAt
import PyProof.EqKinds
import PyProof.TupleCall
import PyProof.DictWalks
import PyProof.ListMulRoad
import PyProof.Rows.Range3
import PyProof.StationsW
import OpenK.KOwn
import PyProof.ExcBaseAll.ValueError
import PyProof.MaxThree
import KE.KIsAll
import KE.KIsNot
import PyProof.RulesAs
import PyProof.ExcArgsOwn
import PyProof.ExcAttrAll.ValueError
import KE.KRevSl
import PySem.Challenge.RW_beadrods_k14_whole_numbers
set_option Elab.async false
set_option linter.all false
set_option maxRecDepth 100000
set_option maxHeartbeats 4000000
abbrev Fg:=PySem.W.Frag
abbrev SV:=PySem.Str->Option PySem.Value
abbrev OP:=Option PySem.PyData
abbrev LP:=List PySem.PyData
abbrev SP0:=PySem.Shared->Prop
theorem zzA{α : Type _}{a : α}{l : List α} : (a :: l)[0]? = some a := rfl
theorem zzB{α : Type _}{a : α}{i : Nat}{l : List α} : (a :: l)[i + 1]? = l[i]? := rfl
theorem zzC{α : Type _}{o : Option α} : (some o).join = o := rfl
theorem zzD{α β : Type _}(a : α)(f : α → Option β) : (some a).bind f = f a := rfl
theorem zzE{α β : Type _}(a : α)(f : α → β) : Option.map f (some a) = some (f a) := rfl
theorem zzF{α : Type _}{x : α}{xs : List α}{i : Nat}{a : α} : (x :: xs).set (i + 1) a = x :: xs.set i a := rfl
theorem zzG{α : Type _}{x : α}{xs : List α}{a : α} : (x :: xs).set 0 a = a :: xs := rfl
theorem zzH{α β : Type _}(f : α → Option β) : (none : Option α).bind f = none := rfl
theorem zzI{α β : Type _}(f : α → β) : Option.map f (none : Option α) = none := rfl
theorem zzJ : (!true) = false := rfl
theorem zzK : (!false) = true := rfl
theorem zzL : (false = true) = False := Bool.false_eq_true
theorem zzM{α : Sort _}{x : Decidable True}(a b : α) : ite True a b = a := if_true a b
theorem zzN{α : Sort _}{x : Decidable False}(a b : α) : ite False a b = b := if_false a b
section
namespace L2
open PySem PySem.Spec PyProof.Rows
noncomputable abbrev Key:=Sum Int Str
noncomputable def abL:Key->Value->Bool
 |.inl k,v=>Value.isInt k v
 |.inr x,v=>Value.isStrOf x v
noncomputable def aqX(w:World):Key->Int
 |.inl k=>hashInt k
 |.inr x=>hashStr w x
theorem qi:∀{k:Key}{v:Value},abL k v=true->(∃i t,k=Sum.inl i/\v=Value.int i t)∨(∃x t,k=Sum.inr x/\v=Value.str x t)
 | .inl i,v,h=>by
  obtain⟨t,e⟩:=Value.isInt_shape (k:=i) (v:=v) h;exact .inl ⟨i,t,rfl,e⟩
 | .inr x,v,h=>by
  obtain⟨t,e⟩:=Value.isStrOf_shape (x:=x) (v:=v) h;exact .inr ⟨x,t,rfl,e⟩
theorem aiN(i:Int)(t:Tok):abL (.inl i) (.int i t)=true:=by simp[abL,Value.isInt]
theorem aiO(x:Str)(t:Tok):abL (.inr x) (.str x t)=true:=by simp[abL,Value.isStrOf]
theorem aop(a b:Int):decide ((Sum.inl a:Key)=Sum.inl b)=(a==b):=by
 by_cases e:a=b
 ·subst e;simp
 ·have h:¬ (Sum.inl a:Key)=Sum.inl b:=fun q=>e (Sum.inl.inj q)
  rw[decide_eq_false h];exact(beq_eq_false_iff_ne.mpr e).symm
theorem aoq(a b:Str):decide ((Sum.inr a:Key)=Sum.inr b)=decide (a=b):=by
 by_cases e:a=b
 ·subst e;simp
 ·have h:¬ (Sum.inr a:Key)=Sum.inr b:=fun q=>e (Sum.inr.inj q)
  rw[decide_eq_false h,decide_eq_false e]
theorem aor(a:Int)(b:Str):decide ((Sum.inl a:Key)=Sum.inr b)=false:=decide_eq_false (fun q=>nomatch q)
theorem aos(a:Str)(b:Int):decide ((Sum.inr a:Key)=Sum.inl b)=false:=decide_eq_false (fun q=>nomatch q)
noncomputable def jZ(prog:Program)(w:World):PySem.KeyKind prog w Key where
 is:=abL
 hash:=aqX w
 inj:=fun v a b ha hb=>by
  rcases qi ha with ⟨i,t,rfl,rfl⟩ | ⟨x,t,rfl,rfl⟩
  ·rcases qi hb with ⟨j,u,rfl,e⟩ | ⟨y,u,rfl,e⟩
   ·injection e with e1 _;rw[e1]
   ·exact nomatch e
  ·rcases qi hb with ⟨j,u,rfl,e⟩ | ⟨y,u,rfl,e⟩
   ·exact nomatch e
   ·injection e with e1 _;rw[e1]
 byValue:=fun k v h=>by
  rcases qi h with ⟨i,t,rfl,rfl⟩ | ⟨x,t,rfl,rfl⟩<;>rfl
 pyHash:=fun hv h=>by
  rcases qi hv with ⟨i,t,rfl,rfl⟩ | ⟨x,t,rfl,rfl⟩
  ·exact wpAny_pyHash_int h
  ·exact wpAny_pyHash_str h
 eqBool:=fun hu hv h=>by
  rcases qi hu with ⟨i,t,rfl,rfl⟩ | ⟨x,t,rfl,rfl⟩
  ·rcases qi hv with ⟨j,u,rfl,rfl⟩ | ⟨y,u,rfl,rfl⟩
   ·rw[aop]at h;exact wpAny_eqBool_int h
   ·rw[aor]at h;exact SeqAt.EqAt.int_str i t y u _ _ _ _ h
  ·rcases qi hv with ⟨j,u,rfl,rfl⟩ | ⟨y,u,rfl,rfl⟩
   ·rw[aos]at h;exact SeqAt.EqAt.str_int x t j u _ _ _ _ h
   ·rw[aoq]at h;exact wpAny_eqBool_str h
 «strs»:=fun k x t v h=>by
  rcases qi h with ⟨i,u,rfl,e⟩ | ⟨y,u,rfl,e⟩
  ·exact nomatch e
  ·injection e with e1 _
   subst e1;cases v<;>rfl
theorem afd(prog:Program)(w:World)(i:Int)(t:Tok):(jZ prog w).is (.inl i) (.int i t)=true:=aiN i t
theorem afe(prog:Program)(w:World)(x:Str)(t:Tok):(jZ prog w).is (.inr x) (.str x t)=true:=aiO x t
inductive V where
 |non | bl (b:Bool) | int (i:Int) | str (x:Str) | byt (b:Array UInt8) | flt (b:UInt64) | ref (a:Addr) | ty (n:String)
 deriving DecidableEq
noncomputable def jK:V->Value->Prop
 |.non,u=>u=Value.none
 |.bl b,u=>u=Value.bool b
 |.int i,u=>∃t,u=Value.int i t
 |.str x,u=>∃t,u=Value.str x t
 |.byt b,u=>∃t,u=Value.bytes b t
 |.flt b,u=>∃t,u=Value.float b t
 |.ref a,u=>u=Value.ref a
 |.ty n,u=>u=Value.type n
noncomputable abbrev jB:List V->List Value->Prop:=Paired jK
theorem jB.length{xs:List V}{us:List Value}(r:jB xs us):xs.length=us.length:=Paired.length r
theorem jB.get:∀{xs:List V}{us:List Value}{i:Nat}{x:V},jB xs us->xs[i]?=some x->∃u,us[i]?=some u/\jK x u
 |_,_,_,_,.nil,e=>by simp at e
 |_,_,0,_,.cons r _,e=>by simp at e;subst e;exact⟨_,rfl,r⟩
 | _,_,i+1,x,.cons _ t,e=>by
  obtain⟨u,h1,h2⟩:=jB.get (i:=i) (x:=x) t (by simpa using e);exact⟨u,by simpa using h1,h2⟩
theorem jB.set{x:V}{u:Value}(r:jK x u):∀{xs:List V}{us:List Value} (i:Nat),jB xs us->jB (xs.set i x) (us.set i u)
 |_,_,_,.nil=> .nil
 |_,_,0,.cons _ t=> .cons r t
 |_,_,i+1,.cons q t=> .cons q (jB.set r i t)
theorem jB.append:∀{xs ys:List V}{us ws:List Value},jB xs us->jB ys ws->jB (xs++ys) (us++ws)
 |_,_,_,_,.nil,s=>s
 |_,_,_,_,.cons r t,s=> .cons r (jB.append t s)
theorem jB.take:∀{xs:List V}{us:List Value} (n:Nat),jB xs us->jB (xs.take n) (us.take n)
 |_,_,0,_=> .nil
 |_,_,_+1,.nil=> .nil
 |_,_,n+1,.cons r t=> .cons r (jB.take n t)
theorem jB.drop:∀{xs:List V}{us:List Value} (n:Nat),jB xs us->jB (xs.drop n) (us.drop n)
 |_,_,0,r=>r
 |_,_,_+1,.nil=> .nil
 |_,_,n+1,.cons _ t=>jB.drop n t
noncomputable def abf:Option V->Option Value->Prop
 |some v,some u=>jK v u
 |none,none=>True
 |_,_=>False
noncomputable def KV{κ:Type}:List (κ×V)->List (κ×Value)->Prop:=Paired fun (p:κ×V) (q:κ×Value)=>p.1=q.1/\jK p.2 q.2
noncomputable def kV:Key->V
 |.inl i=> .int i
 |.inr x=> .str x
inductive HO where
 |lst (xs:List V)
 |tup (xs:List V)
 |dK (kvs:List (Key×V)) | dT (kvs:List (List Key×V))
 |set (S:Int->Bool) (n:Nat)
 |ins (C dx:Addr) (fs:List (Str×V))
 |own (x:Addr)
 |xd (fs:List (Str×V))
 |met (f x:Addr)
 |rng (lo hi:Int)
 |frz (o:Obj) (u:HO)
 |tbl (ps:Array Value)
 |ext (φ:Heap->Prop)
noncomputable abbrev Hp:=Addr->Option HO
noncomputable def upd(H:Hp)(a:Addr)(o:HO):Hp:=fun b=>if b=a then some o else H b
theorem jr{H:Hp}{a:Addr}{o:HO}:upd H a o a=some o:=by unfold upd;rw[if_pos rfl]
theorem jn{H:Hp}{a b:Addr}{o:HO}(h:b≠a):upd H a o b=H b:=by unfold upd;rw[if_neg h]
theorem QO{H:Hp}{a:Addr}{o u:HO}:upd (upd H a o) a u=upd H a u:=by
 funext b;unfold upd;split<;>rfl
theorem apT{H:Hp}{a b:Addr}{o u:HO}(h:H a=some o)(h':H b=some u)(d:o≠u):a≠b:=by
 intro e;subst e;rw[h]at h';exact d (Option.some.inj h')
theorem qA{H:Hp}{a b:Addr}{o:HO}(h:H a=some o)(h':H b=none):a≠b:=by
 intro e;subst e;rw[h]at h';cases h'
section
variable (P:Program)(w:World)
noncomputable def qw(H:Hp)(h:Heap)(a:Addr):HO->Prop
 |.lst xs=>xs.length<=sizeLine/\∃(its:List Value) (n:Nat),jB xs its/\h.get? a=some { cls:= .type "list",data:= .seq its.toArray n }
 |.tup xs=>xs.length<=sizeLine/\∃its:List Value,jB xs its/\IsTup h a its.toArray
 |.dK kvs=>kvs.length<=sizeLine/\(a==sysModules)=false/\∃vs,KV kvs vs/\h.DictOf (jZ P w) a vs
 | .dT kvs=>kvs.length<=sizeLine/\(a==sysModules)=false/\∃xs:List (List Key×Addr×Value),
   Paired (fun (p:List Key×V) (q:List Key×Addr×Value)=>p.1=q.1/\H q.2.1=some (.tup (p.1.map kV))/\jK p.2 q.2.2) kvs xs/\
   ∃o es ep,h.get? a=some o/\o.ExactDict/\o.data= .dict es ep/\es.toList=xs.map (entryOfKey (tupleKind (jZ P w)))/\(xs.map (·.1)).Nodup
 |.set S n=>h.SetOf (intKind P w) a S n
 | .ins C dx fs=>H dx=some (.own a)/\fs.length<=1000/\dx≠a/\h.get? a=some (PySem.W.instObj C dx)/\
   ∃mA,h.Ns1 dx mA/\(∀f,abf (fs.lookup f) (mA f))/\PySem.Within mA (fs.map (·.1))
 |.own _=>∃o,h.get? a=some o
 |.xd fs=>∃mA,h.Ns1 a mA/\∀f,abf (fs.lookup f) (mA f)
 |.rng lo hi=>∃t u v,h.get? a=some { cls:= .type "range",data:= .fields #[.int lo t,.int hi u,.int 1 v] }
 |.frz o u=>h.get? a=some o/\qw H h a u
 |.tbl ps=>h.get? a=some { cls:= .none,data:= .fields ps }
 |.met f x=>h.get? a=some (PySem.W.methodObj (.ref f) (.ref x))
 |.ext φ=>φ h/\(∃o,h.get? a=some o)/\∀h1 h2:Heap,φ h1->(∀o,h1.get? a=some o->h2.get? a=some o)->φ h2
noncomputable def HOk(H:Hp)(h:Heap):Prop:=∀a o,H a=some o->qw P w H h a o
end
section
variable {P:Program}{w:World}{H H':Hp}{h h':Heap}{a:Addr}{o:HO}
theorem qw.lt(x:qw P w H h a o):a<h.objs.size:=by
 cases o with
 |lst xs=>obtain⟨_,_,_,_,e⟩:=x;exact Heap.lt_size e
 |tup xs=>obtain⟨_,_,_,p⟩:=x;exact p.lt
 |dK kvs=>obtain⟨_,_,_,_,o,_,_,e,_⟩:=x;exact Heap.lt_size e
 |dT kvs=>obtain⟨_,_,_,_,o,_,_,e,_⟩:=x;exact Heap.lt_size e
 |set S n=>obtain⟨o,_,_,_,e,_⟩:=x;exact Heap.lt_size e
 |ins C dx fs=>obtain⟨_,_,_,e,_⟩:=x;exact Heap.lt_size e
 |own y=>obtain⟨_,e⟩:=x;exact Heap.lt_size e
 |xd fs=>obtain⟨_,⟨_,_,_,e,_⟩,_⟩:=x;exact Heap.lt_size e
 |rng lo hi=>obtain⟨_,_,_,e⟩:=x;exact Heap.lt_size e
 |frz ob u=>obtain⟨e,_⟩:=x;exact Heap.lt_size e
 |tbl ps=>exact Heap.lt_size (show h.get? a=some _ from x)
 |met f y=>exact Heap.lt_size (show h.get? a=some _ from x)
 |ext φ=>obtain⟨_,⟨_,e⟩,_⟩:=x;exact Heap.lt_size e
theorem Paired.mapP{α β:Type}{F G:α->β->Prop}:∀{l₁:List α}{l₂:List β},Paired F l₁ l₂->(∀a b,F a b->G a b)->Paired G l₁ l₂
 |_,_,.nil,_=> .nil
 |_,_,.cons r t,f=> .cons (f _ _ r) (Paired.mapP t f)
theorem qw.stay(x:qw P w H h a o)(k:∀b u,(b=a∨H b=some (.own a))->h.get? b=some u->h'.get? b=some u)
  (ho:∀b,H b=some (.own a)->H' b=some (.own a)) (ht:∀b xs,H b=some (.tup xs)->H' b=some (.tup xs)):qw P w H' h' a o:=by
 induction o with
 |lst xs=>obtain⟨z,its,n,r,e⟩:=x;exact⟨z,its,n,r,k _ _ (.inl rfl) e⟩
 |tup xs=>obtain⟨z,its,r,ob,e,c⟩:=x;exact⟨z,its,r,ob,k _ _ (.inl rfl) e,c⟩
 |dK kvs=>obtain⟨z,y,vs,r,ob,es,ep,e,c⟩:=x;exact⟨z,y,vs,r,ob,es,ep,k _ _ (.inl rfl) e,c⟩
 | dT kvs=>
  obtain⟨z,y,xs,r,ob,es,ep,e,c⟩:=x;exact⟨z,y,xs,Paired.mapP r fun p q z=>⟨z.1,ht _ _ z.2.1,z.2.2⟩,ob,es,ep,k _ _ (.inl rfl) e,c⟩
 |set S n=>obtain⟨ob,es,ep,t,e,c⟩:=x;exact⟨ob,es,ep,t,k _ _ (.inl rfl) e,c⟩
 | ins C dx fs=>
  obtain⟨d,z,ne,e,mA,⟨od,es,ep,e2,c⟩,r⟩:=x;exact⟨ho _ d,z,ne,k _ _ (.inl rfl) e,mA,⟨od,es,ep,k _ _ (.inr d) e2,c⟩,r⟩
 |own y=>obtain⟨ob,e⟩:=x;exact⟨ob,k _ _ (.inl rfl) e⟩
 |xd fs=>obtain⟨mA,⟨od,es,ep,e,c⟩,r⟩:=x;exact⟨mA,⟨od,es,ep,k _ _ (.inl rfl) e,c⟩,r⟩
 |rng lo hi=>obtain⟨t,u,v,e⟩:=x;exact⟨t,u,v,k _ _ (.inl rfl) e⟩
 |frz ob u ih=>obtain⟨e,q⟩:=x;exact⟨k _ _ (.inl rfl) e,ih q⟩
 | tbl ps=>
  have e:h.get? a=some { cls:= .none,data:= .fields ps }:=x;show h'.get? a=some { cls:= .none,data:= .fields ps };exact k a _ (.inl rfl) e
 | met f y=>
  have e:h.get? a=some (PySem.W.methodObj (.ref f) (.ref y)):=x;show h'.get? a=some (PySem.W.methodObj (.ref f) (.ref y));exact k a _ (.inl rfl) e
 |ext φ=>obtain⟨p,⟨o,e⟩,st⟩:=x;exact⟨st _ _ p fun o q=>k _ _ (.inl rfl) q,⟨o,k _ _ (.inl rfl) e⟩,st⟩
theorem HOk.lt(x:HOk P w H h)(e:H a=some o):a<h.objs.size:=(x a o e).lt
theorem HOk.fresh(x:HOk P w H h)(e:h.objs.size<=a):H a=none:=by
 cases q:H a with
 |none=>rfl
 |some u=>exact absurd (Nat.lt_of_lt_of_le (x.lt q) e) (Nat.lt_irrefl _)
theorem HOk.kept(x:HOk P w H h)(k:∀b u,h.get? b=some u->h'.get? b=some u):HOk P w H h':=fun a o e=>
 (x a o e).stay (fun b u _ q=>k b u q) (fun _ q=>q) fun _ _ q=>q
theorem HOk.laid(x:HOk P w H h)(k:∀b u,h.get? b=some u->h'.get? b=some u)(hp:h.objs.size<=a)(new:qw P w (upd H a o) h' a o):HOk P w (upd H a o) h':=fun b u e=>by
 have hn:=x.fresh hp;by_cases hb:b=a
 ·subst hb;rw[jr]at e;cases e;exact new
 ·rw[jn hb]at e
  exact(x b u e).stay (fun c v _ q=>k c v q) (fun c q=>by rw[jn (qA q hn)];exact q) fun c xs q=>by rw[jn (qA q hn)];exact q
end
noncomputable def Rd(H:Hp)(a:Addr)(u:HO):Prop:=H a=some u∨∃o,H a=some (.frz o u)
theorem Rd.of{H:Hp}{a:Addr}{u:HO}(h:H a=some u):Rd H a u:= .inl h
theorem Rd.ok{P:Program}{w:World}{H:Hp}{h:Heap}{a:Addr}{u:HO}(r:Rd H a u)(x:HOk P w H h):qw P w H h a u:=by
 rcases r with r | ⟨o,r⟩
 ·exact x a u r
 ·obtain⟨_,q⟩:=x a _ r
  exact q
noncomputable def Mut:Option HO->Prop
 |some (.lst _)=>True
 |some (.dK _)=>True
 |some (.dT _)=>True
 |some (.set _ _)=>True
 |some (.ins _ _ _)=>True
 |some (.ext _)=>True
 |_=>False
section
variable {P:Program}{w:World}{H:Hp}{h h':Heap}{x e:Addr}{o':HO}
theorem HOk.write(ok:HOk P w H h)(mu:Mut (H x))(he:e=x∨H e=some (.own x))(k:∀b u,b≠e->h.get? b=some u->h'.get? b=some u)(heo:∃u,h'.get? e=some u)
  (new:qw P w (upd H x o') h' x o'):HOk P w (upd H x o') h':=fun b u q=>by
 have nown:∀c y,H c=some (.own y)->c≠x:=fun c y r z=>by subst z;rw[r]at mu;exact mu
 have ntup:∀c xs,H c=some (.tup xs)->c≠x:=fun c xs r z=>by subst z;rw[r]at mu;exact mu
 by_cases hb:b=x
 ·subst hb;rw[jr]at q;cases q;exact new
 ·rw[jn hb]at q
  by_cases hbe:b=e
  ·have q':H b=some (.own x):=by
    rcases he with z | z
    ·exact absurd (hbe.trans z) hb
    ·rw[hbe];exact z
   rw[q]at q';cases q';obtain⟨v,hv⟩:=heo;exact⟨v,by rw[hbe];exact hv⟩
  ·refine(ok b u q).stay (fun c v hc r=>k c v ?_ r) (fun c r=>by rw[jn (nown c b r)];exact r) fun c xs r=>by rw[jn (ntup c xs r)];exact r
   rcases hc with rfl | hc
   ·exact hbe
   ·rintro rfl
    rcases he with z | z
    ·exact nown c b hc z
    ·rw[hc]at z;cases z;exact hb rfl
end
structure Un(fs ex:List Addr)(H H':Hp)(h h':Heap):Prop where
 keep:∀b o,h.get? b=some o->H b=none->b∉fs->b∉ex->h'.get? b=some o
 slot:∀b o,h.get? b=some o->H b=none->b∈fs->b∉ex->∃sl,h'.get? b=some { o with slots:=sl }
 free:∀b o,h.get? b=some o->H b=none->b∉ex->H' b=none
 there:∀b o,h.get? b=some o->b∉ex->∃o',h'.get? b=some o'
 tups:∀b xs,H b=some (.tup xs)->H' b=some (.tup xs)
 frzs:∀b o u,H b=some (.frz o u)->H' b=some (.frz o u)
 tbls:∀b ps,H b=some (.tbl ps)->∃more,H' b=some (.tbl (ps++more))
section
variable {fs fs' ex ex':List Addr}{H H1 H2:Hp}{h h1 h2 h':Heap}{a x e:Addr}{o:HO}
theorem Un.any(u:Un fs ex H H1 h h1){b:Addr}{ob:Obj}(q:h.get? b=some ob)(n:H b=none)(hx:b∉ex):∃sl,h1.get? b=some { ob with slots:=sl }:=by
 by_cases hb:b∈fs
 ·exact u.slot b ob q n hb hx
 ·exact⟨ob.slots,u.keep b ob q n hb hx⟩
theorem Un.trans(a:Un fs ex H H1 h h1)(b:Un fs ex H1 H2 h1 h2):Un fs ex H H2 h h2 where
 keep:=fun c ob q n hc hx=>b.keep c ob (a.keep c ob q n hc hx) (a.free c ob q n hx) hc hx
 slot:=fun c ob q n hc hx=>by
  obtain⟨sl,e1⟩:=a.slot c ob q n hc hx;obtain⟨sl',e2⟩:=b.slot c _ e1 (a.free c ob q n hx) hc hx;exact⟨sl',e2⟩
 free:=fun c ob q n hx=>by
  obtain⟨o',e1⟩:=a.there c ob q hx;exact b.free c o' e1 (a.free c ob q n hx) hx
 there:=fun c ob q hx=>by
  obtain⟨o',e1⟩:=a.there c ob q hx;exact b.there c o' e1 hx
 tups:=fun c xs q=>b.tups c xs (a.tups c xs q)
 frzs:=fun c ob xs q=>b.frzs c ob xs (a.frzs c ob xs q)
 tbls:=fun c ps q=>by
  obtain⟨m1,e1⟩:=a.tbls c ps q;obtain⟨m2,e2⟩:=b.tbls c _ e1;exact⟨m1++m2,by rw[e2,Array.append_assoc]⟩
theorem Un.kept(k:∀b u,h.get? b=some u->h'.get? b=some u):Un fs ex H H h h':=
 ⟨fun b ob q _ _ _=>k b ob q,fun b ob q _ _ _=>⟨ob.slots,k b ob q⟩,fun _ _ _ n _=>n,fun b ob q _=>⟨ob,k b ob q⟩,fun _ _ q=>q,fun _ _ _ q=>q,fun _ ps q=>⟨#[],by rw[q];simp⟩⟩
theorem Un.refl:Un fs ex H H h h:=Un.kept fun _ _ q=>q
theorem Un.laid(k:∀b u,h.get? b=some u->h'.get? b=some u)(hp:h.objs.size<=a)(hn:H a=none):Un fs ex H (upd H a o) h h' where
 keep:=fun b u q _ _ _=>k b u q
 slot:=fun b u q _ _ _=>⟨u.slots,k b u q⟩
 free:=fun b u q n _=>by rw[jn (Nat.ne_of_lt (Nat.lt_of_lt_of_le (Heap.lt_size q) hp))];exact n
 there:=fun b u q _=>⟨u,k b u q⟩
 tups:=fun b xs q=>by rw[jn (qA q hn)];exact q
 frzs:=fun b u xs q=>by rw[jn (qA q hn)];exact q
 tbls:=fun b ps q=>⟨#[],by rw[jn (qA q hn),q];simp⟩
theorem Un.write(mu:Mut (H x))(he:e=x∨H e=some (.own x))(k:∀b u,b≠e->h.get? b=some u->h'.get? b=some u)(heo:∃u,h'.get? e=some u):Un fs ex H (upd H x o) h h':=by
 have hx:∀b,H b=none->b≠x:=fun b n z=>by subst z;rw[n]at mu;exact mu
 have hb:∀b,H b=none->b≠e:=fun b n z=>by
  subst z;rcases he with r | r
  ·exact hx b n r
  ·rw[n]at r;cases r
 have hm:∀b u,H b=some u->¬ Mut (some u)->b≠x:=fun b u q nm z=>by subst z;rw[q]at mu;exact nm mu
 refine⟨fun b u q n _ _=>k b u (hb b n) q,fun b u q n _ _=>⟨u.slots,k b u (hb b n) q⟩,fun b u q n _=>by rw[jn (hx b n)];exact n,fun b u q _=>?_,
  fun b xs q=>by rw [jn (hm b _ q fun z=>z)]; exact q,fun b u xs q=>by rw [jn (hm b _ q fun z=>z)]; exact q,fun b ps q=>⟨#[],by rw [jn (hm b _ q fun z=>z),q]; simp⟩⟩
 by_cases hbe:b=e
 ·subst hbe;exact heo
 ·exact⟨u,k b u hbe q⟩
theorem Un.mono(u:Un fs ex H H1 h h1)(hs:∀b∈fs,b∈fs')(hx:∀b∈ex,b∈ex'):Un fs' ex' H H1 h h1:=
 ⟨fun b ob q n hb he=>u.keep b ob q n (fun z=>hb (hs b z)) fun z=>he (hx b z),fun _ _ q n _ he=>u.any q n fun z=>he (hx _ z),fun b ob q n he=>u.free b ob q n fun z=>he (hx b z),fun b ob q he=>u.there b ob q fun z=>he (hx b z),u.tups,u.frzs,u.tbls⟩
end
noncomputable def trk(h:Heap)(H:Hp):List Addr:=(List.range h.objs.size).filter fun a=>(H a).isSome
noncomputable def ad3(h:Heap)(H:Hp):Heap:=PySem.W.hideAll h (trk h H)
theorem aiP(h:Heap)(H:Hp):(ad3 h H).objs.size=h.objs.size:=PySem.W.hideAll_size _ _
theorem aj4{h:Heap}{H:Hp}{b:Addr}{o:Obj}(e:h.get? b=some o)(n:H b=none):(ad3 h H).get? b=some o:=
 PySem.W.hideAll_get _ e fun hm=>by
  have q:(H b).isSome=true:=(List.mem_filter.mp hm).2;rw[n]at q;simp at q
theorem amu{h:Heap}{H:Hp}{b:Addr}{o:Obj}(e:(ad3 h H).get? b=some o):h.get? b=some o/\H b=none:=by
 have e':h.get? b=some o:=PySem.W.of_hideAll (trk h H) e;refine⟨e',?_⟩;cases q:H b with
 |none=>rfl
 | some x=>
  have hm:b∈trk h H:=List.mem_filter.mpr ⟨List.mem_range.mpr (Heap.lt_size e'),by simp[q]⟩;have z:(ad3 h H).get? b=none:=PySem.W.hideAll_none (trk h H) hm;rw[z]at e;cases e
noncomputable def Jo(g h:Heap)(L:Addr):List (Addr×Obj):=(List.range h.objs.size).filterMap fun a=>if a=L∨(g.get? a).isSome=true then none else (h.get? a).map fun o=>(a,o)
theorem aaY{g h:Heap}{L a:Addr}{o:Obj}(h1:a≠L)(h2:g.get? a=none)(h3:h.get? a=some o):(a,o)∈Jo g h L:=
 List.mem_filterMap.mpr ⟨a,List.mem_range.mpr (Heap.lt_size h3),by simp[h1,h2,h3]⟩
theorem abM{g h:Heap}{L:Addr}{p:Addr×Obj}(hp:p∈Jo g h L):p.1≠L/\g.get? p.1=none/\h.get? p.1=some p.2:=by
 obtain⟨b,_,e⟩:=List.mem_filterMap.mp hp;split at e
 ·cases e
 ·rename_i hn
  cases q:h.get? b with
  |none=>rw[q]at e;simp at e
  | some u=>
   rw[q]at e;simp only[zzE,Option.some.injEq]at e;subst e;refine⟨fun z=>hn (.inl z),?_,q⟩;show g.get? b=none;cases r:g.get? b with
   |none=>rfl
   |some v=>exact(hn (.inr (by simp[r]))).elim
noncomputable def j8(g h:Heap)(L d:Addr):List (Addr×Obj):=(Jo g h L).filter fun p=>decide (p.1≠d)
theorem aj5{g h:Heap}{L:Addr}:News g L h (Jo g h L):=fun p hp=>let ⟨a,b,c⟩:=abM hp;⟨c,a,b⟩
structure Mod(K:Fg)(mg:SV)(base:Heap):Prop where
 kin:K.In base
 glob:base.Ns mainGlobals mg
 blt:∃mb,base.Ns builtinsNs mb/\∀x:Str,x≠"__name__"->mb x=bootBuiltins x
 nolimit:base.NoLimit
structure Cx where
 prog:Program
 w:World
 K:Fg
 mg:SV
 base:Heap
 A:Around
 N:List Str
 s₀:Shared
 H₀:Hp
 env:Env
 Ko:List Env
 stack:List Env
 ex:List Addr
 fn:Str->Bool
 calm:Bool
 pn:List (Addr×Obj)
 xe:Value->SP0
noncomputable def frs(l:List Env):List Addr:=l.filterMap (·.frame)
noncomputable abbrev Cx.fs(X:Cx):List Addr:=frs X.Ko
noncomputable def Vis(sc:Scope)(x:Str):Prop:=sc.names.lookup x=some .local∨sc.names.lookup x=some .cell∨sc.names.lookup x=some .free
noncomputable def Loc(sc:Scope)(x:Str):Prop:=sc.names.lookup x=some .local∨sc.names.lookup x=some .cell
noncomputable def aqY(env:Env)(h:Heap)(m:SV)(x:Str)(u:Value):Prop:=
 (env.kindOf x=some .local/\m x=some u)∨((env.kindOf x=some .cell∨env.kindOf x=some .free)/\∃c,env.cells.lookup x=some c/\h.IsCell c (some u))
structure Cx.Ok(X:Cx):Prop where
 mod:Mod X.K X.mg X.base
 kind:X.env.scope.kind= .function
 glob:X.env.globals=mainGlobals
 blt:X.env.builtins=builtinsNs
 above:X.s₀.heap.objs.size<=X.env.locals
 inj:∀x y c,X.env.cells.lookup x=some c->X.env.cells.lookup y=some c->x=y
 has:∀x,(X.env.kindOf x=some .cell∨X.env.kindOf x=some .free)->∃c,X.env.cells.lookup x=some c
 cab:∀x c,X.fn x=true->X.env.cells.lookup x=some c->X.s₀.heap.objs.size<=c
 hd:X.calm=true->X.A.handled=none
 frames:X.A.frames=some X.stack
 stk:X.stack=X.Ko∨(X.stack=X.env::X.Ko/\X.env.frame=some X.env.locals)
 exf:∀b∈X.ex,b≠X.env.locals/\∀x c,X.env.cells.lookup x=some c->c≠b
 bs:∀b o,X.base.get? b=some o->X.s₀.heap.get? b=some o/\X.H₀ b=none
 bsz:X.base.objs.size<=X.s₀.heap.objs.size
 noex:∀b o,X.base.get? b=some o->b∉X.ex
 exfs:∀b∈X.ex,b∉X.fs
 funs:X.s₀.heap.FunFrames X.base X.Ko
 frf:∀b∈X.fs,X.H₀ b=none
structure Inv(X:Cx)(Kp:List (Addr×Obj))(σ:List (Option V))(H:Hp)(s:Shared):Prop where
 ok:X.Ok
 os:s.os=X.s₀.os
 bare:AllBare s.gens
 base:Un X.fs X.ex X.H₀ H X.s₀.heap s.heap
 loc:∃m,s.heap.Ns X.env.locals m/\∀(i:Nat) (x:Str) (v:V),X.N[i]?=some x->σ[i]?=some (some v)->Vis X.env.scope x->∃u,jK v u/\aqY X.env s.heap m x u
 cell:∀x c,X.env.cells.lookup x=some c->∃v,s.heap.IsCell c v
 free:H X.env.locals=none
 freeC:∀x c,X.env.cells.lookup x=some c->H c=none
 pin:∀p∈X.pn++Kp,s.heap.get? p.1=some p.2/\H p.1=none/\p.1≠X.env.locals/\p.1∉X.fs/\∀v,p.2.data ≠ .cell v
 hok:HOk X.prog X.w H s.heap
 len:σ.length=X.N.length
section
variable {X:Cx}{Kp:List (Addr×Obj)}{σ:List (Option V)}{H H':Hp}{s:Shared}{h':Heap}
theorem Cx.Ok.nofr(ok:X.Ok){b:Addr}{o:Obj}(e:X.base.get? b=some o):b∉X.fs:=fun hb=>by
 have:=(ok.funs.mem hb).1;rw[e]at this;cases this
theorem Inv.bs(I:Inv X Kp σ H s):∀b o,X.base.get? b=some o->s.heap.get? b=some o/\H b=none:=fun b o e=>
 ⟨I.base.keep b o (I.ok.bs b o e).1 (I.ok.bs b o e).2 (I.ok.nofr e) (I.ok.noex b o e),I.base.free b o (I.ok.bs b o e).1 (I.ok.bs b o e).2 (I.ok.noex b o e)⟩
theorem Inv.bk(I:Inv X Kp σ H s):∀b o,X.base.get? b=some o->s.heap.get? b=some o:=fun b o e=>(I.bs b o e).1
theorem Inv.mod(I:Inv X Kp σ H s):Mod X.K X.mg X.base:=I.ok.mod
theorem Inv.kIn(I:Inv X Kp σ H s):X.K.In s.heap:=I.ok.mod.kin.keeps I.bk
theorem Inv.nolimit(I:Inv X Kp σ H s):s.heap.NoLimit:=I.ok.mod.nolimit.keeps I.bk
theorem Inv.fr(I:Inv X Kp σ H s):∃m,Fr X.base X.env.locals s.heap m:=
 let ⟨m,hn,_⟩:=I.loc
 ⟨m,hn,I.bk,Nat.le_trans I.ok.bsz I.ok.above⟩
theorem Inv.lt(I:Inv X Kp σ H s):X.env.locals<s.heap.objs.size:=let ⟨_,hn,_⟩:=I.loc;hn.lt
theorem Inv.sz(I:Inv X Kp σ H s):X.s₀.heap.objs.size<=s.heap.objs.size:=Nat.le_trans I.ok.above (Nat.le_of_lt I.lt)
theorem Inv.nofs(I:Inv X Kp σ H s){a:Addr}(h:s.heap.objs.size<=a):a∉X.fs:=fun hb=>by
 obtain⟨_,o,ho,_⟩:=I.ok.funs.mem hb;exact absurd (Nat.lt_of_lt_of_le (Heap.lt_size ho) (Nat.le_trans I.sz h)) (Nat.lt_irrefl _)
theorem Inv.cne(I:Inv X Kp σ H s):∀x c,X.env.cells.lookup x=some c->c≠X.env.locals:=fun x c e z=>by
 obtain⟨v,o,ho,hd⟩:=I.cell x c e;obtain⟨m,⟨o',es,ep,ho',hd',_⟩,_⟩:=I.loc;rw[z,ho']at ho;cases ho;rw[hd']at hd;cases hd
theorem Inv.funs(I:Inv X Kp σ H s):s.heap.FunFrames X.base X.Ko:=by
 have all:∀(l:List Env),(∀b∈frs l,b∈X.fs)->X.s₀.heap.FunFrames X.base l->s.heap.FunFrames X.base l:=by
  intro l
  induction l with
  |nil=>intro _ _;trivial
  | cons env r ih=>
   intro hs hl;obtain⟨hk,⟨L,o,hf,hn,ho,hd⟩,hr⟩:=hl;have hL:L∈X.fs:=hs L (by unfold frs;rw[List.filterMap_cons,hf];exact List.mem_cons_self);obtain⟨sl,e⟩:=I.base.slot L o ho (I.ok.frf L hL) hL fun z=>I.ok.exfs L z hL;exact⟨hk,⟨L,_,hf,hn,e,hd⟩,ih (fun b hb=>hs b (by unfold frs;rw[List.filterMap_cons,hf];exact List.mem_cons_of_mem _ hb)) hr⟩
 exact all X.Ko (fun _ hb=>hb) I.ok.funs
theorem Inv.stack(I:Inv X Kp σ H s):s.heap.FunFrames X.base X.stack:=by
 rcases I.ok.stk with e | ⟨e,hf⟩
 ·rw[e];exact I.funs
 ·rw[e]
  obtain⟨m,hn,_⟩:=I.loc;refine .cons (by rw[I.ok.kind];decide) hf hn ?_ I.funs;exact Heap.get?_none_of_le (Nat.le_trans I.ok.bsz I.ok.above)
theorem Inv.stkSub(I:Inv X Kp σ H s):∀b∈frs X.stack,b∈X.env.locals::X.fs:=fun b hb=>by
 rcases I.ok.stk with e | ⟨e,hf⟩
 ·rw[e]at hb;exact List.mem_cons_of_mem _ hb
 ·rw[e]at hb
  unfold frs at hb;rw[List.filterMap_cons,hf]at hb;exact hb
theorem Inv.stkFree(I:Inv X Kp σ H s):∀b∈frs X.stack,H b=none:=fun b hb=>by
 rcases List.mem_cons.mp (I.stkSub b hb)with e | hb
 ·rw[e];exact I.free
 ·obtain⟨_,o,ho,_⟩:=I.ok.funs.mem hb
  exact I.base.free b o ho (I.ok.frf b hb) fun z=>I.ok.exfs b z hb
theorem Inv.step{g':Array GenState}{t':Nat}{d':Drawn}{ch:List Addr}(I:Inv X Kp σ H s)
  (hch:∀b∈ch,(b∈X.ex∨X.s₀.heap.objs.size<=b)/\b≠X.env.locals/\(∀x c,X.env.cells.lookup x=some c->c≠b)/\∀p∈X.pn++Kp,p.1≠b)
  (keep:∀b o,b≠X.env.locals->b∉X.fs->b∉ch->s.heap.get? b=some o->H b=none->h'.get? b=some o)
  (slot:∀b o,b≠X.env.locals->b∈X.fs->b∉ch->s.heap.get? b=some o->H b=none->∃sl,h'.get? b=some { o with slots:=sl }) (free:∀b o,b∉ch->s.heap.get? b=some o->H b=none->H' b=none)
  (there:∀b o,b∉ch->s.heap.get? b=some o->∃o',h'.get? b=some o')
  (tups:∀b xs,H b=some (.tup xs)->H' b=some (.tup xs)) (frzs:∀b o u,H b=some (.frz o u)->H' b=some (.frz o u)) (tbls:∀b ps,H b=some (.tbl ps)->∃more,H' b=some (.tbl (ps++more)))
  (ns:∀m,s.heap.Ns X.env.locals m->h'.Ns X.env.locals m) (hok:HOk X.prog X.w H' h') (hg:AllBare g'):
  Inv X Kp σ H' { s with heap:=h',gens:=g',drawn:=d',toks:=t' }:=by
 have neL:∀b o,X.s₀.heap.get? b=some o->b≠X.env.locals:=fun b o e=>Nat.ne_of_lt (Nat.lt_of_lt_of_le (Heap.lt_size e) I.ok.above)
 have neC:∀b o,X.s₀.heap.get? b=some o->b∉X.ex->b∉ch:=fun b o e hx hb=>by
  rcases (hch b hb).1 with z | z
  ·exact hx z
  ·exact absurd (Nat.lt_of_lt_of_le (Heap.lt_size e) z) (Nat.lt_irrefl _)
 have cellK:∀x c,X.env.cells.lookup x=some c->∀v,s.heap.IsCell c v->h'.IsCell c v:=fun x c e v ⟨o,ho,hd⟩=>by
  have nch:c∉ch:=fun z=>(hch c z).2.2.1 x c e rfl;by_cases hc:c∈X.fs
  ·obtain⟨sl,q⟩:=slot c o (I.cne x c e) hc nch ho (I.freeC x c e)
   exact⟨_,q,hd⟩
  ·exact⟨o,keep c o (I.cne x c e) hc nch ho (I.freeC x c e),hd⟩
 refine⟨I.ok,I.os,hg,⟨fun b o e n hb hx=>?_,fun b o e n hb hx=>?_,fun b o e n hx=>?_,fun b o e hx=>?_,fun b xs e=>tups b xs (I.base.tups b xs e),fun b o xs e=>frzs b o xs (I.base.frzs b o xs e),fun b ps e=>?_⟩,?_,fun x c e=>?_,?_,fun x c e=>?_,fun p hp=>?_,hok,I.len⟩
 ·exact keep b o (neL b o e) hb (neC b o e hx) (I.base.keep b o e n hb hx) (I.base.free b o e n hx)
 ·obtain⟨sl,e1⟩:=I.base.slot b o e n hb hx
  obtain⟨sl',e2⟩:=slot b _ (neL b o e) hb (neC b o e hx) e1 (I.base.free b o e n hx);exact⟨sl',e2⟩
 ·obtain⟨o',e1⟩:=I.base.there b o e hx
  exact free b o' (neC b o e hx) e1 (I.base.free b o e n hx)
 ·obtain⟨o',e1⟩:=I.base.there b o e hx
  exact there b o' (neC b o e hx) e1
 ·obtain⟨m1,e1⟩:=I.base.tbls b ps e
  obtain⟨m2,e2⟩:=tbls b _ e1;exact⟨m1++m2,by rw[e2,Array.append_assoc]⟩
 ·obtain⟨m,hn,hl⟩:=I.loc
  refine⟨m,ns m hn,fun i x v e1 e2 e3=>?_⟩;obtain⟨u,r,l⟩:=hl i x v e1 e2 e3;refine⟨u,r,?_⟩;rcases l with l | ⟨k,c,e,z⟩
  ·exact .inl l
  ·exact .inr ⟨k,c,e,cellK x c e _ z⟩
 ·obtain⟨v,z⟩:=I.cell x c e
  exact⟨v,cellK x c e v z⟩
 ·obtain⟨m,⟨o,_,_,ho,_⟩,_⟩:=I.loc
  exact free _ o (fun z=>(hch _ z).2.1 rfl) ho I.free
 ·obtain⟨v,o,ho,hd⟩:=I.cell x c e
  exact free c o (fun z=>(hch c z).2.2.1 x c e rfl) ho (I.freeC x c e)
 ·obtain⟨e,n,ne,nf,d⟩:=I.pin p hp
  have nch:p.1∉ch:=fun z=>(hch p.1 z).2.2.2 p hp rfl;exact⟨keep p.1 p.2 ne nf nch e n,free p.1 p.2 nch e n,ne,nf,d⟩
theorem Inv.un{t':Nat}(I:Inv X Kp σ H s)(u:Un X.fs [] H H' s.heap h')(hok:HOk X.prog X.w H' h'):Inv X Kp σ H' { s with heap:=h',toks:=t' }:=by
 obtain⟨m,⟨o,es,ep,ho,r⟩,_⟩:=id I.loc;obtain⟨sl,hL⟩:=u.any ho I.free (by simp)
 exact I.step (g':=s.gens) (d':=s.drawn) (ch:=[]) (fun _ z=>nomatch z) (fun b o _ hb _ e n=>u.keep b o e n hb (by simp)) (fun b o _ hb _ e n=>u.slot b o e n hb (by simp)) (fun b o _ e n=>u.free b o e n (by simp)) (fun b o _ e=>u.there b o e (by simp)) u.tups u.frzs u.tbls (fun m' hm=>by
  obtain ⟨o',es',ep',ho',r'⟩:=hm;rw [ho] at ho'; cases ho';exact ⟨_,es',ep',hL,r'⟩) hok I.bare
theorem Inv.call{g':Array GenState}{t':Nat}{d':Drawn}{ch:List Addr}(I:Inv X Kp σ H s)(u:Un (frs X.stack) ch H H' s.heap h')(hok:HOk X.prog X.w H' h')(hg:AllBare g')
  (hch:∀b∈ch,(b∈X.ex∨X.s₀.heap.objs.size<=b)/\b≠X.env.locals/\(∀x c,X.env.cells.lookup x=some c->c≠b)/\∀p∈X.pn++Kp,p.1≠b):
  Inv X Kp σ H' { s with heap:=h',gens:=g',drawn:=d',toks:=t' }:=by
 obtain⟨m,⟨o,es,ep,ho,r⟩,_⟩:=id I.loc;obtain⟨sl,hL⟩:=u.any ho I.free fun z=>(hch _ z).2.1 rfl
 exact I.step (ch:=ch) hch (fun b o hL hb hc e n=>u.keep b o e n (fun z=>(List.mem_cons.mp (I.stkSub b z)).elim hL hb) hc) (fun b o _ _ hc e n=>u.any e n hc) (fun b o hc e n=>u.free b o e n hc) (fun b o hc e=>u.there b o e hc) u.tups u.frzs u.tbls (fun m' hm=>by
  obtain ⟨o',es',ep',ho',r'⟩:=hm;rw [ho] at ho'; cases ho';exact ⟨_,es',ep',hL,r'⟩) hok hg
theorem Inv.turned{t':Nat}{it:Addr}(I:Inv X Kp σ H s)(k:∀b o,b≠it->s.heap.get? b=some o->h'.get? b=some o)(hn:H it=none)(hL:it≠X.env.locals)
  (h1:it∈X.ex∨X.s₀.heap.objs.size<=it) (h2:∀x c,X.env.cells.lookup x=some c->c≠it) (h3:∀p∈X.pn++Kp,p.1≠it):Inv X Kp σ H { s with heap:=h',toks:=t' }:=by
 have nit:∀b u,H b=some u->b≠it:=fun b u e z=>by rw[z,hn]at e;cases e
 refine I.step (g':=s.gens) (d':=s.drawn) (ch:=[it]) (fun b hb=>?_) (fun b o _ _ hc e _=>k b o (fun z=>hc (by simp[z])) e) (fun b o _ _ hc e _=>⟨o.slots,k b o (fun z=>hc (by simp[z])) e⟩) (fun _ _ _ _ n=>n)
  (fun b o hc e=>⟨o,k b o (fun z=>hc (by simp[z])) e⟩) (fun _ _ e=>e) (fun _ _ _ e=>e) (fun b ps e=>⟨#[],by rw[e];simp⟩) (fun m hm=>?_) (fun b u e=>?_) I.bare
 ·have e:b=it:=by simpa using hb
  subst e;exact⟨h1,hL,h2,h3⟩
 ·obtain⟨o,es,ep,ho,r⟩:=hm
  exact⟨o,es,ep,k _ o (Ne.symm hL) ho,r⟩
 ·refine(I.hok b u e).stay (fun c v hc q=>k c v ?_ q) (fun _ q=>q) fun _ _ q=>q
  rcases hc with z | z
  ·rw[z];exact nit b u e
  ·exact nit c _ z
theorem Inv.tok(I:Inv X Kp σ H s)(t:Nat):Inv X Kp σ H { s with toks:=t }:=I.un (h':=s.heap) (t':=t) Un.refl I.hok
theorem Inv.kept{t':Nat}(I:Inv X Kp σ H s)(k:∀b u,s.heap.get? b=some u->h'.get? b=some u):Inv X Kp σ H { s with heap:=h',toks:=t' }:=I.un (Un.kept k) (I.hok.kept k)
theorem Inv.laid{a:Addr}{o:HO}{t':Nat}(I:Inv X Kp σ H s)(k:∀b u,s.heap.get? b=some u->h'.get? b=some u)(hp:s.heap.objs.size<=a)(new:qw X.prog X.w (upd H a o) h' a o):
  Inv X Kp σ (upd H a o) { s with heap:=h',toks:=t' }:=I.un (Un.laid k hp (I.hok.fresh hp)) (I.hok.laid k hp new)
theorem Inv.write{x e:Addr}{o:HO}{t':Nat}(I:Inv X Kp σ H s)(mu:Mut (H x))(he:e=x∨H e=some (.own x))(k:∀b u,b≠e->s.heap.get? b=some u->h'.get? b=some u)(heo:∃u,h'.get? e=some u)
  (new:qw X.prog X.w (upd H x o) h' x o):Inv X Kp σ (upd H x o) { s with heap:=h',toks:=t' }:=I.un (Un.write mu he k heo) (I.hok.write mu he k heo new)
theorem Inv.pins_of{pins':List (Addr×Obj)}(I:Inv X Kp σ H s)(h:∀p∈pins',s.heap.get? p.1=some p.2/\H p.1=none/\p.1≠X.env.locals/\p.1∉X.fs/\∀v,p.2.data ≠ .cell v):Inv X pins' σ H s:=
 ⟨I.ok,I.os,I.bare,I.base,I.loc,I.cell,I.free,I.freeC,fun p hp=>(List.mem_append.mp hp).elim (fun z=>I.pin p (List.mem_append_left _ z)) (h p),I.hok,I.len⟩
theorem aff{N:List Str}(hN:N.Nodup){i j:Nat}{x:Str}(a:N[i]?=some x)(b:N[j]?=some x):i=j:=by
 obtain⟨h1,e1⟩:=List.getElem?_eq_some_iff.mp a;obtain⟨h2,e2⟩:=List.getElem?_eq_some_iff.mp b;exact(List.getElem_inj hN).mp (e1.trans e2.symm)
theorem aiQ{M:Model}{A:Around}{E:Value->SP0}{i:Nat}{x:Str}{v:V}{u:Value}{Q:Unit->SP0}(I:Inv X Kp σ H s)(hN:X.N.Nodup)(hi:X.N[i]?=some x)(hx:Loc X.env.scope x)(r:jK v u)
  (h:∀s',Inv X Kp (σ.set i (some v)) H s'->(∃a,Heap.SameBut a s.heap s'.heap/\(a=X.env.locals∨X.env.cells.lookup x=some a))->Q () s') (hf:X.fn x=true∨X.env.scope.names.lookup x=some .local:=by first|exact .inl rfl|exact .inr rfl|assumption):wpAny M A (storeName X.env x u) Q E s:=by
 obtain⟨m,hn,hl⟩:=id I.loc;have hcls:(X.env.scope.kind == .class||(X.env.scope.kind == .module&&X.env.locals != X.env.globals))=false:=by rw[I.ok.kind];rfl
 have hiσ:i < σ.length:=by rw[I.len];exact(List.getElem?_eq_some_iff.mp hi).1
 have cne:=I.cne
 have tracked:∀{a:Addr} {h':Heap},(∃o,s.heap.get? a=some o/\H a=none)->Heap.SameBut a s.heap h'->HOk X.prog X.w H h':=fun {a h'} ha hs b ob e=>by
  obtain⟨_,_,hfree⟩:=ha;refine(I.hok b ob e).stay (fun c w' hc q=>(hs.2 c ?_).trans q) (fun _ q=>q) fun _ _ q=>q
  rintro rfl
  rcases hc with rfl | hc
  ·rw[hfree]at e;cases e
  ·rw[hfree]at hc;cases hc
 rcases hx with hk | hk
 ·refine wpAny_storeName_local hk hn (fun h' hn' hs=>?_) hcls
  obtain⟨oL,_,_,hoL,_⟩:=id hn;refine h _ ⟨I.ok,I.os,I.bare,⟨fun b o e n hb hx=>?_,fun b o e n hb hx=>?_,I.base.free,fun b o e hx=>?_,I.base.tups,I.base.frzs,I.base.tbls⟩,⟨_,hn',fun j y v' e1 e2 e3=>?_⟩,fun y c e=>?_,I.free,I.freeC,fun p hp=>?_,tracked ⟨oL,hoL,I.free⟩ hs,by simpa using I.len⟩ ⟨_,hs,.inl rfl⟩
  ·exact(hs.2 b (Nat.ne_of_lt (Nat.lt_of_lt_of_le (Heap.lt_size e) I.ok.above))).trans (I.base.keep b o e n hb hx)
  ·obtain⟨sl,e1⟩:=I.base.slot b o e n hb hx
   exact⟨sl,(hs.2 b (Nat.ne_of_lt (Nat.lt_of_lt_of_le (Heap.lt_size e) I.ok.above))).trans e1⟩
  ·obtain⟨o',e1⟩:=I.base.there b o e hx
   exact⟨o',(hs.2 b (Nat.ne_of_lt (Nat.lt_of_lt_of_le (Heap.lt_size e) I.ok.above))).trans e1⟩
  ·by_cases hj:j=i
   ·subst hj
    rw[hi]at e1;cases e1;rw[List.getElem?_set_self hiσ]at e2;cases e2;exact⟨u,r,.inl ⟨hk,by simp⟩⟩
   ·rw[List.getElem?_set_ne (Ne.symm hj)]at e2
    obtain⟨u',r',q⟩:=hl j y v' e1 e2 e3;refine⟨u',r',?_⟩;rcases q with ⟨k,e⟩ | ⟨k,c,e,z⟩
    ·refine .inl ⟨k,?_⟩
     have:y≠x:=fun e=>hj (aff hN e1 (e▸hi));simp[this,e]
    ·exact .inr ⟨k,c,e,z.sameBut hs (cne y c e)⟩
  ·obtain⟨w',z⟩:=I.cell y c e
   exact⟨w',z.sameBut hs (cne y c e)⟩
  ·obtain⟨e,n,ne,nf,d⟩:=I.pin p hp
   exact⟨(hs.2 p.1 ne).trans e,n,ne,nf,d⟩
 ·have hfn:X.fn x=true:=by
   rcases hf with z | z
   ·exact z
   ·rw[z]at hk;cases hk
  obtain⟨c,hc⟩:=I.ok.has x (.inl hk);obtain⟨w',z⟩:=I.cell x c hc;refine wpAny_storeName_cell I.ok.kind hk hc z (fun h' hc' hs=>?_);obtain⟨oc,hoc,hocd⟩:=id z;refine h { s with heap:=h' } ⟨I.ok,I.os,I.bare,⟨fun b o e n hb hx=>?_,fun b o e n hb hx=>?_,I.base.free,fun b o e hx=>?_,I.base.tups,I.base.frzs,I.base.tbls⟩,⟨m,hn.sameBut hs (Ne.symm (cne x c hc)),fun j y v' e1 e2 e3=>?_⟩,fun y c' e=>?_,I.free,I.freeC,fun p hp=>?_,tracked ⟨oc,hoc,I.freeC x c hc⟩ hs,by simpa using I.len⟩ ⟨c,hs,.inr hc⟩
  ·exact(hs.2 b (Nat.ne_of_lt (Nat.lt_of_lt_of_le (Heap.lt_size e) (I.ok.cab x c hfn hc)))).trans (I.base.keep b o e n hb hx)
  ·obtain⟨sl,e1⟩:=I.base.slot b o e n hb hx
   exact⟨sl,(hs.2 b (Nat.ne_of_lt (Nat.lt_of_lt_of_le (Heap.lt_size e) (I.ok.cab x c hfn hc)))).trans e1⟩
  ·obtain⟨o',e1⟩:=I.base.there b o e hx
   exact⟨o',(hs.2 b (Nat.ne_of_lt (Nat.lt_of_lt_of_le (Heap.lt_size e) (I.ok.cab x c hfn hc)))).trans e1⟩
  ·by_cases hj:j=i
   ·subst hj
    rw[hi]at e1;cases e1;rw[List.getElem?_set_self hiσ]at e2;cases e2;exact⟨u,r,.inr ⟨.inl hk,c,hc,hc'⟩⟩
   ·rw[List.getElem?_set_ne (Ne.symm hj)]at e2
    obtain⟨u',r',q⟩:=hl j y v' e1 e2 e3;refine⟨u',r',?_⟩;rcases q with q | ⟨k,c',e,z'⟩
    ·exact .inl q
    ·refine .inr ⟨k,c',e,z'.sameBut hs ?_⟩
     rintro rfl
     exact hj (aff hN e1 (I.ok.inj _ _ _ e hc▸hi))
  ·by_cases hcc:c'=c
   ·subst hcc;exact⟨_,hc'⟩
   ·obtain⟨w2,z2⟩:=I.cell y c' e
    exact⟨w2,z2.sameBut hs hcc⟩
  ·obtain⟨e,n,ne,nf,d⟩:=I.pin p hp
   refine⟨(hs.2 p.1 ?_).trans e,n,ne,nf,d⟩;intro q;rw[q,hoc]at e;have q':oc=p.2:=Option.some.inj e;exact d w' (by rw[←q'];exact hocd)
theorem afg{M:Model}{A:Around}{E:Value->SP0}{i:Nat}{x:Str}{v:V}{u:Value}{Q:Unit->SP0}(I:Inv X Kp σ H s)(hN:X.N.Nodup)(hi:X.N[i]?=some x)(hx:Loc X.env.scope x)(r:jK v u)
  (h:∀s',Inv X Kp (σ.set i (some v)) H s'->Q () s') (hf:X.fn x=true∨X.env.scope.names.lookup x=some .local:=by first|exact .inl rfl|exact .inr rfl|assumption):wpAny M A (storeName X.env x u) Q E s:=
 aiQ I hN hi hx r (fun s' I' _=>h s' I') hf
theorem Inv.call'{s':Shared}{ch:List Addr}(I:Inv X Kp σ H s)(ho:s'.os=s.os)(u:Un (frs X.stack) ch H H' s.heap s'.heap)(hok:HOk X.prog X.w H' s'.heap)(hg:AllBare s'.gens)
  (hch:∀b∈ch,(b∈X.ex∨X.s₀.heap.objs.size<=b)/\b≠X.env.locals/\(∀x c,X.env.cells.lookup x=some c->c≠b)/\∀p∈X.pn++Kp,p.1≠b):Inv X Kp σ H' s':=by
 obtain⟨h',g',d',t',o'⟩:=s';have e:o'=s.os:=ho;subst e;exact I.call (g':=g') (t':=t') (d':=d') u hok hg hch
end
noncomputable abbrev XK:=Value->Option Addr->Hp->Prop
noncomputable abbrev St:=List (Option V)
noncomputable abbrev VK:=V->Hp->Prop
noncomputable abbrev TE:=St->Hp->VK->Prop
noncomputable abbrev TT:=St->Hp->(Bool->Hp->Prop)->Prop
noncomputable abbrev TA:=St->Hp->(List V->Hp->Prop)->Prop
structure Ends where
 nx:St->Hp->Prop
 rt:VK
 bk:St->Hp->Prop:=fun _ _=>False
 ct:St->Hp->Prop:=fun _ _=>False
noncomputable abbrev TS:=Ends->St->Hp->Prop
noncomputable def EP(X:Cx)(Kp:List (Addr×Obj))(σ:St)(Q:VK)(u:Value)(s':Shared):Prop:=∃v H',Inv X Kp σ H' s'/\jK v u/\Q v H'
noncomputable def TP(X:Cx)(Kp:List (Addr×Obj))(σ:St)(Q:Bool->Hp->Prop)(b:Bool)(s':Shared):Prop:=∃H',Inv X Kp σ H' s'/\Q b H'
noncomputable def AP(X:Cx)(Kp:List (Addr×Obj))(σ:St)(Q:List V->Hp->Prop)(us:List Value)(s':Shared):Prop:=∃vs H',Inv X Kp σ H' s'/\jB vs us/\Q vs H'
noncomputable def SP(X:Cx)(Kp:List (Addr×Obj))(D:Ends)(f:Flow)(s':Shared):Prop:=
 match f with
 |.next=>∃σ' H',Inv X Kp σ' H' s'/\D.nx σ' H'
 |.brk=>∃σ' H',Inv X Kp σ' H' s'/\D.bk σ' H'
 |.cont=>∃σ' H',Inv X Kp σ' H' s'/\D.ct σ' H'
 |.ret u=>∃v σ' H',Inv X Kp σ' H' s'/\jK v u/\D.rt v H'
noncomputable def PE(X:Cx)(e:Expr)(t:TE):Prop:=
 ∀(Kp:List (Addr×Obj)) (s:Shared) (σ:St) (H:Hp) (Q:VK),Inv X Kp σ H s->t σ H Q->wpAny (model X.prog X.w) X.A (eval e X.env) (EP X Kp σ Q) X.xe s
noncomputable def PT(X:Cx)(e:Expr)(t:TT):Prop:=
 ∀(Kp:List (Addr×Obj)) (s:Shared) (σ:St) (H:Hp) (Q:Bool->Hp->Prop),Inv X Kp σ H s->t σ H Q->wpAny (model X.prog X.w) X.A (isTrue e X.env (eval e X.env)) (TP X Kp σ Q) X.xe s
noncomputable def PW(X:Cx)(e:Expr)(t:TT):Prop:=
 ∀(whole:Sem Value) (Kp:List (Addr×Obj)) (s:Shared) (σ:St) (H:Hp) (Q:Bool->Hp->Prop),Inv X Kp σ H s->t σ H Q->wpAny (model X.prog X.w) X.A (isTrue e X.env whole) (TP X Kp σ Q) X.xe s
theorem PW.pt{X:Cx}{e:Expr}{t:TT}(h:PW X e t):PT X e t:=h _
noncomputable def PA(X:Cx)(es:List Expr)(t:TA):Prop:=
 ∀(pos:Pos) (Kp:List (Addr×Obj)) (s:Shared) (σ:St) (H:Hp) (Q:List V->Hp->Prop),Inv X Kp σ H s->t σ H Q->wpAny (model X.prog X.w) X.A (spliced (backTo pos (starEach es X.env))) (AP X Kp σ Q) X.xe s
noncomputable def PS(X:Cx)(st:Stmt)(t:TS):Prop:=
 ∀(Kp:List (Addr×Obj)) (s:Shared) (σ:St) (H:Hp) (D:Ends),Inv X Kp σ H s->t D σ H->wpAny (model X.prog X.w) X.A (exec st X.env) (SP X Kp D) X.xe s
noncomputable def PSs(X:Cx)(st:List Stmt)(t:TS):Prop:=
 ∀(Kp:List (Addr×Obj)) (s:Shared) (σ:St) (H:Hp) (D:Ends),Inv X Kp σ H s->t D σ H->wpAny (model X.prog X.w) X.A (execs st X.env) (SP X Kp D) X.xe s
theorem thn{α:Type}{t:Sem α}{Q Q':α->SP0}{M:Model}{A:Around}{E:Value->SP0}{s:Shared}(h:wpAny M A t Q E s)(hQ:∀a s,Q a s->Q' a s):wpAny M A t Q' E s:=wpAny_mono h hQ fun _ _ x=>x
section
variable {X:Cx}
noncomputable def apU(i:Nat):TE:=fun σ H Q=>∃v,σ[i]?=some (some v)/\Q v H
noncomputable def tC(v:V):TE:=fun _ H Q=>Q v H
theorem abN{i:Nat}{x:Str}{pos:Pos}(hN:X.N[i]?=some x)(hv:Vis X.env.scope x)(hd:(x==("__debug__":Str))=false:=by decide)(hcd:(x==("__classdict__":Str))=false:=by decide):PE X (.Name x pos) (apU i):=by
 intro Kp s σ H Q I h;obtain⟨v,e,h⟩:=h;obtain⟨m,hn,hl⟩:=I.loc;obtain⟨u,r,l⟩:=hl i x v hN e hv;have fin:EP X Kp σ Q u s:=⟨v,H,I,r,h⟩;rcases l with ⟨hk,hm⟩ | ⟨hk,c,hc,hcell⟩
 ·exact wpAny_Name (wpAny_loadName_local I.ok.kind hk hn hm fin) hd
 ·rcases hk with hk | hk
  ·exact wpAny_Name (wpAny_loadName_cell I.ok.kind hk hc hcell fin) hd
  ·exact wpAny_Name (wpAny_loadName_free I.ok.kind hk hc hcell fin hcd) hd
theorem aot{i j pos}:PE X (.Constant (.int i) j pos) (tC (.int i)):=fun _ _ _ H _ I h=>wpAny_Constant_int ⟨.int i,H,I.tok _,⟨_,rfl⟩,h⟩
theorem apV{b j pos}:PE X (.Constant (.bool b) j pos) (tC (.bl b)):=fun _ _ _ H _ I h=>Constant_bool ⟨.bl b,H,I,rfl,h⟩
theorem aj6{j pos}:PE X (.Constant .none j pos) (tC .non):=fun _ _ _ H _ I h=>Constant_none ⟨.non,H,I,rfl,h⟩
theorem aj7{x j pos}:PE X (.Constant (.str x) j pos) (tC (.str x)):=fun _ _ _ H _ I h=>Calls.Constant_str ⟨.str x,H,I.tok _,⟨_,rfl⟩,h⟩
noncomputable def Gl(X:Cx)(x:Str):Prop:=X.env.kindOf x=some .globalImplicit
theorem abj{E:Value->SP0}{Kp:List (Addr×Obj)}{s:Shared}{σ:St}{H:Hp}{x:Str}{u:Value}{pos:Pos}{Q:Value->SP0}(I:Inv X Kp σ H s)(hg:Gl X x)(hm:X.mg x=some u)(h:Q u s)
  (hd:(x==("__debug__":Str))=false:=by decide):wpAny (model X.prog X.w) X.A (eval (.Name x pos) X.env) Q E s:=
 Calls.Name_function_global I.ok.kind hg (Calls.loadGlobal_global (by rw[I.ok.glob];exact I.mod.glob.keeps I.bk) hm h) hd
theorem Zr{E:Value->SP0}{Kp:List (Addr×Obj)}{s:Shared}{σ:St}{H:Hp}{x:Str}{u:Value}{pos:Pos}{Q:Value->SP0}(I:Inv X Kp σ H s)(hg:Gl X x)(hm:X.mg x=none)(hv:bootBuiltins x=some u)(h:Q u s)
  (hn:x≠"__name__":=by decide) (hd:(x==("__debug__":Str))=false:=by decide):wpAny (model X.prog X.w) X.A (eval (.Name x pos) X.env) Q E s:=by
 obtain⟨mb,h1,h2⟩:=I.mod.blt;exact Calls.Name_function_global I.ok.kind hg (Calls.loadGlobal_builtin (by rw[I.ok.glob];exact I.mod.glob.keeps I.bk) hm (by rw[I.ok.blt];exact h1.keeps I.bk) ((h2 x hn).trans hv) h) hd
theorem ad4{x:Str}{v:V}{u:Value}{pos:Pos}(hg:Gl X x)(hm:X.mg x=some u)(r:jK v u)(hd:(x==("__debug__":Str))=false:=by decide):PE X (.Name x pos) (tC v):=
 fun _ _ _ H _ I h=>abj I hg hm ⟨v,H,I,r,h⟩ hd
theorem amv{x:Str}{v:V}{u:Value}{pos:Pos}(hg:Gl X x)(hm:X.mg x=none)(hv:bootBuiltins x=some u)(r:jK v u)(hn:x≠"__name__":=by decide)(hd:(x==("__debug__":Str))=false:=by decide):PE X (.Name x pos) (tC v):=
 fun _ _ _ H _ I h=>Zr I hg hm hv ⟨v,H,I,r,h⟩ hn hd
variable {a b:Expr}{ta tb:TE}{pos:Pos}
noncomputable def tB(t:TE):TT:=fun σ H Q=>t σ H fun x H1=>∃c,x= .bl c/\Q c H1
theorem aou{e:Expr}{t:TE}(h:PE X e t)(he:∀whole,isTrue e X.env whole=(do let v ←whole;standAt e.pos;holding [v] (truthy v)):=by intro _;rfl):PT X e (tB t):=by
 intro Kp s σ H Q I hw;refine isTrue_plain (thn (h Kp s σ H _ I hw) fun v s1 ⟨x,H1,I1,r1,q1⟩=>?_) (he _);obtain⟨d,rfl,q⟩:=q1;cases r1;exact wpAny_truthy_bool ⟨H1,I1,q⟩
variable {tA tB':TT}{j8:List Expr}
noncomputable def aqZ(t u:TT):TT:=fun σ H Q=>t σ H fun c H1=>if c=true then u σ H1 Q else Q false H1
noncomputable def tOr(t u:TT):TT:=fun σ H Q=>t σ H fun c H1=>if c=true then Q true H1 else u σ H1 Q
noncomputable def aq0(t:TT):TT:=fun σ H Q=>t σ H fun c H1=>Q (!c) H1
theorem amw(ha:PT X a tA):PW X (.BoolOp .And [a] pos) tA:=by
 intro wh Kp s σ H Q I h;refine isTrue_and (thn (ha Kp s σ H Q I h) fun c s1 e=>?_);cases c with
 |true=>exact isTrue_and_nil e
 |false=>exact e
theorem aov(ha:PT X a tA):PW X (.BoolOp .Or [a] pos) tA:=by
 intro wh Kp s σ H Q I h;refine isTrue_or (thn (ha Kp s σ H Q I h) fun c s1 e=>?_);cases c with
 |false=>exact isTrue_or_nil e
 |true=>exact e
theorem aow(ha:PT X a tA)(hb:PW X (.BoolOp .And (b::j8) pos) tB'):PW X (.BoolOp .And (a::b::j8) pos) (aqZ tA tB'):=by
 intro wh Kp s σ H Q I h;refine isTrue_and (thn (ha Kp s σ H _ I h) fun c s1 ⟨H1,I1,q1⟩=>?_);cases c with
 |true=>exact hb wh Kp s1 σ H1 Q I1 q1
 |false=>exact⟨H1,I1,q1⟩
theorem apW(ha:PT X a tA)(hb:PW X (.BoolOp .Or (b::j8) pos) tB'):PW X (.BoolOp .Or (a::b::j8) pos) (tOr tA tB'):=by
 intro wh Kp s σ H Q I h;refine isTrue_or (thn (ha Kp s σ H _ I h) fun c s1 ⟨H1,I1,q1⟩=>?_);cases c with
 |true=>exact⟨H1,I1,q1⟩
 |false=>exact hb wh Kp s1 σ H1 Q I1 q1
theorem aox(ha:PT X a tA):PT X (.UnaryOp .Not a pos) (aq0 tA):=by
 intro Kp s σ H Q I h;exact isTrue_not (ha Kp s σ H (fun c H1=>Q (!c) H1) I h)
noncomputable def apX(ta tb:TE):TE:=fun σ H Q=>ta σ H fun x H1=>∃c,x= .bl c/\if c=true then tb σ H1 Q else Q (.bl false) H1
theorem aoy{op}{t:TE}(h:PE X a t):PE X (.BoolOp op [a] pos) t:=fun Kp s σ H Q I hw=>BoolOp_one (h Kp s σ H Q I hw)
theorem aoz(ha:PE X a ta)(hb:PE X (.BoolOp .And (b::j8) pos) tb):PE X (.BoolOp .And (a::b::j8) pos) (apX ta tb):=by
 intro Kp s σ H Q I h;refine BoolOp_and (thn (ha Kp s σ H _ I h) fun v s1 ⟨x,H1,I1,r1,q1⟩=>?_);obtain⟨c,rfl,q1⟩:=q1;cases r1;refine wpAny_truthy_bool ?_;cases c with
 |true=>exact hb Kp s1 σ H1 Q I1 q1
 |false=>exact⟨.bl false,H1,I1,rfl,q1⟩
noncomputable def tIf(t:TT)(ta tb:TE):TE:=fun σ H Q=>t σ H fun c H1=>if c=true then ta σ H1 Q else tb σ H1 Q
theorem aj8{c:Expr}(hc:PT X c tA)(ha:PE X a ta)(hb:PE X b tb):PE X (.IfExp c a b pos) (tIf tA ta tb):=by
 intro Kp s σ H Q I h;refine wpAny_IfExp (thn (hc Kp s σ H _ I h) fun d s1 ⟨H1,I1,q1⟩=>?_);cases d with
 |true=>exact ha Kp s1 σ H1 Q I1 q1
 |false=>exact hb Kp s1 σ H1 Q I1 q1
end
noncomputable def SqL(K:Fg)(H:Hp)(a:Addr)(xs:List V):Prop:=
 Rd H a (.lst xs) ∨
  ∃(o:Obj) (its:Array Value) (n:Nat),K.lookup a=some o/\o.cls= .type "list"/\o.dict=none/\o.data= .seq its n/\its.size<=sizeLine/\jB xs its.toList
noncomputable def SqT(K:Fg)(H:Hp)(a:Addr)(xs:List V):Prop:=
 Rd H a (.tup xs) ∨
  ∃(o:Obj) (its:Array Value) (n:Nat),K.lookup a=some o/\o.cls= .type "tuple"/\o.data= .seq its n/\its.size<=sizeLine/\jB xs its.toList
noncomputable def aq1:Value->Option V
 |.none=>some .non
 |.bool b=>some (.bl b)
 |.int i _=>some (.int i)
 |.str x _=>some (.str x)
 |.bytes b _=>some (.byt b)
 |.float b _=>some (.flt b)
 |.ref a=>some (.ref a)
 |.type n=>some (.ty n)
 |_=>none
theorem jK.abs{x:V}{u:Value}(r:jK x u):aq1 u=some x:=by
 cases x with
 |non=>cases r;rfl
 |bl _=>cases r;rfl
 |int _=>obtain⟨t,rfl⟩:=r;rfl
 |str _=>obtain⟨t,rfl⟩:=r;rfl
 |byt _=>obtain⟨t,rfl⟩:=r;rfl
 |flt _=>obtain⟨t,rfl⟩:=r;rfl
 |ref _=>cases r;rfl
 |ty _=>cases r;rfl
theorem jK.inj{x y:V}{u:Value}(r:jK x u)(q:jK y u):x=y:=Option.some.inj (r.abs.symm.trans q.abs)
theorem jB.inj:∀{xs ys:List V}{us:List Value},jB xs us->jB ys us->xs=ys
 |_,_,_,.nil,.nil=>rfl
 |_,_,_,.cons r t,.cons r' t'=>by rw[r.inj r',jB.inj t t']
section
variable {X:Cx}{Kp:List (Addr×Obj)}{σ:St}{H:Hp}{s:Shared}{a:Addr}{xs ys:List V}
theorem SqL.of{K:Fg}(h:H a=some (.lst xs)):SqL K H a xs:= .inl (.inl h)
theorem SqT.of{K:Fg}(h:H a=some (.tup xs)):SqT K H a xs:= .inl (.inl h)
theorem Inv.list(I:Inv X Kp σ H s)(h:SqL X.K H a xs):∃its:List Value,jB xs its/\PlainL s.heap a its.toArray/\xs.length<=sizeLine:=by
 rcases h with h | ⟨o,its,n,hk,hc,hd,hs,hz,r⟩
 ·obtain⟨z,its,n,r,e⟩:=h.ok I.hok
  exact⟨its,r,⟨_,n,e,rfl,rfl,rfl⟩,z⟩
 ·refine⟨its.toList,r,⟨o,n,I.kIn a o hk,hc,hd,by simpa using hs⟩,?_⟩
  have e:=r.length;simp only[Array.length_toList]at e;omega
theorem Inv.tuple(I:Inv X Kp σ H s)(h:SqT X.K H a xs):∃its:List Value,jB xs its/\IsTup s.heap a its.toArray/\xs.length<=sizeLine:=by
 rcases h with h | ⟨o,its,n,hk,hc,hs,hz,r⟩
 ·obtain⟨z,its,r,p⟩:=h.ok I.hok
  exact⟨its,r,p,z⟩
 ·refine⟨its.toList,r,⟨o,I.kIn a o hk,hc,n,by simpa using hs⟩,?_⟩
  have e:=r.length;simp only[Array.length_toList]at e;omega
theorem Inv.list_inj(I:Inv X Kp σ H s)(h:SqL X.K H a xs)(h':SqL X.K H a ys):xs=ys:=by
 obtain⟨its,r,⟨o,n,e,_,_,d⟩,_⟩:=I.list h;obtain⟨its',r',⟨o',n',e',_,_,d'⟩,_⟩:=I.list h';rw[e]at e';cases e';rw[d]at d';injection d' with d1 _
 have:its=its':=by simpa using congrArg Array.toList d1
 subst this;exact r.inj r'
theorem Inv.tuple_inj(I:Inv X Kp σ H s)(h:SqT X.K H a xs)(h':SqT X.K H a ys):xs=ys:=by
 obtain⟨its,r,⟨o,e,_,n,d⟩,_⟩:=I.tuple h;obtain⟨its',r',⟨o',e',_,n',d'⟩,_⟩:=I.tuple h';rw[e]at e';cases e';rw[d]at d';injection d' with d1 _
 have:its=its':=by simpa using congrArg Array.toList d1
 subst this;exact r.inj r'
end
noncomputable abbrev Cx.wish(X:Cx)(E:Value->SP0):Cx:={ X with xe:=E }
noncomputable abbrev Cx.nox(X:Cx):Cx:=X.wish fun _ _=>False
theorem Cx.Ok.wish{X:Cx}(ok:X.Ok)(E:Value->SP0):(X.wish E).Ok:=
 ⟨ok.mod,ok.kind,ok.glob,ok.blt,ok.above,ok.inj,ok.has,ok.cab,ok.hd,ok.frames,ok.stk,ok.exf,ok.bs,ok.bsz,ok.noex,ok.exfs,ok.funs,ok.frf⟩
theorem Cx.Ok.unwish{X:Cx}{E:Value->SP0}(ok:(X.wish E).Ok):X.Ok:=
 ⟨ok.mod,ok.kind,ok.glob,ok.blt,ok.above,ok.inj,ok.has,ok.cab,ok.hd,ok.frames,ok.stk,ok.exf,ok.bs,ok.bsz,ok.noex,ok.exfs,ok.funs,ok.frf⟩
section
variable {X:Cx}{Kp:List (Addr×Obj)}{σ:St}{H:Hp}{s:Shared}{E:Value->SP0}
theorem Inv.wish(I:Inv X Kp σ H s)(E:Value->SP0):Inv (X.wish E) Kp σ H s:=⟨I.ok.wish E,I.os,I.bare,I.base,I.loc,I.cell,I.free,I.freeC,I.pin,I.hok,I.len⟩
theorem Inv.unwish(I:Inv (X.wish E) Kp σ H s):Inv X Kp σ H s:=⟨I.ok.unwish,I.os,I.bare,I.base,I.loc,I.cell,I.free,I.freeC,I.pin,I.hok,I.len⟩
theorem SP.unwish{D:Ends}{f:Flow}{s':Shared}(h:SP (X.wish E) Kp D f s'):SP X Kp D f s':=by
 cases f with
 |next=>obtain⟨σ',H',I,q⟩:=h;exact⟨σ',H',I.unwish,q⟩
 |brk=>obtain⟨σ',H',I,q⟩:=h;exact⟨σ',H',I.unwish,q⟩
 |cont=>obtain⟨σ',H',I,q⟩:=h;exact⟨σ',H',I.unwish,q⟩
 |ret u=>obtain⟨v,σ',H',I,r,q⟩:=h;exact⟨v,σ',H',I.unwish,r,q⟩
theorem PE.nox{e:Expr}{t:TE}(h:PE X.nox e t):PE X e t:=fun Kp s σ H Q I hw=>
 wpAny_mono (h Kp s σ H Q (I.wish _) hw) (fun _ _ ⟨v,H',I',r,q⟩=>⟨v,H',I'.unwish,r,q⟩) fun _ _ z=>False.elim z
theorem PT.nox{e:Expr}{t:TT}(h:PT X.nox e t):PT X e t:=fun Kp s σ H Q I hw=>
 wpAny_mono (h Kp s σ H Q (I.wish _) hw) (fun _ _ ⟨H',I',q⟩=>⟨H',I'.unwish,q⟩) fun _ _ z=>False.elim z
theorem PSs.nox{st:List Stmt}{t:TS}(h:PSs X.nox st t):PSs X st t:=fun Kp s σ H D I hw=>
 wpAny_mono (h Kp s σ H D (I.wish _) hw) (fun _ _ q=>q.unwish) fun _ _ z=>False.elim z
end
section
variable {X:Cx}{st:Stmt}{j8:List Stmt}{t u:TS}{e:Expr}{te:TE}{pos:Pos}
noncomputable def apY:TS:=fun D σ H=>D.nx σ H
noncomputable def aq2(t u:TS):TS:=fun D σ H=>t { D with nx:=u D } σ H
theorem ahL:PSs X [] apY:=fun _ _ σ H _ I h=>wpAny_execs_nil ⟨σ,H,I,h⟩
theorem Qr(h1:PS X st t)(h2:PSs X j8 u):PSs X (st::j8) (aq2 t u):=by
 intro Kp s σ H D I h;refine wpAny_execs_cons (thn (h1 Kp s σ H { D with nx:=u D } I h) fun f s1 q=>?_);cases f with
 | next=>
  obtain⟨σ',H',I',q⟩:=q;exact h2 Kp s1 σ' H' D I' q
 |ret v=>exact q
 |brk=>exact q
 |cont=>exact q
theorem ad5(h1:PS X st t):PSs X [st] t:=by
 intro Kp s σ H D I h;refine wpAny_execs_cons (thn (h1 Kp s σ H D I h) fun f s1 q=>?_);cases f with
 |next=>exact wpAny_execs_nil q
 |ret v=>exact q
 |brk=>exact q
 |cont=>exact q
theorem Inv.quiet{Kp:List (Addr×Obj)}{σ:St}{H:Hp}{s:Shared}(I:Inv X Kp σ H s):interactive X.env=false:=by simp[interactive,I.ok.kind]
noncomputable def apZ(te:TE):TS:=fun D σ H=>te σ H fun _ H1=>D.nx σ H1
theorem ad6(he:PE X e te)(hs:swapsWith e none pos.line X.env=pure false:=by rfl):PS X (.Expr e pos) (apZ te):=by
 intro Kp s σ H D I h;exact wpAny_Expr_any (thn (he Kp s σ H _ I h) fun v s1 ⟨x,H1,I1,r1,q1⟩=>⟨σ,H1,I1,q1⟩) I.quiet hs
noncomputable def aq3(te:TE):TS:=fun D σ H=>te σ H D.rt
theorem agA(he:PE X e te):PS X (.Return (some e) pos) (aq3 te):=by
 intro Kp s σ H D I h;exact wpAny_Return_some (thn (he Kp s σ H _ I h) fun v s1 ⟨x,H1,I1,r1,q1⟩=>⟨x,σ,H1,I1,r1,q1⟩)
noncomputable def aq4(c:TT)(t u:TS):TS:=fun D σ H=>c σ H fun b H1=>if b=true then t D σ H1 else u D σ H1
theorem an8{c:Expr}{a b:List Stmt}{tc:TT}(hc:PT X c tc)(ha:PSs X a t)(hb:PSs X b u):PS X (.If c a b pos) (aq4 tc t u):=by
 intro Kp s σ H D I h;refine wpAny_If (thn (hc Kp s σ H _ I h) fun d s1 ⟨H1,I1,q1⟩=>?_);cases d with
 |true=>exact ha Kp s1 σ H1 D I1 q1
 |false=>exact hb Kp s1 σ H1 D I1 q1
noncomputable def aoA:TS:=fun _ _ _=>False
theorem aiR{sts:List Stmt}:PSs X sts aoA:=fun _ _ _ _ _ _ h=>h.elim
end
noncomputable abbrev TG:=V->St->Hp->(St->Hp->Prop)->Prop
noncomputable abbrev TGs:=List V->St->Hp->(St->Hp->Prop)->Prop
noncomputable def PG(X:Cx)(target:Expr)(t:TG):Prop:=
 ∀(Kp:List (Addr×Obj)) (s:Shared) (σ:St) (H:Hp) (v:V) (u:Value) (Q:St->Hp->Prop),Inv X Kp σ H s->jK v u->t v σ H Q->
  wpAny (model X.prog X.w) X.A (assign target X.env u) (fun _ s'=>∃σ' H',Inv X Kp σ' H' s'/\Q σ' H') X.xe s
noncomputable def PGs(X:Cx)(ts:List Expr)(t:TGs):Prop:=
 ∀(Kp:List (Addr×Obj)) (s:Shared) (σ:St) (H:Hp) (vs:List V) (us:List Value) (Q:St->Hp->Prop),Inv X Kp σ H s->jB vs us->t vs σ H Q->
  wpAny (model X.prog X.w) X.A (assignInOrder ((assignEach ts X.env).map (·.2)) us) (fun _ s'=>∃σ' H',Inv X Kp σ' H' s'/\Q σ' H') X.xe s
noncomputable abbrev aoB:=V->V->V->Hp->(Hp->Prop)->Prop
noncomputable def ap0(X:Cx)(t:aoB):Prop:=
 ∀(Kp:List (Addr×Obj)) (s:Shared) (σ:St) (H:Hp) (o i v:V) (ov iv u:Value) (Q:Hp->Prop),Inv X Kp σ H s->jK o ov->jK i iv->jK v u->t o i v H Q->
  wpAny (model X.prog X.w) X.A (setItem ov iv u) (fun _ s'=>∃H',Inv X Kp σ H' s'/\Q H') X.xe s
section
variable {X:Cx}{pos:Pos}
noncomputable def an9(i:Nat):TG:=fun v σ H Q=>Q (σ.set i (some v)) H
theorem ZB{i:Nat}{x:Str}(hN:X.N.Nodup)(hi:X.N[i]?=some x)(hx:Loc X.env.scope x)(hf:X.fn x=true∨X.env.scope.names.lookup x=some .local:=by first|exact .inl rfl|exact .inr rfl|assumption):PG X (.Name x pos) (an9 i):=by
 intro Kp s σ H v u Q I r h;exact wpAny_assign_Name (afg I hN hi hx r (fun s' I'=>⟨_,H,I',h⟩) hf)
noncomputable def aq5:TGs:=fun vs σ H Q=>vs=[]/\Q σ H
noncomputable def ap1(t:TG)(u:TGs):TGs:=fun vs σ H Q=>∃v r,vs=v::r/\t v σ H fun σ' H'=>u r σ' H' Q
theorem ahM:PGs X [] aq5:=by
 intro Kp s σ H vs us Q I r h;obtain⟨e,h⟩:=h;subst e;cases r;exact assignInOrder_nil ⟨σ,H,I,h⟩
theorem afh{e:Expr}{es:List Expr}{t:TG}{u:TGs}(h1:PG X e t)(h2:PGs X es u)
  (hs:(assignEach (e::es) X.env).map (·.2)=assign e X.env::(assignEach es X.env).map (·.2):=by rfl):PGs X (e::es) (ap1 t u):=by
 intro Kp s σ H vs us Q I r h;obtain⟨v,vr,e1,h⟩:=h;subst e1;cases r with
 | cons r rr=>
  rw[hs];refine assignInOrder_cons (thn (h1 Kp s σ H _ _ _ I r h) fun _ s1 ⟨σ1,H1,I1,q1⟩=>?_);exact h2 Kp s1 σ1 H1 _ _ Q I1 rr q1
noncomputable def aq6(K:Fg)(n:Nat)(t:TGs):TG:=fun v σ H Q=>∃a xs,v= .ref a/\SqT K H a xs/\xs.length=n/\t xs σ H Q
theorem aj9{es:List Expr}{k:Nat}{t:TGs}{n:Nat}(hc:X.calm=true)(h:PGs X es t)
  (hn:(assignEach es X.env).length=n:=by rfl) (hst:(assignEach es X.env).findIdx? (·.1)=none:=by rfl):PG X (.Tuple es k pos) (aq6 X.K n t):=by
 intro Kp s σ H v u Q I r hw;obtain⟨a,xs,e1,hq,hl,hw⟩:=hw;subst e1;cases r;obtain⟨its,rv,ht,hz⟩:=I.tuple hq;refine assign_Tuple_tuple (I.ok.hd hc) ht (by simp[hn,←hl,rv.length]) hst fun h' hx=>?_;have I1:Inv X Kp σ H { s with heap:=h' }:=I.kept (t':=s.toks) fun b o e=>hx b o (Nat.ne_of_lt (Heap.lt_size e)) e;exact h Kp _ σ H xs _ Q I1 (by simpa using rv) hw
noncomputable def aq7(to ti:TE)(t:aoB):TG:=fun v σ H Q=>to σ H fun o H1=>ti σ H1 fun i H2=>t o i v H2 fun H3=>Q σ H3
theorem aoC{o i:Expr}{to ti:TE}{t:aoB}(ho:PE X o to)(hi:PE X i ti)(hs:ap0 X t)
  (ha:∀v,assign (.Subscript o i pos) X.env v=(do
   let ov ←holding [v] (eval o X.env)
   let iv ←holding [v,ov] (eval i X.env)
   standAt pos
   holding [v,ov,iv] (setItem ov iv v)
   release [v,ov,iv] []):=by intro _; rfl):PG X (.Subscript o i pos) (aq7 to ti t):=by
 intro Kp s σ H v u Q I r h;rw[ha];refine wpAny_bind (wpAny_holding (thn (ho Kp s σ H _ I h) fun ov s1 ⟨x,H1,I1,r1,q1⟩=>?_));refine wpAny_bind (wpAny_holding (thn (hi Kp s1 σ H1 _ I1 q1) fun iv s2 ⟨y,H2,I2,r2,q2⟩=>?_));refine wpAny_bind (wpAny_standAt (wpAny_bind (wpAny_holding (thn (hs Kp s2 σ H2 x y v ov iv u _ I2 r1 r2 r q2) fun _ s3 ⟨H3,I3,q3⟩=>?_))));exact wpAny_release ⟨σ,H3,I3,q3⟩
noncomputable def ap2(te:TE)(g:TG):TS:=fun D σ H=>te σ H fun x H1=>g x σ H1 D.nx
theorem aka{tg e:Expr}{te:TE}{g:TG}(he:PE X e te)(hg:PG X tg g)(hs:swapsWithSole [tg] e pos.line X.env=pure false:=by rfl)(hw:swappedStores [tg] e X.env=pure none:=by rfl)
  (h1:(assignEach [tg] X.env).map (·.2)=[assign tg X.env]:=by rfl):PS X (.Assign [tg] e pos) (ap2 te g):=by
 intro Kp s σ H D I h;refine wpAny_Assign_stores (thn (he Kp s σ H _ I h) fun v s1 ⟨x,H1,I1,r1,q1⟩=>?_) hs hw;rw[h1];exact thn (hg Kp s1 σ H1 x v _ I1 r1 q1) fun _ s2 q=>q
theorem ad7{i:Nat}{x:Str}{e:Expr}{te:TE}{pos':Pos}(hN:X.N.Nodup)(hi:X.N[i]?=some x)(hx:Loc X.env.scope x)(he:PE X e te)(hs:swapsWith e (some (.Name x pos')) pos.line X.env=pure false:=by rfl)(hf:X.fn x=true∨X.env.scope.names.lookup x=some .local:=by first|exact .inl rfl|exact .inr rfl|assumption):
  PS X (.Assign [.Name x pos'] e pos) (ap2 te (an9 i)):=by
 intro Kp s σ H D I h;refine wpAny_Assign_Name (thn (he Kp s σ H _ I h) fun v s1 ⟨y,H1,I1,r1,q1⟩=>?_) hs;exact afg I1 hN hi hx r1 (fun s2 I2=>⟨_,H1,I2,q1⟩) hf
end
section
variable {X:Cx}{pos:Pos}
noncomputable def aoD(c:TT)(tb:TS):TS:=fun D σ H=>∃W:Nat->St->Hp->Prop,(∃m,W m σ H)/\∀m σ H,W m σ H->
 c σ H fun b H1=>if b=true then ∃N:St->Hp->Prop,(∀σ' H',N σ' H'->∃m',m' < m/\W m' σ' H')/\tb { D with nx:=N,ct:=N,bk:=D.nx } σ H1 else D.nx σ H1
theorem akb{c:Expr}{body:List Stmt}{tc:TT}{tb:TS}(hp:PassesOwn (model X.prog X.w) X.A X.env X.xe)(hc:PT X c tc)(hb:PSs X body tb):PS X (.While c body [] pos) (aoD tc tb):=by
 intro Kp s σ H D I h;obtain⟨W,⟨m0,w0⟩,turn⟩:=h;refine wpAny_While (codeAny_whileLoop (fun n s'=>∃σ' H',Inv X Kp σ' H' s'/\W n σ' H') ?_ m0 ⟨σ,H,I,w0⟩)
 rintro n s1 ⟨σ1,H1,I1,w1⟩
 refine wpAny_passesOwn hp (thn (hc Kp s1 σ1 H1 _ I1 (turn n σ1 H1 w1)) fun b s2 ⟨H2,I2,q2⟩=>?_);cases b with
 | true=>
  obtain⟨N,hN,q2⟩:=q2;rw[if_pos rfl];refine wpAny_passesOwn hp (thn (hb Kp s2 σ1 H2 _ I2 q2) fun f s3 q3=>?_);cases f with
  | next=>
   obtain⟨σ3,H3,I3,n3⟩:=q3;obtain⟨m',hm,w3⟩:=hN σ3 H3 n3;exact⟨m',hm,σ3,H3,I3,w3⟩
  | cont=>
   obtain⟨σ3,H3,I3,n3⟩:=q3;obtain⟨m',hm,w3⟩:=hN σ3 H3 n3;exact⟨m',hm,σ3,H3,I3,w3⟩
  |brk=>exact q3
  |ret v=>exact q3
 | false=>
  rw[if_neg Bool.false_ne_true];exact wpAny_execs_nil ⟨σ1,H2,I2,q2⟩
end
structure It where
 go:Nat->Hp->Prop
 yld:Nat->Hp->V->Hp->Prop
 stop:Nat->Hp->Prop
noncomputable def afi(X:Cx)(Kp:List (Addr×Obj))(H:Hp)(b:Addr):Prop:=
 H b=none/\b≠X.env.locals/\b∉X.fs/\(b∈X.ex∨X.s₀.heap.objs.size<=b)/\(∀x c,X.env.cells.lookup x=some c->c≠b)/\∀p∈X.pn++Kp,p.1≠b
theorem Inv.fpOk{X:Cx}{Kp:List (Addr×Obj)}{σ:St}{H H':Hp}{s:Shared}{b:Addr}(I:Inv X Kp σ H s)(hb:s.heap.objs.size<=b)(hn:H' b=none):afi X Kp H' b:=by
 refine⟨hn,Nat.ne_of_gt (Nat.lt_of_lt_of_le I.lt hb),I.nofs hb,.inr (Nat.le_trans I.sz hb),fun x c e z=>?_,fun p hp z=>?_⟩
 ·obtain⟨v,q⟩:=I.cell x c e
  exact absurd (Nat.lt_of_lt_of_le q.lt (by rw[z];exact hb)) (Nat.lt_irrefl _)
 ·exact absurd (Nat.lt_of_lt_of_le (Heap.lt_size (I.pin p hp).1) (by rw[z];exact hb)) (Nat.lt_irrefl _)
structure Turn(P:Program)(w:World)(K:Fg)(tg:Expr)(J:It)(fp:List Addr)(it:Addr)(tn:Nat->Heap->Prop):Prop where
 mem:it∈fp
 obj:∀i h,tn i h->∀b∈fp,∃o,h.get? b=some o/\∀v,o.data ≠ .cell v
 keep:∀i h h',tn i h->(∀b∈fp,∀o,h.get? b=some o->h'.get? b=some o)->tn i h'
 item:∀(X:Cx),X.prog=P->X.w=w->X.K=K->X.calm=true->∀(i:Nat) (Kp:List (Addr×Obj)) (s:Shared) (σ:St) (H:Hp) (E:Value->SP0),Inv X Kp σ H s->(∀b∈fp,afi X Kp H b)->tn i s.heap->J.go i H->
  wpAny (model P w) X.A (pyNext (.ref it)) (fun r s1=>∃u,r=some u/\
   wpAny (model P w) X.A (letOwnedTupleGo tg (.ref it) u) (fun _ s2=>∃ x H',Inv X Kp σ H' s2/\jK x u/\J.yld i H x H'/\tn (i+1) s2.heap/\∀ b ∈ fp,H' b=none) E s1) E s
 done:∀(X:Cx),X.prog=P->X.w=w->X.K=K->X.calm=true->∀(i:Nat) (Kp:List (Addr×Obj)) (s:Shared) (σ:St) (H:Hp) (E:Value->SP0),Inv X Kp σ H s->(∀b∈fp,afi X Kp H b)->tn i s.heap->J.stop i H->
  wpAny (model P w) X.A (pyNext (.ref it)) (fun r s1=>r=none/\Inv X Kp σ H s1) E s
 self:∀(A:Around) (i:Nat) (s:Shared) (Q:Value->SP0) (E:Value->SP0),tn i s.heap->Q (.ref it) s->wpAny (model P w) A (pyIter (.ref it)) Q E s
noncomputable abbrev TI:=St->Hp->(It->Hp->Prop)->Prop
noncomputable def PIE(X:Cx)(Kp:List (Addr×Obj))(σ:St)(tg:Expr)(R:It->Hp->Prop)(itv:Value)(s2:Shared):Prop:=
 ∃(it:Addr) (fp:List Addr) (tn:Nat->Heap->Prop) (J:It) (H':Hp),itv= .ref it/\Inv X Kp σ H' s2/\Turn X.prog X.w X.K tg J fp it tn/\tn 0 s2.heap/\(∀b∈fp,afi X Kp H' b)/\R J H'
noncomputable def PI(X:Cx)(tg iter:Expr)(wi:TI):Prop:=
 ∀(Kp:List (Addr×Obj)) (s:Shared) (σ:St) (H:Hp) (R:It->Hp->Prop),Inv X Kp σ H s->wi σ H R->
  wpAny (model X.prog X.w) X.A (eval iter X.env) (fun v s1=>wpAny (model X.prog X.w) X.A (pyIter v) (PIE X Kp σ tg R) X.xe s1) X.xe s
theorem afj{M : Model}{A : Around}{E : Value -> Shared -> Prop}{s : Shared}{tg : Expr}{it : Addr}{u : Value}{o : Obj}{n : String}{vs : Array Value}{Q : Unit -> Shared -> Prop}(ho : s.heap.get? it = some o)(hc : o.cls = .type n)(hd : o.data = .fields vs)
    (hn : ["enumerate", "zip", "dict_itemiterator", "dict_reverseitemiterator", "odict_iterator", "itertools.zip_longest", "itertools.pairwise"].contains n = false) (hQ : Q () s) : wpAny M A (letOwnedTupleGo tg (.ref it) u) Q E s := by
  unfold letOwnedTupleGo
  cases tg<;>first
    |exact wpAny_pure hQ
    | (cases u<;>first
        | exact wpAny_pure hQ
        | (refine wpAny_bind (wpAny_load ho ?_)
           rw [hc, hd];show wpAny M A (if (["enumerate", "zip", "dict_itemiterator", "dict_reverseitemiterator", "odict_iterator", "itertools.zip_longest", "itertools.pairwise"].contains n && vs[0]? == some (rawInt _)) = true then _ else _) Q E s;rw [if_neg (by intro h; rw [hn, Bool.false_and] at h; cases h)];exact wpAny_pure hQ))
noncomputable def Itl(K:Fg)(a:Addr):It:=
 ⟨fun i H=>∃xs x,SqL K H a xs/\xs[i]?=some x,fun i H x H'=>H'=H/\∀xs,SqL K H a xs->xs[i]?=some x,fun i H=>∃xs,SqL K H a xs/\xs.length<=i⟩
noncomputable def Itt(K:Fg)(a:Addr):It:=
 ⟨fun i H=>∃xs x,SqT K H a xs/\xs[i]?=some x,fun i H x H'=>H'=H/\∀xs,SqT K H a xs->xs[i]?=some x,fun i H=>∃xs,SqT K H a xs/\xs.length<=i⟩
noncomputable def Itr(lo:Int)(n:Nat):It:=⟨fun i _=>i<n,fun i H x H'=>H'=H/\x= .int (lo+i),fun i _=>n<=i⟩
theorem aiS{P:Program}{w:World}{K:Fg}{tg:Expr}(a it:Addr):Turn P w K tg (Itl K a) [it] it (fun i h=>h.IsListIter it a i) where
 mem:=by simp
 obj:=fun i h st b hb=>by
  have e:b=it:=by simpa using hb
  subst e;obtain⟨o,e,c,d⟩:=st;exact⟨o,e,fun v z=>by rw[d]at z;cases z⟩
 keep:=fun i h h' st k=>st.at fun o e=>k it (by simp) o e
 item:=by
  intro X hP hw hK hc i Kp s σ H E I hf st hg;subst hP hw hK;obtain⟨xs,x,hq,hx⟩:=hg;obtain⟨its,rv,p,hz⟩:=I.list hq;obtain⟨u,hu,ru⟩:=rv.get hx;obtain⟨f0,f1,f2,f3,f4,f5⟩:=hf it (by simp);refine wpAny_pyNext_list_item st p.isList (x:=u) (by simpa using hu) fun h' st' sb=>?_;have I1:Inv X Kp σ H { s with heap:=h' }:=I.turned (t':=s.toks) (fun b o hb e=>(sb.2 b hb).trans e) f0 f1 f3 f4 f5;obtain⟨o,e,c,d⟩:=id st';exact⟨u,rfl,afj (s:={ s with heap:=h' }) e c d (by decide) ⟨x,H,I1,ru,⟨rfl,fun ys hy=>by rw[I.list_inj hy hq];exact hx⟩,st',fun b hb=>(hf b hb).1⟩⟩
 done:=by
  intro X hP hw hK hc i Kp s σ H E I hf st hg;subst hP hw hK;obtain⟨xs,hq,hx⟩:=hg;obtain⟨its,rv,p,hz⟩:=I.list hq;obtain⟨f0,f1,f2,f3,f4,f5⟩:=hf it (by simp);have hl:=rv.length;exact wpAny_pyNext_list_end (I.ok.hd hc) st p.isList (by simp;omega) fun h' eb=>⟨rfl,I.turned (t':=s.toks) (fun b o hb e=>eb b o hb e) f0 f1 f3 f4 f5⟩
 self:=fun _ _ _ _ _ st h=>wpAny_pyIter_listiter st h
theorem agB{P:Program}{w:World}{K:Fg}{tg:Expr}(a it:Addr):Turn P w K tg (Itt K a) [it] it (fun i h=>h.IsTupleIter it a i) where
 mem:=by simp
 obj:=fun i h st b hb=>by
  have e:b=it:=by simpa using hb
  subst e;obtain⟨o,e,c,d⟩:=st;exact⟨o,e,fun v z=>by rw[d]at z;cases z⟩
 keep:=fun i h h' st k=>st.at fun o e=>k it (by simp) o e
 item:=by
  intro X hP hw hK hc i Kp s σ H E I hf st hg;subst hP hw hK;obtain⟨xs,x,hq,hx⟩:=hg;obtain⟨its,rv,p,hz⟩:=I.tuple hq;obtain⟨u,hu,ru⟩:=rv.get hx;obtain⟨f0,f1,f2,f3,f4,f5⟩:=hf it (by simp);refine wpAny_pyNext_tuple_item st (show s.heap.IsTuple a its.toArray from p) (x:=u) (by simpa using hu) fun h' st' sb=>?_;have I1:Inv X Kp σ H { s with heap:=h' }:=I.turned (t':=s.toks) (fun b o hb e=>(sb.2 b hb).trans e) f0 f1 f3 f4 f5;obtain⟨o,e,c,d⟩:=id st';exact⟨u,rfl,afj (s:={ s with heap:=h' }) e c d (by decide) ⟨x,H,I1,ru,⟨rfl,fun ys hy=>by rw[I.tuple_inj hy hq];exact hx⟩,st',fun b hb=>(hf b hb).1⟩⟩
 done:=by
  intro X hP hw hK hc i Kp s σ H E I hf st hg;subst hP hw hK;obtain⟨xs,hq,hx⟩:=hg;obtain⟨its,rv,p,hz⟩:=I.tuple hq;obtain⟨f0,f1,f2,f3,f4,f5⟩:=hf it (by simp);have hl:=rv.length;exact wpAny_pyNext_tuple_end (I.ok.hd hc) st (show s.heap.IsTuple a its.toArray from p) (by simp;omega) fun h' eb=>⟨rfl,I.turned (t':=s.toks) (fun b o hb e=>eb b o hb e) f0 f1 f3 f4 f5⟩
 self:=fun _ _ _ _ _ st h=>wpAny_pyIter_tupleiter st h
theorem agC{P:Program}{w:World}{K:Fg}{tg:Expr}(it:Addr)(lo:Int)(n:Nat):Turn P w K tg (Itr lo n) [it] it (fun i h=>IsRangeIter h it (lo+(i:Nat)*1) ((n:Int)-(i:Nat)) 1) where
 mem:=by simp
 obj:=fun i h st b hb=>by
  have e:b=it:=by simpa using hb
  subst e
  exact⟨_,st,fun v z=>by
   have z':Data.fields _=Data.cell v:=z;cases z'⟩
 keep:=fun i h h' st k=>k it (by simp) _ st
 item:=by
  intro X hP hw hK hc i Kp s σ H E I hf st hg;subst hP hw hK;obtain⟨f0,f1,f2,f3,f4,f5⟩:=hf it (by simp);have W:=Walks.range (prog:=X.prog) (w:=X.w) (I.ok.hd hc) it lo 1 n;refine W.item i s _ _ hg st fun v h' tk hv st' kk=>?_;obtain⟨t,rfl⟩:=hv;have I1:Inv X Kp σ H { s with heap:=h',toks:=tk }:=I.turned (fun b o hb e=>kk b o (by simpa using hb) e) f0 f1 f3 f4 f5;refine⟨_,rfl,afj (s:={ s with heap:=h',toks:=tk }) (n:="range_iterator") st' rfl rfl (by decide) ⟨.int (lo+i),H,I1,⟨t,?_⟩,⟨rfl,rfl⟩,st',fun b hb=>(hf b hb).1⟩⟩;rw[Int.mul_one]
 done:=by
  intro X hP hw hK hc i Kp s σ H E I hf st hg;subst hP hw hK;obtain⟨f0,f1,f2,f3,f4,f5⟩:=hf it (by simp);exact wpAny_pyNext_range_end (I.ok.hd hc) st (by have:n<=i:=hg;omega) fun h' eb=>⟨rfl,I.turned (t':=s.toks) (fun b o hb e=>eb b o hb e) f0 f1 f3 f4 f5⟩
 self:=fun _ _ _ _ _ st h=>wpAny_pyIter_rangeiter st h
section
variable {X:Cx}{tg:Expr}
noncomputable def ap3(K:Fg)(tl:TE):TI:=fun σ H R=>tl σ H fun x H1=>∃a,x= .ref a/\(∃xs,SqL K H1 a xs)/\R (Itl K a) H1
noncomputable def aq8(K:Fg)(tl:TE):TI:=fun σ H R=>tl σ H fun x H1=>∃a,x= .ref a/\(∃xs,SqT K H1 a xs)/\R (Itt K a) H1
theorem amx{l:Expr}{tl:TE}(hl:PE X l tl):PI X tg l (ap3 X.K tl):=by
 intro Kp s σ H R I h;refine thn (hl Kp s σ H _ I h) fun v s1 ⟨x,H1,I1,r1,q1⟩=>?_;obtain⟨a,e,⟨xs,hq⟩,q⟩:=q1;subst e;cases r1;obtain⟨its,rv,p,hz⟩:=I1.list hq;refine wpAny_pyIter_list p.isList ?_;refine⟨s1.heap.objs.size,[s1.heap.objs.size],_,_,H1,rfl,I1.kept (t':=s1.toks) fun b o e=>Heap.get?_push_of_some _ e,aiS a _,⟨_,Heap.get?_push_size _ rfl,rfl,rfl⟩,fun b hb=>?_,q⟩;have e:b=s1.heap.objs.size:=by simpa using hb
 subst e;exact I1.fpOk (Nat.le_refl _) (I1.hok.fresh (Nat.le_refl _))
theorem aoE{l:Expr}{tl:TE}(hl:PE X l tl):PI X tg l (aq8 X.K tl):=by
 intro Kp s σ H R I h;refine thn (hl Kp s σ H _ I h) fun v s1 ⟨x,H1,I1,r1,q1⟩=>?_;obtain⟨a,e,⟨xs,hq⟩,q⟩:=q1;subst e;cases r1;obtain⟨its,rv,p,hz⟩:=I1.tuple hq;refine wpAny_pyIter_tuple (show s1.heap.IsTuple a its.toArray from p) ?_;refine⟨s1.heap.objs.size,[s1.heap.objs.size],_,_,H1,rfl,I1.kept (t':=s1.toks) fun b o e=>Heap.get?_push_of_some _ e,agB a _,⟨_,Heap.get?_push_size _ rfl,rfl,rfl⟩,fun b hb=>?_,q⟩;have e:b=s1.heap.objs.size:=by simpa using hb
 subst e;exact I1.fpOk (Nat.le_refl _) (I1.hok.fresh (Nat.le_refl _))
theorem akc{Kp:List (Addr×Obj)}{σ:St}{H:Hp}{s:Shared}{R:It->Hp->Prop}{E:Value->SP0}{lo hi:Int}{t u v:Tok}{tk:Nat}(I:Inv X Kp σ H s)(h1:-(2 ^ 62)<=lo)(h2:lo<2 ^ 62)(h3:-(2 ^ 62)<=hi)(h4:hi<2 ^ 62)
  (q:R (Itr lo (hi-lo).toNat) H):wpAny (model X.prog X.w) X.A (pyIter (.ref s.heap.objs.size)) (PIE X Kp σ tg R) E { s with heap:=s.heap.push { cls:= .type "range",data:= .fields #[.int lo t,.int hi u,.int 1 v] },toks:=tk }:=by
 refine wpAny_pyIter_range (IsRange.new ..) (small_one h1 h2 h3 h4) ?_;have I1:Inv X Kp σ H { s with heap:=s.heap.push { cls:= .type "range",data:= .fields #[.int lo t,.int hi u,.int 1 v] },toks:=tk }:=I.kept fun b o e=>Heap.get?_push_of_some _ e
 refine⟨(s.heap.push { cls:= .type "range",data:= .fields #[.int lo t,.int hi u,.int 1 v] }).objs.size,[(s.heap.push { cls:= .type "range",data:= .fields #[.int lo t,.int hi u,.int 1 v] }).objs.size],_,_,H,rfl,
  I1.kept (t':=tk) fun b o e=>Heap.get?_push_of_some _ e,agC _ lo (hi - lo).toNat,?_,fun b hb=>?_,q⟩
 ·have e1:lo+((0:Nat):Int)*1=lo:=by simp
  have e2:(((hi-lo).toNat:Nat):Int)-((0:Nat):Int)=Builtin.Range.rangeSize lo hi 1:=by rw[rangeSize_one];split<;>omega
  show IsRangeIter _ _ (lo+((0:Nat):Int)*1) ((((hi-lo).toNat:Nat):Int)-((0:Nat):Int)) 1;rw[e1,e2];exact Heap.get?_push_size _ rfl
 ·have e:b=(s.heap.push { cls:= .type "range",data:= .fields #[.int lo t,.int hi u,.int 1 v] }).objs.size:=by simpa using hb
  subst e;exact I1.fpOk (Nat.le_refl _) (I1.hok.fresh (Nat.le_refl _))
noncomputable def ap4(ta:TA):TI:=fun σ H R=>ta σ H fun vs H1=>∃j:Int,vs=[.int j]/\-(2 ^ 62)<=j/\j<2 ^ 62/\R (Itr 0 j.toNat) H1
theorem aao{a:Expr}{ta:TA}{p pos:Pos}(hg:Gl X "range")(hm:X.mg "range"=none)(ha:PA X [a] ta)(hs:starEach [a] X.env=[(false,eval a X.env)]:=by rfl):PI X tg (.Call (.Name "range" p) [a] [] pos) (ap4 ta):=by
 intro Kp s σ H R I h;refine Call_ (Zr I hg hm boot_range (PyProof.Rows.callWith_type1 (thn (ha pos Kp s σ H _ I h) fun us s1 ⟨vs,H1,I1,r1,q1⟩=>?_) hs rfl));obtain⟨j,e,q1,q2,q⟩:=q1;subst e;cases r1 with
 | cons r rr=>
  cases rr;obtain⟨t,rfl⟩:=r;exact call_range_1 (akc I1 (by omega) (by omega) q1 q2 (by simpa using q))
noncomputable def aq9(wi:TI)(g:TG)(tb:TS):TS:=fun D σ H=>wi σ H fun J H1=>∃W:Nat->Nat->St->Hp->Prop,(∃m,W 0 m σ H1)/\∀i m σ H,W i m σ H->
 (J.stop i H/\D.nx σ H)∨(J.go i H/\∃N:St->Hp->Prop,(∀σ' H',N σ' H'->∃m',m' < m/\W (i+1) m' σ' H')/\∀x H',J.yld i H x H'->g x σ H' fun σ2 H2=>tb { D with nx:=N,ct:=N,bk:=D.nx } σ2 H2)
noncomputable def abO(fp:List Addr)(h:Heap):List (Addr×Obj):=fp.filterMap fun b=>(h.get? b).map fun o=>(b,o)
theorem JZ{fp:List Addr}{h:Heap}{b:Addr}{o:Obj}(hb:b∈fp)(e:h.get? b=some o):(b,o)∈abO fp h:=List.mem_filterMap.mpr ⟨b,hb,by rw[e];rfl⟩
theorem aiT{fp:List Addr}{h:Heap}{p:Addr×Obj}(hp:p∈abO fp h):p.1∈fp/\h.get? p.1=some p.2:=by
 obtain⟨b,hb,e⟩:=List.mem_filterMap.mp hp;cases q:h.get? b with
 |none=>rw[q]at e;cases e
 | some o=>
  rw[q]at e;have e':(b,o)=p:=Option.some.inj e;subst e';exact⟨hb,q⟩
theorem Inv.pinned{Kp:List (Addr×Obj)}{σ:St}{H:Hp}{s:Shared}{fp:List Addr}(I:Inv X Kp σ H s)(hf:∀b∈fp,afi X Kp H b)(ho:∀b∈fp,∃o,s.heap.get? b=some o/\∀v,o.data ≠ .cell v):Inv X (Kp++abO fp s.heap) σ H s:=
 I.pins_of fun p hp=>(List.mem_append.mp hp).elim (fun z=>I.pin p (List.mem_append_right _ z)) fun z=>by
  obtain⟨hb,e⟩:=aiT z;obtain⟨f0,f1,f2,_⟩:=hf p.1 hb;obtain⟨o,e',d⟩:=ho p.1 hb;rw[e]at e';cases e';exact⟨e,f0,f1,f2,d⟩
theorem Inv.unpinned{Kp pl:List (Addr×Obj)}{σ:St}{H:Hp}{s:Shared}(I:Inv X (Kp++pl) σ H s):Inv X Kp σ H s:=I.pins_of fun p hp=>I.pin p (List.mem_append_right _ (List.mem_append_left _ hp))
theorem ad8{iter:Expr}{body:List Stmt}{wi:TI}{g:TG}{tb:TS}{pos:Pos}(hp:PassesOwn (model X.prog X.w) X.A X.env X.xe)(hc:X.calm=true)(hi:PI X tg iter wi)(hg:PG X tg g)(hb:PSs X body tb)
  (hs:∀x,foldedSetIterable iter X.env x=pure x:=by intro _;rfl):PS X (.For tg iter body [] pos) (aq9 wi g tb):=by
 intro Kp s σ H D I h;refine wpAny_For (thn (hi Kp s σ H _ I h) fun v s1 h1=>thn h1 fun itv s2 h2=>?_) hs;obtain⟨it,fp,tn,J,H2,e,I2,T,st2,f2,W,⟨m0,w0⟩,turn⟩:=h2;subst e;have stat:∀{H':Hp},(∀b∈fp,H' b=none)->∀b∈fp,afi X Kp H' b:=fun hn b hb=>⟨hn b hb,(f2 b hb).2⟩;refine codeAny_forLoop_any (fun n s'=>∃i σ' H',Inv X Kp σ' H' s'/\tn i s'.heap/\(∀b∈fp,H' b=none)/\W i n σ' H') ?_ m0 ⟨0,σ,H2,I2,st2,fun b hb=>(f2 b hb).1,w0⟩
 rintro n s3 ⟨i,σ3,H3,I3,st3,fr3,w3⟩
 rcases turn i n σ3 H3 w3 with ⟨stop,qn⟩ | ⟨go,N,hN,step⟩
 ·refine wpAny_passesOwn hp (thn (T.done X rfl rfl rfl hc i Kp s3 σ3 H3 X.xe I3 (stat fr3) st3 stop) fun r s4 ⟨hr,I4⟩=>?_)
  subst hr;exact wpAny_execs_nil ⟨σ3,H3,I4,qn⟩
 ·refine wpAny_passesOwn hp (thn (T.item X rfl rfl rfl hc i Kp s3 σ3 H3 X.xe I3 (stat fr3) st3 go) fun r s4 ⟨u,hr,h4⟩=>?_)
  subst hr;refine wpAny_passesOwn hp (thn h4 fun _ s5 ⟨x,H5,I5,r5,y5,st5,fr5⟩=>?_);have I5':=I5.pinned (stat fr5) (T.obj _ _ st5);refine wpAny_passesOwn hp (thn (hg _ s5 σ3 H5 x u _ I5' r5 (step x H5 y5)) fun _ s6 ⟨σ6,H6,I6,q6⟩=>?_);refine wpAny_passesOwn hp (thn (hb _ s6 σ6 H6 _ I6 q6) fun f s7 q7=>?_)
  have again:∀{σ7:St} {H7:Hp},Inv X (Kp++abO fp s5.heap) σ7 H7 s7->N σ7 H7->∃m,m<n/\∃i σ' H',Inv X Kp σ' H' s7/\tn i s7.heap/\(∀b∈fp,H' b=none)/\W i m σ' H':=fun {σ7 H7} I7 n7=>by
   obtain⟨m',hm,w7⟩:=hN σ7 H7 n7;refine⟨m',hm,i+1,σ7,H7,I7.unpinned,T.keep _ _ _ st5 fun b hb o e=>(I7.pin (b,o) (List.mem_append_right _ (List.mem_append_right _ (JZ hb e)))).1,fun b hb=>?_,w7⟩;obtain⟨o,e,d⟩:=T.obj _ _ st5 b hb;exact(I7.pin (b,o) (List.mem_append_right _ (List.mem_append_right _ (JZ hb e)))).2.1
  cases f with
  |next=>obtain⟨σ7,H7,I7,n7⟩:=q7;exact again I7 n7
  |cont=>obtain⟨σ7,H7,I7,n7⟩:=q7;exact again I7 n7
  |brk=>obtain⟨σ7,H7,I7,q7⟩:=q7;exact⟨σ7,H7,I7.unpinned,q7⟩
  |ret v=>obtain⟨x7,σ7,H7,I7,r7,q7⟩:=q7;exact⟨x7,σ7,H7,I7.unpinned,r7,q7⟩
end
theorem ac9{lo:Int}{n:Nat}{g:TG}{tb:TS}{D:Ends}{σ:St}{H:Hp}(Pv:Nat->St->Hp->Prop)(h0:Pv 0 σ H)
  (hs:∀i σ H,i<n->Pv i σ H->g (.int (lo+i)) σ H fun σ2 H2=>tb { D with nx:=Pv (i+1),ct:=Pv (i+1),bk:=D.nx } σ2 H2) (hd:∀σ H,Pv n σ H->D.nx σ H):
  ∃W:Nat->Nat->St->Hp->Prop,(∃m,W 0 m σ H)/\∀i m σ H,W i m σ H->
   ((Itr lo n).stop i H/\D.nx σ H)∨((Itr lo n).go i H/\∃N:St->Hp->Prop,(∀σ' H',N σ' H'->∃m',m' < m/\W (i+1) m' σ' H')/\∀x H',(Itr lo n).yld i H x H'->g x σ H' fun σ2 H2=>tb { D with nx:=N,ct:=N,bk:=D.nx } σ2 H2):=by
 refine⟨fun i m σ H=>m=n-i/\i<=n/\Pv i σ H,⟨n,by simp,Nat.zero_le _,h0⟩,?_⟩
 rintro i m σ H ⟨rfl,hi,p⟩
 by_cases hlt:i<n
 ·refine .inr ⟨hlt,Pv (i+1),fun σ' H' p'=>⟨n-(i+1),by omega,rfl,hlt,p'⟩,fun x H' y=>?_⟩
  obtain⟨e,y⟩:=y;subst e y;exact hs i σ _ hlt p
 ·have e:i=n:=by omega
  subst e;exact .inl ⟨Nat.le_refl _,hd σ H p⟩
noncomputable abbrev R2:=V->V->Hp->VK->Prop
noncomputable def OpR(X:Cx)(f:Value->Value->Sem Value)(r:R2):Prop:=
 ∀(Kp:List (Addr×Obj)) (s:Shared) (σ:St) (H:Hp) (x y:V) (v u:Value) (Q:VK),Inv X Kp σ H s->jK x v->jK y u->r x y H Q->
  wpAny (model X.prog X.w) X.A (f v u) (EP X Kp σ Q) X.xe s
noncomputable def UnR(X:Cx)(f:Value->Sem Value)(r:V->Hp->VK->Prop):Prop:=
 ∀(Kp:List (Addr×Obj)) (s:Shared) (σ:St) (H:Hp) (x:V) (v:Value) (Q:VK),Inv X Kp σ H s->jK x v->r x H Q->
  wpAny (model X.prog X.w) X.A (f v) (EP X Kp σ Q) X.xe s
noncomputable def zu(X:Cx)(f:Value)(r:List V->Hp->VK->Prop):Prop:=
 ∀(Kp:List (Addr×Obj)) (s:Shared) (σ:St) (H:Hp) (xs:List V) (us:List Value) (Q:VK),Inv X Kp σ H s->jB xs us->r xs H Q->
  wpAny (model X.prog X.w) X.A (call f us) (EP X Kp σ Q) X.xe s
noncomputable def tOp(r:R2)(ta tb:TE):TE:=fun σ H Q=>ta σ H fun x H1=>tb σ H1 fun y H2=>r x y H2 Q
noncomputable def tUn(r:V->Hp->VK->Prop)(ta:TE):TE:=fun σ H Q=>ta σ H fun x H1=>r x H1 Q
noncomputable def rI(C:Int->Int->Prop)(g:Int->Int->V):R2:=fun x y H Q=>∃i j,x= .int i/\y= .int j/\C i j/\Q (g i j) H
noncomputable def rI0(g:Int->Int->V):R2:=fun x y H Q=>∃i j,x= .int i/\y= .int j/\Q (g i j) H
noncomputable def rU(g:Int->V):V->Hp->VK->Prop:=fun x H Q=>∃i,x= .int i/\Q (g i) H
section
variable {X:Cx}{a b c:Expr}{ta tb tc:TE}{pos:Pos}
theorem aoF(ha:PE X a ta)(hb:PE X b tb){Kp:List (Addr×Obj)}{s:Shared}{σ:St}{H:Hp}{R:V->V->Hp->Prop}(I:Inv X Kp σ H s)
  (h:ta σ H fun x H1=>tb σ H1 fun y H2=>R x y H2) {Q:Value->SP0} {f:Value->Value->Sem Value}
  (hf:∀v u s2 x y H2,Inv X Kp σ H2 s2->jK x v->jK y u->R x y H2->wpAny (model X.prog X.w) X.A (f v u) Q X.xe s2):
  wpAny (model X.prog X.w) X.A (eval a X.env) (fun v s₁=>wpAny (model X.prog X.w) X.A (eval b X.env) (fun u s₂=>wpAny (model X.prog X.w) X.A (f v u) Q X.xe s₂) X.xe s₁) X.xe s:=by
 refine thn (ha Kp s σ H _ I h) fun v s1 ⟨x,H1,I1,r1,q1⟩=>?_;refine thn (hb Kp s1 σ H1 _ I1 q1) fun u s2 ⟨y,H2,I2,r2,q2⟩=>?_;exact hf v u s2 x y H2 I2 r1 r2 q2
theorem ap5{op:Operator}{r:R2}(ho:OpR X (binaryOp op) r)(ha:PE X a ta)(hb:PE X b tb):PE X (.BinOp a op b pos) (tOp r ta tb):=by
 intro Kp s σ H Q I h;exact wpAny_BinOp (aoF ha hb I h fun v u s2 x y H2 I2 rx ry q=>ho Kp s2 σ H2 x y v u Q I2 rx ry q)
theorem ap6{op:UnaryOp}{r:V->Hp->VK->Prop}(ho:UnR X (unaryOp op) r)(ha:PE X a ta):PE X (.UnaryOp op a pos) (tUn r ta):=by
 intro Kp s σ H Q I h;exact UnaryOp_ (thn (ha Kp s σ H _ I h) fun v s1 ⟨x,H1,I1,r1,q1⟩=>ho Kp s1 σ H1 x v Q I1 r1 q1)
theorem opI{f:Value->Value->Sem Value}{C:Int->Int->Prop}{g:Int->Int->Int}
  (rule:∀(i j:Int) (t u:Tok) (s:Shared) (Q:Value->SP0) (E:Value->SP0),C i j->Q (.int (g i j) s.toks) { s with toks:=s.toks+1 }->wpAny (model X.prog X.w) X.A (f (.int i t) (.int j u)) Q E s):
  OpR X f (rI C fun i j=> .int (g i j)):=by
 intro Kp s σ H x y v u Q I rx ry h;obtain⟨i,j,rfl,rfl,hc,q⟩:=h;obtain⟨t,rfl⟩:=rx;obtain⟨t',rfl⟩:=ry;exact rule i j t t' s _ _ hc ⟨.int (g i j),H,I.tok _,⟨_,rfl⟩,q⟩
theorem ap7{f:Value->Value->Sem Value}{g:Int->Int->Int}
  (rule:∀(i j:Int) (t u:Tok) (s:Shared) (Q:Value->SP0) (E:Value->SP0),Q (.int (g i j) s.toks) { s with toks:=s.toks+1 }->wpAny (model X.prog X.w) X.A (f (.int i t) (.int j u)) Q E s):
  OpR X f (rI0 fun i j=> .int (g i j)):=by
 intro Kp s σ H x y v u Q I rx ry h;obtain⟨i,j,rfl,rfl,q⟩:=h;obtain⟨t,rfl⟩:=rx;obtain⟨t',rfl⟩:=ry;exact rule i j t t' s _ _ ⟨.int (g i j),H,I.tok _,⟨_,rfl⟩,q⟩
theorem amy{f:Value->Value->Sem Value}{g:Int->Int->Bool}
  (rule:∀(i j:Int) (t u:Tok) (s:Shared) (Q:Value->SP0) (E:Value->SP0),Q (.bool (g i j)) s->wpAny (model X.prog X.w) X.A (f (.int i t) (.int j u)) Q E s):
  OpR X f (rI0 fun i j=> .bl (g i j)):=by
 intro Kp s σ H x y v u Q I rx ry h;obtain⟨i,j,rfl,rfl,q⟩:=h;obtain⟨t,rfl⟩:=rx;obtain⟨t',rfl⟩:=ry;exact rule i j t t' s _ _ ⟨.bl (g i j),H,I,rfl,q⟩
noncomputable def ara(i j:Int):Prop:=0<j/\j<1073741824
noncomputable def aoG(i j:Int):Prop:=(-(2 ^ 64)<i/\i<2 ^ 64)∨(-(2 ^ 64)<j/\j<2 ^ 64)
theorem aoG.ok{i j:Int}(h:aoG i j):IntMulOk i j:=by
 rcases h with ⟨h1,h2⟩ | ⟨h1,h2⟩
 ·exact .of_left (intBits_le_64 h1 h2)
 ·exact .of_right (intBits_le_64 h1 h2)
theorem aoH:OpR X (binaryOp .Add) (rI0 fun i j=> .int (i+j)):=ap7 fun _ _ _ _ _ _ _ q=>add_int q
theorem aoI:OpR X (binaryOp .Sub) (rI0 fun i j=> .int (i-j)):=ap7 fun _ _ _ _ _ _ _ q=>sub_int q
theorem aoJ:OpR X (binaryOp .Mult) (rI aoG fun i j=> .int (i*j)):=opI fun _ _ _ _ _ _ _ hc q=>mul_int q hc.ok
theorem amz:OpR X (binaryOp .FloorDiv) (rI ara fun i j=> .int (i / j)):=opI fun i j _ _ _ _ _ hc q=>by
 have h1:(0:Int)<j:=hc.1;have h2:j<1073741824:=hc.2;exact floordiv_int (by omega) (by rw[Int.fdiv_eq_ediv_of_nonneg i (by omega)];exact q) (.inl (PyProof.noPylong_small (by omega)))
theorem aoK:OpR X (binaryOp .Mod) (rI (fun _ j=>0<j) fun i j=> .int (i % j)):=opI fun i j _ _ _ _ _ hc q=>by
 have h1:(0:Int)<j:=hc;exact mod_int' (by omega) (by rw[Int.fmod_eq_emod_of_nonneg i (by omega)];exact q)
theorem unI{f:Value->Sem Value}{g:Int->Int}
  (rule:∀(i:Int) (t:Tok) (s:Shared) (Q:Value->SP0) (E:Value->SP0),Q (.int (g i) s.toks) { s with toks:=s.toks+1 }->wpAny (model X.prog X.w) X.A (f (.int i t)) Q E s):
  UnR X f (rU fun i=> .int (g i)):=by
 intro Kp s σ H x v Q I rx h;obtain⟨i,rfl,q⟩:=h;obtain⟨t,rfl⟩:=rx;exact rule i t s _ _ ⟨.int (g i),H,I.tok _,⟨_,rfl⟩,q⟩
theorem aoL:UnR X (unaryOp .USub) (rU fun i=> .int (-i)):=unI fun _ _ _ _ _ q=>neg_int q
end
section
variable {X:Cx}{a b c:Expr}{ta tb tc:TE}{pos:Pos}
theorem aoM{Kp:List (Addr×Obj)}{σ:St}{H:Hp}{s:Shared}{Q:VK}{k k':Bool}(I:Inv X Kp σ H s)(q:Q (.bl k) H)(e:k=k'):EP X Kp σ Q (.bool k') s:=by
 subst e;exact⟨.bl k,H,I,rfl,q⟩
theorem ap8:OpR X (compareOp .Lt) (rI0 fun i j=> .bl (decide (i<j))):=amy fun _ _ _ _ _ _ _ q=>lt_int q
theorem ap9:OpR X (compareOp .LtE) (rI0 fun i j=> .bl (decide (i<=j))):=amy fun _ _ _ _ _ _ _ q=>le_int q
theorem aqa:OpR X (compareOp .Gt) (rI0 fun i j=> .bl (decide (j<i))):=amy fun _ _ _ _ _ _ _ q=>gt_int q
theorem aqb:OpR X (compareOp .GtE) (rI0 fun i j=> .bl (decide (j<=i))):=amy fun _ _ _ _ _ _ _ q=>ge_int q
theorem amA:OpR X (compareOp .IsNot) (fun x y H Q=>y= .non/\Q (.bl (!decide (x= .non))) H):=by
 intro Kp s σ H x y v u Q I rx ry h;obtain⟨rfl,q⟩:=h;cases ry;refine isnot_none_gen (aoM I q ?_)
 cases x<;>first
  | (cases rx;rfl)
  | (obtain⟨t,rfl⟩:=rx;rfl)
theorem OpR.or{f:Value->Value->Sem Value}{r r':R2}(h:OpR X f r)(h':OpR X f r'):OpR X f (fun x y H Q=>r x y H Q∨r' x y H Q):=by
 intro Kp s σ H x y v u Q I rx ry q;rcases q with q | q
 ·exact h Kp s σ H x y v u Q I rx ry q
 ·exact h' Kp s σ H x y v u Q I rx ry q
theorem akd(b:Expr){op:CmpOp}(h:op ≠ .In:=by decide)(h2:op ≠ .NotIn:=by decide):behindInMarks op b=false:=by
 have e1:(op==CmpOp.In)=false:=by cases op<;>first|rfl|exact absurd rfl h
 have e2:(op==CmpOp.NotIn)=false:=by cases op<;>first|rfl|exact absurd rfl h2
 cases b<;>simp[behindInMarks,e1,e2]
theorem amB{op:CmpOp}{r:R2}(ho:OpR X (compareOp op) r)(ha:PE X a ta)(hb:PE X b tb)(hm:behindInMarks op b=false):PE X (.Compare a [op] [b] pos) (tOp r ta tb):=by
 intro Kp s σ H Q I h;exact wpAny_Compare1 (aoF ha hb I h fun v u s2 x y H2 I2 rx ry q=>ho Kp s2 σ H2 x y v u Q I2 rx ry q) hm
noncomputable def aoa(t:TE):TT:=fun σ H Q=>t σ H fun x H'=>∃k,x= .bl k/\Q k H'
theorem amC{op:CmpOp}{r:R2}(ho:OpR X (compareOp op) r)(ha:PE X a ta)(hb:PE X b tb)(hm:behindInMarks op b=false):PT X (.Compare a [op] [b] pos) (aoa (tOp r ta tb)):=by
 intro Kp s σ H Q I h
 refine wpAny_isTrue_Compare1 (thn (ha Kp s σ H _ I h) fun v s1 ⟨x,H1,I1,r1,q1⟩=>thn (hb Kp s1 σ H1 _ I1 q1) fun u s2 ⟨y,H2,I2,r2,q2⟩=>
  thn (ho Kp s2 σ H2 x y v u _ I2 r1 r2 q2) fun c s3 ⟨z,H3,I3,r3,k,e,q3⟩=>?_) hm
 subst e;cases r3;exact wpAny_truthy_bool ⟨H3,I3,q3⟩
noncomputable def agD(r r':R2)(ta tb tc:TE):TE:=fun σ H Q=>ta σ H fun x H1=>tb σ H1 fun y H2=>r x y H2 fun z H3=>∃k,z= .bl k/\
 (if k=true then tc σ H3 fun w' H4=>r' y w' H4 Q else Q (.bl false) H3)
theorem ake{op op':CmpOp}{r r':R2}(ho:OpR X (compareOp op) r)(ho':OpR X (compareOp op') r')(ha:PE X a ta)(hb:PE X b tb)(hc:PE X c tc)
  (hm:lastMarks [op,op'] [b,c]=false:=by with_unfolding_all rfl):PE X (.Compare a [op,op'] [b,c] pos) (agD r r' ta tb tc):=by
 intro Kp s σ H Q I h
 refine Compare_chain (thn (ha Kp s σ H _ I h) fun v s1 ⟨x,H1,I1,r1,q1⟩=>chain_link (thn (hb Kp s1 σ H1 _ I1 q1) fun u s2 ⟨y,H2,I2,r2,q2⟩=>
  thn (ho Kp s2 σ H2 x y v u _ I2 r1 r2 q2) fun d s3 ⟨z,H3,I3,r3,k,e,q3⟩=>?_)) hm
 subst e;cases r3;refine wpAny_truthy_bool ?_;cases k with
 |false=>exact ite_ff ⟨.bl false,H3,I3,rfl,q3⟩
 |true=>exact ite_tt (chain_last (thn (hc Kp s3 σ H3 _ I3 q3) fun w' s4 ⟨z',H4,I4,r4,q4⟩=>ho' Kp s4 σ H4 y z' u w' Q I4 r2 r4 q4))
theorem akf{op op':CmpOp}{r r':R2}(ho:OpR X (compareOp op) r)(ho':OpR X (compareOp op') r')(ha:PE X a ta)(hb:PE X b tb)(hc:PE X c tc)
  (hm:lastMarks [op,op'] [b,c]=false:=by with_unfolding_all rfl):PT X (.Compare a [op,op'] [b,c] pos) (aoa (agD r r' ta tb tc)):=by
 intro Kp s σ H Q I h
 refine isTrue_chain (thn (ha Kp s σ H _ I h) fun v s1 ⟨x,H1,I1,r1,q1⟩=>test_link (thn (hb Kp s1 σ H1 _ I1 q1) fun u s2 ⟨y,H2,I2,r2,q2⟩=>
  thn (ho Kp s2 σ H2 x y v u _ I2 r1 r2 q2) fun d s3 ⟨z,H3,I3,r3,k,e,q3⟩=>?_)) hm
 subst e;cases r3;refine wpAny_truthy_bool ?_;cases k with
 | false=>
  obtain⟨k',e',q'⟩:=q3;cases e';exact ite_ff ⟨H3,I3,q'⟩
 | true=>
  refine ite_tt (test_last (thn (hc Kp s3 σ H3 _ I3 q3) fun w' s4 ⟨z',H4,I4,r4,q4⟩=>thn (ho' Kp s4 σ H4 y z' u w' _ I4 r2 r4 q4) fun d' s5 ⟨z2,H5,I5,r5,k2,e2,q5⟩=>?_));subst e2;cases r5;exact wpAny_truthy_bool ⟨H5,I5,q5⟩
theorem agE:(sizeLine:Nat)<2 ^ 63:=by rw[sizeLine_eq];decide
theorem abP{x:V}{us:List Value}(r:jB [x] us):∃u,us=[u]/\jK x u:=by
 cases r with
 |cons r1 r2=>cases r2;exact⟨_,rfl,r1⟩
theorem ahN{x y:V}{us:List Value}(r:jB [x,y] us):∃u w',us=[u,w']/\jK x u/\jK y w':=by
 cases r with
 | cons r1 r2=>
  cases r2 with
  |cons r3 r4=>cases r4;exact⟨_,_,rfl,r1,r3⟩
theorem aiU(hc:X.calm=true):zu X (.builtin "max") (fun xs H Q=>∃i j,xs=[.int i,.int j]/\Q (.int (if j>i then j else i)) H):=by
 intro Kp s σ H xs us Q I r h;obtain⟨i,j,rfl,q⟩:=h;obtain⟨u,w',rfl,⟨t,rfl⟩,⟨t',rfl⟩⟩:=ahN r;refine max_two_ints (I.ok.hd hc) fun h' tk k=>⟨_,H,I.kept k,?_,q⟩;by_cases hj:j>i
 ·rw[if_pos hj,if_pos hj];exact⟨_,rfl⟩
 ·rw[if_neg hj,if_neg hj];exact⟨_,rfl⟩
theorem aiV(hc:X.calm=true):zu X (.builtin "min") (fun xs H Q=>∃i j,xs=[.int i,.int j]/\Q (.int (if j<i then j else i)) H):=by
 intro Kp s σ H xs us Q I r h;obtain⟨i,j,rfl,q⟩:=h;obtain⟨u,w',rfl,⟨t,rfl⟩,⟨t',rfl⟩⟩:=ahN r;refine min_two_ints (I.ok.hd hc) fun h' tk k=>⟨_,H,I.kept k,?_,q⟩;by_cases hj:j<i
 ·rw[if_pos hj,if_pos hj];exact⟨_,rfl⟩
 ·rw[if_neg hj,if_neg hj];exact⟨_,rfl⟩
end
structure ObjM(h:Heap)(x dx C:Addr)(mA:SV):Prop where
 obj:h.get? x=some (PySem.W.instObj C dx)
 ns:h.Ns1 dx mA
 ne:dx≠x
section
variable {prog:Program}{w:World}{A:Around}{E:Value->SP0}{s:Shared}{K:Fg}{x dx C f:Addr}{mA:SV}{name:Str}{v:Value}
end
theorem abf.some_of{v:V}{o:Option Value}(r:abf (some v) o):∃u,o=some u/\jK v u:=by
 cases o with
 |none=>exact(show False from r).elim
 |some u=>exact⟨u,rfl,r⟩
section
variable {P:Program}{w:World}{H H':Hp}{h h':Heap}{a C dx:Addr}{fs fs':List (Str×V)}
end
structure Cls(K:Fg)(C:Addr):Prop where
 pg:PySem.W.plainGet K C Str.empty=true
 hd:PySem.W.hasDictIn K C=true
 po:PySem.W.plainOver K C=true
 sa:PySem.W.findIn K (.ref C) "__setattr__"=some (some (.builtin "object.__setattr__"))
theorem Cls.get{K:Fg}{C:Addr}(c:Cls K C)(f:Str):PySem.W.plainGet K C f=true:=c.pg
structure Con(K:Fg)(C:Addr)(f:Str)(v:V)(u:Value):Prop where
 at_:PySem.W.findIn K (.ref C) f=some (some u)
 rel:jK v u
 get:PySem.W.specialIn K u "__get__"=some none
 cp:PySem.W.copiedNames.contains f=false
structure Meth(K:Fg)(C:Addr)(m:Str)(f:Addr):Prop where
 at_:PySem.W.findIn K (.ref C) m=some (some (.ref f))
 fn:PySem.W.isFn K (.ref f)=true
 kp:PySem.W.keepIn K (.ref f)=true
section
variable {X:Cx}{Kp:List (Addr×Obj)}{σ:St}{H:Hp}{s:Shared}{a C dx:Addr}{fs:List (Str×V)}{f:Str}{v:V}{A:Around}{E:Value->SP0}
end
section
variable {X:Cx}{o e value:Expr}{f:Str}{pos pos' tpos:Pos}{ta tv:TE}
end
section
variable {X:Cx}{Kp:List (Addr×Obj)}{σ:St}{H:Hp}{s:Shared}{A:Around}{E:Value->SP0}{Q:Value->SP0}{c:Value}{b:Bool}
inductive TyOf (K:Fg) (H:Hp):V->Value->Prop where
 |non:TyOf K H .non (.type "NoneType")
 |bl (x:Bool):TyOf K H (.bl x) (.type "bool")
 |int (i:Int):TyOf K H (.int i) (.type "int")
 |str (x:Str):TyOf K H (.str x) (.type "str")
 |flt (x:UInt64):TyOf K H (.flt x) (.type "float")
 |lst {a:Addr} {xs:List V} (e:H a=some (.lst xs)):TyOf K H (.ref a) (.type "list")
 |frz {a:Addr} {o:Obj} {xs:List V} (e:H a=some (.frz o (.lst xs))):TyOf K H (.ref a) (.type "list")
 |tup {a:Addr} {xs:List V} (e:H a=some (.tup xs)):TyOf K H (.ref a) (.type "tuple")
 |dK {a:Addr} {kvs:List (Key×V)} (e:H a=some (.dK kvs)):TyOf K H (.ref a) (.type "dict")
 |dT {a:Addr} {kvs:List (List Key×V)} (e:H a=some (.dT kvs)):TyOf K H (.ref a) (.type "dict")
 | ins {a C dx:Addr} {fs:List (Str×V)} (e:H a=some (.ins C dx fs)) (cl:Cls K C) (ha:PySem.W.findIn K (.ref C) "__class__"=some (some (.builtin "object.__class__")))
   (hn:PySem.W.specialIn K (.builtin "object.__class__") "__get__"=some (some (.builtin "getset_descriptor.__get__"))) (htk:PySem.W.takesIn K (.builtin "object.__class__")=some true)
   (hm:PySem.W.mroIn K C (.type "object")=some true):TyOf K H (.ref a) (.ref C)
end
structure Room(k:Nat)(A:Around):Prop where
 hd:A.handled=none
 dp:A.depth+3*k+5<recursionLimit
 un:A.units+16*k+200<cLine
theorem Room.mono{j k:Nat}{A:Around}(r:Room k A)(h:j<=k):Room j A:=⟨r.hd,by have:=r.dp;omega,by have:=r.un;omega⟩
theorem Room.deeper{k:Nat}{A:Around}(r:Room (k+1) A)(env:Env):Room k (A.deeper env):=
 ⟨r.hd,by have:=r.dp;show A.depth+1+3*k+5<_;omega,by have:=r.un;show A.units+3+16*k+200<_;omega⟩
theorem Room.in1{k:Nat}{A:Around}(r:Room (k+1) A):Room k A.in1:=
 ⟨r.hd,by have:=r.dp;show A.depth+3*k+5<_;omega,by have:=r.un;show A.units+1+16*k+200<_;omega⟩
theorem Room.depth{k:Nat}{A:Around}(r:Room k A):A.depth<recursionLimit:=by have:=r.dp;omega
theorem Room.units{k:Nat}{A:Around}(r:Room k A):A.units+64<cLine:=by have:=r.un;omega
noncomputable def amD:TA:=fun _ H Q=>Q [] H
noncomputable def afk(ta:TE)(tr:TA):TA:=fun σ H Q=>ta σ H fun x H1=>tr σ H1 fun xs H2=>Q (x::xs) H2
section
variable {X:Cx}{e:Expr}{es:List Expr}{te:TE}{t:TA}{pos:Pos}
theorem afl{α:Type}:∀(us:List α),us.length=1->∃a,us=[a]
 | [a],_=>⟨a,rfl⟩
theorem ZC{α:Type}(us:List α)(h:us.length=2):∃a b,us=[a,b]:=by
 cases us with
 |nil=>cases h
 |cons a r=>obtain⟨b,rfl⟩:=afl r (Nat.succ.inj h);exact⟨a,b,rfl⟩
theorem Zj{α:Type}(us:List α)(h:us.length=3):∃a b c,us=[a,b,c]:=by
 cases us with
 |nil=>cases h
 |cons a r=>obtain⟨b,c,rfl⟩:=ZC r (Nat.succ.inj h);exact⟨a,b,c,rfl⟩
theorem arb{α:Type}(us:List α)(h:us.length=4):∃a b c d,us=[a,b,c,d]:=by
 cases us with
 |nil=>cases h
 |cons a r=>obtain⟨b,c,d,rfl⟩:=Zj r (Nat.succ.inj h);exact⟨a,b,c,d,rfl⟩
theorem J1:PA X [] amD:=fun _ _ _ _ H Q I h=>Calls.spliced_nil ⟨[],H,I,.nil,h⟩
theorem zd(ha:PE X e te)(hr:PA X es t)(hs:starEach (e::es) X.env=(false,eval e X.env)::starEach es X.env:=by rfl):PA X (e::es) (afk te t):=by
 intro pos Kp s σ H Q I h;rw[hs];show wpAny _ _ (spliced ((false,eval e X.env)::backTo pos (starEach es X.env))) _ _ s;refine Calls.spliced_cons (thn (ha Kp s σ H _ I h) fun u s1 ⟨x,H1,I1,r1,q1⟩=>?_);exact thn (hr pos Kp s1 σ H1 _ I1 q1) fun us s2 ⟨xs,H2,I2,r2,q2⟩=>⟨x::xs,H2,I2,.cons r1 r2,q2⟩
noncomputable def arc(t:TA):TE:=fun σ H Q=>t σ H fun xs H1=>xs.length<=sizeLine/\∀p,H1 p=none->Q (.ref p) (upd H1 p (.tup xs))
noncomputable def ard(t:TA):TE:=fun σ H Q=>t σ H fun xs H1=>xs.length<=sizeLine/\∀p,H1 p=none->Q (.ref p) (upd H1 p (.lst xs))
theorem akg{x1}(h:PA X es t):PE X (.Tuple es x1 pos) (arc t):=by
 intro Kp s σ H Q I hq;refine wpAny_Tuple_spliced (thn (h pos Kp s σ H _ I hq) fun us s1 ⟨xs,H1,I1,r,z,q⟩=>⟨by rw[←r.length];exact z,?_⟩);have hf:H1 s1.heap.objs.size=none:=I1.hok.fresh (Nat.le_refl _);refine⟨.ref s1.heap.objs.size,upd H1 s1.heap.objs.size (.tup xs),I1.laid (t':=s1.toks) (fun b u e=>Heap.get?_push_of_some _ e) (Nat.le_refl _) ?_,rfl,q _ hf⟩;exact⟨z,us,r,⟨_,Heap.get?_push_size _ rfl,rfl,_,rfl⟩⟩
theorem agF(h:PA X es t):PE X (.List es pos) (ard t):=by
 intro Kp s σ H Q I hq;refine wpAny_List_spliced (thn (h pos Kp s σ H _ I hq) fun us s1 ⟨xs,H1,I1,r,z,q⟩=>⟨by rw[←r.length];exact z,?_⟩);have hf:H1 s1.heap.objs.size=none:=I1.hok.fresh (Nat.le_refl _);refine⟨.ref s1.heap.objs.size,upd H1 s1.heap.objs.size (.lst xs),I1.laid (t':=s1.toks) (fun b u e=>Heap.get?_push_of_some _ e) (Nat.le_refl _) ?_,rfl,q _ hf⟩;exact⟨z,us,0,r,Heap.get?_push_size _ rfl⟩
end
noncomputable abbrev Sp:=List V->Hp->VK->XK->Prop
noncomputable abbrev CXT:=List Env->Hp->Shared->XK->Value->SP0
structure Env0(P:Program)(w:World)(K:Fg)(mg:SV)(base:Heap)(A:Around)(Ko:List Env)(s:Shared)(H:Hp):Prop where
 frames:A.frames=some Ko
 mod:Mod K mg base
 bs:∀b o,base.get? b=some o->s.heap.get? b=some o/\H b=none
 bsz:base.objs.size<=s.heap.objs.size
 funs:s.heap.FunFrames base Ko
 frf:∀b∈frs Ko,H b=none
 hok:HOk P w H s.heap
 bare:AllBare s.gens
noncomputable def CE(Ko:List Env)(P:Program)(w:World)(H:Hp)(s:Shared)(Q:VK)(u:Value)(s':Shared):Prop:=
 ∃v H',s'.os=s.os/\AllBare s'.gens/\Un (frs Ko) [] H H' s.heap s'.heap/\HOk P w H' s'.heap/\jK v u/\Q v H'
noncomputable def CR(CX:CXT)(Ko:List Env)(P:Program)(w:World)(H:Hp)(s:Shared)(Q:VK)(E:XK)(r:Result)(s':Shared):Prop:=
 match r with
 |.ok (.ret u)=>CE Ko P w H s Q u s'
 |.ok _=>False
 |.error e=>CX Ko H s E e s'
structure FnOk(P:Program)(w:World)(K:Fg)(mg:SV)(base:Heap)(CX:CXT)(k:Nat)(f:Addr)(fd:FuncData)(ps:List Str)(sp:Sp):Prop where
 len:∀vs H Q E,sp vs H Q E->vs.length=ps.length
 run:∀(A:Around) (Ko:List Env) (s:Shared) (H:Hp) (args:Args) (us:List Value) (vs:List V) (Q:VK) (E:XK),Room k A->Env0 P w K mg base A Ko s H->BindsTo s fd args (ps.zip us)->jB vs us->sp vs H Q E->
  codeAny (model P w) A (.call (.ref f) args) (CR CX Ko P w H s Q E) s
theorem FnOk.mono{P:Program}{w:World}{K:Fg}{mg:SV}{base:Heap}{CX:CXT}{j k:Nat}{f:Addr}{fd:FuncData}{ps:List Str}{sp:Sp}(F:FnOk P w K mg base CX j f fd ps sp)(h:j<=k):
  FnOk P w K mg base CX k f fd ps sp:=⟨F.len,fun A Ko s H args us vs Q E hr=>F.run A Ko s H args us vs Q E (hr.mono h)⟩
theorem FnOk.imp{P:Program}{w:World}{K:Fg}{mg:SV}{base:Heap}{CX:CXT}{k:Nat}{f:Addr}{fd:FuncData}{ps:List Str}{sp sp':Sp}(F:FnOk P w K mg base CX k f fd ps sp)
  (h:∀vs H Q E,sp' vs H Q E->sp vs H Q E):FnOk P w K mg base CX k f fd ps sp':=
 ⟨fun vs H Q E q=>F.len vs H Q E (h _ _ _ _ q),fun A Ko s H args us vs Q E hr he hb hv hs=>F.run A Ko s H args us vs Q E hr he hb hv (h _ _ _ _ hs)⟩
theorem Env0.in1{P:Program}{w:World}{K:Fg}{mg:SV}{base:Heap}{A:Around}{Ko:List Env}{s:Shared}{H:Hp}(e:Env0 P w K mg base A Ko s H):
  Env0 P w K mg base A.in1 Ko s H:=⟨e.frames,e.mod,e.bs,e.bsz,e.funs,e.frf,e.hok,e.bare⟩
section
variable {X:Cx}{Kp:List (Addr×Obj)}{σ:St}{H:Hp}{s s':Shared}
theorem Inv.env0(I:Inv X Kp σ H s):Env0 X.prog X.w X.K X.mg X.base X.A X.stack s H:=
 ⟨I.ok.frames,I.ok.mod,I.bs,Nat.le_trans I.ok.bsz I.sz,I.stack,I.stkFree,I.hok,I.bare⟩
theorem Inv.after{Q:VK}{u:Value}(I:Inv X Kp σ H s)(h:CE X.stack X.prog X.w H s Q u s'):EP X Kp σ Q u s':=by
 obtain⟨v,H',os,bare,un,hok,r,q⟩:=h;obtain⟨hh,g,d,t,os'⟩:=s';obtain rfl:os'=s.os:=os;exact⟨v,H',I.call (h':=hh) (g':=g) (d':=d) (t':=t) (ch:=[]) un hok bare (fun b z=>absurd z (by simp)),r,q⟩
end
noncomputable def aqc(sp:Sp)(dvs:List V)(E:XK)(t:TA):TE:=fun σ H Q=>t σ H fun vs H1=>sp (vs++dvs) H1 Q E
noncomputable def Qs(K:Fg)(fd:FuncData)(ps:List Str)(ds:List Value):Prop:=
 ∀(s:Shared) (us:List Value),K.In s.heap->(us++ds).length=ps.length->BindsTo s fd ⟨us,[]⟩ (ps.zip (us++ds))
theorem Qs.all{K:Fg}{fd:FuncData}{ps:List Str}(h:∀us:List Value,us.length=ps.length->bindArgs fd ⟨us,[]⟩=pure (ps.zip us)):Qs K fd ps []:=fun s us _ hl=>by
 rw[List.append_nil]at hl ⊢;exact .of_eq (h us hl)
noncomputable def agG(CX:CXT)(X:Cx)(E:XK):Prop:=∀(Kp:List (Addr×Obj)) (σ:St) (H:Hp) (s:Shared) (e:Value) (s':Shared),Inv X Kp σ H s->CX X.stack H s E e s'->X.xe e s'
section
variable {X:Cx}{CX:CXT}{k:Nat}{f C:Addr}{fd:FuncData}{ps:List Str}{sp:Sp}{dvs:List V}{ds:List Value}{E:XK}{x m:Str}{p pos apos:Pos}{e o:Expr}{es:List Expr}{ta:TE}{t:TA}
theorem akh{Kp:List (Addr×Obj)}{σ:St}{H:Hp}{s:Shared}{Q:VK}{us:List Value}{vs:List V}(F:FnOk X.prog X.w X.K X.mg X.base CX k f fd ps sp)(hr:Room k X.A)(hb:Qs X.K fd ps ds)(hd:jB dvs ds)(hx:agG CX X E)
  (I:Inv X Kp σ H s) (r:jB vs us) (h:sp (vs++dvs) H Q E):wpAny (model X.prog X.w) X.A (call (.ref f) us) (EP X Kp σ Q) X.xe s:=by
 have r2:jB (vs++dvs) (us++ds):=r.append hd;have hl:(us++ds).length=ps.length:=by rw[←r2.length];exact F.len _ _ _ _ h
 refine wpAny_call (codeAny_mono (F.run X.A X.stack s H ⟨us,[]⟩ (us++ds) (vs++dvs) Q E hr I.env0 (hb s us I.kIn hl) r2 h) fun r s' hq=>?_);cases r with
 |error e=>exact hx Kp σ H s e s' I hq
 | ok fl=>
  cases fl with
  |ret u=>exact I.after hq
  |next=>exact False.elim hq
  |brk=>exact False.elim hq
  |cont=>exact False.elim hq
theorem amE(F:FnOk X.prog X.w X.K X.mg X.base CX k f fd ps sp)(hr:Room k X.A)(hg:Gl X x)(hm:X.mg x=some (.ref f))(hk:PySem.W.keepIn X.K (.ref f)=true)(hb:Qs X.K fd ps ds)(hd:jB dvs ds)(hx:agG CX X E)
  (ha:PA X (e::es) t) (hdb:(x==("__debug__":Str))=false:=by decide) (he:starEach (e::es) X.env=(false,eval e X.env)::starEach es X.env:=by rfl) (hpl:(backTo pos (starEach es X.env)).any (·.1)=false:=by rfl):
  PE X (.Call (.Name x p) (e::es) [] pos) (aqc sp dvs E t):=by
 intro Kp s σ H Q I h;refine wpAny_Call_Name_kw (abj I hg hm ?_ hdb);refine PySem.W.callWith_K (h₀:=X.base) I.ok.mod.kin hk (thn (ha pos Kp s σ H _ I h) fun us s1 ⟨vs,H1,I1,r,q⟩=>⟨I1.kIn,?_⟩) he hpl;exact akh F hr hb hd hx I1 r q
structure Mk(K:Fg)(C f:Addr):Prop where
 makes:PySem.W.makesIn K C=true
 init:PySem.W.findIn K (.ref C) "__init__"=some (some (.ref f))
 fn:PySem.W.isFn K (.ref f)=true
 kp:PySem.W.keepIn K (.ref C)=true
end
noncomputable def PK(X:Cx)(kws:List Keyword)(t:TA):Prop:=
 ∀(pos:Pos) (Kp:List (Addr×Obj)) (s:Shared) (σ:St) (H:Hp) (Q:List V->Hp->Prop),Inv X Kp σ H s->t σ H Q->wpAny (model X.prog X.w) X.A (evalAll ((backToKw pos (keywordEach kws X.env)).map (·.2))) (AP X Kp σ Q) X.xe s
section
variable {X:Cx}{CX:CXT}{k:Nat}{f C:Addr}{fd:FuncData}{ps ks:List Str}{sp:Sp}{E:XK}{x m:Str}{p pos apos kpos:Pos}{e o:Expr}{es:List Expr}{kws:List Keyword}{te ta:TE}{t tk:TA}{nm:Option Str}
theorem aoN:PK X [] amD:=fun _ _ _ _ H Q I h=>wpAny_evalAll_nil ⟨[],H,I,.nil,h⟩
theorem ahO(ha:PE X e te)(hr:PK X kws t):PK X (⟨nm,e,kpos⟩::kws) (afk te t):=by
 intro pos Kp s σ H Q I h;show wpAny _ _ (evalAll ((do let v ←eval e X.env;standAt pos;pure v)::(backToKw pos (keywordEach kws X.env)).map (·.2))) _ _ s;refine wpAny_evalAll_cons (wpAny_bind (thn (ha Kp s σ H _ I h) fun u s1 ⟨x,H1,I1,r1,q1⟩=>wpAny_bind (wpAny_standAt (wpAny_pure ?_))));exact thn (hr pos Kp s1 σ H1 _ I1 q1) fun us s2 ⟨xs,H2,I2,r2,q2⟩=>⟨x::xs,H2,I2,.cons r1 r2,q2⟩
structure KBinds(K:Fg)(fd:FuncData)(ps ks:List Str)(g:List Value->List Value->List Value)(gV:List V->List V->List V):Prop where
 to:∀(s:Shared) (us ws:List Value),K.In s.heap->(g us ws).length=ps.length->BindsTo s fd ⟨us,ks.zip ws⟩ (ps.zip (g us ws))
 rel:∀{vs:List V} {us:List Value} {zs:List V} {ws:List Value},jB vs us->jB zs ws->jB (gV vs zs) (g us ws)
variable {g:List Value->List Value->List Value}{gV:List V->List V->List V}
end
structure FnScope(N P:List Str)(sc:Scope):Prop where
 kind:sc.kind= .function
 co:sc.isCoroutine=false
 gen:sc.isGenerator=false
 nd:N.Nodup
 pre:N.take P.length=P
 par:∀x∈P,sc.names.lookup x=some .local∨sc.names.lookup x=some .cell
 nofree:∀y∈sc.names,y.2 ≠ .free
theorem ada{kindOf:Str->Option NameKind}{x:Str}:∀{binds:List (Str×Value)}{m:SV},(∀v,(x,v)∉binds)->bindL kindOf binds m x=m x
 | [],_,_=>rfl
 | (n,v)::r,m,h=>by
  unfold bindL;rw[ada fun w hw=>h w (List.mem_cons_of_mem _ hw)];split
  ·have:x≠n:=by rintro rfl;exact h v List.mem_cons_self
   simp[this]
  ·rfl
theorem adb{kindOf:Str->Option NameKind}{x:Str}:∀{binds:List (Str×Value)}{m:SV},(∀v,(x,v)∉binds)->bindC kindOf binds m x=m x
 | [],_,_=>rfl
 | (n,v)::r,m,h=>by
  unfold bindC;rw[adb fun w hw=>h w (List.mem_cons_of_mem _ hw)];split
  ·rfl
  ·have:x≠n:=by rintro rfl;exact h v List.mem_cons_self
   simp[this]
theorem adc{kindOf:Str->Option NameKind}{x:Str}{v:Value}:∀{P:List Str}{vs:List Value}{i:Nat}{m:SV},P.Nodup->P[i]?=some x->vs[i]?=some v->kindOf x=some .local->
  bindL kindOf (P.zip vs) m x=some v
 | [],_,_,_,_,h,_,_=>by simp at h
 |_::_,[],_,_,_,_,h,_=>by simp at h
 | p::P,w::vs,0,m,nd,h1,h2,hk=>by
  simp at h1 h2;subst h1;subst h2;show bindL kindOf ((p,w)::P.zip vs) m p=_;unfold bindL;rw[ada fun v hv=>(List.nodup_cons.mp nd).1 (List.of_mem_zip hv).1,if_pos hk];simp
 | p::P,w::vs,i+1,m,nd,h1,h2,hk=>by
  show bindL kindOf ((p,w)::P.zip vs) m x=_;unfold bindL;exact adc (i:=i) (List.nodup_cons.mp nd).2 (by simpa using h1) (by simpa using h2) hk
theorem add{kindOf:Str->Option NameKind}{x:Str}{v:Value}:∀{P:List Str}{vs:List Value}{i:Nat}{m:SV},P.Nodup->P[i]?=some x->vs[i]?=some v->kindOf x≠some .local->
  bindC kindOf (P.zip vs) m x=some v
 | [],_,_,_,_,h,_,_=>by simp at h
 |_::_,[],_,_,_,_,h,_=>by simp at h
 | p::P,w::vs,0,m,nd,h1,h2,hk=>by
  simp at h1 h2;subst h1;subst h2;show bindC kindOf ((p,w)::P.zip vs) m p=_;unfold bindC;rw[adb fun v hv=>(List.nodup_cons.mp nd).1 (List.of_mem_zip hv).1,if_neg hk];simp
 | p::P,w::vs,i+1,m,nd,h1,h2,hk=>by
  show bindC kindOf ((p,w)::P.zip vs) m x=_;unfold bindC;exact add (i:=i) (List.nodup_cons.mp nd).2 (by simpa using h1) (by simpa using h2) hk
noncomputable def Jb(N:List Str)(vs:List V):St:=vs.map some++List.replicate (N.length-vs.length) none
noncomputable def Jy(CX:CXT)(P:Program)(w:World)(K:Fg)(mg:SV)(base:Heap)(N:List Str)(qual:Str)(scope:Scope)(f:Addr)(cd:Value)(A:Around)(Ko:List Env)(s:Shared)(H:Hp)(E:XK):Cx where
 prog:=P
 w:=w
 K:=K
 mg:=mg
 base:=base
 A:=A.deeper (envOfC qual scope s.heap.objs.size f cd)
 N:=N
 s₀:=s
 H₀:=H
 env:=envOfC qual scope s.heap.objs.size f cd
 Ko:=Ko
 stack:=envOfC qual scope s.heap.objs.size f cd::Ko
 ex:=[]
 calm:=true
 fn:=fun _=>true
 pn:=[]
 xe:=fun e s'=>wpAny (model P w) (A.deeper (envOfC qual scope s.heap.objs.size f cd)) (leaving (envOfC qual scope s.heap.objs.size f cd) e) (fun _ s''=>CX Ko H s E e s'') (fun e' s''=>CX Ko H s E e' s'') s'
theorem afm{sc:Scope}{n:Nat}{x:Str}(h:sc.names.lookup x=some .cell):∃c,(cellsFrom n sc.names []).lookup x=some c:=by
 have q:=PySem.W.cellsFrom_some sc.names n [] (.inl h);exact Option.isSome_iff_exists.mp q
theorem ade{CX:CXT}{P:Program}{w:World}{K:Fg}{mg:SV}{base:Heap}{N ps:List Str}{qual:Str}{scope:Scope}{f:Addr}{cd:Value}{A:Around}{Ko:List Env}{s s1:Shared}{H:Hp}{E:XK}{us:List Value}{vs:List V}
  (S:FnScope N ps scope) (hd:A.handled=none) (e0:Env0 P w K mg base A Ko s H) (hl:vs.length=ps.length) (r:jB vs us)
  (x:InCallC s s.heap.objs.size (bindL (envOfC qual scope s.heap.objs.size f cd).kindOf (ps.zip us) fun _=>none) (cellsFrom (s.heap.objs.size+1) scope.names []) (bindC (envOfC qual scope s.heap.objs.size f cd).kindOf (ps.zip us) fun _=>none) s1):
  Inv (Jy CX P w K mg base N qual scope f cd A Ko s H E) [] (Jb N vs) H s1:=by
 have hpl:ps.length<=N.length:=by have:=congrArg List.length S.pre;rw[List.length_take]at this;omega
 obtain⟨h1,tk,rfl,hk⟩:=x.done;have noA:∀b:Addr,b∉(Jy CX P w K mg base N qual scope f cd A Ko s H E).ex:=fun b z=>absurd (show b∈([]:List Addr) from z) (by simp)
 refine⟨⟨e0.mod,S.kind,rfl,rfl,Nat.le_refl _,fun y z c h1 h2=>?_,fun y hy=>?_,fun y c _ h=>?_,fun _=>hd,Around.frames_deeper e0.frames,.inr ⟨rfl,rfl⟩,fun b z=>absurd z (noA b),e0.bs,e0.bsz,fun b _ _=>noA b,fun b z=>absurd z (noA b),e0.funs,e0.frf⟩,
  rfl,e0.bare,Un.kept hk,⟨_,x.toInCall.ns,fun i y v h1 h2 h3=>?_⟩,fun y c h=>⟨_,x.cell y c h⟩,e0.hok.fresh (Nat.le_refl _),fun y c h=>?_,fun p hp=>absurd (show p ∈ ([]:List (Addr × Obj)) from hp) (by simp),e0.hok.kept hk,?_⟩
 ·exact name_of_addr x.apart (PySem.mem_of_lookup h1) (PySem.mem_of_lookup h2)
 ·have hy:scope.names.lookup y=some .cell∨scope.names.lookup y=some .free:=hy
  rcases hy with hy | hy
  ·exact afm hy
  ·exact absurd rfl (S.nofree _ (PySem.mem_of_lookup hy))
 ·exact Nat.le_of_lt (x.above y c (PySem.mem_of_lookup h))
 ·have hi:i<vs.length:=by
   unfold Jb at h2;by_cases hi:i<vs.length
   ·exact hi
   ·rw[List.getElem?_append_right (by simpa using hi)]at h2
    rw[List.getElem?_replicate]at h2;split at h2<;>cases h2
  have ha:vs[i]?=some v:=by
   unfold Jb at h2;rw[List.getElem?_append_left (by simpa using hi),List.getElem?_map]at h2;cases e:vs[i]? with
   |none=>rw[e]at h2;cases h2
   |some a=>rw[e]at h2;cases h2;rfl
  obtain⟨u,hu,rv⟩:=r.get ha
  have hp:ps[i]?=some y:=by
   rw[←S.pre,List.getElem?_take_of_lt (by omega)];exact h1
  have ndP:ps.Nodup:=by rw[←S.pre];exact S.nd.sublist (List.take_sublist _ _)
  refine⟨u,rv,?_⟩;rcases S.par y (List.mem_of_getElem? hp)with k | k
  ·exact .inl ⟨k,adc ndP hp hu k⟩
  ·obtain⟨c,e⟩:=afm (n:=s.heap.objs.size+1) k
   refine .inr ⟨.inl k,c,e,?_⟩;have q:=x.cell y c e;rw[add ndP hp hu (by show scope.names.lookup y≠_;rw[k];decide)]at q;exact q
 ·exact e0.hok.fresh (Nat.le_of_lt (x.above y c (PySem.mem_of_lookup h)))
 ·unfold Jb
  show _=N.length;rw[List.length_append,List.length_map,List.length_replicate];omega
theorem aqd{CX:CXT}{P:Program}{w:World}{K:Fg}{mg:SV}{base:Heap}{k:Nat}{f:Addr}{name qual:Str}{params:Arguments}{body:List Stmt}{scope:Scope}{dV kV doc pm Kc ct oc:Value}{an od:Option Addr}
  {osl:Array (Option Value)} {N ps:List Str} {sp:Sp} (lk:K.lookup f=some ⟨oc,od,.func (PySem.W.fnOf name qual params body scope dV kV doc pm an Kc ct),osl⟩) (hcd:PySem.W.codeIn K Kc qual=true) (S:FnScope N ps scope)
  (len:∀vs H Q E,sp vs H Q E->vs.length=ps.length)
  (hbody:∀(A:Around) (Ko:List Env) (s:Shared) (H:Hp) (vs:List V) (Q:VK) (E:XK),Room k (A.deeper (envOfC qual scope s.heap.objs.size f Kc))->sp vs H Q E->
   ∃ t,PSs (Jy CX P w K mg base N qual scope f Kc A Ko s H E) body t/\t { nx:=fun _ H'=>Q .non H',rt:=Q } (Jb N vs) H):
  FnOk P w K mg base CX (k+1) f (PySem.W.fnOf name qual params body scope dV kV doc pm an Kc ct) ps sp:=by
 refine⟨len,fun A Ko s H args us vs Q E hr e0 hb r hsp=>?_⟩;have hl:=len _ _ _ _ hsp;have KX:K.In s.heap:=e0.mod.kin.keeps fun b o e=>(e0.bs b o e).1;have lim:s.heap.NoLimit:=e0.mod.nolimit.keeps fun b o e=>(e0.bs b o e).1
 have hkind:∀y∈ps.zip us,scope.names.lookup y.1=some .local∨(scope.names.lookup y.1=some .cell/\((cellsFrom (s.heap.objs.size+1) scope.names []).lookup y.1).isSome=true):=fun⟨n,v⟩ hy=>by
  rcases S.par n (List.of_mem_zip hy).1 with q | q
  ·exact .inl q
  ·exact .inr ⟨q,PySem.W.cellsFrom_some _ _ _ (.inl q)⟩
 refine codeAny_call_function hr.depth (KX _ _ lk) rfl S.co S.gen rfl (PySem.W.codeRec_of KX hcd) (hb _ _ _ _ ?_);refine wpAny_newFunctionEnv_cells S.kind hkind fun env he s1 x=>?_;subst he;refine⟨lim.keeps x.toInCall.keep,codeAny_func ?_⟩;obtain⟨t,ht,hq⟩:=hbody A Ko s H vs Q E (hr.deeper _) hsp;have I:Inv (Jy CX P w K mg base N qual scope f Kc A Ko s H E) [] (Jb N vs) H s1:=ade S hr.hd e0 hl r x;refine wpAny_mono (ht [] s1 (Jb N vs) H _ I hq) (fun fl s' hs=>?_) fun e s' hs=>hs
 have fin:∀{σ':St} {H':Hp} {v:V} {u:Value},Inv (Jy CX P w K mg base N qual scope f Kc A Ko s H E) [] σ' H' s'->jK v u->Q v H'->CE Ko P w H s Q u s':=
  fun {σ' H' v u} J rv q=>⟨v,H',J.os,J.bare,J.base,J.hok,rv,q⟩
 cases fl with
 | ret u=>
  obtain⟨v,σ',H',J,rv,q⟩:=hs;exact fin J rv q
 | next=>
  obtain⟨σ',H',J,q⟩:=hs;exact fin (v:=V.non) (u:=Value.none) J rfl q
 | brk=>
  obtain⟨_,_,_,q⟩:=hs;exact False.elim q
 | cont=>
  obtain⟨_,_,_,q⟩:=hs;exact False.elim q
section
variable {X:Cx}{x:Str}{p pos:Pos}{e:Expr}{es:List Expr}{t:TA}{id T:String}{r:List V->Hp->VK->Prop}
noncomputable def tCB(r:List V->Hp->VK->Prop)(t:TA):TE:=fun σ H Q=>t σ H fun vs H1=>r vs H1 Q
theorem afn(hc:zu X (.builtin id) r)(hg:Gl X x)(hm:X.mg x=none)(hv:bootBuiltins x=some (.builtin id))(ha:PA X (e::es) t)(hn:x≠"__name__":=by decide)(hdb:(x==("__debug__":Str))=false:=by decide)
  (he:starEach (e::es) X.env=(false,eval e X.env)::starEach es X.env:=by rfl) (hpl:(backTo pos (starEach es X.env)).any (·.1)=false:=by rfl):PE X (.Call (.Name x p) (e::es) [] pos) (tCB r t):=by
 intro Kp s σ H Q I h;refine wpAny_Call_Name_kw (Zr I hg hm hv ?_ hn hdb);exact PyProof.Rows.callWith_builtin1 (thn (ha pos Kp s σ H _ I h) fun us s1 ⟨vs,H1,I1,r1,q1⟩=>hc Kp s1 σ H1 vs us Q I1 r1 q1) he hpl
theorem aiW(hc:zu X (.type T) r)(hg:Gl X x)(hm:X.mg x=none)(hv:bootBuiltins x=some (.type T))(ha:PA X (e::es) t)(hn:x≠"__name__":=by decide)(hdb:(x==("__debug__":Str))=false:=by decide)
  (he:starEach (e::es) X.env=(false,eval e X.env)::starEach es X.env:=by rfl) (hpl:(backTo pos (starEach es X.env)).any (·.1)=false:=by rfl):PE X (.Call (.Name x p) (e::es) [] pos) (tCB r t):=by
 intro Kp s σ H Q I h;refine wpAny_Call_Name_kw (Zr I hg hm hv ?_ hn hdb);exact PyProof.Rows.callWith_type1 (thn (ha pos Kp s σ H _ I h) fun us s1 ⟨vs,H1,I1,r1,q1⟩=>hc Kp s1 σ H1 vs us Q I1 r1 q1) he hpl
end
end L2
namespace HT
open PySem PyProof.Rows
noncomputable def lexLt:List Int->List Int->Bool
 | [],[]=>false
 | [],_::_=>true
 |_::_,[]=>false
 |x::xs,y::ys=>if x=y then lexLt xs ys else decide (x<y)
theorem lexLt_cons(x y:Int)(xs ys:List Int):lexLt (x::xs) (y::ys)=if x=y then lexLt xs ys else decide (x<y):=rfl
theorem lexLt_nil_nil:lexLt [] []=false:=rfl
theorem abQ(y:Int)(ys:List Int):lexLt [] (y::ys)=true:=rfl
theorem abR(x:Int)(xs:List Int):lexLt (x::xs) []=false:=rfl
theorem aki(A:Around)(s:Shared)(a:Int)(t:Tok)(c:Int)(u:Tok):∃e,SeqAt.EqAt A s (.int a t) (.int c u) e/\(e=true↔a=c):=
 ⟨(a==c),SeqAt.EqAt.int_int a t c u,by simp⟩
theorem akj(A:Around)(s:Shared)(a:Int)(t:Tok)(c:Int)(u:Tok)(prog:Program)(w:World)(E:Value->SP0)(Q:Value->SP0)(h:Q (.bool (decide (a<c))) s):
  wpAny (model prog w) A (richCompare .Lt (.int a t) (.int c u)) Q E s:=
 (PyProof.Rows.lt_int h:wpAny (model prog w) A (compareOp .Lt (.int a t) (.int c u)) Q E s)
section
open PySem.SeqAt
open PySem.AutoSeq1 (wpAny_loadPart')
open PySem.MeetsSeq PySem.MeetsSeq2 PySem.MeetsSeq3
theorem acY(l b:Addr)(items items2:Array Value)(n n2:Nat)(dd dd2:Option Addr)(sl sl2:Array (Option Value))(ns ms:List Int)(hi:IntsAre items.toList ns)(hj:IntsAre items2.toList ms):
  Meets (Builtin.«tuple.__lt__» ⟨[.ref l,.ref b],[]⟩)
   (fun _ R s=>s.heap.get? l=some { cls:= .type "tuple",dict:=dd,data:= .seq items n,slots:=sl }/\s.heap.get? b=some { cls:= .type "tuple",dict:=dd2,data:= .seq items2 n2,slots:=sl2 }/\
    R (.ok (.ret (.bool (lexLt ns ms)))) s):=
 .of_wp fun prog w A R s h=>by
  obtain⟨hp,g,d,tk,os⟩:=s;obtain⟨hl,hb,h⟩:=h;have f2:=AutoSeq1.sub_tuple_tuple;have z1:items.size=ns.length:=by rw[←hi.length];simp
  have z2:items2.size=ms.length:=by rw[←hj.length];simp
  wp_walk using wpAny_loadPart' hl,wpAny_loadPart' hb,wpAny_forIn_list _ (fun j8 b s'=>b.1=none/\s'=⟨hp,g,d,tk,os⟩/\∃(vs ws:List Value) (ns' ms':List Int),j8=vs.zip ws/\
   IntsAre vs ns'/\IntsAre ws ms'/\ns'.length+items2.size=ms'.length+items.size/\R (.ok (.ret (.bool (lexLt ns' ms')))) ⟨hp,g,d,tk,os⟩) _
  case turn=>
   rintro⟨y,x⟩ j8 b s' ⟨hb',rfl,vs,ws,ns',ms',hz,hvi,hwi,hlen,hR⟩
   cases hvi with
   |nil=>rw[List.zip_nil_left]at hz;cases hz
   | cons a t hvi'=>
    cases hwi with
    |nil=>rw[List.zip_nil_right]at hz;cases hz
    | cons c u hwi'=>
     rw[List.zip_cons_cons]at hz;injection hz with hyx hrest
     injection hyx with hy hx
     subst hy hx;rw[lexLt_cons]at hR;simp only[List.length_cons]at hlen;obtain⟨e,he,hiff⟩:=aki A.in1 ⟨hp,g,d,tk,os⟩ a t c u;refine wpAny_bind (he prog w _ _ ?_);cases e with
     | true=>
      rw[if_pos (hiff.mp rfl)]at hR
      wp_walk
      exact⟨rfl,rfl,_,_,_,_,hrest,hvi',hwi',by omega,hR⟩
     | false=>
      rw[if_neg (fun q=>absurd (hiff.mpr q) Bool.false_ne_true)]at hR;have hri:=akj A.in1 ⟨hp,g,d,tk,os⟩ a t c u prog w
      wp_walk using hri
      exact⟨_,rfl,by simpa using hR⟩
  case fin=>
   rintro⟨b1,b2⟩ s' ⟨hb',rfl,vs,ws,ns',ms',hz,hvi,hwi,hlen,hR⟩
   simp only at hb';subst hb'
   have hv:lexLt ns' ms'=decide (items.size<items2.size):=by
    cases hvi with
    | nil=>
     cases hwi with
     | nil=>
      simp only[List.length_nil]at hlen;rw[lexLt_nil_nil];exact(decide_eq_false (by omega)).symm
     | cons c u hw=>
      simp only[List.length_nil,List.length_cons]at hlen;rw[abQ];exact(decide_eq_true (by omega)).symm
    | cons a t hv=>
     cases hwi with
     | nil=>
      simp only[List.length_nil,List.length_cons]at hlen;rw[abR];exact(decide_eq_false (by omega)).symm
     | cons c u hw=>
      rw[List.zip_cons_cons]at hz;cases hz
   rw[hv]at hR
   wp_walk
   exact⟨_,rfl,by simpa[Builtin.Tuple.tupleCompareSizes]using hR⟩
  case h=>
   exact⟨rfl,rfl,items.toList,items2.toList,ns,ms,rfl,hi,hj,by omega,h⟩
end
section
variable {prog:Program}{w:World}{A:Around}{E:Value->SP0}{s:Shared}
theorem lt_tupInts{l b:Addr}{items items2:Array Value}{ns ms:List Int}{Q:Value->SP0}(hl:IsTup s.heap l items)(hb:IsTup s.heap b items2)(hi:IntsAre items.toList ns)(hj:IntsAre items2.toList ms)
  (hu:A.units<cLine) (h:Q (.bool (lexLt ns ms)) s):wpAny (model prog w) A (compareOp .Lt (.ref l) (.ref b)) Q E s:=by
 obtain⟨⟨cls,dd,data,sl⟩,ho,hc,n,hd⟩:=id hl;obtain⟨⟨cls2,dd2,data2,sl2⟩,ho2,hc2,n2,hd2⟩:=id hb;simp only at hc hd hc2 hd2;subst hc hd hc2 hd2
 exact richCompare_meets_room (op:= .Lt) ⟨_,ho,rfl⟩ ⟨_,ho2,rfl⟩ PySem.F.slot_tuple_lt PySem.F.entry_tuple_lt (PySem.F.args_tuple_lt_2 _ _) (acY l b items items2 n n2 dd dd2 sl sl2 ns ms hi hj)
  ⟨ho,ho2,show Value.bool (lexLt ns ms)≠Value.notImplemented/\Q (.bool (lexLt ns ms)) s from⟨(fun x=>nomatch x),h⟩⟩ hu
theorem cat_tup{t b:Addr}{vs ws:List Value}{Q:Value->SP0}(ht:IsTup s.heap t vs.toArray)(hb:IsTup s.heap b ws.toArray)(hv:vs≠[])
  (h1:ws=[]->Q (.ref t) s) (h2:ws≠[]->Q (.ref s.heap.objs.size) { s with heap:=s.heap.push { cls:= .type "tuple",data:= .seq (vs++ws).toArray } })
  (hsz:vs.length+ws.length<=sizeLine):wpAny (model prog w) A (binaryOp .Add (.ref t) (.ref b)) Q E s:=by
 obtain⟨⟨cls,dd,data,sl⟩,ho,hc,n,hd⟩:=id ht;obtain⟨⟨cls2,dd2,data2,sl2⟩,ho2,hc2,n2,hd2⟩:=id hb;simp only at hc hd hc2 hd2;subst hc hd hc2 hd2;have e:vs.toArray++ws.toArray=(vs++ws).toArray:=by simp
 by_cases hw:ws=[]
 ·exact concat_meets ⟨_,ho,rfl⟩ ⟨_,ho2,rfl⟩ noFill_tuple_add seq_tuple_add PySem.F.slot_tuple_add PySem.F.entry_tuple_add (PySem.F.args_tuple_add_2 _ _)
   (tuple_addW1 t b vs.toArray ws.toArray n n2 dd dd2 sl sl2 (by simpa using hv) (by simp[hw])) ⟨ho,ho2,h1 hw⟩
 ·refine concat_meets ⟨_,ho,rfl⟩ ⟨_,ho2,rfl⟩ noFill_tuple_add seq_tuple_add PySem.F.slot_tuple_add PySem.F.entry_tuple_add (PySem.F.args_tuple_add_2 _ _)
   (tuple_addW2 t b vs.toArray ws.toArray n n2 dd dd2 sl sl2 (by simpa using hv) (by simpa using hw) (by rw[List.size_toArray,List.size_toArray];exact hsz)) ⟨ho,ho2,?_⟩
  rw[e];exact h2 hw
noncomputable def sIx(n d:Nat):Option Int->Nat
 |none=>d
 |some v=>if v<0 then (v+(n:Int)).toNat else min v.toNat n
theorem sIx_none(n d:Nat):sIx n d none=d:=rfl
theorem sIx_nat(n d k:Nat):sIx n d (some (k:Int))=min k n:=by
 show(if (k:Int)<0 then ((k:Int)+(n:Int)).toNat else min (k:Int).toNat n)=min k n;rw[if_neg (by omega),Int.toNat_natCast]
theorem aoO(n d:Nat)(hd:d<=n)(o:Option Int):sIx n d o<=n:=by
 cases o with
 |none=>exact hd
 | some v=>
  show(if v<0 then (v+(n:Int)).toNat else min v.toNat n)<=n;by_cases hv:v<0
  ·rw[if_pos hv];omega
  ·rw[if_neg hv];exact Nat.min_le_right _ _
theorem ahP(v:Int)(n d:Nat):(if v<0 then max (v+(n:Int)) 0 else min v (n:Int))=((sIx n d (some v):Nat):Int):=by
 show(if v<0 then max (v+(n:Int)) 0 else min v (n:Int))=(((if v<0 then (v+(n:Int)).toNat else min v.toNat n):Nat):Int);by_cases hv:v<0
 ·simp only[if_pos hv];omega
 ·simp only[if_neg hv];omega
theorem agH(lo hi:Option Int)(n:Nat):Builtin.Slice.sliceAdjust lo hi 1 (n:Int)=(((sIx n 0 lo:Nat):Int),((sIx n n hi:Nat):Int)):=by
 have h1:¬ ((1:Int)<0):=by omega
 unfold Builtin.Slice.sliceAdjust;simp only[h1,zzN];refine Prod.ext ?_ ?_
 ·cases lo with
  |none=>rfl
  |some v=>exact ahP v n 0
 ·cases hi with
  |none=>rfl
  |some v=>exact ahP v n n
theorem agI(i j:Nat):Builtin.Slice.slicePlaces (i:Int) (j:Int) 1=j-i:=by
 unfold Builtin.Slice.slicePlaces;have h1:(1:Int)>0:=by omega
 simp only[h1,zzM,Int.ediv_one];split<;>omega
theorem abS{v:Value}{o:Option Int}{Q:Option Int->SP0}(p:IsPart v o)(h:Q o s):wpAny (model prog w) A (Builtin.Slice.slicePartIndex v) Q E s:=by
 cases p with
 |none=>exact slicePart_none h
 |int i t=>exact slicePart_int h
theorem sliceApplied_gen{sl:Addr}{vl vu:Value}{lo hi:Option Int}{n:Nat}{Q:Int×Int×Nat->SP0}(hs:s.heap.IsSliceOf sl vl vu .none)(pl:IsPart vl lo)(pu:IsPart vu hi)
  (h:Q (((sIx n 0 lo:Nat):Int),1,sIx n n hi-sIx n 0 lo) s):wpAny (model prog w) A (Builtin.Slice.sliceApplied (.ref sl) (pure (n:Int))) Q E s:=by
 obtain⟨os,hos,hcs,hds⟩:=id hs;unfold Builtin.Slice.sliceApplied Builtin.Slice.sliceFields;refine wpAny_bind (wpAny_bind (wpAny_field hos hds (x:=vl) rfl (wpAny_bind (wpAny_field hos hds (x:=vu) rfl (wpAny_bind (wpAny_field hos hds (x:= .none) rfl (wpAny_pure ?_)))))));refine wpAny_bind (slicePart_none ?_);show wpAny _ _ (if ((1:Int)==0)=true then _ else _) _ _ s;rw[if_neg (by decide)];refine wpAny_bind (abS pl (wpAny_bind (abS pu (wpAny_bind (wpAny_pure ?_)))));show wpAny _ _ (match Builtin.Slice.sliceAdjust lo hi 1 (n:Int)with | (lo,hi)=>pure (lo,(1:Int),Builtin.Slice.slicePlaces lo hi 1)) _ _ s;rw[agH lo hi n];show wpAny _ _ (pure (((sIx n 0 lo:Nat):Int),(1:Int),Builtin.Slice.slicePlaces ((sIx n 0 lo:Nat):Int) ((sIx n n hi:Nat):Int) 1)) _ _ s;rw[agI];exact wpAny_pure h
theorem akk(xs:Array Value)(i k:Nat):((List.range k).filterMap fun (m:Nat)=>xs[((i:Int)+(m:Int)*1).toNat]?).toArray=((xs.toList.drop i).take k).toArray:=by
 have e:(fun (m:Nat)=>xs[((i:Int)+(m:Int)*1).toNat]?)=fun m=>xs[i+m]?:=by
  funext m;have:((i:Int)+(m:Int)*1).toNat=i+m:=by omega
  rw[this]
 rw[e];have:=pick_run xs i k;rw[List.filterMap_map]at this;have e2:((fun x=>xs[x]?)∘fun x=>i+x)=fun m=>xs[i+m]?:=rfl;rw[e2]at this;rw[this]
theorem getItem_tuple_cut{t sl:Addr}{items:Array Value}{vl vu:Value}{lo hi:Option Int}{Q:Value->SP0}(ht:IsTup s.heap t items)(hs:s.heap.IsSliceOf sl vl vu .none)(pl:IsPart vl lo)(pu:IsPart vu hi)
  (hw:¬ (sIx items.size 0 lo=0/\sIx items.size items.size hi=items.size))
  (h:Q (.ref s.heap.objs.size) { s with heap:=s.heap.push { cls:= .type "tuple",data:= .seq ((items.toList.drop (sIx items.size 0 lo)).take (sIx items.size items.size hi-sIx items.size 0 lo)).toArray } })
  (hsz:items.size<=sizeLine):wpAny (model prog w) A (getItem (.ref t) (.ref sl)) Q E s:=by
 have htake:sizeOk (.seq ((items.toList.drop (sIx items.size 0 lo)).take (sIx items.size items.size hi-sIx items.size 0 lo)).toArray):=by
  show((items.toList.drop (sIx items.size 0 lo)).take (sIx items.size items.size hi-sIx items.size 0 lo)).toArray.size<=sizeLine;rw[List.size_toArray,List.length_take,List.length_drop,Array.length_toList];omega
 have hj:sIx items.size items.size hi<=items.size:=aoO _ _ (Nat.le_refl _) hi;obtain⟨os,hos,hcs,hds⟩:=id hs;have hTs:s.TypeIs (.ref sl) "slice":=⟨os,hos,hcs⟩;unfold getItem
 try with_reducible refine wpAny_holding ?_
 first | refine wpAny_bind (wpAny_pure ?_) | skip
 refine wpAny_bind (wpAny_sequenceKey ht.typeIs (by decide) ?_)
 refine wpAny_bind (wpAny_callSpecial?_slot (name:=Str.ofString "__getitem__") ht.typeIs PyProof.Rows.slot_tuple_getitem
  (wpAny_call_entry PyProof.Rows.slot_tuple_getitem ht.typeIs entry_tuple_getitem ?_ (args_tuple_getitem _ _)))
 show wpAny _ _ (Builtin.Tuple.tupleItemsOf (.ref t) >>= _) _ _ s;refine wpAny_bind (tupleItemsOf_ ht ?_);refine wpAny_bind (wpAny_typeOf hTs ?_);rw[if_pos (by decide)];refine wpAny_bind (sliceApplied_gen hs pl pu ?_)
 have hno:¬ ((((sIx items.size 0 lo:Nat):Int)==0&&(1:Int)==1&&(sIx items.size items.size hi-sIx items.size 0 lo)==items.size)=true):=by
  intro q;rw[Bool.and_eq_true,Bool.and_eq_true]at q;have q1:((sIx items.size 0 lo:Nat):Int)=0:=eq_of_beq q.1.1;have q2:sIx items.size items.size hi-sIx items.size 0 lo=items.size:=eq_of_beq q.2;exact hw ⟨by omega,by omega⟩
 show wpAny _ _ (if (((sIx items.size 0 lo:Nat):Int)==0&&(1:Int)==1&&(sIx items.size items.size hi-sIx items.size 0 lo)==items.size)=true then _ else _) _ _ s;rw[if_neg hno,akk]
 first
  |exact wpAny_bind (m:=Builtin.Tuple.tupleExact _) (wpAny_newObj_type (wpAny_pure ⟨_,rfl,wpAny_pure h⟩) htake)
  |exact wpAny_bind (m:=Builtin.Tuple.tupleExact _) (wpAny_newObj_type (wpAny_bind (wpAny_pure (wpAny_pure ⟨_,rfl,wpAny_pure h⟩))) htake)
  |exact wpAny_bind (wpAny_bind (m:=Builtin.Tuple.tupleExact _) (wpAny_newObj_type (wpAny_pure (wpAny_pure ⟨_,rfl,wpAny_pure h⟩)) htake))
  |exact wpAny_bind (wpAny_bind (m:=Builtin.Tuple.tupleExact _) (wpAny_newObj_type (wpAny_pure ⟨_,rfl,wpAny_pure h⟩) htake))
end
end HT
namespace L2
open PySem PySem.Spec PyProof.Rows
noncomputable abbrev TO:=St->Hp->(Option Int->Hp->Prop)->Prop
noncomputable def PO(X:Cx)(e:Option Expr)(t:TO):Prop:=
 ∀(Kp:List (Addr×Obj)) (s:Shared) (σ:St) (H:Hp) (Q:Option Int->Hp->Prop),Inv X Kp σ H s->t σ H Q->
  wpAny (model X.prog X.w) X.A (evalPart e X.env) (fun u s'=>∃o H',Inv X Kp σ H' s'/\IsPart u o/\Q o H') X.xe s
noncomputable def amF:TO:=fun _ H Q=>Q none H
noncomputable def aqe(t:TE):TO:=fun σ H Q=>t σ H fun x H1=>∃i,x= .int i/\Q (some i) H1
section
variable {X:Cx}{e:Expr}{te:TE}{lo hi:Option Expr}{tl th:TO}{pos p2:Pos}
theorem ahQ:PO X none amF:=by
 intro Kp s σ H Q I h;rw[evalPart_none];exact wpAny_pure ⟨none,H,I,.none,h⟩
theorem ahR(h:PE X e te):PO X (some e) (aqe te):=by
 intro Kp s σ H Q I hw;rw[evalPart_some];refine thn (h Kp s σ H _ I hw) fun u s1 ⟨x,H1,I1,r1,q1⟩=>?_;obtain⟨i,rfl,q⟩:=q1;obtain⟨t,rfl⟩:=r1;exact⟨some i,H1,I1,.int i t,q⟩
noncomputable def SlR(X:Cx)(r:V->Option Int->Option Int->Hp->VK->Prop):Prop:=
 ∀(Kp:List (Addr×Obj)) (s:Shared) (σ:St) (H:Hp) (x:V) (v vl vu:Value) (lo hi:Option Int) (sl:Addr) (Q:VK),Inv X Kp σ H s->jK x v->s.heap.IsSliceOf sl vl vu .none->IsPart vl lo->IsPart vu hi->r x lo hi H Q->
  ∃T id,typeLookup (.type T) "__getitem__"=pure (some (.builtin id))/\s.TypeIs v T/\wpAny (model X.prog X.w) X.A (getItem v (.ref sl)) (EP X Kp σ Q) X.xe s
theorem SlR.or{r r':V->Option Int->Option Int->Hp->VK->Prop}(h:SlR X r)(h':SlR X r'):SlR X (fun x lo hi H Q=>r x lo hi H Q∨r' x lo hi H Q):=by
 intro Kp s σ H x v vl vu lo hi sl Q I rx hs pl pu q;rcases q with q | q
 ·exact h Kp s σ H x v vl vu lo hi sl Q I rx hs pl pu q
 ·exact h' Kp s σ H x v vl vu lo hi sl Q I rx hs pl pu q
noncomputable def tSl(r:V->Option Int->Option Int->Hp->VK->Prop)(te:TE)(tl th:TO):TE:=fun σ H Q=>te σ H fun x H1=>tl σ H1 fun l H2=>th σ H2 fun u H3=>r x l u H3 Q
theorem afo{r:V->Option Int->Option Int->Hp->VK->Prop}(hr:SlR X r)(he:PE X e te)(hl:PO X lo tl)(hu:PO X hi th):PE X (.Subscript e (.Slice lo hi none p2) pos) (tSl r te tl th):=by
 intro Kp s σ H Q I h;refine Subscript_ (thn (he Kp s σ H _ I h) fun v s1 ⟨x,H1,I1,r1,q1⟩=>?_);refine wpAny_Slice (thn (hl Kp s1 σ H1 _ I1 q1) fun vl s2 ⟨l,H2,I2,pl,q2⟩=>thn (hu Kp s2 σ H2 _ I2 q2) fun vu s3 ⟨u,H3,I3,pu,q3⟩=>?_);rw[evalPart_none];refine wpAny_pure ?_;have I4:Inv X Kp σ H3 { s3 with heap:=s3.heap.push { cls:= .type "slice",data:= .fields #[vl,vu,.none] } }:=I3.kept (t':=s3.toks) fun b ob q=>Heap.get?_push_of_some _ q;obtain⟨T,id,hT,ht,hg⟩:=hr Kp { s3 with heap:=s3.heap.push { cls:= .type "slice",data:= .fields #[vl,vu,.none] } } σ H3 x v vl vu l u s3.heap.objs.size Q I4 r1 (Heap.IsSliceOf.new ..) pl pu q3;show wpAny (model X.prog X.w) X.A (subscriptTail e (.Slice lo hi none p2) v (.ref s3.heap.objs.size)) (EP X Kp σ Q) X.xe { s3 with heap:=s3.heap.push { cls:= .type "slice",data:= .fields #[vl,vu,.none] } };exact tail_any (ops:=[.ref s3.heap.objs.size,v]) ht hT hg (by with_unfolding_all rfl)
noncomputable def ad9(xs:List V)(lo hi:Option Int):List V:=(xs.drop (HT.sIx xs.length 0 lo)).take (HT.sIx xs.length xs.length hi-HT.sIx xs.length 0 lo)
theorem afp(xs:List V)(lo hi:Option Int):(ad9 xs lo hi).length<=xs.length:=by
 unfold ad9;rw[List.length_take,List.length_drop];omega
noncomputable def aqf(K:Fg):V->Option Int->Option Int->Hp->VK->Prop:=fun x lo hi H Q=>∃a xs,x= .ref a/\SqT K H a xs/\
 ¬ (HT.sIx xs.length 0 lo=0/\HT.sIx xs.length xs.length hi=xs.length)/\∀p,H p=none->Q (.ref p) (upd H p (.tup (ad9 xs lo hi)))
theorem akl:SlR X (aqf X.K):=by
 intro Kp s σ H x v vl vu lo hi sl Q I rx hs pl pu h;obtain⟨a,xs,rfl,hx,hw,q⟩:=h;cases rx;obtain⟨its,r,ht,hz⟩:=I.tuple hx;have hlen:its.toArray.size=xs.length:=by rw[List.size_toArray];exact r.length.symm
 refine⟨"tuple",_,PyProof.Rows.slot_tuple_getitem.lookup,ht.typeIs,?_⟩;refine HT.getItem_tuple_cut ht hs pl pu (by rw[hlen];exact hw) ?_ (by rw[hlen];exact hz);rw[hlen];refine⟨.ref s.heap.objs.size,_,I.laid (t':=s.toks) (o:= .tup (ad9 xs lo hi)) (fun b ob q=>Heap.get?_push_of_some _ q) (Nat.le_refl _) ?_,rfl,q _ (I.hok.fresh (Nat.le_refl _))⟩;exact⟨Nat.le_trans (afp xs lo hi) hz,_,(r.drop (HT.sIx xs.length 0 lo)).take (HT.sIx xs.length xs.length hi-HT.sIx xs.length 0 lo),IsTup.new _ _⟩
noncomputable def aqg(K:Fg):R2:=fun x y H Q=>∃a b xs ys,x= .ref a/\y= .ref b/\SqT K H a xs/\SqT K H b ys/\xs≠[]/\xs.length+ys.length<=sizeLine/\
 (ys=[]->Q (.ref a) H)/\(ys≠[]->∀p,H p=none->Q (.ref p) (upd H p (.tup (xs++ys))))
theorem jB.nil_iff{xs:List V}{us:List Value}(r:jB xs us):us=[]↔xs=[]:=by
 cases r with
 |nil=>simp
 |cons _ _=>simp
theorem amG:OpR X (binaryOp .Add) (aqg X.K):=by
 intro Kp s σ H x y v u Q I rx ry h;obtain⟨a,b,xs,ys,rfl,rfl,ha,hb,hx,hz,q1,q2⟩:=h;cases rx;cases ry;obtain⟨its,r1,p1,_⟩:=I.tuple ha;obtain⟨its2,r2,p2,_⟩:=I.tuple hb;refine HT.cat_tup p1 p2 (fun z=>hx (r1.nil_iff.mp z)) (fun z=>⟨.ref a,H,I,rfl,q1 (r2.nil_iff.mp z)⟩) (fun z=>?_) (by rw[←r1.length,←r2.length];exact hz);refine⟨.ref s.heap.objs.size,_,I.laid (t':=s.toks) (o:= .tup (xs++ys)) (fun b ob q=>Heap.get?_push_of_some _ q) (Nat.le_refl _) ?_,rfl,q2 (fun w=>z (r2.nil_iff.mpr w)) _ (I.hok.fresh (Nat.le_refl _))⟩;exact⟨by rw[List.length_append];exact hz,_,r1.append r2,IsTup.new _ _⟩
end
noncomputable def ixN(n:Nat)(i:Int):Option Nat:=if 0<=i then (if i<n then some i.toNat else none) else if -(n:Int)<=i then some (i+n).toNat else none
noncomputable def atI{α:Type}(xs:List α)(i:Int):Option α:=(ixN xs.length i).bind fun j=>xs[j]?
theorem amH{n:Nat}{i:Int}{j:Nat}(h:ixN n i=some j):seqIndex? i n=some j/\j<n/\-(n:Int)<=i/\i<n:=by
 unfold ixN at h;by_cases h0:0<=i
 ·rw[if_pos h0]at h
  by_cases h1:i<n
  ·rw[if_pos h1]at h
   have e:i.toNat=j:=Option.some.inj h;exact⟨by rw[seqIndex_of h0 h1,e],by omega,by omega,h1⟩
  ·rw[if_neg h1]at h;cases h
 ·rw[if_neg h0]at h
  by_cases h1:-(n:Int)<=i
  ·rw[if_pos h1]at h
   have e:(i+n).toNat=j:=Option.some.inj h;exact⟨by rw[seqIndex_neg (by omega) h1,e],by omega,h1,by omega⟩
  ·rw[if_neg h1]at h;cases h
theorem ahS{α:Type}{xs:List α}{i:Int}{v:α}(h:atI xs i=some v):∃j,seqIndex? i xs.length=some j/\xs[j]?=some v/\j<xs.length/\-(xs.length:Int)<=i/\i<xs.length:=by
 unfold atI at h;cases e:ixN xs.length i with
 |none=>rw[e]at h;cases h
 | some j=>
  rw[e]at h;obtain⟨h1,h2,h3,h4⟩:=amH e;exact⟨j,h1,h,h2,h3,h4⟩
noncomputable def ahT(b:Expr):Prop:=∀o i,subscripted b false o i=operate [o,i] (getItem o i)
noncomputable def IxR(X:Cx)(r:R2):Prop:=
 ∀(value slice:Expr) (Kp:List (Addr×Obj)) (s:Shared) (σ:St) (H:Hp) (x y:V) (v u:Value) (Q:VK),Inv X Kp σ H s->jK x v->jK y u->r x y H Q->
  subscripted slice false v u=operate [v,u] (getItem v u)->wpAny (model X.prog X.w) X.A (subscriptTail value slice v u) (EP X Kp σ Q) X.xe s
noncomputable def MtR(X:Cx)(id:String)(r:V->List V->Hp->VK->Prop):Prop:=
 ∀(Kp:List (Addr×Obj)) (s:Shared) (σ:St) (H:Hp) (x:V) (xs:List V) (v:Value) (us:List Value) (Q:VK),Inv X Kp σ H s->jK x v->jB xs us->r x xs H Q->
  wpAny (model X.prog X.w) X.A (call (.builtin id) (v::us)) (EP X Kp σ Q) X.xe s
section
variable {X:Cx}{a b:Expr}{ta tb:TE}{pos:Pos}
theorem IxR.or{r r':R2}(h:IxR X r)(h':IxR X r'):IxR X (fun x y H Q=>r x y H Q∨r' x y H Q):=by
 intro value slice Kp s σ H x y v u Q I rx ry q hs;rcases q with q | q
 ·exact h value slice Kp s σ H x y v u Q I rx ry q hs
 ·exact h' value slice Kp s σ H x y v u Q I rx ry q hs
theorem MtR.or{id:String}{r r':V->List V->Hp->VK->Prop}(h:MtR X id r)(h':MtR X id r'):MtR X id (fun x xs H Q=>r x xs H Q∨r' x xs H Q):=by
 intro Kp s σ H x xs v us Q I rx rs q;rcases q with q | q
 ·exact h Kp s σ H x xs v us Q I rx rs q
 ·exact h' Kp s σ H x xs v us Q I rx rs q
theorem aqh{r:R2}(hr:IxR X r)(ha:PE X a ta)(hb:PE X b tb)(hs:ahT b):PE X (.Subscript a b pos) (tOp r ta tb):=by
 intro Kp s σ H Q I h;exact Subscript_ (aoF ha hb I h fun v u s2 x y H2 I2 rx ry q=>hr a b Kp s2 σ H2 x y v u Q I2 rx ry q (hs _ _))
noncomputable def are(K:Fg):R2:=fun x y H Q=>∃p xs i v,x= .ref p/\y= .int i/\SqL K H p xs/\atI xs i=some v/\Q v H
noncomputable def arf(K:Fg):R2:=fun x y H Q=>∃p xs i v,x= .ref p/\y= .int i/\SqT K H p xs/\atI xs i=some v/\Q v H
theorem amI:IxR X (are X.K):=by
 intro value slice Kp s σ H x y v u Q I rx ry h hs;obtain⟨p,xs,i,z,rfl,rfl,hq,he,q⟩:=h;cases rx;obtain⟨t,rfl⟩:=ry;obtain⟨its,r,pl,hz⟩:=I.list hq;obtain⟨j,h1,h2,h3,h4,h5⟩:=ahS he;obtain⟨w,ew,rw'⟩:=r.get h2;have hl:=r.length;have hn:=agE;have fin:EP X Kp σ Q w s:=⟨z,H,I,rw',q⟩;by_cases h0:0<=i
 ·have hj:i.toNat=j:=by
   rw[seqIndex_of h0 h5]at h1;exact Option.some.inj h1
  exact item_listR pl.isList h0 (by omega) (by rw[hj];simpa using ew) fin hs
 ·have hj:(i+(its.toArray.size:Int)).toNat=j:=by
   rw[seqIndex_neg (by omega) h4]at h1;rw[List.size_toArray,←hl];exact Option.some.inj h1
  exact subscriptTail_builtinR (x:=w) pl.isList.typeIs slot_list_getitem.lookup
   (wpAny_getItem_list_neg (Q:=fun r s'=>r=w/\EP X Kp σ Q r s') pl.isList (by omega) (by rw[List.size_toArray]<;>omega) (by omega) (by rw[hj];simpa using ew) ⟨rfl,fin⟩) hs
theorem aoP:IxR X (arf X.K):=by
 intro value slice Kp s σ H x y v u Q I rx ry h hs;obtain⟨p,xs,i,z,rfl,rfl,hq,he,q⟩:=h;cases rx;obtain⟨t,rfl⟩:=ry;obtain⟨its,r,pl,hz⟩:=I.tuple hq;obtain⟨j,h1,h2,h3,h4,h5⟩:=ahS he;obtain⟨w,ew,rw'⟩:=r.get h2;have hl:=r.length;have hn:=agE;have fin:EP X Kp σ Q w s:=⟨z,H,I,rw',q⟩
 exact subscriptTail_builtinR (x:=w) pl.typeIs slot_tuple_getitem.lookup
  (getItem_tuple (j:=j) (Q:=fun r s'=>r=w/\EP X Kp σ Q r s') pl (by omega) (by omega) (by rw[List.size_toArray,←hl];exact h1) (by simpa using ew) ⟨rfl,fin⟩) hs
theorem Inv.lst{Kp:List (Addr×Obj)}{σ:St}{H:Hp}{s:Shared}{p:Addr}{xs:List V}(I:Inv X Kp σ H s)(h:H p=some (.lst xs)):
  ∃(its:List Value) (n:Nat),jB xs its/\s.heap.get? p=some { cls:= .type "list",data:= .seq its.toArray n }/\xs.length<=sizeLine:=by
 obtain⟨z,its,n,r,e⟩:=I.hok p _ h;exact⟨its,n,r,e,z⟩
theorem aea:zu X (.builtin "len") (fun xs H Q=>∃p ys,xs=[.ref p]/\(SqL X.K H p ys∨SqT X.K H p ys)/\Q (.int ys.length) H):=by
 intro Kp s σ H xs us Q I r h;obtain⟨p,ys,rfl,hq,q⟩:=h;obtain⟨u,rfl,rx⟩:=abP r;cases rx;have hn:=agE;rcases hq with hq | hq
 ·obtain⟨its,r',pl,hz⟩:=I.list hq
  have hlen:=r'.length;exact Calls.call_len_list pl.isList (by simp only[List.size_toArray]<;>omega) ⟨.int ys.length,H,I.tok _,⟨s.toks+1,by rw[List.size_toArray,hlen]⟩,q⟩
 ·obtain⟨its,r',pl,hz⟩:=I.tuple hq
  have hlen:=r'.length;exact len_tuple pl (by simp only[List.size_toArray]<;>omega) ⟨.int ys.length,H,I.tok _,⟨s.toks+1,by rw[List.size_toArray,hlen]⟩,q⟩
theorem zu.or{f:Value}{r r':List V->Hp->VK->Prop}(h:zu X f r)(h':zu X f r'):zu X f (fun xs H Q=>r xs H Q∨r' xs H Q):=by
 intro Kp s σ H xs us Q I rs q;rcases q with q | q
 ·exact h Kp s σ H xs us Q I rs q
 ·exact h' Kp s σ H xs us Q I rs q
theorem acZ:zu X (.type "tuple") (fun xs H Q=>∃p ys,xs=[.ref p]/\((SqL X.K H p ys/\∀l,H l=none->Q (.ref l) (upd H l (.tup ys)))∨(SqT X.K H p ys/\Q (.ref p) H))):=by
 intro Kp s σ H xs us Q I r h;obtain⟨p,ys,rfl,h⟩:=h;obtain⟨u,rfl,rx⟩:=abP r;cases rx;rcases h with ⟨hq,q⟩ | ⟨hq,q⟩
 ·obtain⟨its,r',pl,hz⟩:=I.list hq
  have hlen:=r'.length;refine call_tuple_list pl.isList (fun h' kp=>?_) (by simp only[List.size_toArray]<;>omega);have I1:Inv X Kp σ H { s with heap:=h' }:=I.kept (t':=s.toks) kp
  have I2:Inv X Kp σ (upd H h'.objs.size (.tup ys)) { s with heap:=h'.push { cls:= .type "tuple",data:= .seq its.toArray } }:=
   I1.laid (t':=s.toks) (fun b o e=>Heap.get?_push_of_some _ e) (Nat.le_refl _) (show qw X.prog X.w _ _ _ (.tup ys) from⟨hz,its,r',IsTup.new _ _⟩)
  exact⟨.ref h'.objs.size,_,I2,rfl,q _ (I1.hok.fresh (Nat.le_refl _))⟩
 ·obtain⟨its,r',pl,hz⟩:=I.tuple hq
  exact call_tuple_same pl ⟨.ref p,H,I,rfl,q⟩
noncomputable def tyV(K:Fg)(T:String)(x:V)(H:Hp):Prop:=match x with
 |.str _=>T="str"
 |.int _=>T="int"
 | .ref p=>(T="list"/\∃xs,SqL K H p xs)∨(T="tuple"/\∃o,K.lookup p=some o/\o.cls= .type "tuple"/\o.dict=none) ∨
   (T="dict"/\((∃kvs,H p=some (.dK kvs))∨∃kvs,H p=some (.dT kvs)))∨(T="set"/\∃S n,H p=some (.set S n))
 |_=>False
theorem aoQ{Kp:List (Addr×Obj)}{σ:St}{H:Hp}{s:Shared}{T:String}{x:V}{v:Value}(I:Inv X Kp σ H s)(r:jK x v)(ty:tyV X.K T x H):
  s.TypeIs v T/\∀a,v= .ref a->∃ob,s.heap.get? a=some ob/\ob.dict=none:=by
 cases x with
 | str z=>
  obtain⟨t,rfl⟩:=r;cases (show T="str" from ty);exact⟨typeIs_str s z t,fun _ e=>nomatch e⟩
 | int i=>
  obtain⟨t,rfl⟩:=r;cases (show T="int" from ty);exact⟨typeIs_int s i t,fun _ e=>nomatch e⟩
 | ref p=>
  cases r;rcases ty with ⟨rfl,xs,hq⟩ | ⟨rfl,o,hk,hc,hd⟩ | ⟨rfl,hk⟩ | ⟨rfl,S,n,hk⟩
  ·obtain⟨its,_,pl,_⟩:=I.list hq
   refine⟨pl.isList.typeIs,fun a e=>?_⟩;cases e;obtain⟨o,n,e,c,hd,_⟩:=pl;exact⟨o,e,hd⟩
  ·refine⟨⟨o,I.kIn p o hk,hc⟩,fun a e=>?_⟩
   cases e;exact⟨o,I.kIn _ o hk,hd⟩
  ·have z:∃o,s.heap.get? p=some o/\o.ExactDict:=by
    rcases hk with ⟨kvs,hk⟩ | ⟨kvs,hk⟩
    ·obtain⟨_,_,_,_,o,_,_,e,ex,_⟩:=I.hok p _ hk
     exact⟨o,e,ex⟩
    ·obtain⟨_,_,_,_,o,_,_,e,ex,_⟩:=I.hok p _ hk
     exact⟨o,e,ex⟩
   obtain⟨o,e,ex⟩:=z;refine⟨⟨o,e,ex.1⟩,fun a e2=>?_⟩;cases e2;exact⟨o,e,ex.2.1⟩
  ·obtain⟨o,_,_,_,e,ex,_⟩:=I.hok p _ hk
   refine⟨⟨o,e,ex.1⟩,fun a e2=>?_⟩;cases e2;exact⟨o,e,ex.2.1⟩
 |_=>exact False.elim ty
noncomputable def tBM(K:Fg)(T:String)(r:V->List V->Hp->VK->Prop)(to:TE)(t:TA):TE:=fun σ H Q=>to σ H fun x H1=>tyV K T x H1/\t σ H1 fun xs H2=>r x xs H2 Q
variable {o e:Expr}{es:List Expr}{to:TE}{t:TA}{name:Str}{apos cpos:Pos}{T id:String}{r:V->List V->Hp->VK->Prop}
theorem akm(pa:PlainAttrs T)(slot:Slot T name id)(hty:typeOf (.builtin id)=pure (.type "method_descriptor"))(hm:MtR X id r)(ho:PE X o to)(ha:PA X (e::es) t)
  (hbase:attributeBase o name X.env (eval o X.env)=eval o X.env:=by rfl)
  (hfew:((backTo cpos (starEach (e::es) X.env)).all (fun x=>!x.1)&&(backToKw cpos (keywordEach [] X.env)).all (fun x=>x.1.isSome)
   && decide ((e::es).length+([]:List Keyword).length+(if ([]:List Keyword).isEmpty then 0 else 1)<30))=true:=by rfl)
  (hline:(apos.endLine==cpos.line)=true:=by rfl) (hs:starEach (e::es) X.env=(false,eval e X.env)::starEach es X.env:=by rfl) (hplain:(backTo cpos (starEach es X.env)).any (·.1)=false:=by rfl):
  PE X (.Call (.Attribute o name apos) (e::es) [] cpos) (tBM X.K T r to t):=by
 intro Kp s σ H Q I h;refine wpAny_Call_method_late hbase hfew hline rfl (thn (ho Kp s σ H _ I h) fun v s1 ⟨x,H1,I1,r1,ty,q1⟩=>?_);obtain⟨h1,h2⟩:=aoQ I1 r1 ty;refine⟨T,id,pa,slot,hty,h1,h2,?_⟩;have hA:=ha cpos Kp s1 σ H1 _ I1 q1;rw[hs]at hA ⊢;refine Calls.callWith_builtin (by show(false||(backTo cpos (starEach es X.env)).any (·.1))=false;rw[hplain]<;>rfl) (Calls.evalArgs_plain ?_);exact thn hA fun us s2 ⟨vs,H2,I2,r2,q2⟩=>hm Kp s2 σ H2 x vs v us Q I2 r1 r2 q2
end
noncomputable def MtM(X:Cx)(id:String)(r:V->List V->Hp->VK->Prop):Prop:=
 ∀(Kp:List (Addr×Obj)) (s:Shared) (σ:St) (H:Hp) (x:V) (xs:List V) (v:Value) (us:List Value) (Q:VK),Inv X Kp σ H s->jK x v->jB xs us->r x xs H Q->
  wpAny (model X.prog X.w) X.A (call (.builtin id) (v::us)) (EP X Kp σ Q) X.xe s
theorem jB.one:∀{x:V}{us:List Value},jB [x] us->∃u,us=[u]/\jK x u
 |_,_,.cons r .nil=>⟨_,rfl,r⟩
theorem jB.dropLast{xs:List V}{us:List Value}(h:jB xs us):jB xs.dropLast us.dropLast:=by
 induction h with
 |nil=>exact .nil
 | cons r t ih=>
  cases t with
  |nil=>exact .nil
  |cons q t'=>exact .cons r ih
theorem jB.eraseIdx:∀{xs:List V}{us:List Value} (i:Nat),jB xs us->jB (xs.eraseIdx i) (us.eraseIdx i)
 |_,_,_,.nil=> .nil
 |_,_,0,.cons _ t=>t
 |_,_,i+1,.cons r t=> .cons r (jB.eraseIdx i t)
theorem jB.reverse{xs:List V}{us:List Value}(h:jB xs us):jB xs.reverse us.reverse:=by
 induction h with
 |nil=>exact .nil
 |cons r t ih=>rw[List.reverse_cons,List.reverse_cons];exact jB.append ih (.cons r .nil)
theorem jB.rep{xs:List V}{us:List Value}(h:jB xs us):∀k:Nat,jB (List.replicate k xs).flatten (List.replicate k us).flatten
 |0=> .nil
 | k+1=>by
  rw[List.replicate_succ,List.replicate_succ,List.flatten_cons,List.flatten_cons];exact jB.append h (jB.rep h k)
theorem aap(its:List Value):∀(k:Nat) (acc:List Value),
  List.foldl (fun x1 x2=>x1++x2) acc.toArray (List.replicate k its.toArray)=(acc++(List.replicate k its).flatten).toArray
 |0,acc=>by simp
 | k+1,acc=>by
  have e:acc.toArray++its.toArray=(acc++its).toArray:=by simp
  have e2:(acc++its)++(List.replicate k its).flatten=acc++(List.replicate (k+1) its).flatten:=by
   rw[List.replicate_succ,List.flatten_cons,List.append_assoc]
  rw[←e2,←aap its k (acc++its),←e,List.replicate_succ,List.foldl_cons]
section
variable {X:Cx}{Kp:List (Addr×Obj)}{σ:St}{H:Hp}{s:Shared}{l b:Addr}{xs ys zs:List V}
theorem Inv.lset{its its':List Value}{n:Nat}{f:Array Value->Array Value}{t':Nat}(I:Inv X Kp σ H s)(hH:H l=some (.lst xs))
  (e:s.heap.get? l=some { cls:= .type "list",data:= .seq its.toArray n }) (hf:f its.toArray=its'.toArray) (hv:jB ys its') (hz:ys.length<=sizeLine):
  Inv X Kp σ (upd H l (.lst ys)) { s with heap:=s.heap.update l (Obj.mapSeq f),toks:=t' }:=by
 have q:=PySem.IsL.update e f;rw[hf]at q;refine I.write (x:=l) (e:=l) (by rw[hH];exact trivial) (.inl rfl) (fun b' u hb hu=>(Heap.get?_update_other s.heap (Obj.mapSeq f) (Ne.symm hb)).trans hu) ⟨_,q⟩ ?_;exact⟨hz,its',_,hv,q⟩
theorem Inv.lnew{its:List Value}{t':Nat}(I:Inv X Kp σ H s)(hv:jB ys its)(hz:ys.length<=sizeLine):
  Inv X Kp σ (upd H s.heap.objs.size (.lst ys)) { s with heap:=s.heap.push { cls:= .type "list",data:= .seq its.toArray },toks:=t' }:=
 I.laid (fun _ _ q=>Heap.get?_push_of_some _ q) (Nat.le_refl _) ⟨hz,its,0,hv,Heap.get?_push_size _ rfl⟩
theorem Inv.fresh(I:Inv X Kp σ H s):H s.heap.objs.size=none:=I.hok.fresh (Nat.le_refl _)
theorem Inv.lstM(I:Inv X Kp σ H s)(hH:H l=some (.lst xs)):xs.length<=sizeLine/\∃(its:List Value) (n:Nat),jB xs its/\xs.length=its.length/\s.heap.get? l=some { cls:= .type "list",data:= .seq its.toArray n }:=by
 obtain⟨z,its,n,r,e⟩:=I.hok l _ hH;exact⟨z,its,n,r,r.length,e⟩
theorem akn{n:Nat}(h:n<=sizeLine):Builtin.List.listTooLong n=false:=by
 unfold Builtin.List.listTooLong;exact decide_eq_false (by omega)
end
section
variable {X:Cx}
noncomputable def amJ:V->List V->Hp->VK->Prop:=fun x vs H Q=>∃l xs y,x= .ref l/\vs=[y]/\H l=some (.lst xs)/\xs.length<sizeLine/\Q .non (upd H l (.lst (xs++[y])))
theorem adf:MtM X "list.append" amJ:=by
 intro Kp s σ H x vs v us Q I rx rv h;obtain⟨l,xs,y,rfl,rfl,hH,hz,q⟩:=h;cases rx;obtain⟨u,rfl,ru⟩:=rv.one;obtain⟨z,its,n,r,hl,e⟩:=I.lstM hH;refine call_meets F.slot_list_append ⟨_,e,rfl⟩ F.entry_list_append (F.args_list_append_2 _ _) (PySem.list_append l its.toArray n u (by rw[List.size_toArray];omega)) ⟨e,?_⟩;refine⟨.non,_,I.lset (its':=its++[u]) hH e (by simp) (r.append (.cons ru .nil)) ?_,rfl,q⟩;rw[List.length_append,List.length_singleton];omega
noncomputable def arh:R2:=fun x y H Q=>∃l b xs zs,x= .ref l/\y= .ref b/\H l=some (.lst xs)/\H b=some (.lst zs)/\xs.length+zs.length<=sizeLine/\∀p,H p=none->Q (.ref p) (upd H p (.lst (xs++zs)))
theorem aoR:OpR X (binaryOp .Add) arh:=by
 intro Kp s σ H x y v u Q I rx ry h;obtain⟨l,b,xs,zs,rfl,rfl,hH,hB,hz,q⟩:=h;cases rx;cases ry;obtain⟨z,its,n,r,hl,e⟩:=I.lstM hH;obtain⟨z2,its2,n2,r2,hl2,e2⟩:=I.lstM hB;refine PySem.P.add_list e e2 ?_ (by rw[List.size_toArray,List.size_toArray];omega);have ea:its.toArray++its2.toArray=(its++its2).toArray:=by simp
 rw[ea];exact⟨.ref _,_,I.lnew (t':=s.toks) (r.append r2) (by rw[List.length_append];omega),rfl,q _ I.fresh⟩
noncomputable def ari:R2:=fun x y H Q=>∃l k xs,x= .ref l/\y= .int k/\H l=some (.lst xs)/\-(2 ^ 63)<=k/\k<2 ^ 63/\xs.length*k.toNat<=sizeLine/\
 ∀p,H p=none->Q (.ref p) (upd H p (.lst (List.replicate k.toNat xs).flatten))
theorem ahU{α:Type}(xs:List α)(k:Nat):(List.replicate k xs).flatten.length=k*xs.length:=by
 induction k with
 |zero=>simp
 |succ k ih=>rw[List.replicate_succ,List.flatten_cons,List.length_append,ih,Nat.succ_mul,Nat.add_comm]
theorem aoS:OpR X (binaryOp .Mult) ari:=by
 intro Kp s σ H x y v u Q I rx ry h;obtain⟨l,k,xs,rfl,rfl,hH,h1,h2,hz,q⟩:=h;cases rx;obtain⟨t,rfl⟩:=ry;obtain⟨z,its,n,r,hl,e⟩:=I.lstM hH;have hlen:its.toArray.size*k.toNat<=sizeLine:=by rw[List.size_toArray,←hl];exact hz
 have hcap:¬ its.toArray.size*k.toNat>(2 ^ 63-1) / 8:=by
  have:(sizeLine:Nat)<=(2 ^ 63-1) / 8:=by decide
  omega
 have hfit:¬ (!Builtin.List.listFitsIndex k)=true:=by
  rw[fitsIndex_both h1 h2];exact Bool.false_ne_true
 have hlong:¬ Builtin.List.listTooLong (its.toArray.size*k.toNat)=true:=by
  rw[akn hlen];exact Bool.false_ne_true
 have hnew:List.foldl (fun x1 x2=>x1++x2) #[] (List.replicate (if its.toArray.isEmpty=true then 0 else k.toNat) its.toArray)=(List.replicate k.toNat its).flatten.toArray:=by
  have f0:∀m:Nat,List.foldl (fun x1 x2=>x1++x2) #[] (List.replicate m its.toArray)=(List.replicate m its).flatten.toArray:=fun m=>by
   have:=aap its m [];rw[List.nil_append]at this;exact this
  rw[f0];cases its with
  |nil=>simp
  |cons a r'=>rw[if_neg (by simp)]
 refine wpAny_binaryOp_repeat_ref (T:="list") (U:="int") (by decide) ⟨_,e,rfl⟩ (fun s'=>typeIs_int s' k t) noFill_list_mul F.fills_int_mul F.slot_int_rmul repeat_list F.slot_int_index.lookup
  (call_meets F.slot_int_rmul (typeIs_int s k t) F.entry_int_rmul (F.args_int_rmul_2 _ _) (int___rmul___int_list k t l its.toArray n)
   ⟨e,rfl,⟨_,e,rfl⟩,call_meets F.slot_list_mul ⟨_,e,rfl⟩ F.entry_list_mul (F.args_list_mul_2 _ _) (AutoListH.list___mul___list_int_3 l its.toArray n k t hfit hcap hlong) ⟨e,?_⟩⟩)
 rw[hnew];exact⟨.ref _,_,I.lnew (t':=s.toks) (r.rep k.toNat) (by rw[ahU,Nat.mul_comm];exact hz),rfl,q _ I.fresh⟩
end
section
variable {prog:Program}{w:World}{A:Around}{E:Value->SP0}{s:Shared}
set_option maxRecDepth 100000 in
end
section
variable {X:Cx}
end
end L2
namespace Att
open PySem PySem.W PySem.Calls PyProof.Rows
theorem abg{P:Params}{h:Heap}:∀(ns:List Int) (vs:List Value),WellAll P h vs (ns.map WData.int)->IntsAre vs ns:=by
 intro ns
 induction ns with
 | nil=>
  intro vs w;rw[List.map_nil]at w;cases w;exact .nil
 | cons n ns ih=>
  intro vs w;rw[List.map_cons]at w;cases w with
  | cons a b=>
   cases a;exact .cons _ _ (ih _ b)
theorem aiX{l:OpenLaw}{n:Nat}(hn:l.most=some n){P:Params}{h:Heap}{args:List WData}{vals:List Value}
  (hpre:l.row.toRowW.claim.pre args=true) (hwl:WellAll P h vals args):
  ∃a vs ns,vals=[Value.ref a]/\args=[WData.list (ns.map WData.int)]/\h.get? a=some { cls:= .type "list",data:= .seq vs.toArray }/\IntsAre vs ns/\ns.length<=n:=by
 have hsh:WShape.hasAll [] args [.list .int]=true:=(pre_splitW hpre).1;have hc:l.pre.holds [] { args:=args }=true:=(pre_splitW hpre).2;obtain⟨d,r,rfl,h1,h2⟩:=hasAllW_cons hsh;obtain rfl:=hasAllW_nil h2;obtain⟨xs,rfl,h3⟩:=hasW_list h1;obtain⟨ns,rfl⟩:=items_int h3
 have hlen:ns.length<=n:=by
  unfold OpenLaw.pre at hc
  have h4:(WTm.not (.lt (.lit (.int (n:Int))) (.len (.arg 0)))).holds [] { args:=[.list (ns.map .int)] }=true:=by
   have h4:=(holds_andW hc).1;rw[hn]at h4;exact h4
  have h5:=condW_of h4 (w_not (w_lt w_lit (w_len_list (w_arg rfl))));rw[List.length_map]at h5;refine Nat.le_of_not_lt fun q=>?_;have q':(n:Int)<((ns.length:Nat):Int):=by omega
  first
   | (rw[decide_eq_true q']at h5;exact absurd h5 (by decide))
   | (simp at h5;omega)
 cases hwl with
 | cons w1 w2=>
  cases w2;cases w1 with
  |list ho hall=>exact⟨_,_,ns,rfl,rfl,ho,abg ns _ hall,hlen⟩
theorem aiY(l:OpenLaw)(args:List WData):l.row.toRowW.claim.post args (.bool true) args=true:=
 postW_of (r:=l.row.toRowW) (X:=(true==true))
  (show WShape.has [] (.bool true) .bool=true by first|rfl | decide|simp[WShape.has,WShape.arms,WShape.armsAll])
  (show(WTm.eq .res (.lit (.bool true))).value [] { args:=args,res:=some (.bool true),after:=args }=some (.bool (true==true)) from w_eq_bool (w_res rfl) w_lit) rfl
theorem attach_call{l:OpenLaw}{n:Nat}{q:Program}{loose:List Str}{XP:(SV)->Heap->Prop}{YP:World->Heap->Prop}{d:DefRec}
  (hn:l.most=some n) (hdf:d.params.defaults=[])
  (call:∀(w:World) (s₀ s₁:Shared) (mg mb:SV) (fa:Addr) (o:Obj) (pm cd doc:Value) (a:Addr) (vs:List Value) (ns:List Int),
   Ground q loose [] XP w s₀ mg mb s₁.heap->YP w s₁.heap->
   s₁.heap.get? fa=some o->o.data= .func (docDef d.name d.params d.body d.scope pm cd doc)->s₁.heap.CodeRec cd d.name->mg d.name=some (.ref fa)->
   s₁.heap.get? a=some { cls:= .type "list",data:= .seq vs.toArray }->IntsAre vs ns->ns.length<=n->s₁.gens=#[]->
   codeAny (model l.prog w) callerA (.call (.ref fa) ⟨[.ref a],[]⟩) (fun r s'=>r= .ok (.ret (.bool true))/\OldK s₁.heap s'.heap/\s'.os=s₁.os/\AllBare s'.gens) s₁):
  WalkO q loose XP YP l.row.toRowW d [] (fun f vs=>PySem.call f vs):=by
 intro w s₀ s₁ mg mb G Y fa o pm cd doc dV kV ho hd hcd hD hmg hg args vals as hpre hlay hrd hwl hlo;obtain rfl:dV= .none:=Dflts.none hD hdf;obtain rfl:kV= .none:=Dflts.noKw hD;obtain⟨a,vs,ns,rfl,rfl,hobj,hints,hlen⟩:=aiX hn hpre hwl;refine enter_call (codeAny_mono (call w s₀ s₁ mg mb fa o pm cd doc a vs ns G Y ho (fd_plain hd) hcd hmg hobj hints hlen hg) fun r s' hq=>?_);obtain⟨rfl,h2,h3,h4⟩:=hq;exact⟨.inl ⟨.bool true,.bool true,[],rfl,fun _=>rfl,.bool true,aiY l _,fun _=>⟨List.Pairwise.nil,fun _ hm=>(nomatch hm)⟩⟩,h2,h3,h4⟩
section
variable {prog:Program}{w:World}{A:Around}{E:Value->SP0}{s:Shared}{K:Frag}
noncomputable def arj(h:Heap)(L d:Addr):List (Addr×Obj):=(List.range h.objs.size).filterMap fun a=>if a=L∨a=d then none else (h.get? a).map fun o=>(a,o)
end
end Att
namespace L2
open PySem PySem.Spec PyProof.Rows
theorem QP:∀{vs:List Value}{ns:List Int},IntsAre vs ns->jB (ns.map V.int) vs
 |_,_,.nil=> .nil
 |_,_,.cons n t h=> .cons ⟨t,rfl⟩ (QP h)
noncomputable def aoT(H:Hp):Prop:=∀b,H b=none∨∃o xs,H b=some (.frz o (.lst xs))
theorem ako{P:Program}{w:World}{K:Fg}{mg mb:SV}{CX:CXT}{k:Nat}{fa a:Addr}{fd:FuncData}{x:Str}{sp:Sp}{s₁:Shared}{vs:List Value}{ns:List Int}
  (KX:K.In s₁.heap) (hns:s₁.heap.Ns mainGlobals mg) (hb:s₁.heap.Ns builtinsNs mb) (hbb:∀x:Str,x≠"__name__"->mb x=bootBuiltins x) (hlim:s₁.heap.NoLimit) (hg:s₁.gens=#[])
  (ha:s₁.heap.get? a=some { cls:= .type "list",data:= .seq vs.toArray }) (hi:IntsAre vs ns) (hl:ns.length<=sizeLine) (hr:Room k callerA)
  (F:∀base:Heap,K.In base->base.Ns mainGlobals mg->FnOk P w K mg base CX k fa fd [x] sp) (hbind:∀(s:Shared) (u:Value),BindsTo s fd ⟨[u],[]⟩ [(x,u)])
  (hsp:∀H:Hp,aoT H->SqL K H a (ns.map V.int)->sp [.ref a] H (fun v _=>v= .bl true) fun _ _ _=>False)
  (hCX:∀H e s',CX [] H s₁ (fun _ _ _=>False) e s'->False):
  codeAny (model P w) callerA (.call (.ref fa) ⟨[.ref a],[]⟩) (fun r s'=>r= .ok (.ret (.bool true))/\OldK s₁.heap s'.heap/\s'.os=s₁.os/\AllBare s'.gens) s₁:=by
 have rv:=QP hi;have lenV:=hi.length
 have core:∀H:Hp,aoT H->SqL K H a (ns.map V.int)->HOk P w H s₁.heap->(∀b,H b≠none->b=a)->(H a≠none->K.lookup a=none)->
   codeAny (model P w) callerA (.call (.ref fa) ⟨[.ref a],[]⟩) (fun r s'=>r= .ok (.ret (.bool true))/\OldK s₁.heap s'.heap/\s'.os=s₁.os/\AllBare s'.gens) s₁:=by
  intro H hO hS hok hA hK;have base_of:∀{b:Addr} {o:Obj},s₁.heap.get? b=some o->H b=none->(ad3 s₁.heap H).get? b=some o:=fun e n=>aj4 e n
  have noA:∀{b:Addr} {o:Obj} {es:Array DictEntry} {ep:Nat},s₁.heap.get? b=some o->o.data= .dict es ep->H b=none:=fun {b o es ep} e d=>by
   cases q:H b with
   |none=>rfl
   | some u=>
    have e':b=a:=hA b (by rw[q];simp);subst e';rw[ha]at e;cases e;have d':Data.seq vs.toArray _=Data.dict es ep:=d;cases d'
  have nsK:∀{b:Addr} {m:SV},s₁.heap.Ns b m->(ad3 s₁.heap H).Ns b m:=fun {b m} ⟨o,es,ep,e,d,r⟩=>⟨o,es,ep,base_of e (noA e d),d,r⟩
  have hKb:K.In (ad3 s₁.heap H):=fun b o e=>base_of (KX b o e) (by
   cases q:H b with
   | none=>rfl
   | some u=>
    have e':b=a:=hA b (by rw [q]; simp);subst e';rw [hK (by rw [q]; simp)] at e; cases e)
  have hM:Mod K mg (ad3 s₁.heap H):=⟨hKb,nsK hns,⟨mb,nsK hb,hbb⟩,let ⟨mc,h1,h2⟩:=hlim;⟨mc,nsK h1,h2⟩⟩;have e0:Env0 P w K mg (ad3 s₁.heap H) callerA [] s₁ H:=⟨rfl,hM,fun b o e=>amu e,Nat.le_of_eq (aiP _ _),trivial,fun b hb=>absurd (show b∈([]:List Addr) from hb) (by simp),hok,.of_eq hg⟩;refine codeAny_mono ((F _ hKb (nsK hns)).run callerA [] s₁ H ⟨[.ref a],[]⟩ [.ref a] [.ref a] _ _ hr e0 (hbind s₁ (.ref a)) (.cons rfl .nil) (hsp H hO hS)) fun r s' h=>?_;cases r with
  |error e=>exact(hCX H e s' h).elim
  | ok fl=>
   cases fl with
   |next=>exact False.elim h
   |brk=>exact False.elim h
   |cont=>exact False.elim h
   | ret u=>
    obtain⟨v,H',os,bare,un,hok',r',q⟩:=h;have q':v= .bl true:=q;subst q';obtain rfl:u=Value.bool true:=r';refine⟨rfl,OldK.of_keep fun b o e=>?_,os,bare⟩;cases q:H b with
    |none=>exact un.keep b o e q (by intro z;exact absurd (show b∈([]:List Addr) from z) (by simp)) (by simp)
    | some u=>
     rcases hO b with z | ⟨ob,xs,z⟩
     ·rw[q]at z;cases z
     ·have z2:=un.frzs b ob _ z
      obtain⟨e1,_⟩:=hok b _ z;obtain⟨e2,_⟩:=hok' b _ z2;rw[e]at e1;cases e1;exact e2
 cases hk:K.lookup a with
 | some o=>
  have e:=KX a o hk;rw[ha]at e;cases e;refine core (fun _=>none) (fun _=> .inl rfl) (.inr ⟨_,vs.toArray,_,hk,rfl,rfl,rfl,by rw[List.size_toArray,lenV];exact hl,by simpa using rv⟩) (fun b u z=>by have z':(none:Option HO)=some u:=z;cases z') (fun b z=>absurd rfl z) fun z=>absurd rfl z
 | none=>
  refine core (fun b=>if b=a then some (.frz { cls:= .type "list",data:= .seq vs.toArray } (.lst (ns.map V.int))) else none) (fun b=>?_) (.inl (.inr ⟨{ cls:= .type "list",data:= .seq vs.toArray },if_pos rfl⟩)) (fun b u z=>?_) (fun b z=>?_) fun _=>hk
  ·by_cases hb:b=a
   ·exact .inr ⟨_,_,if_pos hb⟩
   ·exact .inl (if_neg hb)
  ·by_cases hb:b=a
   ·have z':=(if_pos hb).symm.trans z
    cases z';subst hb;exact⟨ha,by rw[List.length_map];exact hl,vs,_,rv,ha⟩
   ·have z':=(if_neg hb).symm.trans z
    cases z'
  ·by_cases hb:b=a
   ·exact hb
   ·exact absurd (if_neg hb) z
theorem amK{l:PySem.W.OpenLaw}{n k:Nat}{q:Program}{loose:List Str}{XP:(SV)->Heap->Prop}{YP:World->Heap->Prop}{d:DefRec}{K:Params->Fg}{CX:World->CXT}{sp:World->Sp}{x:Str}
  (hn:l.most=some n) (hn2:n<=sizeLine) (hdf:d.params.defaults=[]) (hr:Room k callerA)
  (hY:∀(w:World) (h:Heap),YP w h->(K w.params).In h)
  (F:∀(w:World) (mg:SV) (fa:Addr) (h:Heap),(K w.params).In h->h.Ns mainGlobals mg->mg d.name=some (.ref fa)->
   ∃ fd:FuncData,(∀ (s:Shared) (u:Value),BindsTo s fd ⟨[u],[]⟩ [(x,u)])/\
    ∀ base:Heap,(K w.params).In base->base.Ns mainGlobals mg->FnOk l.prog w (K w.params) mg base (CX w) k fa fd [x] (sp w))
  (hsp:∀(w:World) (H:Hp) (a:Addr) (ns:List Int),ns.length<=n->aoT H->SqL (K w.params) H a (ns.map V.int)->sp w [.ref a] H (fun v _=>v= .bl true) fun _ _ _=>False)
  (hCX:∀(w:World) (H:Hp) (s:Shared) (e:Value) (s':Shared),CX w [] H s (fun _ _ _=>False) e s'->False):
  PySem.W.WalkO q loose XP YP l.row.toRowW d [] (fun f vs=>PySem.call f vs):=by
 refine Att.attach_call hn hdf fun w s₀ s₁ mg mb fa o pm cd doc a vs ns G Y ho hd hcd hmg hobj hints hlen hg=>?_;have KX:=hY w _ Y;obtain⟨fd,hb,hF⟩:=F w mg fa _ KX G.T.g hmg;exact ako KX G.T.g G.T.b G.T.builtins G.T.nolimit hg hobj hints (Nat.le_trans hlen hn2) hr hF hb (fun H hO hS=>hsp w H a ns hlen hO hS) fun H e s'=>hCX w H s₁ e s'
noncomputable def J8(s:Stmt):Arguments:=match s with
 |.FunctionDef _ a _ _ _ _ _ _ _ _=>a
 |_=>{ posonlyargs:=[],args:=[],vararg:=none,kwonlyargs:=[],kw_defaults:=[],kwarg:=none,defaults:=[] }
noncomputable def jM(s:Stmt):List Stmt:=match s with
 |.FunctionDef _ _ b _ _ _ _ _ _ _=>b
 |_=>[]
noncomputable def jh(s:Stmt):Scope:=match s with
 |.FunctionDef _ _ _ _ _ _ sc _ _ _=>sc
 |_=>{ kind:= .function,names:=[],isGenerator:=false,isCoroutine:=false }
noncomputable abbrev CX0:CXT:=fun _ _ _ _ _ _=>False
noncomputable abbrev E0:XK:=fun _ _ _=>False
theorem aob{X:Cx}:agG CX0 X E0:=fun _ _ _ _ _ _ _ h=>h.elim
structure Fun(K:Fg)(x qual:Str)(st:Stmt)(f:Addr)(fd:FuncData):Prop where
 ex:∃(oc:Value) (od:Option Addr) (kV doc pm:Value) (an:Option Addr) (Kc ct:Value) (osl:Array (Option Value)),
  fd=PySem.W.fnOf x qual (J8 st) (jM st) (jh st) .none kV doc pm an Kc ct/\K.lookup f=some ⟨oc,od,.func fd,osl⟩/\PySem.W.codeIn K Kc qual=true
 kp:PySem.W.keepIn K (.ref f)=true
section
variable {P:Program}{w:World}{K:Fg}{mg:SV}{base:Heap}
theorem Fun.ok{x qual:Str}{st:Stmt}{f:Addr}{fd:FuncData}{N ps:List Str}{k:Nat}{sp:Sp}(F:Fun K x qual st f fd)(S:FnScope N ps (jh st))(len:∀vs H Q E,sp vs H Q E->vs.length=ps.length)
  (hbody:∀(Kc:Value) (A:Around) (Ko:List Env) (s:Shared) (H:Hp) (vs:List V) (Q:VK) (E:XK),Room k (A.deeper (envOfC qual (jh st) s.heap.objs.size f Kc))->sp vs H Q E->
   ∃ t,PSs (Jy CX0 P w K mg base N qual (jh st) f Kc A Ko s H E).nox (jM st) t/\t { nx:=fun _ H'=>Q .non H',rt:=Q } (Jb N vs) H):FnOk P w K mg base CX0 (k+1) f fd ps sp:=by
 obtain⟨oc,od,kV,doc,pm,an,Kc,ct,osl,rfl,lk,hcd⟩:=F.ex;refine aqd lk hcd S len fun A Ko s H vs Q E hr hsp=>?_;obtain⟨t,h,q⟩:=hbody Kc A Ko s H vs Q E hr hsp;exact⟨t,h.nox,q⟩
theorem Fun.binds{x qual:Str}{st:Stmt}{f:Addr}{fd:FuncData}{ps:List Str}(F:Fun K x qual st f fd)
  (h:∀(kV doc pm:Value) (an:Option Addr) (Kc ct:Value) (us:List Value),us.length=ps.length->bindArgs (PySem.W.fnOf x qual (J8 st) (jM st) (jh st) .none kV doc pm an Kc ct) ⟨us,[]⟩=pure (ps.zip us)):Qs K fd ps []:=by
 obtain⟨oc,od,kV,doc,pm,an,Kc,ct,osl,rfl,lk,hcd⟩:=F.ex;exact .all (h kV doc pm an Kc ct)
theorem agJ{x qual:Str}{st:Stmt}{f:Addr}{oc:Value}{od an:Option Addr}{osl:Array (Option Value)}{kV doc pm Kc ct:Value}(l:K.lookup f=some ⟨oc,od,.func (PySem.W.fnOf x qual (J8 st) (jM st) (jh st) .none kV doc pm an Kc ct),osl⟩)
  (c:PySem.W.codeIn K Kc qual=true) (k:PySem.W.keepIn K (.ref f)=true):Fun K x qual st f (PySem.W.fnOf x qual (J8 st) (jM st) (jh st) .none kV doc pm an Kc ct):=⟨⟨oc,od,kV,doc,pm,an,Kc,ct,osl,rfl,l,c⟩,k⟩
end
theorem aaZ{A:Around}{k:Nat}(hr:Room k A):A.units+1<cLine:=Nat.lt_of_le_of_lt (Nat.add_le_add_left (by decide:1<=64) _) hr.units
section
variable {X:Cx}
theorem pv(i:Nat){x:Str}{pos:Pos}(hN:X.N[i]?=some x:=by rfl)(hv:Vis X.env.scope x:=by first|exact Or.inl rfl|exact Or.inr (Or.inl rfl)|exact Or.inr (Or.inr rfl))(hd:(x==("__debug__":Str))=false:=by decide)
  (hcd:(x==("__classdict__":Str))=false:=by decide):PE X (.Name x pos) (apU i):=abN hN hv hd hcd
end
theorem ark{A B:Prop}(h:B):if false=true then A else B:=by
 rw[if_neg Bool.false_ne_true];exact h
theorem arl{A B:Prop}(h:A):if true=true then A else B:=by
 rw[if_pos rfl];exact h
noncomputable def jm(H H':Hp):Prop:=∀b o,H b=some o->H' b=some o
theorem jm.refl(H:Hp):jm H H:=fun _ _ h=>h
theorem jm.trans{H H1 H2:Hp}(a:jm H H1)(b:jm H1 H2):jm H H2:=fun c o h=>b c o (a c o h)
theorem jm.free{H H':Hp}(e:jm H H'){l:Addr}(h:H' l=Option.none):H l=Option.none:=by
 cases q:H l with
 |none=>rfl
 | some o=>
  rw[e l o q]at h;cases h
theorem jm.seq{K:Fg}{H H':Hp}{a:Addr}{xs:List V}(e:jm H H')(h:SqL K H a xs):SqL K H' a xs:=by
 rcases h with (h | ⟨o,h⟩) | h
 ·exact .inl (.inl (e _ _ h))
 ·exact .inl (.inr ⟨o,e _ _ h⟩)
 ·exact .inr h
section
variable {κ:Type}[DecidableEq κ]
noncomputable def Jz(kvs:List (κ×V))(k:κ):Option V:=(kvs.find? fun kv=>decide (kv.1=k)).map (·.2)
noncomputable def putK(kvs:List (κ×V))(k:κ)(v:V):List (κ×V):=
 if (kvs.any fun kv=>decide (kv.1=k))=true then kvs.map (fun kv=>if kv.1=k then (kv.1,v) else kv) else kvs++[(k,v)]
noncomputable def aoc(kvs:List (κ×V))(k:κ):List (κ×V):=kvs.filter fun kv=>decide (kv.1≠k)
theorem abT{p:κ×V}{r:List (κ×V)}{k:κ}(e:p.1=k):Jz (p::r) k=some p.2:=by simp[Jz,List.find?_cons,e]
theorem abU{p:κ×V}{r:List (κ×V)}{k:κ}(e:¬ p.1=k):Jz (p::r) k=Jz r k:=by simp[Jz,List.find?_cons,e]
theorem afq(k:κ):∀kvs:List (κ×V),(kvs.any fun kv=>decide (kv.1=k))=(Jz kvs k).isSome
 | []=>rfl
 | p::r=>by
  rw[List.any_cons];by_cases e:p.1=k
  ·simp only[abT e,decide_eq_true e,Bool.true_or,Option.isSome_some]
  ·rw[abU e,decide_eq_false e,Bool.false_or];exact afq k r
theorem Qt(kvs:List (κ×V))(k:κ)(v:V):(putK kvs k v).length<=kvs.length+1:=by
 unfold putK;split
 ·rw[List.length_map];omega
 ·rw[List.length_append,List.length_cons,List.length_nil];omega
theorem abf.isSome_eq{o:Option V}{u:Option Value}(r:abf o u):o.isSome=u.isSome:=by
 cases o with
 | none=>cases u with
  |none=>rfl
  |some _=>exact(show False from r).elim
 | some _=>cases u with
  |none=>exact(show False from r).elim
  |some _=>rfl
theorem abf.getD{o:Option V}{u:Option Value}{d:V}{d':Value}(r:abf o u)(rd:jK d d'):jK (o.getD d) (u.getD d'):=by
 cases o with
 | none=>cases u with
  |none=>exact rd
  |some _=>exact(show False from r).elim
 | some _=>cases u with
  |none=>exact(show False from r).elim
  |some _=>exact r
theorem KV.val{kvs:List (κ×V)}{vs:List (κ×Value)}(r:KV kvs vs)(k:κ):abf (Jz kvs k) (valueAt vs k):=by
 unfold KV at r
 induction r with
 |nil=>exact True.intro
 | @cons p q ps qs h t ih=>
  obtain⟨h1,h2⟩:=h;by_cases e:p.1=k
  ·have e':q.1=k:=h1.symm.trans e
   have b:valueAt (q::qs) k=some q.2:=by simp[valueAt,List.find?_cons,e']
   rw[abT e,b];exact h2
  ·have e':¬ q.1=k:=fun z=>e (h1.trans z)
   have b:valueAt (q::qs) k=valueAt qs k:=by simp[valueAt,List.find?_cons,e']
   rw[abU e,b];exact ih
theorem KV.any{kvs:List (κ×V)}{vs:List (κ×Value)}(r:KV kvs vs)(k:κ):(kvs.any fun kv=>decide (kv.1=k))=vs.any fun kv=>decide (kv.1=k):=by
 unfold KV at r
 induction r with
 |nil=>rfl
 |cons h t ih=>rw[List.any_cons,List.any_cons,ih,h.1]
theorem KV.repl{kvs:List (κ×V)}{vs:List (κ×Value)}(r:KV kvs vs)(k:κ){y:V}{u:Value}(ry:jK y u):
  KV (kvs.map fun kv=>if kv.1=k then (kv.1,y) else kv) (vs.map fun kv=>if kv.1=k then (kv.1,u) else kv):=by
 unfold KV at r ⊢
 induction r with
 |nil=>exact .nil
 | @cons p q ps qs h t ih=>
  rw[List.map_cons,List.map_cons];refine .cons ?_ ih;obtain⟨h1,h2⟩:=h;by_cases e:p.1=k
  ·rw[if_pos e,if_pos (h1.symm.trans e)];exact⟨h1,ry⟩
  ·rw[if_neg e,if_neg (fun z=>e (h1.trans z))];exact⟨h1,h2⟩
theorem KV.put{kvs:List (κ×V)}{vs:List (κ×Value)}(r:KV kvs vs)(k:κ){y:V}{u:Value}(ry:jK y u):KV (putK kvs k y) (stored vs k u):=by
 unfold putK stored;rw[r.any k];by_cases e:(vs.any fun kv=>decide (kv.1=k))=true
 ·rw[if_pos e,if_pos e];exact r.repl k ry
 ·rw[if_neg e,if_neg e];exact Paired.snoc r ⟨rfl,ry⟩
theorem KV.drop{kvs:List (κ×V)}{vs:List (κ×Value)}(r:KV kvs vs)(k:κ):KV (aoc kvs k) (without vs k):=by
 unfold KV at r ⊢;unfold aoc without
 induction r with
 |nil=>exact .nil
 | @cons p q ps qs h t ih=>
  obtain⟨h1,h2⟩:=h;rw[List.filter_cons,List.filter_cons];by_cases e:p.1=k
  ·have a:¬ decide (p.1≠k)=true:=by simp[e]
   have b:¬ decide (q.1≠k)=true:=by simp[h1.symm.trans e]
   rw[if_neg a,if_neg b];exact ih
  ·have e':¬ q.1=k:=fun z=>e (h1.trans z)
   have a:decide (p.1≠k)=true:=by simp[e]
   have b:decide (q.1≠k)=true:=by simp[e']
   rw[if_pos a,if_pos b];exact .cons ⟨h1,h2⟩ ih
theorem KV.keys{kvs:List (κ×V)}{vs:List (κ×Value)}(r:KV kvs vs):kvs.map (·.1)=vs.map (·.1):=by
 unfold KV at r
 induction r with
 |nil=>rfl
 |cons h t ih=>rw[List.map_cons,List.map_cons,ih,h.1]
theorem KV.length{kvs:List (κ×V)}{vs:List (κ×Value)}(r:KV kvs vs):kvs.length=vs.length:=Paired.length r
end
theorem adg{P:Program}{w:World}{k:Key}{u:Value}(r:jK (kV k) u):(jZ P w).is k u=true:=by
 cases k with
 |inl i=>obtain⟨t,e⟩:=(show ∃t,u=Value.int i t from r);subst e;exact afd P w i t
 |inr x=>obtain⟨t,e⟩:=(show ∃t,u=Value.str x t from r);subst e;exact afe P w x t
theorem adh{P:Program}{w:World}:∀{ks:List Key}{us:List Value},jB (ks.map kV) us->ItemsAre (jZ P w) ks us
 | [],_,r=>by rw[List.map_nil]at r;cases r;exact .nil
 | k::ks,_,r=>by
  rw[List.map_cons]at r;cases r with
  |cons h t=>exact .cons (adg h) (adh t)
noncomputable abbrev KT(H:Hp):List (List Key×V)->List (List Key×Addr×Value)->Prop:=Paired fun p q=>p.1=q.1/\H q.2.1=some (.tup (p.1.map kV))/\jK p.2 q.2.2
theorem KT.val{H:Hp}{kvs:List (List Key×V)}{xs:List (List Key×Addr×Value)}(r:KT H kvs xs)(k:List Key):abf (Jz kvs k) ((atKey xs k).map (·.2)):=by
 induction r with
 |nil=>exact True.intro
 | @cons p q ps qs h t ih=>
  obtain⟨h1,_,h2⟩:=h;by_cases e:p.1=k
  ·have e':q.1=k:=h1.symm.trans e
   have b:atKey (q::qs) k=some q.2:=by simp[atKey,List.find?_cons,e']
   rw[abT e,b];exact h2
  ·have e':¬ q.1=k:=fun z=>e (h1.trans z)
   have b:atKey (q::qs) k=atKey qs k:=by simp[atKey,List.find?_cons,e']
   rw[abU e,b];exact ih
theorem KT.repl{H:Hp}{kvs:List (List Key×V)}{xs:List (List Key×Addr×Value)}(r:KT H kvs xs)(k:List Key){y:V}{u:Value}(ry:jK y u):
  KT H (kvs.map fun kv=>if kv.1=k then (kv.1,y) else kv) (xs.map (putAt k u)):=by
 induction r with
 |nil=>exact .nil
 | @cons p q ps qs h t ih=>
  rw[List.map_cons,List.map_cons];refine .cons ?_ ih;obtain⟨h1,h2,h3⟩:=h;unfold putAt;by_cases e:p.1=k
  ·rw[if_pos e,if_pos (h1.symm.trans e)];exact⟨h1,h2,ry⟩
  ·rw[if_neg e,if_neg (fun z=>e (h1.trans z))];exact⟨h1,h2,h3⟩
theorem KT.put{H:Hp}{kvs:List (List Key×V)}{xs:List (List Key×Addr×Value)}(r:KT H kvs xs)(k:List Key){b:Addr}{y:V}{u:Value}(hb:H b=some (.tup (k.map kV)))(ry:jK y u):
  KT H (putK kvs k y) (storedH xs k b u):=by
 have e:(kvs.any fun kv=>decide (kv.1=k))=(atKey xs k).isSome:=by
  rw[afq,(r.val k).isSome_eq,Option.isSome_map]
 unfold putK storedH;rw[e];by_cases q:(atKey xs k).isSome=true
 ·rw[if_pos q,if_pos q];exact r.repl k ry
 ·rw[if_neg q,if_neg q];exact Paired.snoc r ⟨rfl,hb,ry⟩
theorem KT.keeps{H H':Hp}{kvs:List (List Key×V)}{xs:List (List Key×Addr×Value)}(r:KT H kvs xs)(ht:∀b ys,H b=some (.tup ys)->H' b=some (.tup ys)):KT H' kvs xs:=
 Paired.mapP r fun _ _ z=>⟨z.1,ht _ _ z.2.1,z.2.2⟩
section
variable {P:Program}{w:World}{H:Hp}{h:Heap}{a:Addr}
theorem aod{u:HO}(ok:HOk P w H h)(e:Rd H a u):qw P w H h a u:=e.ok ok
theorem abV{kvs:List (Key×V)}(ok:HOk P w H h)(e:Rd H a (.dK kvs)):kvs.length<=sizeLine/\(a==sysModules)=false/\∃vs,KV kvs vs/\h.DictOf (jZ P w) a vs:=
 show qw P w H h a (.dK kvs) from aod ok e
theorem aoe{kvs:List (Key×V)}(ok:HOk P w H h)(e:H a=some (.dK kvs)):kvs.length<=sizeLine/\(a==sysModules)=false/\∃vs,KV kvs vs/\h.DictOf (jZ P w) a vs:=abV ok (.inl e)
theorem abW{ks:List Key}(ok:HOk P w H h)(e:H a=some (.tup (ks.map kV))):(tupleKind (jZ P w)).is h ks a:=by
 obtain⟨_,its,r,o,h1,h2,n,h3⟩:=(show qw P w H h a (.tup (ks.map kV)) from ok a _ e);exact⟨o,its.toArray,n,h1,h2,h3,by simpa using adh r⟩
theorem adi{kvs:List (List Key×V)}(ok:HOk P w H h)(e:Rd H a (.dT kvs)):kvs.length<=sizeLine/\(a==sysModules)=false/\
  ∃xs,KT H kvs xs/\h.DictOfH (tupleKind (jZ P w)) a xs:=by
 obtain⟨z,y,xs,r,o,es,ep,h1,h2,h3,h4,h5⟩:=(show qw P w H h a (.dT kvs) from aod ok e);refine⟨z,y,xs,r,o,es,ep,h1,h2,h3,h4,fun x hx=>?_,h5⟩
 have all:∀{l:List (List Key×V)} {m:List (List Key×Addr×Value)},KT H l m->∀x∈m,(tupleKind (jZ P w)).is h x.1 x.2.1:=by
  intro l m q
  induction q with
  |nil=>intro x hx;exact nomatch hx
  | @cons p q ps qs hq t ih=>
   intro x hx;rcases List.mem_cons.mp hx with e | hx
   ·subst e
    exact abW ok (by rw[←hq.1];exact hq.2.1)
   ·exact ih x hx
 exact all r x hx
theorem aqi{kvs:List (List Key×V)}(ok:HOk P w H h)(e:H a=some (.dT kvs)):kvs.length<=sizeLine/\(a==sysModules)=false/\
  ∃xs,KT H kvs xs/\h.DictOfH (tupleKind (jZ P w)) a xs:=adi ok (.inl e)
end
noncomputable def abh(H:Hp)(a:Addr)(y:V)(r:Option V):Prop:=
 (∃kvs k,Rd H a (.dK kvs)/\y=kV k/\r=Jz kvs k)∨∃kvs k b,Rd H a (.dT kvs)/\y= .ref b/\H b=some (.tup (k.map kV))/\r=Jz kvs k
noncomputable def aiZ(H:Hp)(a:Addr)(y v:V)(H':Hp):Prop:=
 (∃kvs k,H a=some (.dK kvs)/\y=kV k/\kvs.length<sizeLine/\H'=upd H a (.dK (putK kvs k v))) ∨
 ∃kvs k b,H a=some (.dT kvs)/\y= .ref b/\H b=some (.tup (k.map kV))/\kvs.length<sizeLine/\H'=upd H a (.dT (putK kvs k v))
theorem abh.k{H:Hp}{a:Addr}{kvs:List (Key×V)}{k:Key}(e:H a=some (.dK kvs)):abh H a (kV k) (Jz kvs k):= .inl ⟨kvs,k,.inl e,rfl,rfl⟩
theorem abh.t{H:Hp}{a b:Addr}{kvs:List (List Key×V)}{k:List Key}(e:H a=some (.dT kvs))(eb:H b=some (.tup (k.map kV))):abh H a (.ref b) (Jz kvs k):= .inr ⟨kvs,k,b,.inl e,rfl,eb,rfl⟩
theorem aiZ.k{H:Hp}{a:Addr}{kvs:List (Key×V)}{k:Key}{v:V}(e:H a=some (.dK kvs))(hl:kvs.length<sizeLine):aiZ H a (kV k) v (upd H a (.dK (putK kvs k v))):= .inl ⟨kvs,k,e,rfl,hl,rfl⟩
theorem aiZ.t{H:Hp}{a b:Addr}{kvs:List (List Key×V)}{k:List Key}{v:V}(e:H a=some (.dT kvs))(eb:H b=some (.tup (k.map kV)))(hl:kvs.length<sizeLine):
  aiZ H a (.ref b) v (upd H a (.dT (putK kvs k v))):= .inr ⟨kvs,k,b,e,rfl,eb,hl,rfl⟩
section
variable {X:Cx}{Kp:List (Addr×Obj)}{σ:St}{H:Hp}{s:Shared}{a:Addr}{y v:V}{u r:Value}{o:Option V}{A:Around}{E:Value->SP0}
theorem Inv.big(I:Inv X Kp σ H s):sysModules<s.heap.objs.size:=by
 have h:mainGlobals<s.heap.objs.size:=(I.mod.glob.keeps I.bk).lt;exact Nat.lt_trans (by decide) h
theorem ai0{Q:Value->SP0}(hu:A.units+1<cLine)(I:Inv X Kp σ H s)(g:abh H a y (some v))(ry:jK y u)(h:∀w' s',Inv X Kp σ H s'->jK v w'->Q w' s'):
  wpAny (model X.prog X.w) A (getItem (.ref a) u) Q E s:=by
 rcases g with ⟨kvs,k,e,ey,l⟩ | ⟨kvs,k,b,e,ey,eb,l⟩
 ·subst ey
  obtain⟨z,hd,vs,rel,dd⟩:=abV I.hok e;obtain⟨w',hw,rw'⟩:=abf.some_of (v:=v) (o:=valueAt vs k) (by rw[l];exact rel.val k);exact wpAny_getItem_of (adg ry) dd.mapOf hw (h w' _ (I.tok _) rw')
 ·subst ey
  cases (show u=Value.ref b from ry);obtain⟨z,hd,xs,rel,dd⟩:=adi I.hok e;obtain⟨w',hw,rw'⟩:=abf.some_of (v:=v) (o:=(atKey xs k).map (·.2)) (by rw[l];exact rel.val k);obtain⟨p,hp,hp2⟩:=Option.map_eq_some_iff.mp hw;refine wpAny_getItem_heap (tupleKind_room_in1 hu) (abW I.hok eb) dd hp ?_;rw[hp2];exact h w' _ (I.tok _) rw'
theorem aeb{h':Heap}{t':Nat}{ob:HO}(I:Inv X Kp σ H s)(mu:Mut (H a))(hs:Heap.SameBut a s.heap h')(he:∃q,h'.get? a=some q)(new:qw X.prog X.w (upd H a ob) h' a ob):
  Inv X Kp σ (upd H a ob) { s with heap:=h',toks:=t' }:=
 I.write (x:=a) (e:=a) mu (.inl rfl) (fun b q hb z=>(hs.2 b hb).trans z) he new
theorem akp{P:Program}{w:World}{H':Hp}{h':Heap}{kvs:List (Key×V)}{vs:List (Key×Value)}(z:kvs.length<=sizeLine)(hd:(a==sysModules)=false)(rel:KV kvs vs)(dd:h'.DictOf (jZ P w) a vs):
  qw P w H' h' a (.dK kvs):=⟨z,hd,vs,rel,dd⟩
theorem ai1{H':Hp}{Q:Unit->SP0}(hu:A.units+1<cLine)(I:Inv X Kp σ H s)(g:aiZ H a y v H')(ry:jK y u)(rv:jK v r)(h:∀s',Inv X Kp σ H' s'->Q () s'):
  wpAny (model X.prog X.w) A (setItem (.ref a) u r) Q E s:=by
 rcases g with ⟨kvs,k,e,ey,l,eH⟩ | ⟨kvs,k,b,e,ey,eb,l,eH⟩
 ·subst ey eH
  obtain⟨z,hd,vs,rel,dd⟩:=aoe I.hok e;have hz:vs.length<=sizeLine:=by rw[←rel.length];exact z
  have hl:(putK kvs k v).length<=sizeLine:=by have:=Qt kvs k v;omega
  refine wpAny_setItem_pairs (hsz:=hz) (adg ry) dd fun h' dd' hs=>h _ ?_;have he:∃q,h'.get? a=some q:=let ⟨q,_,_,hq,_⟩:=dd';⟨q,hq⟩
  exact aeb I (by rw[e];exact True.intro) hs he (akp hl hd (rel.put k rv) dd')
 ·subst ey eH
  cases (show u=Value.ref b from ry);obtain⟨z,hd,xs,rel,dd⟩:=aqi I.hok e;have hz:xs.length<=sizeLine:=by rw[←Paired.length rel];exact z
  have hl:(putK kvs k v).length<=sizeLine:=by have:=Qt kvs k v;omega
  refine wpAny_setItem_heap (hsz:=hz) (tupleKind_room_in1 hu) (abW I.hok eb) dd fun h' dd' hs=>h _ ?_;obtain⟨q,es,ep,hq,h2,h3,h4,_,h5⟩:=dd';refine aeb I (by rw[e];exact True.intro) hs ⟨q,hq⟩ ⟨hl,hd,_,(rel.put k eb rv).keeps fun c ys ec=>?_,q,es,ep,hq,h2,h3,h4,h5⟩;rw[jn (apT ec e (fun z=>nomatch z))];exact ec
end
section
variable {X:Cx}{Kp:List (Addr×Obj)}{σ:St}{H:Hp}{s:Shared}{a:Addr}{kvs:List (Key×V)}{k:Key}{u:Value}{A:Around}{E:Value->SP0}
end
noncomputable def aoU(i:Expr):Prop:=∀ov iv,subscripted i false ov iv=operate [ov,iv] (getItem ov iv)
theorem amL{prog:Program}{w:World}{A:Around}{E:Value->SP0}{s:Shared}{env:Env}{value slice:Expr}{pos:Pos}{T id:String}{Q:Value->SP0}
  (hl:typeLookup (.type T) "__getitem__"=pure (some (.builtin id))) (hs:aoU slice)
  (h:wpAny (model prog w) A (eval value env) (fun o s₁=>wpAny (model prog w) A (eval slice env) (fun i s₂=>s₂.TypeIs o T/\wpAny (model prog w) A (getItem o i) Q E s₂) E s₁) E s):
  wpAny (model prog w) A (eval (.Subscript value slice pos) env) Q E s:=by
 refine Subscript_ (wpAny_mono h (fun o s₁ h₁=>wpAny_mono h₁ (fun i s₂ h₂=>?_) fun _ _ x=>x) fun _ _ x=>x);obtain⟨hT,h₂⟩:=h₂;unfold subscriptTail;refine wpAny_bind ?_;rw[getitemInPython_of_ne hT.not_modules];refine wpAny_bind (wpAny_specialOf hT hl ?_)
 have fin:wpAny (model prog w) A (subscripted slice false o i) (fun r s₃=>wpAny (model prog w) A (letTemporaryGo value o r >>= fun _=>pure r) Q E s₃) E s₂:=by
  rw[hs o i];exact wpAny_operating (wpAny_mono h₂ (fun r s₃ h₃=>wpAny_bind (wpAny_letTemporaryGo (wpAny_pure h₃))) fun _ _ x=>x)
 first
  |exact wpAny_pure (wpAny_bind fin)
  |exact wpAny_bind (wpAny_pure (wpAny_bind fin))
  |exact wpAny_bind fin
theorem afr{X:Cx}{Kp:List (Addr×Obj)}{σ:St}{H:Hp}{s:Shared}{a:Addr}{y:V}{o:Option V}(I:Inv X Kp σ H s)(g:abh H a y o):s.TypeIs (.ref a) "dict":=by
 rcases g with ⟨kvs,k,e,_,_⟩ | ⟨kvs,k,b,e,_,_,_⟩
 ·obtain⟨_,_,vs,_,dd⟩:=abV I.hok e
  exact dd.typeIs
 ·obtain⟨_,_,xs,_,dd⟩:=adi I.hok e
  exact dd.typeIs
noncomputable def aqj(td ty:TE):TE:=fun σ H Q=>td σ H fun x H1=>ty σ H1 fun y H2=>∃a v,x= .ref a/\abh H2 a y (some v)/\Q v H2
section
variable {X:Cx}{o i e value:Expr}{pos pos' tpos:Pos}{td ty tv:TE}
theorem amM(hu:X.A.units+1<cLine)(ho:PE X o td)(hi:PE X i ty)(hs:aoU i):PE X (.Subscript o i pos) (aqj td ty):=by
 intro Kp s σ H Q I h;refine amL PySem.F.slot_dict_getitem.lookup hs (thn (ho Kp s σ H _ I h) fun u s1 ⟨x,H1,I1,rx,q1⟩=>thn (hi Kp s1 σ H1 _ I1 q1) fun iv s2 ⟨y,H2,I2,ry,a,v,ex,g,q2⟩=>?_);subst ex;obtain rfl:u=Value.ref a:=rx;exact⟨afr I2 g,ai0 hu I2 g ry fun w' s3 I3 rw'=>⟨v,H2,I3,rw',q2⟩⟩
end
theorem afs{P:Program}{w:World}{H:Hp}(h:Heap)(hb:sysModules<h.objs.size):qw P w H (h.push { cls:= .type "dict",data:= .dict #[] }) h.objs.size (.dK []):=
 ⟨Nat.zero_le _,beq_eq_false_iff_ne.mpr (Ne.symm (Nat.ne_of_lt hb)),[],.nil,Heap.DictOf.new h⟩
noncomputable def aoV:TE:=fun _ H Q=>∀p,H p=none->Q (.ref p) (upd H p (.dK []))
section
variable {X:Cx}{pos:Pos}
theorem akq:PE X (.Dict [] [] pos) aoV:=fun Kp s σ H Q I h=>
 wpAny_Dict_empty ⟨.ref s.heap.objs.size,_,I.laid (a:=s.heap.objs.size) (o:= .dK []) (t':=s.toks) (fun _ _ q=>Heap.get?_push_of_some _ q) (Nat.le_refl _) (afs s.heap I.big),rfl,h _ (I.hok.fresh (Nat.le_refl _))⟩
end
noncomputable def agK:List (TE×TE)->St->Hp->(List (V×V)->Hp->Prop)->Prop
 | [],_,H,Q=>Q [] H
 | (tk,tv)::r,σ,H,Q=>tk σ H fun x H1=>tv σ H1 fun y H2=>agK r σ H2 fun ps H3=>Q ((x,y)::ps) H3
noncomputable abbrev VV:List (V×V)->List (Value×Value)->Prop:=Paired fun p q=>jK p.1 q.1/\jK p.2 q.2
noncomputable def PPs(X:Cx)(pos:Pos)(keys:List (Option Expr))(values:List Expr)(trs:List (TE×TE)):Prop:=
 ∀(Kp:List (Addr×Obj)) (s:Shared) (σ:St) (H:Hp) (Q:List (V×V)->Hp->Prop),Inv X Kp σ H s->agK trs σ H Q->
  wpAny (model X.prog X.w) X.A (evalPairs (pairTrees keys values X.env pos)) (fun vs s'=>∃ps H',Inv X Kp σ H' s'/\VV ps vs/\Q ps H') X.xe s
theorem amN{X:Cx}{pos:Pos}:PPs X pos [] [] []:=fun Kp s σ H Q I h=>pairTrees_nil_walk ⟨[],H,I,.nil,h⟩
theorem akr{X:Cx}{pos:Pos}{k v:Expr}{ks:List (Option Expr)}{vs:List Expr}{tk tv:TE}{trs:List (TE×TE)}(hk:PE X k tk)(hv:PE X v tv)(hr:PPs X pos ks vs trs):
  PPs X pos (some k::ks) (v::vs) ((tk,tv)::trs):=fun Kp s σ H Q I h=>
 pairTrees_cons_walk (thn (hk Kp s σ H _ I h) fun u s1 ⟨x,H1,I1,rx,q1⟩=>thn (hv Kp s1 σ H1 _ I1 q1) fun w2 s2 ⟨y,H2,I2,ry,q2⟩=>
  thn (hr Kp s2 σ H2 _ I2 q2) fun ws s3 ⟨ps,H3,I3,rel,q3⟩=>⟨(x,y)::ps,H3,I3,.cons ⟨rx,ry⟩ rel,q3⟩)
noncomputable def abX(kvs more:List (Key×V)):List (Key×V):=more.foldl (fun acc kv=>putK acc kv.1 kv.2) kvs
theorem KV.merge:∀{more:List (Key×V)}{rs:List (Key×Value)}{kvs:List (Key×V)}{vs:List (Key×Value)},KV more rs->KV kvs vs->KV (abX kvs more) (merged vs rs):=by
 intro more rs kvs vs r;unfold KV at r
 induction r generalizing kvs vs with
 |nil=>intro q;exact q
 | @cons p q ps qs h t ih=>
  intro r0
  have e:KV (putK kvs p.1 p.2) (stored vs q.1 q.2):=by
   have:=r0.put p.1 h.2;rw[←h.1];exact this
  exact ih e
theorem Zm:∀(more kvs:List (Key×V)),(abX kvs more).length<=kvs.length+more.length
 | [],kvs=>by show kvs.length<=kvs.length+0;omega
 | p::r,kvs=>by
  have h1:=Zm r (putK kvs p.1 p.2);have h2:=Qt kvs p.1 p.2;show(abX (putK kvs p.1 p.2) r).length<=_;rw[List.length_cons];omega
theorem abY{P:Program}{w:World}:∀{kvs:List (Key×V)}{ws:List (Value×Value)},VV (kvs.map fun kv=>(kV kv.1,kv.2)) ws->∃rs,Carries (jZ P w) ws rs/\KV kvs rs
 | [],_,r=>by rw[List.map_nil]at r;cases r;exact⟨[],True.intro,.nil⟩
 | p::kvs,_,r=>by
  rw[List.map_cons]at r;cases r with
  | @cons a b as bs h t=>
   obtain⟨rs,c,q⟩:=abY (P:=P) (w:=w) t;obtain⟨b1,b2⟩:=b;exact⟨(p.1,b2)::rs,⟨adg h.1,rfl,c⟩,.cons ⟨rfl,h.2⟩ q⟩
noncomputable def aqk(trs:List (TE×TE)):TE:=fun σ H Q=>∀p,H p=none->agK trs σ (upd H p (.dK [])) fun ps H2=>H2 p=some (.dK [])/\∃kvs:List (Key×V),ps=kvs.map (fun kv=>(kV kv.1,kv.2))/\kvs.length<=15/\Q (.ref p) (upd H2 p (.dK (abX [] kvs)))
theorem amO{X:Cx}{pos:Pos}{keys:List (Option Expr)}{values:List Expr}{trs:List (TE×TE)}(h:PPs X pos keys values trs)(hall:keys.all (·.isSome)=true)(hl:keys.length=values.length)(h0:keys≠[])
  (h15:keys.length<=15):PE X (.Dict keys values pos) (aqk trs):=by
 intro Kp s σ H Q I q;have hn:=I.hok.fresh (Nat.le_refl s.heap.objs.size);have I1:=I.laid (a:=s.heap.objs.size) (o:= .dK []) (h':=s.heap.push { cls:= .type "dict",data:= .dict #[] }) (t':=s.toks) (fun _ _ q=>Heap.get?_push_of_some _ q) (Nat.le_refl _) (afs s.heap I.big);refine wpAny_Dict_walk (knd:=jZ X.prog X.w) hall hl h0 h15 (thn (h Kp _ σ _ _ I1 (q _ hn)) fun ws s2 ⟨ps,H2,I2,rel,e,kvs,ep,lk,q2⟩=>?_);subst ep;obtain⟨rs,c,rk⟩:=abY (P:=X.prog) (w:=X.w) rel;obtain⟨z,hd,vs0,r0,dd⟩:=aoe I2.hok e;cases r0;refine⟨rs,c,dd,fun h' dd' hs=>⟨.ref s.heap.objs.size,_,?_,rfl,q2⟩⟩
 have hz:(abX [] kvs).length<=sizeLine:=by
  have h1:=Zm kvs [];rw[List.length_nil]at h1;rw[sizeLine_eq];omega
 have he:∃q,h'.get? s.heap.objs.size=some q:=let ⟨q,_,_,hq,_⟩:=dd';⟨q,hq⟩
 exact aeb I2 (by rw[e];exact True.intro) hs he (akp hz hd (rk.merge .nil) dd')
structure M1(X:Cx)(o:Expr)(m:Str)(apos:Pos)(e:Expr)(cpos:Pos):Prop where
 base:attributeBase o m X.env (eval o X.env)=eval o X.env
 few:((backTo cpos (starEach [e] X.env)).all (fun x=>!x.1)&&(backToKw cpos (keywordEach [] X.env)).all (fun x=>x.1.isSome)
  && decide (([e]:List Expr).length+([]:List Keyword).length+(if ([]:List Keyword).isEmpty then 0 else 1)<30))=true
 line:(apos.endLine==cpos.line)=true
 trees:backTo cpos (starEach [e] X.env)=[(false,eval e X.env)]
structure M2(X:Cx)(o:Expr)(m:Str)(apos:Pos)(e f:Expr)(cpos:Pos):Prop where
 base:attributeBase o m X.env (eval o X.env)=eval o X.env
 few:((backTo cpos (starEach [e,f] X.env)).all (fun x=>!x.1)&&(backToKw cpos (keywordEach [] X.env)).all (fun x=>x.1.isSome)
  && decide (([e,f]:List Expr).length+([]:List Keyword).length+(if ([]:List Keyword).isEmpty then 0 else 1)<30))=true
 line:(apos.endLine==cpos.line)=true
 trees:backTo cpos (starEach [e,f] X.env)=[(false,eval e X.env),(false,eval f X.env)]
noncomputable def IsD(H:Hp)(a:Addr):Prop:=(∃kvs,Rd H a (.dK kvs))∨∃kvs,Rd H a (.dT kvs)
theorem aks{X:Cx}{Kp:List (Addr×Obj)}{σ:St}{H:Hp}{s:Shared}{a:Addr}(I:Inv X Kp σ H s)(d:IsD H a):
  s.TypeIs (.ref a) "dict"/\(∀b,Value.ref a= .ref b->∃ob,s.heap.get? b=some ob/\ob.dict=none)/\(a==sysModules)=false:=by
 rcases d with ⟨kvs,e⟩ | ⟨kvs,e⟩
 ·obtain⟨_,hd,vs,_,dd⟩:=abV I.hok e
  refine⟨dd.typeIs,fun b q=>?_,hd⟩;cases q;obtain⟨ob,_,_,h1,h2,_⟩:=dd;exact⟨ob,h1,h2.2.1⟩
 ·obtain⟨_,hd,xs,_,dd⟩:=adi I.hok e
  refine⟨dd.typeIs,fun b q=>?_,hd⟩;cases q;obtain⟨ob,_,_,h1,h2,_⟩:=dd;exact⟨ob,h1,h2.2.1⟩
section
variable {X:Cx}{Kp:List (Addr×Obj)}{σ:St}{H:Hp}{s:Shared}{a:Addr}{y d:V}{u r:Value}{o:Option V}{A:Around}{E:Value->SP0}
theorem aoW{Q:Value->SP0}(hu:A.units+1<cLine)(I:Inv X Kp σ H s)(g:abh H a y o)(ry:jK y u)(h:∀w' s',Inv X Kp σ H s'->jK (o.getD .non) w'->Q w' s'):
  wpAny (model X.prog X.w) A (call (.builtin "dict.get") [.ref a,u]) Q E s:=by
 rcases g with ⟨kvs,k,e,ey,l⟩ | ⟨kvs,k,b,e,ey,eb,l⟩
 ·subst ey
  obtain⟨z,hd,vs,rel,dd⟩:=abV I.hok e;refine call_meetsIn PySem.F.slot_dict_get dd.typeIs PySem.F.entry_dict_get (PySem.F.args_dict_get_2 _ _) (meets_dict_get (jZ X.prog X.w) a (adg ry) hd) ⟨_,dd.mapOf,h _ _ (I.tok _) ?_⟩;rw[l];exact(rel.val k).getD rfl
 ·subst ey
  cases (show u=Value.ref b from ry);obtain⟨z,hd,xs,rel,dd⟩:=adi I.hok e;refine call_meetsIn PySem.F.slot_dict_get dd.typeIs PySem.F.entry_dict_get (PySem.F.args_dict_get_2 _ _) (meetsH_dict_get (tupleKind (jZ X.prog X.w)) a b hd) ⟨tupleKind_room_in1 hu,k,xs,abW I.hok eb,dd,h _ _ (I.tok _) ?_⟩;rw[l];exact(rel.val k).getD rfl
theorem aoX{Q:Value->SP0}(hu:A.units+1<cLine)(I:Inv X Kp σ H s)(g:abh H a y o)(ry:jK y u)(rd:jK d r)(h:∀w' s',Inv X Kp σ H s'->jK (o.getD d) w'->Q w' s'):
  wpAny (model X.prog X.w) A (call (.builtin "dict.get") [.ref a,u,r]) Q E s:=by
 rcases g with ⟨kvs,k,e,ey,l⟩ | ⟨kvs,k,b,e,ey,eb,l⟩
 ·subst ey
  obtain⟨z,hd,vs,rel,dd⟩:=abV I.hok e;refine call_meetsIn PySem.F.slot_dict_get dd.typeIs PySem.F.entry_dict_get (PySem.F.args_dict_get_3 _ _ _) (meets_dict_get_default (jZ X.prog X.w) a (adg ry) hd r) ⟨_,dd.mapOf,h _ _ (I.tok _) ?_⟩;rw[l];exact(rel.val k).getD rd
 ·subst ey
  cases (show u=Value.ref b from ry);obtain⟨z,hd,xs,rel,dd⟩:=adi I.hok e;refine call_meetsIn PySem.F.slot_dict_get dd.typeIs PySem.F.entry_dict_get (PySem.F.args_dict_get_3 _ _ _) (meetsH_dict_get_default (tupleKind (jZ X.prog X.w)) a b hd r) ⟨tupleKind_room_in1 hu,k,xs,abW I.hok eb,dd,h _ _ (I.tok _) ?_⟩;rw[l];exact(rel.val k).getD rd
end
noncomputable def aoY(td ty:TE):TE:=fun σ H Q=>td σ H fun x H1=>∃a,x= .ref a/\IsD H1 a/\ty σ H1 fun y H2=>∃o,abh H2 a y o/\Q (o.getD .non) H2
noncomputable def aoZ(td ty tx:TE):TE:=fun σ H Q=>td σ H fun x H1=>∃a,x= .ref a/\IsD H1 a/\ty σ H1 fun y H2=>tx σ H2 fun z H3=>∃o,abh H3 a y o/\Q (o.getD z) H3
section
variable {X:Cx}{o e f:Expr}{apos cpos:Pos}{td ty tx:TE}
theorem akt(hu:X.A.units+1<cLine)(ho:PE X o td)(he:PE X e ty)(m:M1 X o "get" apos e cpos):PE X (.Call (.Attribute o "get" apos) [e] [] cpos) (aoY td ty):=by
 intro Kp s σ H Q I h;refine wpAny_Call_method m.base m.few m.line PySem.F.plainAttrs_dict PySem.F.slot_dict_get PySem.F.type_dict_get (thn (ho Kp s σ H _ I h) fun u s1 ⟨x,H1,I1,rx,a,ex,d,q1⟩=>?_);subst ex;obtain rfl:u=Value.ref a:=rx;obtain⟨t1,t2,_⟩:=aks I1 d;refine⟨t1,t2,?_⟩;rw[m.trees];refine Calls.callWith_builtin rfl (Calls.evalArgs_plain (Calls.spliced_cons (thn (he Kp s1 σ H1 _ I1 q1) fun iv s2 ⟨y,H2,I2,ry,ov,g,q2⟩=>Calls.spliced_nil ?_)));exact aoW hu I2 g ry fun w' s3 I3 rw'=>⟨_,H2,I3,rw',q2⟩
theorem aku(hu:X.A.units+1<cLine)(ho:PE X o td)(he:PE X e ty)(hf:PE X f tx)(m:M2 X o "get" apos e f cpos):PE X (.Call (.Attribute o "get" apos) [e,f] [] cpos) (aoZ td ty tx):=by
 intro Kp s σ H Q I h;refine wpAny_Call_method m.base m.few m.line PySem.F.plainAttrs_dict PySem.F.slot_dict_get PySem.F.type_dict_get (thn (ho Kp s σ H _ I h) fun u s1 ⟨x,H1,I1,rx,a,ex,d,q1⟩=>?_);subst ex;obtain rfl:u=Value.ref a:=rx;obtain⟨t1,t2,_⟩:=aks I1 d;refine⟨t1,t2,?_⟩;rw[m.trees]
 refine Calls.callWith_builtin rfl (Calls.evalArgs_plain (Calls.spliced_cons (thn (he Kp s1 σ H1 _ I1 q1) fun iv s2 ⟨y,H2,I2,ry,q2⟩=>
  Calls.spliced_cons (thn (hf Kp s2 σ H2 _ I2 q2) fun fv s3 ⟨z,H3,I3,rz,ov,g,q3⟩=>Calls.spliced_nil ?_))))
 exact aoX hu I3 g ry rz fun w' s4 I4 rw'=>⟨_,H3,I4,rw',q3⟩
end
section
variable {X:Cx}{Kp:List (Addr×Obj)}{σ:St}{H:Hp}{s:Shared}{a:Addr}{kvs:List (Key×V)}{A:Around}{E:Value->SP0}
end
section
variable {X:Cx}{Kp:List (Addr×Obj)}{σ:St}{H:Hp}{s:Shared}{a:Addr}{y:V}{u:Value}{A:Around}{E:Value->SP0}
end
section
variable {X:Cx}
end
section
variable {κ:Type}[DecidableEq κ]
end
end L2
end
section
namespace BX
open PySem PySem.Spec L2
open PyProof.Rows hiding St
noncomputable abbrev NoX:Value->SP0:=fun _ _=>False
noncomputable def ahV(ts:List Expr)(en:Env):Sem Bool:=
 forIn ts true fun c r=>if r=true then do let ok ←isTrue c en (eval c en);pure (ForInStep.yield ok) else pure (ForInStep.yield r)
section
variable {prog:Program}{w:World}{A:Around}{s:Shared}{R:Result->SP0}
theorem ai2{el tg src:Expr}{ts:List Expr}{sc:Scope}{ps:Pos}{it acc:Value}{en:Env}(J:Nat->SP0)
  (turn:∀n s,J n s->wpAny (model prog w) A (pyNext it) (fun r s1=>match r with
   | none=>R (.ok .next) s1
   | some v=>wpAny (model prog w) A (letOwnedTupleGo tg it v) (fun _ sg=>wpAny (model prog w) A (assign tg en v) (fun _ s2=>
     wpAny (model prog w) A (ahV ts en) (fun ok s3=>
      if ok=true then wpAny (model prog w) A (eval el en) (fun y s4=>
       wpAny (model prog w) A (call (.builtin "list.append") [acc,y]) (fun _ s5=>∃ m,m<n/\J m s5) NoX s4) NoX s3
      else ∃ m,m<n/\J m s3) NoX s2) NoX sg) NoX s1) NoX s)
  (n:Nat) (h:J n s):
  codeAny (model prog w) A (.compLoop (.ListComp el [⟨tg,src,ts,0⟩] sc ps) 0 it acc en) R s:=by
 refine codeAny_loop rfl J (fun n s hJ=>?_) n h
 show wpAny _ A
  ((compTurn (.ListComp el [⟨tg,src,ts,0⟩] sc ps) 0 it acc en).onRaise
   (fun x=>do noteFrame x en; theTreesLotGoes x)) _ _ s
 refine wpAny_noted ?_;rw[compTurn_list];have no:∀{E:Value->SP0} (e:Value) (s':Shared),NoX e s'->E e s':=fun _ _ z=>z.elim;refine wpAny_bind (wpAny_standAt (wpAny_bind (wpAny_mono (turn n s hJ) (fun r s1 h1=>?_) no)));cases r with
 |none=>exact wpAny_pure h1
 | some v=>
  refine wpAny_bind (wpAny_mono h1 (fun _ sg hg=>?_) no);refine wpAny_bind (wpAny_mono hg (fun _ s2 h2=>?_) no);refine wpAny_bind (wpAny_mono h2 (fun ok s3 h3=>?_) no);cases ok with
  |false=>exact wpAny_pure ⟨rfl,h3⟩
  | true=>
   refine wpAny_bind (wpAny_bind (wpAny_mono h3 (fun y s4 h4=>?_) no));exact wpAny_bind (wpAny_mono h4 (fun _ s5 h5=>wpAny_pure (wpAny_pure ⟨rfl,h5⟩)) no)
end
noncomputable def Zn(en:Env):List (Str×NameKind)->List (Str×Addr)->List (Str×Addr)
 | [],cs=>cs
 | (n,k)::r,cs=>Zn en r (if k == .free then (n,(en.cells.lookup n).getD 0)::cs else cs)
theorem amP(sc:Scope)(en:Env)(h:∀x∈sc.names,x.2= .free->∃c,en.cells.lookup x.1=some c):closureFor sc en=pure (Zn en sc.names []):=by
 have go:∀(l:List (Str×NameKind)) (cs:List (Str×Addr)),(∀x∈l,x.2= .free->∃c,en.cells.lookup x.1=some c)->
   (forIn l cs (fun (x:Str×NameKind) (r:List (Str×Addr))=>(do
    if x.2 == .free then do
     let c ←cellOf en x.1
     pure (ForInStep.yield ((x.1,c)::r))
    else pure (ForInStep.yield r):Sem (ForInStep (List (Str × Addr))))):Sem _)=pure (Zn en l cs):=by
  intro l
  induction l with
  |nil=>intro cs _;rfl
  | cons x l ih=>
   intro cs hl;obtain⟨n,k⟩:=x;rw[List.forIn_cons];by_cases hk:(k==NameKind.free)=true
   ·obtain⟨c,e⟩:=hl (n,k) List.mem_cons_self (by simpa using hk)
    have e':en.cells.lookup n=some c:=e;simp only[hk,zzM,cellOf,e',pure_bind,Zn,Option.getD_some];exact ih _ fun y hy=>hl y (List.mem_cons_of_mem _ hy)
   ·simp only[hk,pure_bind,Zn,zzL,zzN]
    exact ih _ fun y hy=>hl y (List.mem_cons_of_mem _ hy)
 have:=go sc.names [] h;unfold closureFor;rw[←this]
 first
  | (simp only[bind_pure_comp,id_map',map_pure];done)
  | (simp only[bind_pure_comp,id_map',map_pure];exact bind_pure _)
theorem adj(en:Env):∀(l:List (Str×NameKind)) (cs:List (Str×Addr)),(∀x∈l,x.2= .free->∃c,en.cells.lookup x.1=some c)->(∀p∈cs,en.cells.lookup p.1=some p.2)->
  ∀p∈Zn en l cs,en.cells.lookup p.1=some p.2
 | [],_,_,h,p,hp=>h p hp
 | (n,k)::r,cs,hl,h,p,hp=>by
  refine adj en r _ (fun y hy=>hl y (List.mem_cons_of_mem _ hy)) (fun q hq=>?_) p hp;by_cases hk:(k==NameKind.free)=true
  ·rw[if_pos hk]at hq
   rcases List.mem_cons.mp hq with rfl | hq
   ·obtain⟨c,e⟩:=hl (n,k) List.mem_cons_self (by simpa using hk)
    have e':en.cells.lookup n=some c:=e;show en.cells.lookup n=some ((en.cells.lookup n).getD 0);rw[e'];rfl
   ·exact h q hq
  ·rw[if_neg hk]at hq
   exact h q hq
theorem aa0(en:Env):∀(l:List (Str×NameKind)) (cs:List (Str×Addr)) (x:Str),(∃c,(x,c)∈cs)->∃c,(x,c)∈Zn en l cs
 | [],_,_,h=>h
 | (n,k)::r,cs,x,⟨c,h⟩=>by
  refine aa0 en r _ x ?_;by_cases hk:(k==NameKind.free)=true
  ·rw[if_pos hk];exact⟨c,List.mem_cons_of_mem _ h⟩
  ·rw[if_neg hk];exact⟨c,h⟩
theorem aaq(en:Env):∀(l:List (Str×NameKind)) (cs:List (Str×Addr)) (x:Str),(x,NameKind.free)∈l->∃c,(x,c)∈Zn en l cs
 | (n,k)::r,cs,x,h=>by
  rcases List.mem_cons.mp h with e | h
  ·obtain⟨e1,e2⟩:=Prod.mk.inj e
   subst e1;subst e2;exact aa0 en r _ _ ⟨_,by rw[if_pos (by rfl)];exact List.mem_cons_self⟩
  ·exact aaq en r _ x h
theorem JA{β:Type}:∀{l:List (Str×β)}{x:Str}{c:β},(x,c)∈l->∃d,l.lookup x=some d
 | (n,k)::r,x,c,h=>by
  by_cases e:x=n
  ·subst e;exact⟨k,by simp[List.lookup_cons]⟩
  ·have eb:(x==n)=false:=by simpa using e
   rcases List.mem_cons.mp h with z | h
   ·cases z;exact absurd rfl e
   ·obtain⟨d,hd⟩:=JA h
    exact⟨d,by simp only[List.lookup_cons,eb];exact hd⟩
theorem aa1{sc:Scope}{en:Env}{x:Str}{k:NameKind}(h:(x,k)∈(relabel sc en).names)(hc:∀y∈sc.names,y.2 ≠ .cell)(hk:k= .cell∨k= .free):(x,NameKind.free)∈sc.names:=by
 obtain⟨⟨n,j⟩,hm,e⟩:=List.mem_map.mp h;by_cases q:(j==NameKind.free&&en.scope.kind == .function&&en.kindOf n==some .cell)=true
 ·have e1:(n,NameKind.cell)=(x,k):=by simpa only[q,zzM]using e
  cases e1
  have hj:j= .free:=by
   simp only[Bool.and_eq_true]at q;simpa using q.1.1
  rw[←hj];exact hm
 ·have e1:(n,j)=(x,k):=by simpa only[q,zzL,zzN]using e
  cases e1;rcases hk with rfl|rfl
  ·exact absurd rfl (hc _ hm)
  ·exact hm
theorem ZD{en:Env}:∀{l:List (Str×NameKind)}{x:Str},l.lookup x=some .free->
  (l.map fun (n,k)=>if (k==NameKind.free&&en.scope.kind == .function&&en.kindOf n==some .cell) then (n,NameKind.cell) else (n,k)).lookup x=some .cell ∨
  (l.map fun (n,k)=>if (k==NameKind.free&&en.scope.kind == .function&&en.kindOf n==some .cell) then (n,NameKind.cell) else (n,k)).lookup x=some .free
 | (n,k)::r,x,h=>by
  rw[List.map_cons];cases hx:x==n with
  | true=>
   simp only[List.lookup_cons,hx]at h;cases h;by_cases q:(NameKind.free==NameKind.free&&en.scope.kind == .function&&en.kindOf n==some .cell)=true
   ·left;simp only[q,zzM,List.lookup_cons,hx]
   ·right;simp only[q,zzL,zzN,List.lookup_cons,hx]
  | false=>
   simp only[List.lookup_cons,hx]at h;rcases ZD (en:=en) h with g | g
   ·left
    by_cases q:(k==NameKind.free&&en.scope.kind == .function&&en.kindOf n==some .cell)=true
    ·simp only[q,zzM,List.lookup_cons,hx];exact g
    ·simp only[q,zzL,zzN,List.lookup_cons,hx];exact g
   ·right
    by_cases q:(k==NameKind.free&&en.scope.kind == .function&&en.kindOf n==some .cell)=true
    ·simp only[q,zzM,List.lookup_cons,hx];exact g
    ·simp only[q,zzL,zzN,List.lookup_cons,hx];exact g
noncomputable def blk(X:Cx)(N':List Str)(sc:Scope)(cl:List (Str×Addr))(C:Addr)(s0:Shared)(H0:Hp)(fp:List Addr)(pn:List (Addr×Obj)):Cx:=
 { X with N:=N',s₀:=s0,H₀:=H0,env:=compEnvC sc cl C X.env,Ko:=X.stack,ex:=fp,fn:=fun _=>false,pn:=pn,xe:=NoX }
noncomputable def aft(cap:List (Option Nat))(σ:St):St:=cap.map fun o=>o.bind fun i=>(σ[i]?).join
noncomputable def PTs(X:Cx)(ts:List Expr)(t:TT):Prop:=
 ∀(Kp:List (Addr×Obj)) (s:Shared) (σ:St) (H:Hp) (Q:Bool->Hp->Prop),Inv X Kp σ H s->t σ H Q->wpAny (model X.prog X.w) X.A (ahV ts X.env) (TP X Kp σ Q) X.xe s
noncomputable def aql:TT:=fun _ H Q=>Q true H
theorem amQ{X:Cx}:PTs X [] aql:=fun _ _ _ H _ I h=>wpAny_pure ⟨H,I,h⟩
theorem amR{X:Cx}{c:Expr}{t:TT}(h:PT X c t):PTs X [c] t:=fun Kp s σ H Q I hq=>wpAny_tests_one (h Kp s σ H Q I hq)
structure CompOk(X:Cx)(sc:Scope)(N':List Str)(cap:List (Option Nat)):Prop where
 fr:∀x∈sc.names,x.2= .free->X.env.kindOf x.1=some .cell∨X.env.kindOf x.1=some .free
 nc:∀x∈sc.names,x.2 ≠ .cell
 kind:sc.kind= .function
 nm:∀x∈sc.names,x.2= .local->sc.names.lookup x.1=some .local
 len:cap.length=N'.length
 cp:∀(j i:Nat) (x:Str),N'[j]?=some x->cap[j]?=some (some i)->X.N[i]?=some x/\sc.names.lookup x=some .free
noncomputable def aqm(wi:TI)(cap:List (Option Nat))(g:TG)(tt:TT)(te:TE):TE:=fun σ H Q=>wi σ H fun J H1=>
 ∃W:Nat->Nat->St->List V->Hp->Prop,(∃m,W 0 m (aft cap σ) [] H1)/\∀i m τ ys H,W i m τ ys H->ys.length<sizeLine/\
  ((J.stop i H/\∀l,H l=none->Q (.ref l) (upd H l (.lst ys))) ∨
   (J.go i H/\∀ x H',J.yld i H x H'->g x τ H' fun τ2 H2=>tt τ2 H2 fun b H3=>if b=true then te τ2 H3 fun y H4=>∃ m',m' < m/\W (i+1) m' τ2 (ys++[y]) H4 else ∃ m',m' < m/\W (i+1) m' τ2 ys H3))
theorem Inv.track{X:Cx}{Kp:List (Addr×Obj)}{σ:St}{H:Hp}{s:Shared}{D:Addr}{o:HO}(I:Inv X Kp σ H s)(hn:H D=none)(h1:X.s₀.heap.objs.size<=D)(h2:D≠X.env.locals)(h3:∀x c,X.env.cells.lookup x=some c->c≠D)
  (h4:∀p∈X.pn++Kp,p.1≠D) (new:qw X.prog X.w (upd H D o) s.heap D o):Inv X Kp σ (upd H D o) s:=by
 have nd:∀b u,H b=some u->b≠D:=fun b u e z=>by rw[z,hn]at e;cases e
 have hok:HOk X.prog X.w (upd H D o) s.heap:=fun b u e=>by
  by_cases hb:b=D
  ·subst hb;rw[jr]at e;cases e;exact new
  ·rw[jn hb]at e
   exact(I.hok b u e).stay (fun _ _ _ q=>q) (fun c q=>by rw[jn (nd c _ q)];exact q) fun c xs q=>by rw[jn (nd c _ q)];exact q
 refine I.step (h':=s.heap) (g':=s.gens) (d':=s.drawn) (t':=s.toks) (ch:=[D]) (fun b hb=>?_) (fun b o _ _ _ e _=>e) (fun b o _ _ _ e _=>⟨o.slots,e⟩) (fun b o hc _ n=>?_) (fun b o _ e=>⟨o,e⟩) (fun b xs e=>by rw[jn (nd b _ e)];exact e)
  (fun b ob u e=>by rw[jn (nd b _ e)];exact e) (fun b ps e=>⟨#[],by rw[jn (nd b _ e),e];simp⟩) (fun m hm=>hm) hok I.bare
 ·have e:b=D:=by simpa using hb
  subst e;exact⟨.inr h1,h2,h3,h4⟩
 ·have e:b≠D:=by simpa using hc
  rw[jn e];exact n
theorem amS{X : Cx}{el tg src : Expr}{ts : List Expr}{sc : Scope}{ps : Pos}{wi : TI}{g : TG}{tt : TT}{te : TE}{N' : List Str}{cap : List (Option Nat)}(hc : X.calm = true)(hi : PI X tg src wi)(ok : CompOk X sc N' cap)
    (body : ∀cl C s0 H0 fp pn, PG (blk X N' sc cl C s0 H0 fp pn) tg g /\ PTs (blk X N' sc cl C s0 H0 fp pn) ts tt /\ PE (blk X N' sc cl C s0 H0 fp pn) el te)
    (hs : ∀x, foldedSetIterable src X.env x = pure x := by intro _;rfl) : PE X (.ListComp el [⟨tg, src, ts, 0⟩] sc ps) (aqm wi cap g tt te) := by
  intro Kp s σ H Q I h;have hfr : ∀x∈sc.names, x.2 = .free -> ∃c, X.env.cells.lookup x.1 = some c := fun x hx e => I.ok.has x.1 (ok.fr x hx e);have hcl := amP sc X.env hfr
  have clm : ∀x c, (Zn X.env sc.names []).lookup x = some c -> X.env.cells.lookup x = some c := fun x c e =>
    adj X.env sc.names [] hfr (fun _ z => nomatch z) (x, c) (PySem.mem_of_lookup e)
  generalize hgl : Zn X.env sc.names [] = cl at hcl clm;rw[eval_ListComp];refine wpAny_comprehension_free (use := none) rfl hs hcl ok.kind ok.nm ?_;refine thn (hi Kp s σ H _ I h) fun v s1 h1 => thn h1 fun itv s2 h2 => ?_;obtain⟨it, fp, tn, J, H2, e, I2, T, st2, f2, W, ⟨m0, w0⟩, turn⟩ := h2;subst e;refine wpAny_newObj_type (wpAny_newFunctionEnv ok.nc (by intro y hy;simp at hy) (fun h4 hns hsb => ?_) ok.kind);dsimp only at hns hsb ⊢;generalize hH3 : s2.heap.push { cls := .type "list", dict := none, data := .seq ([] : List Value).toArray } = h3 at hns hsb ⊢;have hC : h3.objs.size = s2.heap.objs.size + 1 := by rw[← hH3, Heap.size_push]
  generalize hCC : h3.objs.size = C at hns hsb hC ⊢;generalize hDD : s2.heap.objs.size = D at hC ⊢;have hDC : D≠C := by rw[hC];exact Nat.ne_of_lt (Nat.lt_succ_self _)
  have old : ∀b o, s2.heap.get? b = some o -> h4.get? b = some o := fun b o e => hsb.extBut b o (by have := Heap.lt_size e;rw[hDD]at this;rw[hC];exact Nat.ne_of_lt (Nat.lt_succ_of_lt this)) (Heap.get?_push_of_some _ (hH3▸Heap.get?_push_of_some _ e));have accO : h4.get? D = some { cls := .type "list", data := .seq ([] : List Value).toArray 0 } := hsb.extBut _ _ hDC (Heap.get?_push_of_some _ (by rw[← hH3, ← hDD];exact Heap.get?_push_size _ rfl));have H2D : H2 D = none := I2.hok.fresh (by rw[hDD];exact Nat.le_refl _);have H2C : H2 C = none := I2.hok.fresh (by rw[hDD, hC];exact Nat.le_succ _)
  have cellsLt : ∀x c, X.env.cells.lookup x = some c -> c<D := fun x c e => by
    obtain⟨v, q⟩ := I2.cell x c e;rw[← hDD];exact q.lt
  have pinLt : ∀p∈X.pn ++ Kp, p.1<D := fun p hp => by rw[← hDD];exact Heap.lt_size (I2.pin p hp).1
  have stkLt : ∀b∈frs X.stack, b<D := fun b hb => by
    obtain⟨_, o, ho, _⟩ := I2.stack.mem hb;rw[← hDD];exact Heap.lt_size ho
  have fpLt : ∀b∈fp, b<D := fun b hb => by
    obtain⟨o, ho, _⟩ := T.obj _ _ st2 b hb;rw[← hDD];exact Heap.lt_size ho
  have ltC : ∀{b : Addr}, b<D -> b≠C := fun hb => by rw[hC];exact Nat.ne_of_lt (Nat.lt_succ_of_lt hb)
  have locLt : X.env.locals<D := by rw[← hDD];exact I2.lt
  have hDge : s2.heap.objs.size <= D := by rw[hDD];exact Nat.le_refl _
  have hCge : s2.heap.objs.size <= C := by rw[hDD, hC];exact Nat.le_succ _
  have bok : (blk X N' sc cl C s2 H2 fp (X.pn ++ Kp)).Ok := by
    refine⟨I2.ok.mod, ok.kind, I2.ok.glob, I2.ok.blt, hCge, fun x y c e1 e2 => I2.ok.inj x y c (clm x c e1) (clm y c e2), fun x hx => ?_, fun x c z _ => ?_, I2.ok.hd, I2.ok.frames, .inl rfl, fun b hb => ?_, I2.bs, Nat.le_trans I2.ok.bsz I2.sz, fun b o e hb => ?_, fun b hb z => ?_, I2.stack, I2.stkFree⟩
    · have hx' : (relabel sc X.env).names.lookup x = some .cell∨(relabel sc X.env).names.lookup x = some .free := hx
      have hm : (x, NameKind.free)∈sc.names := by
        rcases hx' with z | z
        · exact aa1 (PySem.mem_of_lookup z) ok.nc (.inl rfl)
        · exact aa1 (PySem.mem_of_lookup z) ok.nc (.inr rfl)
      obtain⟨c, hc⟩ := aaq X.env sc.names [] x hm;rw[hgl]at hc;exact JA hc
    · exact absurd (show false = true from z) Bool.false_ne_true
    · exact⟨ltC (fpLt b hb), fun x c e => (f2 b hb).2.2.2.2.1 x c (clm x c e)⟩
    · rcases (f2 b hb).2.2.2.1 with z | z
      · exact I2.ok.noex b o e z
      · have := Heap.lt_size e
        exact absurd (Nat.lt_of_lt_of_le this (Nat.le_trans I2.ok.bsz z)) (Nat.lt_irrefl _)
    · rcases List.mem_cons.mp (I2.stkSub b z)with q | q
      · exact(f2 b hb).2.1 q
      · exact(f2 b hb).2.2.1 q
  have pinB : ∀p∈X.pn ++ Kp, p.1≠C /\ p.1∉frs X.stack := fun p hp => ⟨ltC (pinLt p hp), fun z => by
    rcases List.mem_cons.mp (I2.stkSub p.1 z) with q | q
    · exact (I2.pin p hp).2.2.1 q
    · exact (I2.pin p hp).2.2.2.1 q⟩
  have I4 : Inv (blk X N' sc cl C s2 H2 fp (X.pn ++ Kp)) [] (aft cap σ) H2 { s2 with heap := h4, toks := s2.toks + ([] : List (Str×Value)).length } := by
    refine⟨bok, rfl, I2.bare, Un.kept old, ⟨_, hns, fun j x v e1 e2 e3 => ?_⟩, fun x c e => ?_, H2C, fun x c e => I2.freeC x c (clm x c e), fun p hp => ?_, I2.hok.kept old, ?_⟩
    · unfold aft at e2
      rw[List.getElem?_map]at e2;cases e4 : cap[j]? with
      |none => rw[e4]at e2;cases e2
      | some o =>
        rw[e4]at e2;cases o with
        |none => cases e2
        | some i =>
          obtain⟨hNi, hf⟩ := ok.cp j i x e1 e4
          have e5 : (σ[i]?).join = some v := by
            have := Option.some.inj e2;simpa using this
          have e6 : σ[i]? = some (some v) := by
            cases e7 : σ[i]? with
            |none => rw[e7]at e5;cases e5
            | some z => rw[e7]at e5;cases z with
              |none => cases e5
              |some z => cases e5;rfl
          have hk := ok.fr (x, .free) (PySem.mem_of_lookup hf) rfl;obtain⟨m, hn, hl⟩ := I2.loc
          have hv : Vis X.env.scope x := by
            rcases hk with z | z
            · exact .inr (.inl z)
            · exact .inr (.inr z)
          obtain⟨u, r, lk⟩ := hl i x v hNi e6 hv
          have cellX : ∃c, X.env.cells.lookup x = some c /\ s2.heap.IsCell c (some u) := by
            rcases lk with ⟨k1, _⟩ | ⟨_, c, e, z⟩
            · rcases hk with z | z
              · have z' : X.env.kindOf x = some .cell := z
                rw[k1]at z';cases z'
              · have z' : X.env.kindOf x = some .free := z
                rw[k1]at z';cases z'
            · exact⟨c, e, z⟩
          obtain⟨c, hc1, ob, hc2, hc3⟩ := cellX;obtain⟨c', hc'⟩ := aaq X.env sc.names [] x (PySem.mem_of_lookup hf);rw[hgl]at hc';obtain⟨d, hd⟩ := JA hc'
          have ed : d = c := by
            have := clm x d hd;rw[hc1]at this;cases this;rfl
          subst ed;refine⟨u, r, .inr ⟨?_, d, hd, ob, old _ _ hc2, hc3⟩⟩;exact ZD hf
    · obtain⟨v, ob, ho, hd⟩ := I2.cell x c (clm x c e)
      exact⟨v, ob, old _ _ ho, hd⟩
    · have hp' : p∈X.pn ++ Kp := by simpa[blk]using hp
      obtain⟨e1, e2, e3, e4, e5⟩ := I2.pin p hp';exact⟨old _ _ e1, e2, (pinB p hp').1, (pinB p hp').2, e5⟩
    · show(aft cap σ).length = N'.length
      unfold aft;rw[List.length_map];exact ok.len
  have fpB : ∀{H' : Hp} {pl : List (Addr×Obj)}, (∀b∈fp, H' b = none) -> (∀p∈pl, p.1∉fp) -> ∀b∈fp, afi (blk X N' sc cl C s2 H2 fp (X.pn ++ Kp)) pl H' b := fun {H' pl} hn hpl b hb =>
    ⟨hn b hb, ltC (fpLt b hb), bok.exfs b hb, .inl hb, fun x c e => (f2 b hb).2.2.2.2.1 x c (clm x c e), fun p hp z => by
      rcases List.mem_append.mp (show p ∈ (X.pn ++ Kp) ++ pl from hp) with q | q
      · exact (f2 b hb).2.2.2.2.2 p q z
      · exact hpl p q (by rw [z]; exact hb)⟩
  have Dfp : ∀(o : Obj), ∀p∈[(D, o)], p.1∉fp := fun o p hp z => by
    have e : p = (D, o) := by simpa using hp
    subst e;exact Nat.lt_irrefl _ (fpLt D z)
  have Dfs : D∉frs X.stack := fun z => Nat.lt_irrefl _ (stkLt D z);obtain⟨bG, bT, bE⟩ := body cl C s2 H2 fp (X.pn ++ Kp)
  have loop : codeAny (model X.prog X.w) X.A (.compLoop (.ListComp el [⟨tg, src, ts, 0⟩] sc ps) 0 (.ref it) (.ref D) (compEnvC sc cl C X.env)) (compPost (model X.prog X.w) X.A X.xe none (EP X Kp σ Q) (.ref D) C)
      { s2 with heap := h4, toks := s2.toks + ([] : List (Str×Value)).length } := by
    refine ai2 (fun n s' => ∃i τ ys us k H', Inv (blk X N' sc cl C s2 H2 fp (X.pn ++ Kp)) [] τ H' s' /\ tn i s'.heap /\ (∀b∈fp, H' b = none) /\ jB ys us /\ s'.heap.get? D = some { cls := .type "list", data := .seq us.toArray k } /\ H' D = none /\ W i n τ ys H') ?_ m0
      ⟨0, _, [], [], 0, H2, I4, T.keep _ _ _ st2 (fun b _ o e => old b o e), fun b hb => (f2 b hb).1, .nil, accO, H2D, w0⟩
    rintro n s5 ⟨i, τ, ys, us, k, H5, I5, st5, fr5, rv5, ho5, hD5, w5⟩
    obtain⟨hsz, alt⟩ := turn i n τ ys H5 w5
    have I5p : Inv (blk X N' sc cl C s2 H2 fp (X.pn ++ Kp)) [(D, { cls := .type "list", data := .seq us.toArray k })] τ H5 s5 := I5.pins_of fun p hp => by
      have e : p = (D, { cls := .type "list", data := .seq us.toArray k }) := by simpa using hp
      subst e;exact⟨ho5, hD5, hDC, Dfs, fun v z => by cases z⟩
    rcases alt with ⟨stop, fin⟩ | ⟨go, step⟩
    · refine thn (T.done (blk X N' sc cl C s2 H2 fp (X.pn ++ Kp)) rfl rfl rfl hc i _ s5 τ H5 NoX I5p (fpB fr5 (Dfp _)) st5 stop) fun r s6 ⟨hr, I6⟩ => ?_
      subst hr;have ho6 := (I6.pin (D, _) (List.mem_append_right _ (List.mem_singleton.mpr rfl))).1;obtain⟨m6, hn6, _⟩ := I6.loc;refine⟨m6, hn6, fun h7 hs7 => ?_⟩;have J6 : Inv X Kp σ H5 s6 := I2.call' (ch := fp) I6.os I6.base I6.hok I6.bare fun b hb => ⟨(f2 b hb).2.2.2.1, (f2 b hb).2.1, (f2 b hb).2.2.2.2.1, (f2 b hb).2.2.2.2.2⟩;have H5C : H5 C = none := I6.free;have cne : ∀{b : Addr}, b<D -> b≠C := ltC;have J7 : Inv X Kp σ H5 { s6 with heap := h7, toks := s6.toks } := J6.turned (it := C) (fun b o hb e => hs7.extBut b o hb e) H5C (Ne.symm (ltC locLt)) (.inr (Nat.le_trans I2.sz hCge)) (fun x c e => ltC (cellsLt x c e)) (fun p hp => ltC (pinLt p hp));have ho7 : h7.get? D = some { cls := .type "list", data := .seq us.toArray k } := hs7.extBut D _ hDC ho6;refine⟨.ref D, upd H5 D (.lst ys), ?_, rfl, fin D hD5⟩;exact Inv.track J7 hD5 (Nat.le_trans I2.sz hDge) (Ne.symm (Nat.ne_of_lt locLt)) (fun x c e => Nat.ne_of_lt (cellsLt x c e)) (fun p hp => Nat.ne_of_lt (pinLt p hp)) ⟨Nat.le_of_lt hsz, us, k, rv5, ho7⟩
    · refine thn (T.item (blk X N' sc cl C s2 H2 fp (X.pn ++ Kp)) rfl rfl rfl hc i _ s5 τ H5 NoX I5p (fpB fr5 (Dfp _)) st5 go) fun r s6 ⟨u, hr, h6⟩ => ?_
      subst hr;refine thn h6 fun _ s7 ⟨x, H7, I7, r7, y7, st7, fr7⟩ => ?_;have I7p := I7.pinned (fpB fr7 (Dfp _)) (T.obj _ _ st7);refine thn (bG _ s7 τ H7 x u _ I7p r7 (step x H7 y7)) fun _ s8 ⟨τ8, H8, I8, q8⟩ => ?_
      have back : ∀{τ9 : St} {H9 : Hp} {s9 : Shared}, Inv (blk X N' sc cl C s2 H2 fp (X.pn ++ Kp)) ([(D, { cls := .type "list", data := .seq us.toArray k })] ++ abO fp s7.heap) τ9 H9 s9 ->
          tn (i + 1) s9.heap /\ (∀b∈fp, H9 b = none) /\ s9.heap.get? D = some { cls := .type "list", data := .seq us.toArray k } /\ H9 D = none := fun {τ9 H9 s9} I9 => by
        have pD := I9.pin (D, { cls := .type "list", data := .seq us.toArray k }) (List.mem_append_right _ (List.mem_append_left _ (List.mem_singleton.mpr rfl)));refine⟨T.keep _ _ _ st7 fun b hb o e => (I9.pin (b, o) (List.mem_append_right _ (List.mem_append_right _ (JZ hb e)))).1, fun b hb => ?_, pD.1, pD.2.1⟩;obtain⟨o, e, _⟩ := T.obj _ _ st7 b hb;exact(I9.pin (b, o) (List.mem_append_right _ (List.mem_append_right _ (JZ hb e)))).2.1
      have drop : ∀{τ9 : St} {H9 : Hp} {s9 : Shared} {pl : List (Addr×Obj)}, Inv (blk X N' sc cl C s2 H2 fp (X.pn ++ Kp)) pl τ9 H9 s9 -> Inv (blk X N' sc cl C s2 H2 fp (X.pn ++ Kp)) [] τ9 H9 s9 := fun I9 => I9.pins_of fun p hp => nomatch hp
      refine thn (bT _ s8 τ8 H8 _ I8 q8) fun b s9 ⟨H9, I9, q9⟩ => ?_;cases b with
      | false =>
        rw[if_neg Bool.false_ne_true]at q9 ⊢;obtain⟨m', hm, w9⟩ := q9;obtain⟨t9, f9, o9, d9⟩ := back I9;exact⟨m', hm, i + 1, τ8, ys, us, k, H9, drop I9, t9, f9, rv5, o9, d9, w9⟩
      | true =>
        rw[if_pos rfl]at q9 ⊢;refine thn (bE _ s9 τ8 H9 _ I9 q9) fun y s10 ⟨z, H10, I10, r10, q10⟩ => ?_;obtain⟨m', hm, w10⟩ := q10;obtain⟨t10, f10, o10, d10⟩ := back I10;have hl := rv5.length;refine append_at (hsz := by show us.toArray.size <= sizeLine;rw[List.size_toArray, ← hl];exact Nat.le_of_lt hsz) o10 fun h11 hs11 hD11 => ?_
        have I11 : Inv (blk X N' sc cl C s2 H2 fp (X.pn ++ Kp)) [] τ8 H10 { s10 with heap := h11, toks := s10.toks } := (drop I10).turned (it := D) (fun b o hb e => hs11.extBut b o hb e) d10 hDC (.inr hDge) (fun x c e => Nat.ne_of_lt (cellsLt x c (clm x c e)))
          (fun p hp => by have hp' : p∈X.pn ++ Kp := by simpa[blk]using hp
                          exact Nat.ne_of_lt (pinLt p hp'))
        refine⟨m', hm, i + 1, τ8, ys ++ [z], us ++ [y], k + 1, H10, I11, T.keep _ _ _ t10 (fun b hb o e => hs11.extBut b o (Nat.ne_of_lt (fpLt b hb)) e), f10, rv5.append (.cons r10 .nil), ?_, d10, w10⟩;rw[hD11];simp
  refine codeAny_compStart_list loop ?_;exact T.self _ 0 _ _ _ (T.keep _ _ _ st2 (fun b _ o e => old b o e)) loop
theorem jm.tup{K:Fg}{H H':Hp}{a:Addr}{xs:List V}(e:jm H H')(h:SqT K H a xs):SqT K H' a xs:=by
 rcases h with (h | ⟨o,h⟩) | h
 ·exact .inl (.inl (e _ _ h))
 ·exact .inl (.inr ⟨o,e _ _ h⟩)
 ·exact .inr h
noncomputable def scr(ns:List Int):PyData:= .dict (ns.map fun n=>(.int n,.none))
noncomputable def afu:Key->PyData
 |.inl i=> .int i
 |.inr t=> .str t
mutual
noncomputable def Rep(K:Fg)(H:Hp):PyData->V->Prop
 |.none,v=>v= .non
 |.bool b,v=>v= .bl b
 |.int i,v=>v= .int i
 |.str x,v=>v= .str x
 |.tuple ds,v=>∃a xs,v= .ref a/\SqT K H a xs/\Reps K H ds xs
 |.list ds,v=>∃a xs,v= .ref a/\H a=some (.lst xs)/\Reps K H ds xs
 |.dict kvs,v=>∃a,v= .ref a/\((∃ns:List Int,SqL K H a (List.map V.int ns)/\kvs=ns.map (fun n=>(PyData.int n,PyData.none)))∨(∃ks ob,H a=some (.frz ob (.dK ks))/\RepD K H kvs ks)∨(∃x:Str,kvs=[(.str x,.none)]/\PySem.W.nsIn K mainGlobals x=some (some (.ref a)))∨(∃(x:Str) (C:Addr) (oe:Obj),kvs=[(.str x,.bool true)]/\H a=some (.frz oe (.own a))/\PySem.W.nsIn K mainGlobals x=some (some (.ref C))/\oe.cls= .ref C/\oe.dict=none/\∃vs,oe.data= .fields vs)∨kvs=[(.bool true,.int (a:Int))])
noncomputable def Reps(K:Fg)(H:Hp):LP->List V->Prop
 | [],xs=>xs=[]
 |d::ds,xs=>∃x r,xs=x::r/\Rep K H d x/\Reps K H ds r
noncomputable def RepD(K:Fg)(H:Hp):List (PyData×PyData)->List (Key×V)->Prop
 | [],_=>False
 | (.none,_)::r,ks=>RepM K H r ks
 |_::_,_=>False
noncomputable def RepM(K:Fg)(H:Hp):List (PyData×PyData)->List (Key×V)->Prop
 | [],ks=>ks=[]
 | (k,d)::r,ks=>∃i x s,k=afu i/\ks=(i,x)::s/\Rep K H d x/\RepM K H r s
end
noncomputable def zv(kvs:List (PyData×PyData)):Bool:=kvs.all fun p=>match p with
 | (.int _,.none)=>true
 |_=>false
theorem adk(ns:List Int):zv (ns.map fun n=>(PyData.int n,PyData.none))=true:=by
 simp[zv]
theorem RepD.out{K:Fg}{H:Hp}:∀{kvs:List (PyData×PyData)}{ks:List (Key×V)},RepD K H kvs ks->∃c r,kvs=(.none,c)::r/\RepM K H r ks
 | [],_,h=>h.elim
 | (.none,c)::r,ks,h=>⟨c,r,rfl,h⟩
 | (.bool _,_)::_,_,h=>h.elim
 | (.int _,_)::_,_,h=>h.elim
 | (.str _,_)::_,_,h=>h.elim
 | (.list _,_)::_,_,h=>h.elim
 | (.tuple _,_)::_,_,h=>h.elim
 | (.dict _,_)::_,_,h=>h.elim
theorem Rep.scrOut{K:Fg}{H:Hp}{kvs:List (PyData×PyData)}{v:V}(h:Rep K H (.dict kvs) v)(hs:zv kvs=true):∃a ns,v= .ref a/\SqL K H a (List.map V.int ns)/\kvs=ns.map (fun n=>(PyData.int n,PyData.none)):=by
 obtain⟨a,h1,h2 | ⟨ks,ob,h2,h3⟩ | ⟨x,h2,_⟩ | ⟨x,_,_,h2,_⟩ | h2⟩:=h
 ·obtain⟨ns,q1,q2⟩:=h2;exact⟨a,ns,h1,q1,q2⟩
 ·obtain⟨c,r,rfl,_⟩:=h3.out
  simp[zv]at hs
 ·subst h2;simp[zv]at hs
 ·subst h2;simp[zv]at hs
 ·subst h2;simp[zv]at hs
noncomputable def arm(a:Addr):PyData:= .dict [(.bool true,.int (a:Int))]
noncomputable def arn(x:Str):PyData:= .dict [(.str x,.bool true)]
noncomputable def fnD(x:Str):PyData:= .dict [(.str x,.none)]
noncomputable def jR(H H':Hp):Prop:=∀b o,H b=some o->(∀φ,o ≠ .ext φ)->H' b=some o
theorem jm.e{H H':Hp}(s:jm H H'):jR H H':=fun b o h _=>s b o h
theorem jR.refl(H:Hp):jR H H:=fun _ _ h _=>h
theorem jR.trans{H H1 H2:Hp}(a:jR H H1)(b:jR H1 H2):jR H H2:=fun c o h n=>b c o (a c o h n) n
theorem jR.tup{K:Fg}{H H':Hp}{a:Addr}{xs:List V}(e:jR H H')(h:SqT K H a xs):SqT K H' a xs:=by
 rcases h with (h | ⟨o,h⟩) | h
 ·exact .inl (.inl (e _ _ h fun _ z=>nomatch z))
 ·exact .inl (.inr ⟨o,e _ _ h fun _ z=>nomatch z⟩)
 ·exact .inr h
theorem jR.sql{K:Fg}{H H':Hp}{a:Addr}{xs:List V}(e:jR H H')(h:SqL K H a xs):SqL K H' a xs:=by
 rcases h with (h | ⟨o,h⟩) | h
 ·exact .inl (.inl (e _ _ h fun _ z=>nomatch z))
 ·exact .inl (.inr ⟨o,e _ _ h fun _ z=>nomatch z⟩)
 ·exact .inr h
section
variable {K:Fg}{H H':Hp}
mutual
theorem Rep.mono(e:jm H H'):∀(d:PyData) (v:V),Rep K H d v->Rep K H' d v
 |.none,v,h=>h
 |.bool _,v,h=>h
 |.int _,v,h=>h
 |.str _,v,h=>h
 |.tuple ds,v,⟨a,xs,h1,h2,h3⟩=>⟨a,xs,h1,jm.tup e h2,Reps.mono e ds xs h3⟩
 |.list ds,v,⟨a,xs,h1,h2,h3⟩=>⟨a,xs,h1,e _ _ h2,Reps.mono e ds xs h3⟩
 |.dict kvs,v,⟨a,h1,h2⟩=>⟨a,h1,h2.imp (fun⟨ns,q1,q2⟩=>⟨ns,e.seq q1,q2⟩) fun z=>z.imp (fun⟨ks,ob,q1,q2⟩=>⟨ks,ob,e _ _ q1,RepD.mono e kvs ks q2⟩) fun y=>y.imp id fun z=>z.imp (fun⟨x,C,oe,q1,q2,q3⟩=>⟨x,C,oe,q1,e _ _ q2,q3⟩) id⟩
theorem Reps.mono(e:jm H H'):∀(ds:LP) (xs:List V),Reps K H ds xs->Reps K H' ds xs
 | [],xs,h=>h
 |d::ds,xs,⟨x,r,h1,h2,h3⟩=>⟨x,r,h1,Rep.mono e d x h2,Reps.mono e ds r h3⟩
theorem RepD.mono(e:jm H H'):∀(kvs:List (PyData×PyData)) (ks:List (Key×V)),RepD K H kvs ks->RepD K H' kvs ks
 | [],_,h=>h
 | (.none,c)::r,ks,h=>RepM.mono e r ks h
 | (.bool _,_)::_,_,h=>h
 | (.int _,_)::_,_,h=>h
 | (.str _,_)::_,_,h=>h
 | (.list _,_)::_,_,h=>h
 | (.tuple _,_)::_,_,h=>h
 | (.dict _,_)::_,_,h=>h
theorem RepM.mono(e:jm H H'):∀(kvs:List (PyData×PyData)) (ks:List (Key×V)),RepM K H kvs ks->RepM K H' kvs ks
 | [],_,h=>h
 | (k,d)::r,ks,⟨i,x,s,h1,h2,h3,h4⟩=>⟨i,x,s,h1,h2,Rep.mono e d x h3,RepM.mono e r s h4⟩
end
mutual
theorem Rep.monoE(e:jR H H'):∀(d:PyData) (v:V),Rep K H d v->Rep K H' d v
 |.none,v,h=>h
 |.bool _,v,h=>h
 |.int _,v,h=>h
 |.str _,v,h=>h
 |.tuple ds,v,⟨a,xs,h1,h2,h3⟩=>⟨a,xs,h1,jR.tup e h2,Reps.monoE e ds xs h3⟩
 |.list ds,v,⟨a,xs,h1,h2,h3⟩=>⟨a,xs,h1,e _ _ h2 (fun _ z=>nomatch z),Reps.monoE e ds xs h3⟩
 |.dict kvs,v,⟨a,h1,h2⟩=>⟨a,h1,h2.imp (fun⟨ns,q1,q2⟩=>⟨ns,jR.sql e q1,q2⟩) fun z=>z.imp (fun⟨ks,ob,q1,q2⟩=>⟨ks,ob,e _ _ q1 (fun _ z=>nomatch z),RepD.monoE e kvs ks q2⟩) fun y=>y.imp id fun z=>z.imp (fun⟨x,C,oe,q1,q2,q3⟩=>⟨x,C,oe,q1,e _ _ q2 (fun _ z=>nomatch z),q3⟩) id⟩
theorem Reps.monoE(e:jR H H'):∀(ds:LP) (xs:List V),Reps K H ds xs->Reps K H' ds xs
 | [],xs,h=>h
 |d::ds,xs,⟨x,r,h1,h2,h3⟩=>⟨x,r,h1,Rep.monoE e d x h2,Reps.monoE e ds r h3⟩
theorem RepD.monoE(e:jR H H'):∀(kvs:List (PyData×PyData)) (ks:List (Key×V)),RepD K H kvs ks->RepD K H' kvs ks
 | [],_,h=>h
 | (.none,c)::r,ks,h=>RepM.monoE e r ks h
 | (.bool _,_)::_,_,h=>h
 | (.int _,_)::_,_,h=>h
 | (.str _,_)::_,_,h=>h
 | (.list _,_)::_,_,h=>h
 | (.tuple _,_)::_,_,h=>h
 | (.dict _,_)::_,_,h=>h
theorem RepM.monoE(e:jR H H'):∀(kvs:List (PyData×PyData)) (ks:List (Key×V)),RepM K H kvs ks->RepM K H' kvs ks
 | [],_,h=>h
 | (k,d)::r,ks,⟨i,x,s,h1,h2,h3,h4⟩=>⟨i,x,s,h1,h2,Rep.monoE e d x h3,RepM.monoE e r s h4⟩
end
end
noncomputable def aqn:HO->Bool
 |.lst _=>true
 |.tup _=>true
 |.frz _ _=>true
 |_=>false
noncomputable def j6(H H':Hp):Prop:=∀b o,H b=some o->aqn o=true->H' b=some o
section
variable {K:Fg}{H H':Hp}
theorem j6.tup{a:Addr}{xs:List V}(e:j6 H H')(h:SqT K H a xs):SqT K H' a xs:=by
 rcases h with (h | ⟨o,h⟩) | h
 ·exact .inl (.inl (e _ _ h rfl))
 ·exact .inl (.inr ⟨o,e _ _ h rfl⟩)
 ·exact .inr h
theorem j6.sql{a:Addr}{xs:List V}(e:j6 H H')(h:SqL K H a xs):SqL K H' a xs:=by
 rcases h with (h | ⟨o,h⟩) | h
 ·exact .inl (.inl (e _ _ h rfl))
 ·exact .inl (.inr ⟨o,e _ _ h rfl⟩)
 ·exact .inr h
mutual
theorem Rep.monoA(e:j6 H H'):∀(d:PyData) (v:V),Rep K H d v->Rep K H' d v
 |.none,v,h=>h
 |.bool _,v,h=>h
 |.int _,v,h=>h
 |.str _,v,h=>h
 |.tuple ds,v,⟨a,xs,h1,h2,h3⟩=>⟨a,xs,h1,j6.tup e h2,Reps.monoA e ds xs h3⟩
 |.list ds,v,⟨a,xs,h1,h2,h3⟩=>⟨a,xs,h1,e _ _ h2 rfl,Reps.monoA e ds xs h3⟩
 |.dict kvs,v,⟨a,h1,h2⟩=>⟨a,h1,h2.imp (fun⟨ns,q1,q2⟩=>⟨ns,j6.sql e q1,q2⟩) fun z=>z.imp (fun⟨ks,ob,q1,q2⟩=>⟨ks,ob,e _ _ q1 rfl,RepD.monoA e kvs ks q2⟩) fun y=>y.imp id fun z=>z.imp (fun⟨x,C,oe,q1,q2,q3⟩=>⟨x,C,oe,q1,e _ _ q2 rfl,q3⟩) id⟩
theorem Reps.monoA(e:j6 H H'):∀(ds:LP) (xs:List V),Reps K H ds xs->Reps K H' ds xs
 | [],xs,h=>h
 |d::ds,xs,⟨x,r,h1,h2,h3⟩=>⟨x,r,h1,Rep.monoA e d x h2,Reps.monoA e ds r h3⟩
theorem RepD.monoA(e:j6 H H'):∀(kvs:List (PyData×PyData)) (ks:List (Key×V)),RepD K H kvs ks->RepD K H' kvs ks
 | [],_,h=>h
 | (.none,c)::r,ks,h=>RepM.monoA e r ks h
 | (.bool _,_)::_,_,h=>h
 | (.int _,_)::_,_,h=>h
 | (.str _,_)::_,_,h=>h
 | (.list _,_)::_,_,h=>h
 | (.tuple _,_)::_,_,h=>h
 | (.dict _,_)::_,_,h=>h
theorem RepM.monoA(e:j6 H H'):∀(kvs:List (PyData×PyData)) (ks:List (Key×V)),RepM K H kvs ks->RepM K H' kvs ks
 | [],_,h=>h
 | (k,d)::r,ks,⟨i,x,s,h1,h2,h3,h4⟩=>⟨i,x,s,h1,h2,Rep.monoA e d x h3,RepM.monoA e r s h4⟩
end
end
theorem jm.a{H H':Hp}(s:jm H H'):j6 H H':=fun b o h _=>s b o h
theorem jR.a{H H':Hp}(s:jR H H'):j6 H H':=fun b o h q=>s b o h fun φ z=>by subst z;cases q
theorem j6.refl(H:Hp):j6 H H:=fun _ _ h _=>h
theorem j6.trans{H H1 H2:Hp}(a:j6 H H1)(b:j6 H1 H2):j6 H H2:=fun c o h n=>b c o (a c o h n) n
section
variable {K:Fg}{H H':Hp}
theorem Rep.cel(a:Addr):Rep K H (arm a) (.ref a):=⟨a,rfl,.inr (.inr (.inr (.inr rfl)))⟩
theorem Reps.length:∀{ds:LP}{xs:List V},Reps K H ds xs->xs.length=ds.length
 | [],xs,h=>by cases h;rfl
 |d::ds,xs,⟨x,r,h1,h2,h3⟩=>by subst h1;simp[Reps.length h3]
theorem Reps.get:∀{ds:LP}{xs:List V}{i:Nat}{d:PyData},Reps K H ds xs->ds[i]?=some d->∃x,xs[i]?=some x/\Rep K H d x
 | [],xs,i,d,h,e=>by simp at e
 |c::ds,xs,0,d,⟨x,r,h1,h2,h3⟩,e=>by subst h1;simp at e;subst e;exact⟨x,rfl,h2⟩
 | c::ds,xs,i+1,d,⟨x,r,h1,h2,h3⟩,e=>by
  subst h1;obtain⟨y,e1,e2⟩:=Reps.get (i:=i) h3 (by simpa using e);exact⟨y,by simpa using e1,e2⟩
theorem Reps.append:∀{ds es:LP}{xs ys:List V},Reps K H ds xs->Reps K H es ys->Reps K H (ds++es) (xs++ys)
 | [],es,xs,ys,h,g=>by cases h;exact g
 |d::ds,es,xs,ys,⟨x,r,h1,h2,h3⟩,g=>by subst h1;exact⟨x,r++ys,rfl,h2,Reps.append h3 g⟩
theorem Reps.take:∀{ds:LP}{xs:List V} (n:Nat),Reps K H ds xs->Reps K H (ds.take n) (xs.take n)
 |ds,xs,0,h=>by simp;rfl
 | [],xs,n+1,h=>by cases h;rfl
 |d::ds,xs,n+1,⟨x,r,h1,h2,h3⟩=>by subst h1;exact⟨x,_,rfl,h2,Reps.take n h3⟩
theorem Reps.drop:∀{ds:LP}{xs:List V} (n:Nat),Reps K H ds xs->Reps K H (ds.drop n) (xs.drop n)
 |ds,xs,0,h=>by simpa using h
 | [],xs,n+1,h=>by cases h;rfl
 |d::ds,xs,n+1,⟨x,r,h1,h2,h3⟩=>by subst h1;simpa using Reps.drop n h3
theorem Reps.ints:∀{ns:List Int}{xs:List V},Reps K H (ns.map PyData.int) xs->xs=ns.map V.int
 | [],xs,h=>h
 |n::ns,xs,⟨x,r,h1,h2,h3⟩=>by subst h1;cases (show x=V.int n from h2);rw[Reps.ints h3];rfl
end
section
variable {X:Cx}{Kp:List (Addr×Obj)}{σ:St}{H:Hp}{s:Shared}
mutual
theorem qB(I:Inv X Kp σ H s):∀(d:PyData) (v:V) (u:Value),Rep X.K H d v->jK v u->d.canLay0=true->∃as,Reads s.heap u d as
 |.none,v,u,h,r,_=>by cases h;cases r;exact⟨_,.none⟩
 |.bool b,v,u,h,r,_=>by cases h;cases r;exact⟨_,.bool b⟩
 |.int i,v,u,h,r,_=>by cases h;obtain⟨t,rfl⟩:=r;exact⟨_,.int i t⟩
 |.str x,v,u,h,r,_=>by cases h;obtain⟨t,rfl⟩:=r;exact⟨_,.str x t⟩
 | .tuple ds,v,u,⟨a,xs,h1,h2,h3⟩,r,hc=>by
  subst h1;cases r;obtain⟨its,rv,⟨o,e1,e2,n,e3⟩,_⟩:=I.tuple h2;obtain⟨as,ra⟩:=readsAll_of I ds xs its h3 rv (by simpa[PyData.canLay0]using hc);exact⟨as,.tuple e1 e2 e3 (by simpa using ra)⟩
 | .list ds,v,u,⟨a,xs,h1,h2,h3⟩,r,hc=>by
  subst h1;cases r;obtain⟨its,rv,⟨o,n,e1,e2,e3,e4⟩,_⟩:=I.list (SqL.of h2);obtain⟨as,ra⟩:=readsAll_of I ds xs its h3 rv (by simpa[PyData.canLay0]using hc);exact⟨a::as,.list e1 e2 e4 (by simpa using ra)⟩
 |.dict kvs,v,u,h,r,hc=>by simp[PyData.canLay0]at hc
theorem readsAll_of(I:Inv X Kp σ H s):∀(ds:LP) (xs:List V) (us:List Value),Reps X.K H ds xs->jB xs us->PyData.canLayAll0 ds=true->∃as,ReadsAll s.heap us ds as
 | [],xs,us,h,r,_=>by cases h;cases r;exact⟨_,.nil⟩
 | d::ds,xs,us,⟨x,q,h1,h2,h3⟩,r,hc=>by
  subst h1;cases r with
  | cons r1 r2=>
   have hc':d.canLay0=true/\PyData.canLayAll0 ds=true:=by simpa[PyData.canLayAll0]using hc
   obtain⟨as,ra⟩:=qB I d x _ h2 r1 hc'.1;obtain⟨bs,rb⟩:=readsAll_of I ds q _ h3 r2 hc'.2;exact⟨_,.cons ra rb⟩
end
end
noncomputable abbrev Rho:=List (OP)
abbrev RP:=Rho->OP
structure EnvR(K:Fg)(H:Hp)(ρ:Rho)(σ:St):Prop where
 len:ρ.length=σ.length
 at':∀(i:Nat) (d:PyData),ρ[i]?=some (some d)->∃v,σ[i]?=some (some v)/\Rep K H d v
theorem EnvR.mono{K:Fg}{H H':Hp}{ρ:Rho}{σ:St}(e:EnvR K H ρ σ)(h:jm H H'):EnvR K H' ρ σ:=
 ⟨e.len,fun i d q=>let ⟨v,e1,e2⟩:=e.at' i d q;⟨v,e1,Rep.mono h d v e2⟩⟩
theorem EnvR.set{K:Fg}{H:Hp}{ρ:Rho}{σ:St}(e:EnvR K H ρ σ){i:Nat}{d:PyData}{v:V}(r:Rep K H d v):EnvR K H (ρ.set i (some d)) (σ.set i (some v)):=by
 refine⟨by simp[e.len],fun j c q=>?_⟩;by_cases hj:i=j
 ·subst hj
  rw[List.getElem?_set]at q ⊢;simp only[zzM]at q ⊢;by_cases hl:i < ρ.length
  ·rw[if_pos hl]at q
   rw[if_pos (by rw[←e.len];exact hl)];cases q;exact⟨v,rfl,r⟩
  ·rw[if_neg hl]at q;cases q
 ·rw[List.getElem?_set_ne hj]at q ⊢
  exact e.at' j c q
noncomputable def lkp(i:Nat)(ρ:Rho):OP:=(ρ[i]?).join
theorem qP{i:Nat}{ρ:Rho}{d:PyData}(h:lkp i ρ=some d):ρ[i]?=some (some d):=by
 unfold lkp at h;cases e:ρ[i]? with
 |none=>rw[e]at h;cases h
 | some o=>rw[e]at h;cases o with
  |none=>cases h
  |some c=>cases h;rfl
noncomputable def tD(K:Fg)(f:RP):TE:=fun σ H Q=>∃ρ d,EnvR K H ρ σ/\f ρ=some d/\∀v H',jm H H'->Rep K H' d v->Q v H'
@[irreducible] noncomputable def PD(X:Cx)(e:Expr)(f:RP):Prop:=PE X e (tD X.K f)
noncomputable def tDT(K:Fg)(f:Rho->Option Bool):TT:=fun σ H Q=>∃ρ b,EnvR K H ρ σ/\f ρ=some b/\∀H',jm H H'->Q b H'
@[irreducible] noncomputable def PTD(X:Cx)(e:Expr)(f:Rho->Option Bool):Prop:=PT X e (tDT X.K f)
noncomputable def tDA(K:Fg)(f:Rho->Option (LP)):TA:=fun σ H Q=>∃ρ ds,EnvR K H ρ σ/\f ρ=some ds/\∀vs H',jm H H'->Reps K H' ds vs->Q vs H'
@[irreducible] noncomputable def PAD(X:Cx)(es:List Expr)(f:Rho->Option (LP)):Prop:=PA X es (tDA X.K f)
inductive Out where
 |nx (ρ:Rho) | rt (d:PyData) | bk (ρ:Rho) | ct (ρ:Rho)
abbrev RO:=Rho->Option Out
noncomputable def ahW(K:Fg)(D:Ends)(H:Hp):Out->Prop
 |.nx ρ=>∀σ H',jm H H'->EnvR K H' ρ σ->D.nx σ H'
 |.rt d=>∀v H',jm H H'->Rep K H' d v->D.rt v H'
 |.bk ρ=>∀σ H',jm H H'->EnvR K H' ρ σ->D.bk σ H'
 |.ct ρ=>∀σ H',jm H H'->EnvR K H' ρ σ->D.ct σ H'
theorem ahW.mono{K:Fg}{D:Ends}{H H':Hp}{o:Out}(h:ahW K D H o)(e:jm H H'):ahW K D H' o:=by
 cases o with
 |nx ρ=>exact fun σ H2 e2 r=>h σ H2 (e.trans e2) r
 |rt d=>exact fun v H2 e2 r=>h v H2 (e.trans e2) r
 |bk ρ=>exact fun σ H2 e2 r=>h σ H2 (e.trans e2) r
 |ct ρ=>exact fun σ H2 e2 r=>h σ H2 (e.trans e2) r
noncomputable def tDS(K:Fg)(F:RO):TS:=fun D σ H=>∃ρ o,EnvR K H ρ σ/\F ρ=some o/\ahW K D H o
@[irreducible] noncomputable def PSD(X:Cx)(st:Stmt)(F:RO):Prop:=PS X st (tDS X.K F)
@[irreducible] noncomputable def ZE(X:Cx)(st:List Stmt)(F:RO):Prop:=PSs X st (tDS X.K F)
noncomputable def tDG(K:Fg)(ga:PyData->Rho->Option Rho):TG:=fun v σ H Q=>∃ρ d ρ',EnvR K H ρ σ/\Rep K H d v/\ga d ρ=some ρ'/\∀σ' H',jm H H'->EnvR K H' ρ' σ'->Q σ' H'
@[irreducible] noncomputable def PGD(X:Cx)(tg:Expr)(ga:PyData->Rho->Option Rho):Prop:=PG X tg (tDG X.K ga)
section
variable {X:Cx}{e a b c:Expr}{es:List Expr}{fa fb fc:RP}{pos:Pos}
theorem PE.imp{t t':TE}(h:PE X e t)(hi:∀σ H Q,t' σ H Q->t σ H Q):PE X e t':=fun Kp s σ H Q I q=>h Kp s σ H Q I (hi σ H Q q)
theorem PT.imp{t t':TT}(h:PT X e t)(hi:∀σ H Q,t' σ H Q->t σ H Q):PT X e t':=fun Kp s σ H Q I q=>h Kp s σ H Q I (hi σ H Q q)
theorem PA.imp{t t':TA}(h:PA X es t)(hi:∀σ H Q,t' σ H Q->t σ H Q):PA X es t':=fun pos Kp s σ H Q I q=>h pos Kp s σ H Q I (hi σ H Q q)
theorem PS.imp{st:Stmt}{t t':TS}(h:PS X st t)(hi:∀D σ H,t' D σ H->t D σ H):PS X st t':=fun Kp s σ H D I q=>h Kp s σ H D I (hi D σ H q)
theorem PSs.imp{st:List Stmt}{t t':TS}(h:PSs X st t)(hi:∀D σ H,t' D σ H->t D σ H):PSs X st t':=fun Kp s σ H D I q=>h Kp s σ H D I (hi D σ H q)
theorem PG.imp{t t':TG}(h:PG X e t)(hi:∀v σ H Q,t' v σ H Q->t v σ H Q):PG X e t':=fun Kp s σ H v u Q I r q=>h Kp s σ H v u Q I r (hi v σ H Q q)
theorem jb(i:Nat){x:Str}{pos:Pos}(hN:X.N[i]?=some x:=by rfl)(hv:Vis X.env.scope x:=by first|exact Or.inl rfl|exact Or.inr (Or.inl rfl)|exact Or.inr (Or.inr rfl))(hd:(x==("__debug__":Str))=false:=by decide)
  (hcd:(x==("__classdict__":Str))=false:=by decide):PD X (.Name x pos) (lkp i):=by
 with_unfolding_all exact(PE.imp (abN hN hv hd hcd) fun σ H Q ⟨ρ,d,e,h,k⟩=>let ⟨v,e1,e2⟩:=e.at' i d (qP h);⟨v,e1,k v H (jm.refl H) e2⟩)
noncomputable def cst(d:PyData)(_:Rho):OP:=some d
theorem ji{i j pos}:PD X (.Constant (.int i) j pos) (cst (.int i)):=by
 with_unfolding_all exact(PE.imp aot fun σ H Q ⟨ρ,d,e,h,k⟩=>by cases h;exact k _ H (jm.refl H) rfl)
theorem zK{i j pos}:PD X (.Constant (.bool i) j pos) (cst (.bool i)):=by
 with_unfolding_all exact(PE.imp apV fun σ H Q ⟨ρ,d,e,h,k⟩=>by cases h;exact k _ H (jm.refl H) rfl)
theorem agL{j pos}:PD X (.Constant .none j pos) (cst .none):=by
 with_unfolding_all exact(PE.imp aj6 fun σ H Q ⟨ρ,d,e,h,k⟩=>by cases h;exact k _ H (jm.refl H) rfl)
theorem ao0{i j pos}:PD X (.Constant (.str i) j pos) (cst (.str i)):=by
 with_unfolding_all exact(PE.imp aj7 fun σ H Q ⟨ρ,d,e,h,k⟩=>by cases h;exact k _ H (jm.refl H) rfl)
theorem amT{x:Str}{v:V}{u:Value}{d:PyData}(hg:Gl X x)(hm:X.mg x=some u)(r:jK v u)(hr:∀H,Rep X.K H d v)(hd:(x==("__debug__":Str))=false:=by decide):PD X (.Name x pos) (cst d):=by
 with_unfolding_all exact(PE.imp (ad4 hg hm r hd) fun σ H Q ⟨ρ,d',e,h,k⟩=>by cases h;exact k _ H (jm.refl H) (hr H))
noncomputable def op2(g:PyData->PyData->OP)(fa fb:RP):RP:=fun ρ=>(fa ρ).bind fun x=>(fb ρ).bind fun y=>g x y
noncomputable def OpD(X:Cx)(f:Value->Value->Sem Value)(g:PyData->PyData->OP):Prop:=
 ∃r,OpR X f r/\∀p q d x y H Q,g p q=some d->Rep X.K H p x->Rep X.K H q y->(∀v H',jm H H'->Rep X.K H' d v->Q v H')->r x y H Q
theorem amU{g:PyData->PyData->OP}{K:Fg}{r:R2}(hr:∀p q d x y H Q,g p q=some d->Rep K H p x->Rep K H q y->(∀v H',jm H H'->Rep K H' d v->Q v H')->r x y H Q)
  {σ:St} {H:Hp} {Q:VK} (h:tD K (op2 g fa fb) σ H Q):tOp r (tD K fa) (tD K fb) σ H Q:=by
 obtain⟨ρ,d,e,h,k⟩:=h;unfold op2 at h;cases ha:fa ρ with
 |none=>rw[ha]at h;cases h
 | some p=>
  rw[ha]at h;cases hb:fb ρ with
  |none=>rw[hb]at h;cases h
  | some q=>
   rw[hb]at h;refine⟨ρ,p,e,ha,fun x H1 s1 r1=>⟨ρ,q,e.mono s1,hb,fun y H2 s2 r2=>?_⟩⟩;exact hr p q d x y H2 Q h (Rep.mono s2 p x r1) r2 fun v H' s3 r3=>k v H' (s1.trans (s2.trans s3)) r3
theorem jo{op:Operator}{g:PyData->PyData->OP}(ho:OpD X (binaryOp op) g)(ha:PD X a fa)(hb:PD X b fb):PD X (.BinOp a op b pos) (op2 g fa fb):=by
 with_unfolding_all
  obtain⟨r,h1,h2⟩:=ho;exact PE.imp (ap5 h1 ha hb) fun σ H Q h=>amU h2 h
theorem agM{op:CmpOp}{g:PyData->PyData->OP}(ho:OpD X (compareOp op) g)(ha:PD X a fa)(hb:PD X b fb)(hm:behindInMarks op b=false:=by first|exact akd _ | with_unfolding_all rfl):PD X (.Compare a [op] [b] pos) (op2 g fa fb):=by
 with_unfolding_all
  obtain⟨r,h1,h2⟩:=ho;exact PE.imp (amB h1 ha hb hm) fun σ H Q h=>amU h2 h
noncomputable def asB:PyData->Option Bool
 |.bool b=>some b
 |_=>none
noncomputable def tst(f:RP):Rho->Option Bool:=fun ρ=>(f ρ).bind asB
theorem JG{d:PyData}{b:Bool}(h:asB d=some b):d= .bool b:=by
 cases d<;>simp[asB]at h
 rw[h]
theorem jQ{op:CmpOp}{g:PyData->PyData->OP}(ho:OpD X (compareOp op) g)(ha:PD X a fa)(hb:PD X b fb)(hm:behindInMarks op b=false:=by first|exact akd _ | with_unfolding_all rfl):PTD X (.Compare a [op] [b] pos) (tst (op2 g fa fb)):=by
 with_unfolding_all
  obtain⟨r,h1,h2⟩:=ho;refine PT.imp (amC h1 ha hb hm) fun σ H Q ⟨ρ,t,e,h,k⟩=>?_;cases hd:op2 g fa fb ρ with
  |none=>simp[tst,hd]at h
  | some d=>
   have ht:d= .bool t:=JG (by simpa[tst,hd]using h);subst ht;exact amU h2 ⟨ρ,_,e,hd,fun v H' s r=>⟨t,r,k H' s⟩⟩
theorem qJ(h:PD X e fa)(he:∀whole,isTrue e X.env whole=(do let v ←whole;standAt e.pos;holding [v] (truthy v)):=by intro _;rfl):PTD X e (tst fa):=by
 with_unfolding_all
  refine PT.imp (aou h he) fun σ H Q ⟨ρ,t,e,h,k⟩=>?_;cases hd:fa ρ with
  |none=>simp[tst,hd]at h
  | some d=>
   have ht:d= .bool t:=JG (by simpa[tst,hd]using h);subst ht;exact⟨ρ,_,e,hd,fun v H' s r=>⟨t,r,k H' s⟩⟩
variable {ta tb:Rho->Option Bool}{j8:List Expr}
@[irreducible] noncomputable def PWD(X:Cx)(e:Expr)(f:Rho->Option Bool):Prop:=PW X e (tDT X.K f)
theorem PW.imp{t t':TT}(h:PW X e t)(hi:∀σ H Q,t' σ H Q->t σ H Q):PW X e t':=fun wh Kp s σ H Q I q=>h wh Kp s σ H Q I (hi σ H Q q)
noncomputable def ac0(ta tb:Rho->Option Bool):Rho->Option Bool:=fun ρ=>(ta ρ).bind fun x=>if x=true then tb ρ else some false
noncomputable def orB(ta tb:Rho->Option Bool):Rho->Option Bool:=fun ρ=>(ta ρ).bind fun x=>if x=true then some true else tb ρ
noncomputable def J9(ta:Rho->Option Bool):Rho->Option Bool:=fun ρ=>(ta ρ).map (!·)
theorem abZ(ha:PTD X a ta):PWD X (.BoolOp .And [a] pos) ta:=by
 with_unfolding_all exact(amw ha)
theorem ZF(ha:PTD X a ta):PWD X (.BoolOp .Or [a] pos) ta:=by
 with_unfolding_all exact(aov ha)
theorem aec(ha:PTD X a ta)(hb:PWD X (.BoolOp .And (b::j8) pos) tb):PWD X (.BoolOp .And (a::b::j8) pos) (ac0 ta tb):=by
 with_unfolding_all
  refine PW.imp (aow ha hb) fun σ H Q ⟨ρ,t,e,h,k⟩=>?_;cases h1:ta ρ with
  |none=>simp[ac0,h1]at h
  | some x=>
   refine⟨ρ,x,e,h1,fun H' s=>?_⟩;cases x with
   |true=>rw[if_pos rfl];exact⟨ρ,t,e.mono s,by simpa[ac0,h1]using h,fun H2 s2=>k H2 (s.trans s2)⟩
   | false=>
    rw[if_neg Bool.false_ne_true];have:t=false:=by simpa[ac0,h1]using h.symm
    subst this;exact k H' s
theorem ab0(ha:PTD X a ta)(hb:PWD X (.BoolOp .Or (b::j8) pos) tb):PWD X (.BoolOp .Or (a::b::j8) pos) (orB ta tb):=by
 with_unfolding_all
  refine PW.imp (apW ha hb) fun σ H Q ⟨ρ,t,e,h,k⟩=>?_;cases h1:ta ρ with
  |none=>simp[orB,h1]at h
  | some x=>
   refine⟨ρ,x,e,h1,fun H' s=>?_⟩;cases x with
   |false=>rw[if_neg Bool.false_ne_true];exact⟨ρ,t,e.mono s,by simpa[orB,h1]using h,fun H2 s2=>k H2 (s.trans s2)⟩
   | true=>
    rw[if_pos rfl];have:t=true:=by simpa[orB,h1]using h.symm
    subst this;exact k H' s
theorem zw{op:BoolOp}{l:List Expr}(h:PWD X (.BoolOp op l pos) ta):PTD X (.BoolOp op l pos) ta:=by
 with_unfolding_all exact(h.pt)
theorem qK(ha:PTD X a ta):PTD X (.UnaryOp .Not a pos) (J9 ta):=by
 with_unfolding_all
  refine PT.imp (aox ha) fun σ H Q ⟨ρ,t,e,h,k⟩=>?_;cases h1:ta ρ with
  |none=>simp[J9,h1]at h
  | some x=>
   have:(!x)=t:=by simpa[J9,h1]using h
   subst this;exact⟨ρ,x,e,h1,fun H' s=>k H' s⟩
noncomputable def ifD(tc:Rho->Option Bool)(fa fb:RP):RP:=fun ρ=>(tc ρ).bind fun x=>if x=true then fa ρ else fb ρ
theorem aqo{tc:Rho->Option Bool}(hc:PTD X c tc)(ha:PD X a fa)(hb:PD X b fb):PD X (.IfExp c a b pos) (ifD tc fa fb):=by
 with_unfolding_all
  refine PE.imp (aj8 hc ha hb) fun σ H Q ⟨ρ,d,e,h,k⟩=>?_;cases h1:tc ρ with
  |none=>simp[ifD,h1]at h
  | some x=>
   refine⟨ρ,x,e,h1,fun H' s=>?_⟩;cases x with
   |true=>rw[if_pos rfl];exact⟨ρ,d,e.mono s,by simpa[ifD,h1]using h,fun v H2 s2=>k v H2 (s.trans s2)⟩
   |false=>rw[if_neg Bool.false_ne_true];exact⟨ρ,d,e.mono s,by simpa[ifD,h1]using h,fun v H2 s2=>k v H2 (s.trans s2)⟩
noncomputable def jC(_:Rho):Option (LP):=some []
noncomputable def jq(fa:RP)(fr:Rho->Option (LP)):Rho->Option (LP):=fun ρ=>(fa ρ).bind fun x=>(fr ρ).map fun r=>x::r
theorem je:PAD X [] jC:=by
 with_unfolding_all exact(PA.imp J1 fun σ H Q ⟨ρ,d,e,h,k⟩=>by cases h;exact k [] H (jm.refl H) rfl)
theorem ja{fr:Rho->Option (LP)}(ha:PD X e fa)(hr:PAD X es fr)(hs:starEach (e::es) X.env=(false,eval e X.env)::starEach es X.env:=by rfl):PAD X (e::es) (jq fa fr):=by
 with_unfolding_all
  refine PA.imp (zd ha hr hs) fun σ H Q ⟨ρ,ds,en,h,k⟩=>?_;cases h1:fa ρ with
  |none=>simp[jq,h1]at h
  | some x=>
   cases h2:fr ρ with
   |none=>simp[jq,h1,h2]at h
   | some r=>
    have:x::r=ds:=by simpa[jq,h1,h2]using h
    subst this;exact⟨ρ,x,en,h1,fun v H1 s1 r1=>⟨ρ,r,en.mono s1,h2,fun vs H2 s2 r2=>k _ H2 (s1.trans s2) ⟨v,vs,rfl,Rep.mono s2 x v r1,r2⟩⟩⟩
noncomputable def few(ds:LP):Bool:=decide (ds.length<1000000)
theorem ab1{n:Nat}(h:n<1000000):n<=sizeLine:=Nat.le_of_lt (Nat.lt_of_lt_of_le h (by rw[sizeLine_eq];decide))
theorem jI{H:Hp}{p:Addr}{o:HO}(hp:H p=none):jm H (upd H p o):=fun b u h=>by rw[jn (qA h hp)];exact h
noncomputable def Qu(fr:Rho->Option (LP)):RP:=fun ρ=>(fr ρ).bind fun ds=>if few ds=true then some (.tuple ds) else none
noncomputable def JB(fr:Rho->Option (LP)):RP:=fun ρ=>(fr ρ).bind fun ds=>if few ds=true then some (.list ds) else none
theorem qE{x1}{fr:Rho->Option (LP)}(h:PAD X es fr):PD X (.Tuple es x1 pos) (Qu fr):=by
 with_unfolding_all
  refine PE.imp (akg h) fun σ H Q ⟨ρ,d,e,h,k⟩=>?_;cases h1:fr ρ with
  |none=>simp[Qu,h1]at h
  | some ds=>
   by_cases hf:few ds=true
   ·have:PyData.tuple ds=d:=by simpa[Qu,h1,hf]using h
    subst this;refine⟨ρ,ds,e,h1,fun vs H1 s1 r1=>⟨ab1 (by rw[r1.length];simpa[few]using hf),fun p hp=>k _ _ (s1.trans (jI hp)) ⟨p,vs,rfl,SqT.of jr,Reps.mono (jI hp) _ _ r1⟩⟩⟩
   ·simp[Qu,h1,hf]at h
theorem aar{fr:Rho->Option (LP)}(h:PAD X es fr):PD X (.List es pos) (JB fr):=by
 with_unfolding_all
  refine PE.imp (agF h) fun σ H Q ⟨ρ,d,e,h,k⟩=>?_;cases h1:fr ρ with
  |none=>simp[JB,h1]at h
  | some ds=>
   by_cases hf:few ds=true
   ·have:PyData.list ds=d:=by simpa[JB,h1,hf]using h
    subst this;refine⟨ρ,ds,e,h1,fun vs H1 s1 r1=>⟨ab1 (by rw[r1.length];simpa[few]using hf),fun p hp=>k _ _ (s1.trans (jI hp)) ⟨p,vs,rfl,jr,Reps.mono (jI hp) _ _ r1⟩⟩⟩
   ·simp[JB,h1,hf]at h
end
end BX
end
section
namespace BX
open PySem PySem.Spec L2
open PyProof.Rows hiding St
section
variable {X:Cx}{e a b c tg src:Expr}{es:List Expr}{st:Stmt}{sts j8:List Stmt}{fa fb fc:RP}{F G:RO}{pos:Pos}
noncomputable def qz(fa:RP):RO:=fun ρ=>(fa ρ).map Out.rt
theorem ju(h:PD X e fa):PSD X (.Return (some e) pos) (qz fa):=by
 with_unfolding_all
  refine PS.imp (agA h) fun D σ H ⟨ρ,o,en,q,k⟩=>?_;cases h1:fa ρ with
  |none=>simp[qz,h1]at q
  | some d=>
   have:Out.rt d=o:=by simpa[qz,h1]using q
   subst this;exact⟨ρ,d,en,h1,k⟩
noncomputable def ifS(tc:Rho->Option Bool)(F G:RO):RO:=fun ρ=>(tc ρ).bind fun x=>if x=true then F ρ else G ρ
theorem qj{l r:List Stmt}{tc:Rho->Option Bool}(hc:PTD X c tc)(hl:ZE X l F)(hr:ZE X r G):PSD X (.If c l r pos) (ifS tc F G):=by
 with_unfolding_all
  refine PS.imp (an8 hc hl hr) fun D σ H ⟨ρ,o,en,q,k⟩=>?_;cases h1:tc ρ with
  |none=>simp[ifS,h1]at q
  | some x=>
   refine⟨ρ,x,en,h1,fun H1 s1=>?_⟩;cases x with
   |true=>rw[if_pos rfl];exact⟨ρ,o,en.mono s1,by simpa[ifS,h1]using q,k.mono s1⟩
   |false=>rw[if_neg Bool.false_ne_true];exact⟨ρ,o,en.mono s1,by simpa[ifS,h1]using q,k.mono s1⟩
noncomputable def qp:RO:=fun ρ=>some (.nx ρ)
noncomputable def jF(F G:RO):RO:=fun ρ=>(F ρ).bind fun o=>match o with
 |.nx ρ'=>G ρ'
 |o=>some o
theorem jg:ZE X [] qp:=by
 with_unfolding_all
  refine PSs.imp ahL fun D σ H ⟨ρ,o,en,q,k⟩=>?_;cases q;exact k σ H (jm.refl H) en
theorem jd(h1 : PSD X st F)(h2 : ZE X j8 G) : ZE X (st :: j8) (jF F G) := by
  with_unfolding_all
   refine PSs.imp (Qr h1 h2) fun D σ H ⟨ρ, o, en, q, k⟩ => ?_;cases hf : F ρ with
   |none => simp[jF, hf]at q
   | some p =>
     refine⟨ρ, p, en, hf, ?_⟩;cases p with
     |nx ρ' => exact fun σ' H' s' r' => ⟨ρ', o, r', by simpa[jF, hf]using q, k.mono s'⟩
     | rt d => have : Out.rt d = o := by simpa[jF, hf]using q
               subst this;exact k
     | bk d => have : Out.bk d = o := by simpa[jF, hf]using q
               subst this;exact k
     | ct d => have : Out.ct d = o := by simpa[jF, hf]using q
               subst this;exact k
noncomputable def amV:RO:=fun _=>none
theorem Jc:ZE X sts amV:=by
 with_unfolding_all exact(PSs.imp aiR fun D σ H ⟨ρ,o,en,q,k⟩=>by cases q)
noncomputable def Zk(fa:RP):RO:=fun ρ=>(fa ρ).map fun _=> .nx ρ
theorem qk(h:PD X e fa)(hs:swapsWith e none pos.line X.env=pure false:=by rfl):PSD X (.Expr e pos) (Zk fa):=by
 with_unfolding_all
  refine PS.imp (ad6 h hs) fun D σ H ⟨ρ,o,en,q,k⟩=>?_;cases h1:fa ρ with
  |none=>simp[Zk,h1]at q
  | some d=>
   have:Out.nx ρ=o:=by simpa[Zk,h1]using q
   subst this;exact⟨ρ,d,en,h1,fun v H' s r=>k σ H' s (en.mono s)⟩
noncomputable def jG(i:Nat)(d:PyData)(ρ:Rho):Option Rho:=some (ρ.set i (some d))
theorem jP(i:Nat){x:Str}(hN:X.N.Nodup)(hi:X.N[i]?=some x:=by rfl)(hx:Loc X.env.scope x:=by first|exact Or.inl rfl|exact Or.inr rfl)
  (hf:X.fn x=true∨X.env.scope.names.lookup x=some .local:=by first|exact .inl rfl|exact .inr rfl|assumption):PGD X (.Name x pos) (jG i):=by
 with_unfolding_all
  refine PG.imp (ZB hN hi hx hf) fun v σ H Q ⟨ρ,d,ρ',en,r,q,k⟩=>?_;cases q;exact k _ H (jm.refl H) (en.set r)
@[irreducible] noncomputable def amW(X:Cx)(ts:List Expr)(ga:LP->Rho->Option Rho):Prop:=PGs X ts fun vs σ H Q=>∃ρ ds ρ',EnvR X.K H ρ σ/\Reps X.K H ds vs/\ga ds ρ=some ρ'/\∀σ' H',jm H H'->EnvR X.K H' ρ' σ'->Q σ' H'
noncomputable def zG(ds:LP)(ρ:Rho):Option Rho:=match ds with
 | []=>some ρ
 |_=>none
noncomputable def jV(ga:PyData->Rho->Option Rho)(gr:LP->Rho->Option Rho)(ds:LP)(ρ:Rho):Option Rho:=match ds with
 |d::r=>(ga d ρ).bind fun ρ1=>gr r ρ1
 | []=>none
theorem PGs.imp{ts:List Expr}{t t':TGs}(h:PGs X ts t)(hi:∀v σ H Q,t' v σ H Q->t v σ H Q):PGs X ts t':=fun Kp s σ H v u Q I r q=>h Kp s σ H v u Q I r (hi v σ H Q q)
theorem ab2:amW X [] zG:=by
 with_unfolding_all
  refine PGs.imp ahM fun vs σ H Q ⟨ρ,ds,ρ',en,r,q,k⟩=>?_;cases ds with
  |nil=>cases r;cases q;exact⟨rfl,k σ H (jm.refl H) en⟩
  |cons d ds=>cases q
theorem zo{ga:PyData->Rho->Option Rho}{gr:LP->Rho->Option Rho}(h1:PGD X e ga)(h2:amW X es gr)
  (hs:(assignEach (e::es) X.env).map (·.2)=assign e X.env::(assignEach es X.env).map (·.2):=by rfl):amW X (e::es) (jV ga gr):=by
 with_unfolding_all
  refine PGs.imp (afh h1 h2 hs) fun vs σ H Q ⟨ρ,ds,ρ',en,r,q,k⟩=>?_;cases ds with
  |nil=>cases q
  | cons d ds=>
   obtain⟨x,rr,e1,r1,r2⟩:=r;subst e1;cases h3:ga d ρ with
   |none=>simp[jV,h3]at q
   | some ρ1=>
    refine⟨x,rr,rfl,ρ,d,ρ1,en,r1,h3,fun σ1 H1 s1 e1=>⟨ρ1,ds,ρ',e1,Reps.mono s1 ds rr r2,by simpa[jV,h3]using q,fun σ2 H2 s2 e2=>k σ2 H2 (s1.trans s2) e2⟩⟩
noncomputable def Qq(n:Nat)(gr:LP->Rho->Option Rho)(d:PyData)(ρ:Rho):Option Rho:=match d with
 |.tuple ds=>if ds.length=n then gr ds ρ else none
 |_=>none
theorem aed{k n:Nat}{gr:LP->Rho->Option Rho}(hc:X.calm=true)(h:amW X es gr)(hn:(assignEach es X.env).length=n:=by rfl)(hst:(assignEach es X.env).findIdx? (·.1)=none:=by rfl):
  PGD X (.Tuple es k pos) (Qq n gr):=by
 with_unfolding_all
  refine PG.imp (aj9 hc h hn hst) fun v σ H Q ⟨ρ,d,ρ',en,r,q,k⟩=>?_;cases d with
  | tuple ds=>
   obtain⟨a,xs,e1,e2,e3⟩:=r;by_cases hl:ds.length=n
   ·exact⟨a,xs,e1,e2,by rw[e3.length];exact hl,ρ,ds,ρ',en,e3,by simpa[Qq,hl]using q,k⟩
   ·simp[Qq,hl]at q
  |_=>simp[Qq]at q
noncomputable def qF(fa:RP)(ga:PyData->Rho->Option Rho):RO:=fun ρ=>(fa ρ).bind fun d=>(ga d ρ).map Out.nx
theorem amX{ga:PyData->Rho->Option Rho}(he:PD X e fa)(hg:PGD X tg ga)(hs:swapsWithSole [tg] e pos.line X.env=pure false:=by rfl)(hw:swappedStores [tg] e X.env=pure none:=by rfl)
  (h1:(assignEach [tg] X.env).map (·.2)=[assign tg X.env]:=by rfl):PSD X (.Assign [tg] e pos) (qF fa ga):=by
 with_unfolding_all
  refine PS.imp (aka he hg hs hw h1) fun D σ H ⟨ρ,o,en,q,k⟩=>?_;cases h1:fa ρ with
  |none=>simp[qF,h1]at q
  | some d=>
   cases h2:ga d ρ with
   |none=>simp[qF,h1,h2]at q
   | some ρ'=>
    have:Out.nx ρ'=o:=by simpa[qF,h1,h2]using q
    subst this;exact⟨ρ,d,en,h1,fun v H1 s1 r1=>⟨ρ,d,ρ',en.mono s1,r1,h2,fun σ' H' s' e'=>k σ' H' (s1.trans s') e'⟩⟩
theorem jx(i:Nat){x:Str}{pos':Pos}(hN:X.N.Nodup)(he:PD X e fa)(hi:X.N[i]?=some x:=by rfl)(hx:Loc X.env.scope x:=by first|exact Or.inl rfl|exact Or.inr rfl)(hs:swapsWith e (some (.Name x pos')) pos.line X.env=pure false:=by rfl)
  (hf:X.fn x=true∨X.env.scope.names.lookup x=some .local:=by first|exact .inl rfl|exact .inr rfl|assumption):PSD X (.Assign [.Name x pos'] e pos) (qF fa (jG i)):=by
 with_unfolding_all
  refine PS.imp (ad7 hN hi hx he hs hf) fun D σ H ⟨ρ,o,en,q,k⟩=>?_;cases h1:fa ρ with
  |none=>simp[qF,h1]at q
  | some d=>
   have:Out.nx (ρ.set i (some d))=o:=by simpa[qF,h1,jG]using q
   subst this;exact⟨ρ,d,en,h1,fun v H1 s1 r1=>k _ H1 s1 ((en.mono s1).set r1)⟩
noncomputable def akv(K:Fg)(J:It)(ds:LP)(H0:Hp):Prop:=∀i H,j6 H0 H->(i<ds.length->J.go i H)/\(ds.length<=i->J.stop i H)/\∀x H',J.yld i H x H'->jm H H'/\∀d,ds[i]?=some d->Rep K H' d x
noncomputable def tDI(K:Fg)(fi:Rho->Option (LP)):TI:=fun σ H R=>∃ρ ds,EnvR K H ρ σ/\fi ρ=some ds/\∀J H',jm H H'->akv K J ds H'->R J H'
@[irreducible] noncomputable def PID(X:Cx)(tg src:Expr)(fi:Rho->Option (LP)):Prop:=PI X tg src (tDI X.K fi)
theorem PI.imp{t t':TI}(h:PI X tg src t)(hi:∀σ H R,t' σ H R->t σ H R):PI X tg src t':=fun Kp s σ H R I q=>h Kp s σ H R I (hi σ H R q)
noncomputable def JC:PyData->Option (LP)
 |.list ds=>some ds
 |_=>none
noncomputable def aas:PyData->Option (LP)
 |.tuple ds=>some ds
 |_=>none
noncomputable def itL(fa:RP):Rho->Option (LP):=fun ρ=>(fa ρ).bind JC
noncomputable def itT(fa:RP):Rho->Option (LP):=fun ρ=>(fa ρ).bind aas
theorem Jd(h:PD X e fa):PID X tg e (itL fa):=by
 with_unfolding_all
  refine PI.imp (amx h) fun σ H R ⟨ρ,ds,en,q,k⟩=>?_;cases h1:fa ρ with
  |none=>simp[itL,h1]at q
  | some d=>
   cases d with
   | list es=>
    have:es=ds:=by simpa[itL,h1,JC]using q
    subst this;refine⟨ρ,_,en,h1,fun v H1 s1 r1=>?_⟩;obtain⟨a,xs,e1,e2,e3⟩:=r1;refine⟨a,e1,⟨xs,SqL.of e2⟩,k _ H1 s1 fun i H2 s2=>⟨fun hi=>?_,fun hi=>?_,fun x H' y=>?_⟩⟩
    ·exact⟨xs,xs[i]'(by rw[e3.length];exact hi),SqL.of (s2 _ _ e2 rfl),by simp[e3.length,hi]⟩
    ·exact⟨xs,SqL.of (s2 _ _ e2 rfl),by rw[e3.length];exact hi⟩
    ·obtain⟨z1,z2⟩:=y
     subst z1;refine⟨jm.refl _,fun d hd=>?_⟩;obtain⟨y,e4,e5⟩:=(Reps.monoA s2 _ _ e3).get hd;have:=z2 xs (SqL.of (s2 _ _ e2 rfl));rw[e4]at this;cases this;exact e5
   |_=>simp[itL,h1,JC]at q
theorem abk(h:PD X e fa):PID X tg e (itT fa):=by
 with_unfolding_all
  refine PI.imp (aoE h) fun σ H R ⟨ρ,ds,en,q,k⟩=>?_;cases h1:fa ρ with
  |none=>simp[itT,h1]at q
  | some d=>
   cases d with
   | tuple es=>
    have:es=ds:=by simpa[itT,h1,aas]using q
    subst this;refine⟨ρ,_,en,h1,fun v H1 s1 r1=>?_⟩;obtain⟨a,xs,e1,e2,e3⟩:=r1;refine⟨a,e1,⟨xs,e2⟩,k _ H1 s1 fun i H2 s2=>⟨fun hi=>?_,fun hi=>?_,fun x H' y=>?_⟩⟩
    ·exact⟨xs,xs[i]'(by rw[e3.length];exact hi),j6.tup s2 e2,by simp[e3.length,hi]⟩
    ·exact⟨xs,j6.tup s2 e2,by rw[e3.length];exact hi⟩
    ·obtain⟨z1,z2⟩:=y
     subst z1;refine⟨jm.refl _,fun d hd=>?_⟩;obtain⟨y,e4,e5⟩:=(Reps.monoA s2 _ _ e3).get hd;have:=z2 xs (j6.tup s2 e2);rw[e4]at this;cases this;exact e5
   |_=>simp[itT,h1,aas]at q
noncomputable def Zl(lo:Int)(n:Nat):LP:=(List.range n).map fun (k:Nat)=>PyData.int (lo+(k:Int))
noncomputable def agN(ds:LP):Option (LP):=match ds with
 | [.int j]=>if -(2 ^ 62)<=j/\j<2 ^ 62 then some (Zl 0 j.toNat) else none
 |_=>none
theorem aee{K:Fg}{H:Hp}(lo:Int)(n:Nat):akv K (Itr lo n) (Zl lo n) H:=fun i H2 s2=>by
 have hl:(Zl lo n).length=n:=by simp[Zl]
 refine⟨fun hi=>by rw[hl]at hi;exact hi,fun hi=>by rw[hl]at hi;exact hi,fun x H' y=>?_⟩;obtain⟨z1,z2⟩:=y;subst z1;refine⟨jm.refl _,fun d hd=>?_⟩
 have hi:i<n:=by
  have:=(List.getElem?_eq_some_iff.mp hd).1;rw[hl]at this;exact this
 have:d= .int (lo+i):=by
  simp[Zl,hi]at hd;exact hd.symm
 subst this;exact z2
theorem ab3{p pos:Pos}{fr:Rho->Option (LP)}(hg:Gl X "range")(hm:X.mg "range"=none)(ha:PAD X [a] fr)(hs:starEach [a] X.env=[(false,eval a X.env)]:=by rfl):PID X tg (.Call (.Name "range" p) [a] [] pos) (fun ρ=>(fr ρ).bind agN):=by
 with_unfolding_all
  refine PI.imp (aao hg hm ha hs) fun σ H R ⟨ρ,ds,en,q,k⟩=>?_;cases h1:fr ρ with
  |none=>simp[h1]at q
  | some as=>
   have q':agN as=some ds:=by simpa[h1]using q
   refine⟨ρ,as,en,h1,fun vs H1 s1 r1=>?_⟩;unfold agN at q';split at q'
   ·rename_i j
    split at q'
    ·rename_i hj
     cases q';obtain⟨x,r,e1,e2,e3⟩:=r1;cases (show x=V.int j from e2);cases (show r=[] from e3);exact⟨j,e1,hj.1,hj.2,k _ H1 s1 (aee 0 j.toNat)⟩
    ·cases q'
   ·cases q'
noncomputable def jN(ga:PyData->Rho->Option Rho)(F:RO):LP->RO
 | [],ρ=>some (.nx ρ)
 | d::r,ρ=>(ga d ρ).bind fun ρ1=>(F ρ1).bind fun o=>match o with
  |.nx ρ2=>jN ga F r ρ2
  |.ct ρ2=>jN ga F r ρ2
  |.bk ρ2=>some (.nx ρ2)
  |.rt d=>some (.rt d)
noncomputable def Je(fi:Rho->Option (LP))(ga:PyData->Rho->Option Rho)(F:RO):RO:=fun ρ=>(fi ρ).bind fun ds=>jN ga F ds ρ
theorem Jp{body:List Stmt}{fi:Rho->Option (LP)}{ga:PyData->Rho->Option Rho}(hp:PassesOwn (model X.prog X.w) X.A X.env X.xe)(hc:X.calm=true)(hi:PID X tg src fi)(hg:PGD X tg ga)(hb:ZE X body F)
  (hs:∀x,foldedSetIterable src X.env x=pure x:=by intro _;rfl):PSD X (.For tg src body [] pos) (Je fi ga F):=by
 with_unfolding_all
  refine PS.imp (ad8 hp hc hi hg hb hs) fun D σ H ⟨ρ,o,en,q,k⟩=>?_;cases h1:fi ρ with
  |none=>simp[Je,h1]at q
  | some ds=>
   have q':jN ga F ds ρ=some o:=by simpa[Je,h1]using q
   refine⟨ρ,ds,en,h1,fun J H1 s1 Y=>?_⟩;refine⟨fun i m σ H2=>m=ds.length-i/\i<=ds.length/\jm H1 H2/\∃ρ2,EnvR X.K H2 ρ2 σ/\jN ga F (ds.drop i) ρ2=some o,⟨ds.length,by simp,Nat.zero_le _,jm.refl _,ρ,en.mono s1,by simpa using q'⟩,?_⟩
   rintro i m σ2 H2 ⟨rfl,hi,s2,ρ2,en2,q2⟩
   obtain⟨g1,g2,g3⟩:=Y i H2 (jm.a s2);by_cases hlt:i<ds.length
   ·right
    have hd:ds.drop i=ds[i]::ds.drop (i+1):=List.drop_eq_getElem_cons hlt;rw[hd]at q2;refine⟨g1 hlt,fun σ3 H3=>jm H1 H3/\∃ρ3,EnvR X.K H3 ρ3 σ3/\jN ga F (ds.drop (i+1)) ρ3=some o,fun σ3 H3 ⟨a1,ρ3,a2,a3⟩=>⟨ds.length-(i+1),by omega,rfl,hlt,a1,ρ3,a2,a3⟩,fun x H3 y=>?_⟩;obtain⟨s3,r3⟩:=g3 x H3 y;have r3':=r3 ds[i] (by simp[hlt]);cases h4:ga ds[i] ρ2 with
    |none=>simp[jN,h4]at q2
    | some ρ4=>
     refine⟨ρ2,ds[i],ρ4,en2.mono s3,r3',h4,fun σ5 H5 s5 en5=>?_⟩;cases h5:F ρ4 with
     |none=>simp[jN,h4,h5]at q2
     | some p=>
      refine⟨ρ4,p,en5,h5,?_⟩;have s15:=s2.trans (s3.trans s5);cases p with
      |nx ρ6=>exact fun σ6 H6 s6 en6=>⟨s15.trans s6,ρ6,en6,by simpa[jN,h4,h5]using q2⟩
      |ct ρ6=>exact fun σ6 H6 s6 en6=>⟨s15.trans s6,ρ6,en6,by simpa[jN,h4,h5]using q2⟩
      | bk ρ6=>
       have:Out.nx ρ6=o:=by simpa[jN,h4,h5]using q2
       subst this;exact fun σ6 H6 s6 en6=>k σ6 H6 (s1.trans (s15.trans s6)) en6
      | rt d=>
       have:Out.rt d=o:=by simpa[jN,h4,h5]using q2
       subst this;exact fun v H6 s6 r6=>k v H6 (s1.trans (s15.trans s6)) r6
   ·left
    have he:i=ds.length:=by omega
    have hn:ds.drop i=[]:=by rw[he];simp
    rw[hn]at q2;have:Out.nx ρ2=o:=by simpa[jN]using q2
    subst this;exact⟨g2 (by omega),k σ2 H2 (s1.trans s2) en2⟩
noncomputable def ZG(cap:List (Option Nat))(ρ:Rho):Rho:=cap.map fun o=>o.bind fun i=>(ρ[i]?).join
theorem EnvR.cap{K:Fg}{H:Hp}{ρ:Rho}{σ:St}(e:EnvR K H ρ σ)(cap:List (Option Nat)):EnvR K H (ZG cap ρ) (aft cap σ):=by
 refine⟨by simp[ZG,aft],fun j d q=>?_⟩;unfold ZG at q;unfold aft;rw[List.getElem?_map]at q ⊢;cases h1:cap[j]? with
 |none=>rw[h1]at q;cases q
 | some o=>
  rw[h1]at q;cases o with
  |none=>cases q
  | some i=>
   have q':lkp i ρ=some d:=by simpa[lkp]using q
   obtain⟨v,e1,e2⟩:=e.at' i d (qP q');exact⟨v,by simp[e1],e2⟩
noncomputable def qM(ga:PyData->Rho->Option Rho)(ft:Rho->Option Bool)(fe:RP):LP->Rho->Option (LP)
 | [],_=>some []
 |d::r,τ=>(ga d τ).bind fun τ2=>(ft τ2).bind fun b=>if b=true then (fe τ2).bind fun y=>(qM ga ft fe r τ2).map fun ys=>y::ys else qM ga ft fe r τ2
noncomputable def JH(fi:Rho->Option (LP))(cap:List (Option Nat))(ga:PyData->Rho->Option Rho)(ft:Rho->Option Bool)(fe:RP):RP:=fun ρ=>(fi ρ).bind fun ds=>
 if few ds=true then (qM ga ft fe ds (ZG cap ρ)).map PyData.list else none
@[irreducible] noncomputable def ao1(X:Cx)(ts:List Expr)(f:Rho->Option Bool):Prop:=PTs X ts (tDT X.K f)
noncomputable def agO(_:Rho):Option Bool:=some true
theorem Jf:ao1 X [] agO:=by
 with_unfolding_all exact(fun Kp s σ H Q I ⟨ρ,b,en,q,k⟩=>by cases q;exact amQ Kp s σ H Q I (k H (jm.refl H)))
theorem afv{ft:Rho->Option Bool}(h:PTD X c ft):ao1 X [c] ft:=by
 with_unfolding_all exact(amR h)
theorem zM{el:Expr}{ts:List Expr}{sc:Scope}{ps:Pos}{fi:Rho->Option (LP)}{ga:PyData->Rho->Option Rho}{ft:Rho->Option Bool}{fe:RP}(N':List Str)(cap:List (Option Nat))(hc:X.calm=true)(hi:PID X tg src fi)(ok:CompOk X sc N' cap)
  (body:∀cl C s0 H0 fp pn,PGD (blk X N' sc cl C s0 H0 fp pn) tg ga/\ao1 (blk X N' sc cl C s0 H0 fp pn) ts ft/\PD (blk X N' sc cl C s0 H0 fp pn) el fe)
  (hs:∀x,foldedSetIterable src X.env x=pure x:=by intro _;rfl):PD X (.ListComp el [⟨tg,src,ts,0⟩] sc ps) (JH fi cap ga ft fe):=by
 with_unfolding_all
  refine PE.imp (amS (g:=tDG X.K ga) (tt:=tDT X.K ft) (te:=tD X.K fe) hc hi ok (fun cl C s0 H0 fp pn=>body cl C s0 H0 fp pn) hs) fun σ H Q ⟨ρ,d,en,q,k⟩=>?_;cases h1:fi ρ with
  |none=>simp[JH,h1]at q
  | some ds=>
   by_cases hf:few ds=true
   ·cases h2:qM ga ft fe ds (ZG cap ρ)with
    |none=>simp[JH,h1,hf,h2]at q
    | some ys=>
     have:PyData.list ys=d:=by simpa[JH,h1,hf,h2]using q
     subst this;refine⟨ρ,ds,en,h1,fun J H1 s1 Y=>?_⟩
     refine⟨fun i m τ us H2=>m=ds.length-i/\i<=ds.length/\jm H1 H2/\us.length<=i/\∃ρ2 zs ws,EnvR X.K H2 ρ2 τ/\Reps X.K H2 zs us/\qM ga ft fe (ds.drop i) ρ2=some ws/\ys=zs++ws,
      ⟨ds.length,by simp,Nat.zero_le _,jm.refl _,Nat.le_refl _,ZG cap ρ,[],ys,(en.mono s1).cap cap,rfl,by simpa using h2,rfl⟩,?_⟩
     rintro i m τ us H2 ⟨rfl,hi',s2,hu,ρ2,zs,ws,en2,r2,q2,ey⟩
     have hsm:us.length<sizeLine:=Nat.lt_of_le_of_lt (Nat.le_trans hu hi') (Nat.lt_of_lt_of_le (by simpa[few]using hf) (by rw[sizeLine_eq];decide:1000000<=sizeLine));obtain⟨g1,g2,g3⟩:=Y i H2 (jm.a s2);refine⟨hsm,?_⟩;by_cases hlt:i<ds.length
     ·right
      have hd:ds.drop i=ds[i]::ds.drop (i+1):=List.drop_eq_getElem_cons hlt;rw[hd]at q2;refine⟨g1 hlt,fun x H3 y=>?_⟩;obtain⟨s3,r3⟩:=g3 x H3 y;have r3':=r3 ds[i] (by simp[hlt]);cases h4:ga ds[i] ρ2 with
      |none=>simp[qM,h4]at q2
      | some ρ4=>
       refine⟨ρ2,ds[i],ρ4,en2.mono s3,r3',h4,fun σ5 H5 s5 en5=>?_⟩;cases h5:ft ρ4 with
       |none=>simp[qM,h4,h5]at q2
       | some b=>
        refine⟨ρ4,b,en5,h5,fun H6 s6=>?_⟩;have s26:=s3.trans (s5.trans s6);cases b with
        | false=>
         refine ark ?_;exact⟨ds.length-(i+1),by omega,rfl,hlt,s2.trans s26,by omega,ρ4,zs,ws,en5.mono s6,Reps.mono s26 _ _ r2,by simpa[qM,h4,h5]using q2,ey⟩
        | true=>
         refine arl ?_;cases h6:fe ρ4 with
         |none=>simp[qM,h4,h5,h6]at q2
         | some y=>
          cases h7:qM ga ft fe (ds.drop (i+1)) ρ4 with
          |none=>simp[qM,h4,h5,h6,h7]at q2
          | some ws'=>
           have hw:y::ws'=ws:=by simpa[qM,h4,h5,h6,h7]using q2
           refine⟨ρ4,y,en5.mono s6,h6,fun v H7 s7 r7=>?_⟩;refine⟨ds.length-(i+1),by omega,rfl,hlt,s2.trans (s26.trans s7),by rw[List.length_append];simp;omega,ρ4,zs++[y],ws',(en5.mono s6).mono s7,(Reps.mono (s26.trans s7) _ _ r2).append ⟨v,[],rfl,r7,rfl⟩,h7,?_⟩;rw[ey,←hw];simp
     ·left
      have he:i=ds.length:=by omega
      have hn:ds.drop i=[]:=by rw[he];simp
      rw[hn]at q2;have hw:[]=ws:=by simpa[qM]using q2
      subst hw;have ey':ys=zs:=by simpa using ey
      subst ey';exact⟨g2 (by omega),fun l hl=>k _ _ (s1.trans (s2.trans (jI hl))) ⟨l,us,rfl,jr,Reps.mono (jI hl) _ _ r2⟩⟩
   ·simp[JH,h1,hf]at q
noncomputable def Pur(K:Fg)(n:Nat)(g:LP->OP):Sp:=fun vs H Q _=>∃ds d,ds.length=n/\Reps K H ds vs/\g ds=some d/\∀v H',jm H H'->Rep K H' d v->Q v H'
noncomputable def jJ(g:LP->OP)(fr:Rho->Option (LP)):RP:=fun ρ=>(fr ρ).bind g
theorem amY{k n:Nat}{f:Addr}{fd:FuncData}{ps:List Str}{g:LP->OP}{x:Str}{p:Pos}{fr:Rho->Option (LP)}(FO:FnOk X.prog X.w X.K X.mg X.base CX0 k f fd ps (Pur X.K n g))(hr:Room k X.A)(hm:X.mg x=some (.ref f))(hk:PySem.W.keepIn X.K (.ref f)=true)
  (hb:Qs X.K fd ps []) (hn:(e::es).length=n) (ha:PAD X (e::es) fr) (hl:∀ρ ds,fr ρ=some ds->ds.length=(e::es).length) (hg:Gl X x:=by rfl) (hdb:(x==("__debug__":Str))=false:=by decide) (he:starEach (e::es) X.env=(false,eval e X.env)::starEach es X.env:=by rfl)
  (hpl:(backTo pos (starEach es X.env)).any (·.1)=false:=by rfl):PD X (.Call (.Name x p) (e::es) [] pos) (jJ g fr):=by
 with_unfolding_all
  refine PE.imp (amE FO hr hg hm hk hb .nil aob ha hdb he hpl) fun σ H Q ⟨ρ,d,en,q,k⟩=>?_;cases h1:fr ρ with
  |none=>simp[jJ,h1]at q
  | some ds=>
   refine⟨ρ,ds,en,h1,fun vs H1 s1 r1=>?_⟩;refine⟨ds,d,by rw[hl ρ ds h1,hn],by rw[List.append_nil];exact r1,by simpa[jJ,h1]using q,fun v H' s r=>k v H' (s1.trans s) r⟩
noncomputable def Zo(X:Cx)(f:Value)(g:LP->OP):Prop:=∃r,zu X f r/\∀ds d xs H Q,g ds=some d->Reps X.K H ds xs->(∀v H',jm H H'->Rep X.K H' d v->Q v H')->r xs H Q
theorem jT{id:String}{g:LP->OP}{x:Str}{p:Pos}{fr:Rho->Option (LP)}(hc:Zo X (.builtin id) g)(hm:X.mg x=none)(hv:bootBuiltins x=some (.builtin id))(ha:PAD X (e::es) fr)(hg:Gl X x:=by rfl)(hn:x≠"__name__":=by decide)(hdb:(x==("__debug__":Str))=false:=by decide)
  (he:starEach (e::es) X.env=(false,eval e X.env)::starEach es X.env:=by rfl) (hpl:(backTo pos (starEach es X.env)).any (·.1)=false:=by rfl):PD X (.Call (.Name x p) (e::es) [] pos) (jJ g fr):=by
 with_unfolding_all
  obtain⟨r,h1,h2⟩:=hc;refine PE.imp (afn h1 hg hm hv ha hn hdb he hpl) fun σ H Q ⟨ρ,d,en,q,k⟩=>?_;cases h3:fr ρ with
  |none=>simp[jJ,h3]at q
  |some ds=>exact⟨ρ,ds,en,h3,fun vs H1 s1 r1=>h2 ds d vs H1 Q (by simpa[jJ,h3]using q) r1 fun v H' s r=>k v H' (s1.trans s) r⟩
theorem ai3{T:String}{g:LP->OP}{x:Str}{p:Pos}{fr:Rho->Option (LP)}(hc:Zo X (.type T) g)(hm:X.mg x=none)(hv:bootBuiltins x=some (.type T))(ha:PAD X (e::es) fr)(hg:Gl X x:=by rfl)(hn:x≠"__name__":=by decide)(hdb:(x==("__debug__":Str))=false:=by decide)
  (he:starEach (e::es) X.env=(false,eval e X.env)::starEach es X.env:=by rfl) (hpl:(backTo pos (starEach es X.env)).any (·.1)=false:=by rfl):PD X (.Call (.Name x p) (e::es) [] pos) (jJ g fr):=by
 with_unfolding_all
  obtain⟨r,h1,h2⟩:=hc;refine PE.imp (aiW h1 hg hm hv ha hn hdb he hpl) fun σ H Q ⟨ρ,d,en,q,k⟩=>?_;cases h3:fr ρ with
  |none=>simp[jJ,h3]at q
  |some ds=>exact⟨ρ,ds,en,h3,fun vs H1 s1 r1=>h2 ds d vs H1 Q (by simpa[jJ,h3]using q) r1 fun v H' s r=>k v H' (s1.trans s) r⟩
end
noncomputable def jL(N:List Str)(ds:LP):Rho:=ds.map some++List.replicate (N.length-ds.length) none
theorem aat{K:Fg}{H:Hp}{N:List Str}{ds:LP}{vs:List V}(r:Reps K H ds vs):EnvR K H (jL N ds) (L2.Jb N vs):=by
 have hl:=r.length;refine⟨by simp[jL,L2.Jb,hl],fun i d q=>?_⟩;unfold jL at q;by_cases hi:i<ds.length
 ·rw[List.getElem?_append_left (by simpa using hi),List.getElem?_map]at q
  cases e:ds[i]? with
  |none=>rw[e]at q;cases q
  | some c=>
   rw[e]at q;cases q;obtain⟨x,e1,e2⟩:=r.get e;refine⟨x,?_,e2⟩;unfold L2.Jb;rw[List.getElem?_append_left (by simp;omega),List.getElem?_map,e1];rfl
 ·rw[List.getElem?_append_right (by simpa using hi),List.getElem?_replicate]at q
  split at q<;>cases q
noncomputable def jw(N:List Str)(n:Nat)(B:RO)(ds:LP):OP:=if ds.length=n then match B (jL N ds)with
 |some (.rt d)=>some d
 |some (.nx _)=>some .none
 |_=>none else none
section
variable {P:Program}{w:World}{K:Fg}{mg:SV}{base:Heap}
theorem jD{x qual:Str}{st:Stmt}{f:Addr}{fd:FuncData}{N ps:List Str}{k:Nat}{B:RO}(F:Fun K x qual st f fd)(S:FnScope N ps (jh st))
  (body:∀(Kc:Value) (A:Around) (Ko:List Env) (s:Shared) (H:Hp) (E:XK),Room k (A.deeper (envOfC qual (jh st) s.heap.objs.size f Kc))->
   ZE (Jy CX0 P w K mg base N qual (jh st) f Kc A Ko s H E).nox (jM st) B):FnOk P w K mg base CX0 (k+1) f fd ps (Pur K ps.length (jw N ps.length B)):=by
 with_unfolding_all
  refine F.ok S (fun vs H Q E h=>?_) (fun Kc A Ko s H vs Q E hr h=>?_)
  ·obtain⟨ds,d,h1,h2,_⟩:=h
   rw[h2.length];exact h1
  ·obtain⟨ds,d,h1,h2,h3,h4⟩:=h
   refine⟨_,body Kc A Ko s H E hr,?_⟩;unfold jw at h3;rw[if_pos h1]at h3;cases hB:B (jL N ds)with
   |none=>rw[hB]at h3;cases h3
   | some o=>
    refine⟨jL N ds,o,aat h2,hB,?_⟩;rw[hB]at h3;cases o with
    |rt c=>cases h3;exact fun v H' s r=>h4 v H' s r
    |nx ρ=>cases h3;exact fun σ H' s r=>h4 .non H' s rfl
    |bk ρ=>cases h3
    |ct ρ=>cases h3
theorem aqp{k n:Nat}{f:Addr}{fd:FuncData}{ps:List Str}{g g':LP->OP}(F:FnOk P w K mg base CX0 k f fd ps (Pur K n g))(h:∀ds d,ds.length=n->g' ds=some d->g ds=some d):FnOk P w K mg base CX0 k f fd ps (Pur K n g'):=
 F.imp fun vs H Q E ⟨ds,d,h1,h2,h3,h4⟩=>⟨ds,d,h1,h2,h ds d h1 h3,h4⟩
end
section
variable {X:Cx}
noncomputable def aqq(K:Fg):R2:=fun x y H Q=>∃a b ys,x= .ref a/\y= .ref b/\SqT K H a []/\SqT K H b ys/\Q (.ref b) H
theorem amZ:OpR X (binaryOp .Add) (aqq X.K):=by
 intro Kp s σ H x y v u Q I rx ry h;obtain⟨a,b,ys,rfl,rfl,ha,hb,q⟩:=h;cases rx;cases ry;obtain⟨its,r1,p1,_⟩:=I.tuple ha;obtain⟨its2,r2,p2,_⟩:=I.tuple hb;cases r1;obtain⟨⟨c1,d1,t1,l1⟩,ho,hc,n,hd⟩:=id p1;obtain⟨⟨c2,d2,t2,l2⟩,ho2,hc2,n2,hd2⟩:=id p2;simp only at hc hd hc2 hd2;subst hc hd hc2 hd2
 exact concat_meets ⟨_,ho,rfl⟩ ⟨_,ho2,rfl⟩ noFill_tuple_add seq_tuple_add PySem.F.slot_tuple_add PySem.F.entry_tuple_add (PySem.F.args_tuple_add_2 _ _)
  (tuple_addW0 a b _ _ n n2 d1 d2 l1 l2 (by simp)) ⟨ho,ho2,⟨.ref b,H,I,rfl,q⟩⟩
noncomputable def ze:PyData->PyData->OP
 |.int i,.int j=>some (.int (i+j))
 |.list xs,.list ys=>if few (xs++ys)=true then some (.list (xs++ys)) else none
 |.tuple [],.tuple ys=>some (.tuple ys)
 |.tuple (x::xs),.tuple ys=>if few ((x::xs)++ys)=true then some (.tuple ((x::xs)++ys)) else none
 |_,_=>none
theorem jv:OpD X (binaryOp .Add) ze:=by
 refine⟨_,aoH.or (aoR.or (amZ.or amG)),fun p q d x y H Q h rx ry k=>?_⟩;unfold ze at h;split at h
 ·cases h
  cases (show x=_ from rx);cases (show y=_ from ry);exact .inl ⟨_,_,rfl,rfl,k _ H (jm.refl H) rfl⟩
 ·rename_i xs ys
  split at h
  ·rename_i hf
   cases h;obtain⟨a,us,e1,e2,e3⟩:=rx;obtain⟨b,ws,e4,e5,e6⟩:=ry
   have hl:us.length+ws.length<1000000:=by
    rw[e3.length,e6.length];simp[few]at hf
    try simp only[List.length_cons]
    omega
   exact .inr (.inl ⟨a,b,us,ws,e1,e4,e2,e5,ab1 hl,fun p hp=>k _ _ (jI hp) ⟨p,_,rfl,jr,Reps.mono (jI hp) _ _ (e3.append e6)⟩⟩)
  ·cases h
 ·rename_i ys
  cases h;obtain⟨a,us,e1,e2,e3⟩:=rx;cases (show us=[] from e3);obtain⟨b,ws,e4,e5,e6⟩:=ry;exact .inr (.inr (.inl ⟨a,b,ws,e1,e4,e2,e5,k _ H (jm.refl H) ⟨b,ws,rfl,e5,e6⟩⟩))
 ·rename_i z xs ys
  split at h
  ·rename_i hf
   cases h;obtain⟨a,us,e1,e2,e3⟩:=rx;obtain⟨b,ws,e4,e5,e6⟩:=ry
   have hl:us.length+ws.length<1000000:=by
    rw[e3.length,e6.length];simp[few]at hf
    try simp only[List.length_cons]
    omega
   refine .inr (.inr (.inr ⟨a,b,us,ws,e1,e4,e2,e5,fun z=>?_,ab1 hl,fun z=>?_,fun _ p hp=>?_⟩))
   ·have:=e3.length;rw[z]at this;simp at this
   ·subst z
    have:=e6.length;have hy:ys=[]:=List.length_eq_zero_iff.mp (by simpa using this.symm);subst hy;exact k _ H (jm.refl H) ⟨a,us,rfl,e2,by simpa using e3⟩
   ·exact k _ _ (jI hp) ⟨p,_,rfl,SqT.of jr,Reps.mono (jI hp) _ _ (e3.append e6)⟩
  ·cases h
 ·cases h
noncomputable def aau:PyData->PyData->OP
 |.int i,.int j=>some (.int (i-j))
 |_,_=>none
theorem Qa:OpD X (binaryOp .Sub) aau:=by
 refine⟨_,aoI,fun p q d x y H Q h rx ry k=>?_⟩;unfold aau at h;split at h
 ·cases h;cases (show x=_ from rx);cases (show y=_ from ry);exact⟨_,_,rfl,rfl,k _ H (jm.refl H) rfl⟩
 ·cases h
theorem Reps.rep{K:Fg}{H:Hp}{ds:LP}{xs:List V}(h:Reps K H ds xs):∀(n:Nat),Reps K H (List.replicate n ds).flatten (List.replicate n xs).flatten
 |0=>rfl
 |n+1=>by rw[List.replicate_succ,List.replicate_succ,List.flatten_cons,List.flatten_cons];exact h.append (Reps.rep h n)
noncomputable def JI:PyData->PyData->OP
 |.int i,.int j=>if (-(2 ^ 64)<i/\i<2 ^ 64)∨(-(2 ^ 64)<j/\j<2 ^ 64) then some (.int (i*j)) else none
 |.list xs,.int k=>if k<1000/\xs.length<1000/\-1000<k then some (.list (List.replicate k.toNat xs).flatten) else none
 |_,_=>none
theorem qv:OpD X (binaryOp .Mult) JI:=by
 refine⟨_,aoJ.or aoS,fun p q d x y H Q h rx ry k=>?_⟩;unfold JI at h;split at h
 ·split at h
  ·rename_i hc
   cases h;cases (show x=_ from rx);cases (show y=_ from ry);exact .inl ⟨_,_,rfl,rfl,hc,k _ H (jm.refl H) rfl⟩
  ·cases h
 ·rename_i xs n
  split at h
  ·rename_i hc
   cases h;obtain⟨a,us,e1,e2,e3⟩:=rx;cases (show y=_ from ry);have hl:=e3.length
   have hs:us.length*n.toNat<=sizeLine:=by
    rw[sizeLine_eq];have h1:us.length<=1000:=by omega
    have h2:n.toNat<=1000:=by omega
    exact Nat.le_trans (Nat.mul_le_mul h1 h2) (by decide)
   exact .inr ⟨a,n,us,e1,rfl,e2,by omega,by omega,hs,fun p hp=>k _ _ (jI hp) ⟨p,_,rfl,jr,Reps.mono (jI hp) _ _ (Reps.rep e3 n.toNat)⟩⟩
  ·cases h
 ·cases h
noncomputable def adl:PyData->PyData->OP
 |.int i,.int j=>if 0<j/\j<1073741824 then some (.int (i / j)) else none
 |_,_=>none
theorem JJ:OpD X (binaryOp .FloorDiv) adl:=by
 refine⟨_,amz,fun p q d x y H Q h rx ry k=>?_⟩;unfold adl at h;split at h
 ·split at h
  ·rename_i hc
   cases h;cases (show x=_ from rx);cases (show y=_ from ry);exact⟨_,_,rfl,rfl,hc,k _ H (jm.refl H) rfl⟩
  ·cases h
 ·cases h
noncomputable def ai4:PyData->PyData->OP
 |.int i,.int j=>if 0<j then some (.int (i % j)) else none
 |_,_=>none
theorem Jq:OpD X (binaryOp .Mod) ai4:=by
 refine⟨_,aoK,fun p q d x y H Q h rx ry k=>?_⟩;unfold ai4 at h;split at h
 ·split at h
  ·rename_i hc
   cases h;cases (show x=_ from rx);cases (show y=_ from ry);exact⟨_,_,rfl,rfl,hc,k _ H (jm.refl H) rfl⟩
  ·cases h
 ·cases h
noncomputable def okD(d:PyData):Bool:=d.canLay0&&decide (d.depth<30)
noncomputable def aqr(K:Fg)(neg:Bool):R2:=fun x y H Q=>∃p q,Rep K H p x/\Rep K H q y/\okD p=true/\okD q=true/\Q (.bl (if neg then !PyData.eqv p q else PyData.eqv p q)) H
theorem qm{d:PyData}(h:okD d=true):d.canLay0=true:=by simp[okD]at h;exact h.1
theorem abl{d:PyData}(h:okD d=true):d.depth<30:=by simp[okD]at h;exact h.2
theorem ao2(hu:X.A.units+64<cLine):OpR X (compareOp .Eq) (aqr X.K false):=by
 intro Kp s σ H x y v u Q I rx ry ⟨p,q,h1,h2,h3,h4,k⟩;obtain⟨as,ra⟩:=qB I p x v h1 rx (qm h3);obtain⟨bs,rb⟩:=qB I q y u h2 ry (qm h4);have d1:=abl h3;exact SeqAt.compareEq_reads ra rb (qm h3) (qm h4) (by omega) ⟨.bl _,H,I,rfl,k⟩
theorem ao3(hu:X.A.units+64<cLine):OpR X (compareOp .NotEq) (aqr X.K true):=by
 intro Kp s σ H x y v u Q I rx ry ⟨p,q,h1,h2,h3,h4,k⟩;obtain⟨as,ra⟩:=qB I p x v h1 rx (qm h3);obtain⟨bs,rb⟩:=qB I q y u h2 ry (qm h4);have d1:=abl h3;exact SeqAt.compareNe_reads ra rb (qm h3) (qm h4) (by omega) ⟨.bl _,H,I,rfl,k⟩
noncomputable def aqs(K:Fg):R2:=fun x y H Q=>∃a b ns,x= .ref a/\y= .ref b/\SqL K H a (List.map V.int ns)/\H b=some (.lst [])/\Q (.bl ns.isEmpty) H
theorem Zp(h:Heap):∀(ns:List Int) (us:List Value),jB (List.map V.int ns) us->∃as,ReadsAll h us (ns.map PyData.int) as
 | [],us,r=>by cases r;exact⟨_,.nil⟩
 | n::ns,us,r=>by
  cases r with
  | cons r1 r2=>
   obtain⟨t,rfl⟩:=r1;obtain⟨as,ra⟩:=Zp h ns _ r2;exact⟨_,.cons (.int n t) ra⟩
theorem afw:∀ns:List Int,PyData.canLayAll0 (ns.map PyData.int)=true
 | []=>rfl
 |n::ns=>by simp[PyData.canLayAll0,PyData.canLay0,afw ns]
theorem am0(hu:X.A.units+64<cLine):OpR X (compareOp .Eq) (aqs X.K):=by
 intro Kp s σ H x y v u Q I rx ry ⟨a,b,ns,e1,e2,h1,h2,k⟩;subst e1;subst e2;cases rx;cases ry;obtain⟨its,rv,⟨o,n,g1,g2,g3,g4⟩,_⟩:=I.list h1;obtain⟨as,ra⟩:=Zp s.heap ns its rv;obtain⟨bs,rb⟩:=qB I (.list []) (.ref b) (.ref b) ⟨b,[],rfl,h2,rfl⟩ rfl rfl;have ra':Reads s.heap (.ref a) (.list (ns.map PyData.int)) (a::as):= .list g1 g2 g4 (by simpa using ra);refine SeqAt.compareEq_reads ra' rb (by simpa[PyData.canLay0]using afw ns) rfl ?_ ⟨.bl _,H,I,rfl,?_⟩
 ·have:(PyData.list []).depth=1:=rfl
  rw[this];omega
 ·have:PyData.eqv (.list (ns.map PyData.int)) (.list [])=ns.isEmpty:=by cases ns<;>simp[PyData.eqv,PyData.eqvAll]
  rw[this];exact k
noncomputable def dEq:PyData->PyData->OP
 |.dict kvs,.list []=>if zv kvs=true then some (.bool kvs.isEmpty) else none
 |p,q=>if okD p=true/\okD q=true then some (.bool (PyData.eqv p q)) else none
theorem aav(hu:X.A.units+64<cLine):OpD X (compareOp .Eq) dEq:=by
 refine⟨_,(am0 hu).or (ao2 hu),fun p q d x y H Q h rx ry k=>?_⟩;unfold dEq at h;split at h
 ·split at h
  ·rename_i hs
   cases h;obtain⟨a,ns,e1,e2,e3⟩:=rx.scrOut hs;obtain⟨b,ws,e4,e5,e6⟩:=ry;cases (show ws=[] from e6);refine .inl ⟨a,b,ns,e1,e4,e2,e5,?_⟩;have:ns.isEmpty=(ns.map fun n=>(PyData.int n,PyData.none)).isEmpty:=by simp
   subst e3;rw[this];exact k _ H (jm.refl H) rfl
  ·cases h
 ·split at h
  ·rename_i hc
   cases h;exact .inr ⟨p,q,rx,ry,hc.1,hc.2,k _ H (jm.refl H) rfl⟩
  ·cases h
noncomputable def dNe:PyData->PyData->OP:=fun p q=>if okD p=true/\okD q=true then some (.bool (!PyData.eqv p q)) else none
theorem Jg(hu:X.A.units+64<cLine):OpD X (compareOp .NotEq) dNe:=by
 refine⟨_,ao3 hu,fun p q d x y H Q h rx ry k=>?_⟩;unfold dNe at h;split at h
 ·rename_i hc
  cases h;exact⟨p,q,rx,ry,hc.1,hc.2,k _ H (jm.refl H) rfl⟩
 ·cases h
noncomputable def ao4(K:Fg)(neg:Bool):R2:=fun x y H Q=>∃p ds,Rep K H p x/\(Rep K H (.list ds) y∨Rep K H (.tuple ds) y)/\okD p=true/\okD (.list ds)=true/\Q (.bl (if neg then !(ds.any fun z=>PyData.eqv z p) else ds.any fun z=>PyData.eqv z p)) H
theorem ao5(hu:X.A.units+64<cLine):OpR X (compareOp .In) (ao4 X.K false):=by
 intro Kp s σ H x y v u Q I rx ry ⟨p,ds,h1,h2,h3,h4,k⟩;obtain⟨as,ra⟩:=qB I p x v h1 rx (qm h3);have d1:=abl h3;have hc:PyData.canLayAll0 ds=true:=by simpa[PyData.canLay0]using qm h4
 rcases h2 with h2 | h2
 ·obtain⟨bs,rb⟩:=qB I (.list ds) y u h2 ry (qm h4)
  exact SeqAt.in_list_reads rb ra hc (qm h3) (by omega) ⟨.bl _,H,I,rfl,k⟩
 ·obtain⟨bs,rb⟩:=qB I (.tuple ds) y u h2 ry (by simpa[PyData.canLay0]using hc)
  exact SeqAt.in_tuple_reads rb ra hc (qm h3) (by omega) ⟨.bl _,H,I,rfl,k⟩
theorem ai5(hu:X.A.units+64<cLine):OpR X (compareOp .NotIn) (ao4 X.K true):=by
 intro Kp s σ H x y v u Q I rx ry ⟨p,ds,h1,h2,h3,h4,k⟩;obtain⟨as,ra⟩:=qB I p x v h1 rx (qm h3);have d1:=abl h3;have hc:PyData.canLayAll0 ds=true:=by simpa[PyData.canLay0]using qm h4
 rcases h2 with h2 | h2
 ·obtain⟨bs,rb⟩:=qB I (.list ds) y u h2 ry (qm h4)
  exact SeqAt.notIn_list_reads rb ra hc (qm h3) (by omega) ⟨.bl _,H,I,rfl,k⟩
 ·obtain⟨bs,rb⟩:=qB I (.tuple ds) y u h2 ry (by simpa[PyData.canLay0]using hc)
  exact SeqAt.notIn_tuple_reads rb ra hc (qm h3) (by omega) ⟨.bl _,H,I,rfl,k⟩
noncomputable def dIn(neg:Bool):PyData->PyData->OP:=fun p q=>match q with
 |.list ds=>if okD p=true/\okD (.list ds)=true then some (.bool (if neg then !(ds.any fun z=>PyData.eqv z p) else ds.any fun z=>PyData.eqv z p)) else none
 |.tuple ds=>if okD p=true/\okD (.list ds)=true then some (.bool (if neg then !(ds.any fun z=>PyData.eqv z p) else ds.any fun z=>PyData.eqv z p)) else none
 |_=>none
theorem aof{neg:Bool}{p q d:PyData}{x y:V}{H:Hp}{Q:VK}{K:Fg}(h:dIn neg p q=some d)(rx:Rep K H p x)(ry:Rep K H q y)(k:∀v H',jm H H'->Rep K H' d v->Q v H'):ao4 K neg x y H Q:=by
 unfold dIn at h;split at h
 ·split at h
  ·rename_i ds hc
   cases h;exact⟨p,ds,rx,.inl ry,hc.1,hc.2,k _ H (jm.refl H) rfl⟩
  ·cases h
 ·split at h
  ·rename_i ds hc
   cases h;exact⟨p,ds,rx,.inr ry,hc.1,hc.2,k _ H (jm.refl H) rfl⟩
  ·cases h
 ·cases h
theorem ao6(hu:X.A.units+64<cLine):OpD X (compareOp .In) (dIn false):=⟨_,ao5 hu,fun p q d x y H Q h rx ry k=>aof h rx ry k⟩
theorem adm(hu:X.A.units+64<cLine):OpD X (compareOp .NotIn) (dIn true):=⟨_,ai5 hu,fun p q d x y H Q h rx ry k=>aof h rx ry k⟩
noncomputable def zz(f:Int->Int->Bool):PyData->PyData->OP
 |.int i,.int j=>some (.bool (f i j))
 |_,_=>none
theorem aef{f:Int->Int->Bool}{p q d:PyData}{x y:V}{H:Hp}{Q:VK}{K:Fg}(h:zz f p q=some d)(rx:Rep K H p x)(ry:Rep K H q y)(k:∀v H',jm H H'->Rep K H' d v->Q v H'):rI0 (fun i j=> .bl (f i j)) x y H Q:=by
 unfold zz at h;split at h
 ·cases h;cases (show x=_ from rx);cases (show y=_ from ry);exact⟨_,_,rfl,rfl,k _ H (jm.refl H) rfl⟩
 ·cases h
theorem agP:OpD X (compareOp .Lt) (zz fun i j=>decide (i<j)):=⟨_,ap8,fun p q d x y H Q h rx ry k=>aef h rx ry k⟩
theorem aaw:OpD X (compareOp .LtE) (zz fun i j=>decide (i<=j)):=⟨_,ap9,fun p q d x y H Q h rx ry k=>aef h rx ry k⟩
theorem akw:OpD X (compareOp .Gt) (zz fun i j=>decide (j<i)):=⟨_,aqa,fun p q d x y H Q h rx ry k=>aef h rx ry k⟩
theorem akx:OpD X (compareOp .GtE) (zz fun i j=>decide (j<=i)):=⟨_,aqb,fun p q d x y H Q h rx ry k=>aef h rx ry k⟩
noncomputable def chn(g g':PyData->PyData->OP)(fa fb fc:RP):RP:=fun ρ=>(fa ρ).bind fun x=>(fb ρ).bind fun y=>(g x y).bind fun z=>(asB z).bind fun t=>if t=true then (fc ρ).bind fun w=>g' y w else some (.bool false)
variable {a b c e:Expr}{fa fb fc:RP}{pos:Pos}
theorem aog{g g':PyData->PyData->OP}{K:Fg}{r r':R2}(hr:∀p q d x y H Q,g p q=some d->Rep K H p x->Rep K H q y->(∀v H',jm H H'->Rep K H' d v->Q v H')->r x y H Q)
  (hr':∀p q d x y H Q,g' p q=some d->Rep K H p x->Rep K H q y->(∀v H',jm H H'->Rep K H' d v->Q v H')->r' x y H Q) {σ:St} {H:Hp} {Q:VK} (h:tD K (chn g g' fa fb fc) σ H Q):agD r r' (tD K fa) (tD K fb) (tD K fc) σ H Q:=by
 obtain⟨ρ,d,en,h,k⟩:=h;unfold chn at h;cases ha:fa ρ with
 |none=>rw[ha]at h;cases h
 | some p=>
  cases hb:fb ρ with
  |none=>rw[ha,hb]at h;cases h
  | some q=>
   rw[ha,hb]at h;cases hg:g p q with
   |none=>simp[hg]at h
   | some z=>
    cases ht:asB z with
    |none=>simp[hg,ht]at h
    | some t=>
     have hz:=JG ht;subst hz;refine⟨ρ,p,en,ha,fun x H1 s1 r1=>⟨ρ,q,en.mono s1,hb,fun y H2 s2 r2=>?_⟩⟩;refine hr p q _ x y H2 _ hg (Rep.mono s2 p x r1) r2 fun v H3 s3 r3=>⟨t,r3,?_⟩;have s13:=s1.trans (s2.trans s3);cases t with
     | false=>
      rw[if_neg Bool.false_ne_true];have hd:PyData.bool false=d:=by simpa[hg,asB]using h
      subst hd;exact k _ H3 s13 rfl
     | true=>
      rw[if_pos rfl];cases hc:fc ρ with
      |none=>simp[hg,asB,hc]at h
      | some w=>
       refine⟨ρ,w,en.mono s13,hc,fun z H4 s4 r4=>?_⟩;exact hr' q w d y z H4 Q (by simpa[hg,asB,hc]using h) (Rep.mono (s3.trans s4) q y r2) r4 fun v H5 s5 r5=>k v H5 (s13.trans (s4.trans s5)) r5
theorem aky{op op':CmpOp}{g g':PyData->PyData->OP}(ho:OpD X (compareOp op) g)(ho':OpD X (compareOp op') g')(ha:PD X a fa)(hb:PD X b fb)(hc:PD X c fc)
  (hm:lastMarks [op,op'] [b,c]=false:=by with_unfolding_all rfl):PD X (.Compare a [op,op'] [b,c] pos) (chn g g' fa fb fc):=by
 with_unfolding_all
  obtain⟨r,h1,h2⟩:=ho;obtain⟨r',h3,h4⟩:=ho';exact PE.imp (ake h1 h3 ha hb hc hm) fun σ H Q h=>aog h2 h4 h
theorem adn{op op':CmpOp}{g g':PyData->PyData->OP}(ho:OpD X (compareOp op) g)(ho':OpD X (compareOp op') g')(ha:PD X a fa)(hb:PD X b fb)(hc:PD X c fc)
  (hm:lastMarks [op,op'] [b,c]=false:=by with_unfolding_all rfl):PTD X (.Compare a [op,op'] [b,c] pos) (tst (chn g g' fa fb fc)):=by
 with_unfolding_all
  obtain⟨r,h1,h2⟩:=ho;obtain⟨r',h3,h4⟩:=ho';refine PT.imp (akf h1 h3 ha hb hc hm) fun σ H Q ⟨ρ,t,en,h,k⟩=>?_;cases hd:chn g g' fa fb fc ρ with
  |none=>simp[tst,hd]at h
  | some d=>
   have ht:d= .bool t:=JG (by simpa[tst,hd]using h);subst ht;exact aog h2 h4 ⟨ρ,_,en,hd,fun v H' s r=>⟨t,r,k H' s⟩⟩
noncomputable def dIx:PyData->PyData->OP
 |.list ds,.int i=>if ds.length<1000000 then atI ds i else none
 |.tuple ds,.int i=>if ds.length<1000000 then atI ds i else none
 |.dict kvs,.int i=>if kvs.length<1000000/\zv kvs=true then (atI kvs i).map (·.1) else none
 |_,_=>none
theorem ahX{K:Fg}{H:Hp}{ds:LP}{xs:List V}{i:Int}{d:PyData}(r:Reps K H ds xs)(h:atI ds i=some d):∃x,atI xs i=some x/\Rep K H d x:=by
 have hl:=r.length;unfold atI at h ⊢;rw[hl];cases e:ixN ds.length i with
 |none=>rw[e]at h;cases h
 | some j=>
  rw[e]at h;obtain⟨x,e1,e2⟩:=r.get (show ds[j]?=some d from h);exact⟨x,e1,e2⟩
noncomputable def IxD(X:Cx)(g:PyData->PyData->OP):Prop:=∃r,IxR X r/\∀p q d x y H Q,g p q=some d->Rep X.K H p x->Rep X.K H q y->(∀v H',jm H H'->Rep X.K H' d v->Q v H')->r x y H Q
theorem ixd:IxD X dIx:=by
 refine⟨_,amI.or aoP,fun p q d x y H Q h rx ry k=>?_⟩;unfold dIx at h;split at h
 ·split at h
  ·obtain⟨a,us,e1,e2,e3⟩:=rx
   cases (show y=_ from ry);obtain⟨z,g1,g2⟩:=ahX e3 h;exact .inl ⟨a,us,_,z,e1,rfl,SqL.of e2,g1,k z H (jm.refl H) g2⟩
  ·cases h
 ·split at h
  ·obtain⟨a,us,e1,e2,e3⟩:=rx
   cases (show y=_ from ry);obtain⟨z,g1,g2⟩:=ahX e3 h;exact .inr ⟨a,us,_,z,e1,rfl,e2,g1,k z H (jm.refl H) g2⟩
  ·cases h
 ·split at h
  ·rename_i hs
   obtain⟨a,ns,e1,e2,e3⟩:=rx.scrOut hs.2;cases (show y=_ from ry);subst e3;rename_i i;unfold atI at h;rw[List.length_map]at h;cases e:ixN ns.length i with
   |none=>rw[e]at h;cases h
   | some j=>
    rw[e]at h;have h':((ns.map fun n=>(PyData.int n,PyData.none))[j]?).map (·.1)=some d:=h;rw[List.getElem?_map]at h';cases e4:ns[j]? with
    |none=>rw[e4]at h';cases h'
    | some n=>
     rw[e4]at h';cases h';refine .inl ⟨a,List.map V.int ns,i,.int n,e1,rfl,e2,?_,k _ H (jm.refl H) rfl⟩;unfold atI;rw[List.length_map,e];show(List.map V.int ns)[j]?=_;rw[List.getElem?_map,e4];rfl
  ·cases h
 ·cases h
theorem j0(ha:PD X a fa)(hb:PD X b fb)(hs:ahT b:=by intro _ _;rfl):PD X (.Subscript a b pos) (op2 dIx fa fb):=by
 with_unfolding_all
  obtain⟨r,h1,h2⟩:=ixd (X:=X);exact PE.imp (aqh h1 ha hb hs) fun σ H Q h=>amU h2 h
noncomputable def ZH(ds:LP):OP:=match ds with
 | [.list xs]=>some (.int xs.length)
 | [.tuple xs]=>some (.int xs.length)
 | [.dict xs]=>if zv xs=true then some (.int xs.length) else none
 |_=>none
theorem zH:Zo X (.builtin "len") ZH:=by
 refine⟨_,aea,fun ds d xs H Q h r k=>?_⟩;unfold ZH at h;split at h
 ·cases h
  obtain⟨x,q,e1,e2,e3⟩:=r;cases (show q=[] from e3);obtain⟨a,us,g1,g2,g3⟩:=e2;subst g1;exact⟨a,us,e1,.inl (SqL.of g2),k _ H (jm.refl H) (by show _=_;rw[g3.length])⟩
 ·cases h
  obtain⟨x,q,e1,e2,e3⟩:=r;cases (show q=[] from e3);obtain⟨a,us,g1,g2,g3⟩:=e2;subst g1;exact⟨a,us,e1,.inr g2,k _ H (jm.refl H) (by show _=_;rw[g3.length])⟩
 ·split at h
  ·rename_i hs
   cases h;obtain⟨x,q,e1,e2,e3⟩:=r;cases (show q=[] from e3);obtain⟨a,ns,g1,g2,g3⟩:=e2.scrOut hs;subst g1;subst g3;exact⟨a,_,e1,.inl g2,k _ H (jm.refl H) (by show _=_;simp)⟩
  ·cases h
 ·cases h
noncomputable def akz(ds:LP):OP:=match ds with
 | [.int i,.int j]=>some (.int (if j>i then j else i))
 |_=>none
noncomputable def ado(ds:LP):OP:=match ds with
 | [.int i,.int j]=>some (.int (if j<i then j else i))
 |_=>none
theorem am1(hc:X.calm=true):Zo X (.builtin "max") akz:=by
 refine⟨_,aiU hc,fun ds d xs H Q h r k=>?_⟩;unfold akz at h;split at h
 ·cases h
  obtain⟨x,q,e1,e2,y,q',e3,e4,e5⟩:=r;cases (show x=_ from e2);cases (show y=_ from e4);cases (show q'=[] from e5);subst e3;exact⟨_,_,e1,k _ H (jm.refl H) rfl⟩
 ·cases h
theorem ahY(hc:X.calm=true):Zo X (.builtin "min") ado:=by
 refine⟨_,aiV hc,fun ds d xs H Q h r k=>?_⟩;unfold ado at h;split at h
 ·cases h
  obtain⟨x,q,e1,e2,y,q',e3,e4,e5⟩:=r;cases (show x=_ from e2);cases (show y=_ from e4);cases (show q'=[] from e5);subst e3;exact⟨_,_,e1,k _ H (jm.refl H) rfl⟩
 ·cases h
end
section
variable {X:Cx}{Kp:List (Addr×Obj)}{σ:St}{H:Hp}{s:Shared}
theorem aax{prog:Program}{w:World}{A:Around}{E:Value->SP0}{l:Addr}{its:Array Value}{Q:Value->SP0}(hl:s.heap.IsList l its)
  (h:∀(h2:Heap) (it:Addr),(h2.IsListIter it l 0/\h2.IsList l its)->(∀b∈[it,l],b<h2.objs.size)->l≠it->(∀b o,s.heap.get? b=some o->h2.get? b=some o)->s.heap.get? it=none->Q (.ref it) { s with heap:=h2 }):
  wpAny (model prog w) A (pyIter (.ref l)) Q E s:=by
 have hlt:l<s.heap.objs.size:=by
  obtain⟨_,e,_⟩:=hl;exact Heap.lt_size e
 refine wpAny_pyIter_list hl (h _ _ ⟨⟨_,Heap.get?_push_size _ rfl,rfl,rfl⟩,hl.push _⟩ (fun b hb=>?_) (Nat.ne_of_lt hlt) (fun b o e=>Heap.get?_push_of_some _ e) (Heap.get?_none_of_le (Nat.le_refl _)));rw[Heap.size_push];rcases List.mem_cons.mp hb with e | hb
 ·rw[e];exact Nat.lt_succ_self _
 ·have e:b=l:=by simpa using hb
  rw[e];exact Nat.lt_succ_of_lt hlt
theorem adp{prog:Program}{w:World}{A:Around}{E:Value->SP0}{l:Addr}{its:Array Value}{Q:Value->SP0}(hl:s.heap.IsTuple l its)
  (h:∀(h2:Heap) (it:Addr),(h2.IsTupleIter it l 0/\h2.IsTuple l its)->(∀b∈[it,l],b<h2.objs.size)->l≠it->(∀b o,s.heap.get? b=some o->h2.get? b=some o)->s.heap.get? it=none->Q (.ref it) { s with heap:=h2 }):
  wpAny (model prog w) A (pyIter (.ref l)) Q E s:=by
 have hlt:l<s.heap.objs.size:=by
  obtain⟨_,e,_⟩:=hl;exact Heap.lt_size e
 have hl2:∀o,(s.heap.push o).IsTuple l its:=fun o=>by
  obtain⟨ob,e,r⟩:=hl;exact⟨ob,Heap.get?_push_of_some _ e,r⟩
 refine wpAny_pyIter_tuple hl (h _ _ ⟨⟨_,Heap.get?_push_size _ rfl,rfl,rfl⟩,hl2 _⟩ (fun b hb=>?_) (Nat.ne_of_lt hlt) (fun b o e=>Heap.get?_push_of_some _ e) (Heap.get?_none_of_le (Nat.le_refl _)));rw[Heap.size_push];rcases List.mem_cons.mp hb with e | hb
 ·rw[e];exact Nat.lt_succ_self _
 ·have e:b=l:=by simpa using hb
  rw[e];exact Nat.lt_succ_of_lt hlt
theorem ZI{h h2 h3 : Heap}{it : Addr}(k1 : ∀b o, h.get? b = some o -> h2.get? b = some o)(hn : h.get? it = none)(k2 : ∀b o, b∉[it] -> h2.get? b = some o -> h3.get? b = some o) : ∀b o, h.get? b = some o -> h3.get? b = some o := fun b o e =>
  k2 b o (fun z => by have e1 : b = it := by simpa using z
                      rw [e1, hn] at e; cases e) (k1 b o e)
theorem ahZ:∀{bs:List Bool}{us:List Value},jB (bs.map V.bl) us->us=bs.map Value.bool
 | [],us,r=>by cases r;rfl
 | b::bs,us,r=>by
  cases r with
  |cons r1 r2=>cases (show _=_ from r1);rw[ahZ r2];rfl
theorem ai6(bs:List Bool):(List.range bs.length).all (fun i=>bs.getD i false)=bs.all id:=by
 have:bs=(List.range bs.length).map (fun i=>bs.getD i false):=by
  apply List.ext_getElem?;intro i;rw[List.getElem?_map];by_cases h:i<bs.length
  ·rw[List.getElem?_range h];simp[List.getD,h]
  ·simp[h]
 conv=>rhs;rw[this]
 rw[List.all_map];rfl
noncomputable def aro(K:Fg):List V->Hp->VK->Prop:=fun xs H Q=>∃a bs,xs=[.ref a]/\SqL K H a (List.map V.bl bs)/\Q (.bl (bs.all id)) H
theorem ai7(hc:X.calm=true):zu X (.builtin "all") (aro X.K):=by
 intro Kp s σ H xs us Q I r ⟨a,bs,e,hq,q⟩;subst e;obtain⟨u,rfl,rx⟩:=abP r;cases rx;obtain⟨its,rv,pl,hz⟩:=I.list hq;have ei:=ahZ rv;have hh:=I.ok.hd hc;refine call_all_walk (aax pl.isList fun h2 it st hlt hne k1 hn=>?_);refine⟨it,[it,a],[it],its.toArray.size,(fun i v=>its.toArray[i]?=some v),_,fun i=>bs.getD i false,rfl,Walks.list (A:=X.A.in1) hh it a hne its.toArray,st,?_,fun h3 tk k2=>?_⟩
 ·intro i v s' Q' E' hP hq'
  have:v= .bool (bs.getD i false):=by
   have hP':its[i]?=some v:=by simpa using hP
   rw[ei,List.getElem?_map]at hP';cases hb:bs[i]? with
   |none=>rw[hb]at hP';cases hP'
   |some b=>rw[hb]at hP';cases hP';simp[List.getD,hb]
  subst this;exact wpAny_truthy_bool hq'
 ·have I3:=I.kept (t':=tk) (ZI k1 hn k2)
  have hl:its.toArray.size=bs.length:=by rw[ei];simp
  refine⟨.bl (bs.all id),H,I3,?_,q⟩;show _=_;rw[hl,ai6]
noncomputable def bls:LP->Option (List Bool)
 | []=>some []
 |d::r=>(asB d).bind fun b=>(bls r).map fun q=>b::q
theorem Reps.bls{K:Fg}{H:Hp}:∀{ds:LP}{bs:List Bool}{xs:List V},BX.bls ds=some bs->Reps K H ds xs->xs=bs.map V.bl
 | [],bs,xs,h,r=>by simp[BX.bls]at h;subst h;exact r
 | d::ds,bs,xs,h,⟨x,q,e1,e2,e3⟩=>by
  subst e1;cases h1:asB d with
  |none=>simp[BX.bls,h1]at h
  | some b=>
   cases h2:BX.bls ds with
   |none=>simp[BX.bls,h1,h2]at h
   | some r=>
    have:b::r=bs:=by simpa[BX.bls,h1,h2]using h
    subst this;have hd:=JG h1;subst hd;cases (show x=_ from e2);rw[Reps.bls h2 e3];rfl
noncomputable def am2(ds:LP):OP:=match ds with
 | [.list xs]=>(bls xs).map fun bs=> .bool (bs.all id)
 |_=>none
theorem akA(hc:X.calm=true):Zo X (.builtin "all") am2:=by
 refine⟨_,ai7 hc,fun ds d xs H Q h r k=>?_⟩;unfold am2 at h;split at h
 ·rename_i ys
  cases hb:bls ys with
  |none=>simp[hb]at h
  | some bs=>
   have:PyData.bool (bs.all id)=d:=by simpa[hb]using h
   subst this;obtain⟨x,q,e1,e2,e3⟩:=r;cases (show q=[] from e3);obtain⟨a,us,g1,g2,g3⟩:=e2;subst g1;have:=Reps.bls hb g3;subst this;exact⟨a,bs,e1,SqL.of g2,k _ H (jm.refl H) rfl⟩
 ·cases h
noncomputable def Qb:PyData->Option Int
 |.int i=>some i
 |_=>none
noncomputable def qD:LP->Option (List Int)
 | []=>some []
 |d::r=>(Qb d).bind fun b=>(qD r).map fun q=>b::q
theorem zS:∀{ds:LP}{ns:List Int},qD ds=some ns->ds=ns.map PyData.int
 | [],ns,h=>by simp[qD]at h;subst h;rfl
 | d::ds,ns,h=>by
  cases d with
  | int i=>
   cases h2:qD ds with
   |none=>simp[qD,Qb,h2]at h
   | some r=>
    have:i::r=ns:=by simpa[qD,Qb,h2]using h
    subst this;rw[zS h2];rfl
  |_=>simp[qD,Qb]at h
theorem qV{ns:List Int}{us:List Value}{i:Nat}{v:Value}(r:jB (ns.map V.int) us)(h:us.toArray[i]?=some v):∃t,v= .int (ns.getD i 0) t:=by
 have h':us[i]?=some v:=by simpa using h
 have hi:i<us.length:=(List.getElem?_eq_some_iff.mp h').1;have hl:=r.length;rw[List.length_map]at hl
 obtain⟨u,e1,e2⟩:=r.get (show(ns.map V.int)[i]?=some (V.int (ns.getD i 0)) by
  rw [List.getElem?_map];have:i<ns.length:=by omega
  simp [List.getD,this])
 rw[h']at e1;cases e1;exact e2
theorem aa2(ns:List Int):preSum (fun i=>ns.getD i 0) ns.length=ns.sum:=by
 have go:∀k,k<=ns.length->preSum (fun i=>ns.getD i 0) k=(ns.take k).sum:=by
  intro k
  induction k with
  |zero=>intro _;simp[preSum]
  | succ k ih=>
   intro hk;have hlt:k<ns.length:=by omega
   have h1:ns.take (k+1)=ns.take k++[ns[k]]:=by rw[List.take_succ];simp[hlt]
   rw[h1];simp only[preSum,ih (by omega),List.sum_append,List.sum_cons,List.sum_nil,Int.add_zero];simp[List.getD,hlt]
 have:=go ns.length (Nat.le_refl _);simpa using this
noncomputable def arp(K:Fg):List V->Hp->VK->Prop:=fun xs H Q=>∃a ns,xs=[.ref a]/\(SqL K H a (List.map V.int ns)∨SqT K H a (List.map V.int ns))/\Q (.int ns.sum) H
theorem ai8(hc:X.calm=true):zu X (.builtin "sum") (arp X.K):=by
 intro Kp s σ H xs us Q I r ⟨a,ns,e,hq,q⟩;subst e;obtain⟨u,rfl,rx⟩:=abP r;cases rx;have hh:=I.ok.hd hc;rcases hq with hq | hq
 ·obtain⟨its,rv,pl,hz⟩:=I.list hq
  have hl:its.toArray.size=ns.length:=by have:=rv.length;simp at this ⊢;omega
  refine call_sum_walkG (aax pl.isList fun h2 it st hlt hne k1 hn=>?_);refine⟨it,[it,a],[it],its.toArray.size,(fun i v=>its.toArray[i]?=some v),_,fun i=>ns.getD i 0,rfl,Walks.list (A:=X.A.in1) hh it a hne its.toArray,st,hlt,fun i v hP=>qV rv hP,fun h3 tk t' k2=>?_⟩;exact⟨.int ns.sum,H,I.kept (t':=tk) (ZI k1 hn k2),⟨t',by rw[hl,aa2]⟩,q⟩
 ·obtain⟨its,rv,pl,hz⟩:=I.tuple hq
  have hl:its.toArray.size=ns.length:=by have:=rv.length;simp at this ⊢;omega
  refine call_sum_walkG (adp (show s.heap.IsTuple a its.toArray from pl) fun h2 it st hlt hne k1 hn=>?_);refine⟨it,[it,a],[it],its.toArray.size,(fun i v=>its.toArray[i]?=some v),_,fun i=>ns.getD i 0,rfl,Walks.tuple (A:=X.A.in1) hh it a hne its.toArray,st,hlt,fun i v hP=>qV rv hP,fun h3 tk t' k2=>?_⟩;exact⟨.int ns.sum,H,I.kept (t':=tk) (ZI k1 hn k2),⟨t',by rw[hl,aa2]⟩,q⟩
noncomputable def ao7(ds:LP):OP:=match ds with
 | [.list xs]=>(qD xs).map fun ns=> .int ns.sum
 | [.tuple xs]=>(qD xs).map fun ns=> .int ns.sum
 |_=>none
theorem ao8(hc:X.calm=true):Zo X (.builtin "sum") ao7:=by
 refine⟨_,ai8 hc,fun ds d xs H Q h r k=>?_⟩;unfold ao7 at h;split at h
 ·rename_i ys
  cases hb:qD ys with
  |none=>simp[hb]at h
  | some ns=>
   have:PyData.int ns.sum=d:=by simpa[hb]using h
   subst this;obtain⟨x,q,e1,e2,e3⟩:=r;cases (show q=[] from e3);obtain⟨a,us,g1,g2,g3⟩:=e2;subst g1;rw[zS hb]at g3;have:=Reps.ints g3;subst this;exact⟨a,ns,e1,.inl (SqL.of g2),k _ H (jm.refl H) rfl⟩
 ·rename_i ys
  cases hb:qD ys with
  |none=>simp[hb]at h
  | some ns=>
   have:PyData.int ns.sum=d:=by simpa[hb]using h
   subst this;obtain⟨x,q,e1,e2,e3⟩:=r;cases (show q=[] from e3);obtain⟨a,us,g1,g2,g3⟩:=e2;subst g1;rw[zS hb]at g3;have:=Reps.ints g3;subst this;exact⟨a,ns,e1,.inr g2,k _ H (jm.refl H) rfl⟩
 ·cases h
end
section
variable {prog:Program}{w:World}{A:Around}{E:Value->SP0}{s:Shared}
theorem Zs{it t:Addr}{i:Nat}{ys:Array Value}{x:Value}{Q:Value->SP0}(hit:s.heap.IsTupleIter it t i)(ht:s.heap.IsTuple t ys)(hx:ys[i]?=some x)
  (hQ:∀h',h'.IsTupleIter it t (i+1)->Heap.SameBut it s.heap h'->Q x { s with heap:=h' }):wpAny (model prog w) A (Builtin.SmallTypes.nextOf (.ref it)) Q E s:=by
 obtain⟨o,ho,hc,hd⟩:=id hit;obtain⟨ot,hot,_,nt,hdt⟩:=ht;unfold Builtin.SmallTypes.nextOf
 refine wpAny_bind (wpAny_callSpecial?_slot (name:=Str.ofString "__next__") hit.typeIs F.slot_tuple_iterator_next
  (wpAny_call_entry F.slot_tuple_iterator_next hit.typeIs F.entry_tuple_iterator_next ?_
   (F.args_tuple_iterator_next_1 _)))
 refine wpAny_bind (m:=field (.ref it) 0) (wpAny_field ho hd (x:= .ref t) rfl ?_);have no:¬ ((Value.ref t==Value.none)=true):=Bool.false_ne_true
 show wpAny _ _ (if (Value.ref t==Value.none)=true then _ else
  _) _ _ s
 rw[if_neg no];refine wpAny_bind (m:=field (.ref it) 1) (wpAny_field ho hd (x:= .int i 0) rfl ?_);refine wpAny_bind (m:=seqItems? (.ref t)) (wpAny_seqItems hot hdt ?_);simp only[Int.toNat_natCast,hx];refine wpAny_bind (wpAny_setField ho hd (by simp) (wpAny_pure ⟨x,rfl,wpAny_pure (hQ _ ?_ (Heap.SameBut.update ..))⟩));refine⟨_,Heap.get?_update_self _ ho (Obj.isFreed_of_fields (Obj.data_mapFields hd _)),(Obj.cls_mapFields ..).trans hc,?_⟩;rw[Obj.data_mapFields hd];simp[rawInt]
theorem ai9{it t:Addr}{i:Nat}{ys:Array Value}{Q:Value->SP0}(hh:A.handled=none)(hit:s.heap.IsTupleIter it t i)(ht:s.heap.IsTuple t ys)(hx:ys[i]?=none)
  (hE:∀h' e,Heap.ExtBut it s.heap h'->(∃o,h'.get? e=some o/\o.cls= .type "StopIteration")->E (.ref e) { s with heap:=h' }):wpAny (model prog w) A (Builtin.SmallTypes.nextOf (.ref it)) Q E s:=by
 obtain⟨o,ho,hc,hd⟩:=id hit;obtain⟨ot,hot,_,nt,hdt⟩:=ht;unfold Builtin.SmallTypes.nextOf
 refine wpAny_bind (wpAny_callSpecial?_slot (name:=Str.ofString "__next__") hit.typeIs F.slot_tuple_iterator_next
  (wpAny_call_entry F.slot_tuple_iterator_next hit.typeIs F.entry_tuple_iterator_next ?_
   (F.args_tuple_iterator_next_1 _)))
 refine wpAny_bind (m:=field (.ref it) 0) (wpAny_field ho hd (x:= .ref t) rfl ?_);have no:¬ ((Value.ref t==Value.none)=true):=Bool.false_ne_true
 show wpAny _ _ (if (Value.ref t==Value.none)=true then _ else
  _) _ _ s
 rw[if_neg no];refine wpAny_bind (m:=field (.ref it) 1) (wpAny_field ho hd (x:= .int i 0) rfl ?_);refine wpAny_bind (m:=seqItems? (.ref t)) (wpAny_seqItems hot hdt ?_);simp only[Int.toNat_natCast,hx];refine wpAny_bind (wpAny_rule (wpAny_bind (wpAny_setField ho hd (by simp) ?_)));refine wpAny_bind (m:=newExc (.type "StopIteration") []) ?_;simp only[newExc,newTuple];refine wpAny_bind (wpAny_newObj_type ?_ (by size_fits))
 refine wpAny_bind (m:=firstArgMember _ _) (wpAny_of_eq (a:=Value.none)
  (by first | rfl | (simp only [firstArgMember]; rfl)) ?_)
 refine wpAny_newObj_type ?_ (by size_fits);simp only[raiseNew];refine wpAny_bind (wpAny_handled ?_);rw[show A.in1.handled=none from hh];refine wpAny_bind (wpAny_pure (wpAny_throw ?_));exact hE _ _ (((Heap.SameBut.update ..).extBut.push _).push _) ⟨_,Heap.get?_push_size _ rfl,rfl⟩
noncomputable abbrev ZJ(h:Heap)(T:Addr)(a b c:Value):Prop:=h.get? T=some { cls:= .type "tuple",data:= .seq #[a,b,c] }
theorem ab4{T:Addr}{a b c x:Value}{k:Nat}{Q:Unit->SP0}(hT:ZJ s.heap T a b c)
  (h:∀h',h'.get? T=some { cls:= .type "tuple",data:= .seq ((#[a,b,c]:Array Value).setIfInBounds k x) }->Heap.SameBut T s.heap h'->Q () { s with heap:=h' }):
  wpAny (model prog w) A (updateSeq T (·.setIfInBounds k x)) Q E s:=by
 refine wpAny_updateSeq hT rfl (h _ ?_ (Heap.SameBut.update ..));rw[Heap.get?_update_self _ hT rfl];simp[Obj.mapSeq]
structure Apart3(z TI TO i1 i2 i3 t1 t2 t3:Addr):Prop where
 nd:[z,TO,i1,i2,i3].Nodup
 ti:TI∉[z,TO,i1,i2,i3]
 s1:t1∉[z,TO,i1,i2,i3]
 s2:t2∉[z,TO,i1,i2,i3]
 s3:t3∉[z,TO,i1,i2,i3]
structure Zip3(h:Heap)(z TI TO i1 i2 i3 t1 t2 t3:Addr)(xs ys zs:Array Value)(f0:Value)(k:Nat):Prop where
 hz:IsZip h z TI TO f0
 hTI:ZJ h TI (.ref i1) (.ref i2) (.ref i3)
 hTO:∃a b c,ZJ h TO a b c
 g1:h.IsTupleIter i1 t1 k
 g2:h.IsTupleIter i2 t2 k
 g3:h.IsTupleIter i3 t3 k
 a1:h.IsTuple t1 xs
 a2:h.IsTuple t2 ys
 a3:h.IsTuple t3 zs
theorem Zip3.keep{h h':Heap}{z TI TO i1 i2 i3 t1 t2 t3:Addr}{xs ys zs:Array Value}{f0:Value}{k:Nat}(S:Zip3 h z TI TO i1 i2 i3 t1 t2 t3 xs ys zs f0 k)
  (kp:∀b∈[z,TI,TO,i1,i2,i3,t1,t2,t3],∀o,h.get? b=some o->h'.get? b=some o):Zip3 h' z TI TO i1 i2 i3 t1 t2 t3 xs ys zs f0 k:=by
 obtain⟨hz,hTI,⟨a,b,c,hTO⟩,⟨o1,e1,r1⟩,⟨o2,e2,r2⟩,⟨o3,e3,r3⟩,⟨p1,f1,q1⟩,⟨p2,f2,q2⟩,⟨p3,f3,q3⟩⟩:=S;exact⟨kp z (by simp) _ hz,kp TI (by simp) _ hTI,⟨a,b,c,kp TO (by simp) _ hTO⟩,⟨o1,kp i1 (by simp) _ e1,r1⟩,⟨o2,kp i2 (by simp) _ e2,r2⟩,⟨o3,kp i3 (by simp) _ e3,r3⟩,⟨p1,kp t1 (by simp) _ f1,q1⟩,⟨p2,kp t2 (by simp) _ f2,q2⟩,⟨p3,kp t3 (by simp) _ f3,q3⟩⟩
noncomputable def But(l:List Addr)(h h':Heap):Prop:=∀b o,b∉l->h.get? b=some o->h'.get? b=some o
theorem But.of{b:Addr}{l:List Addr}{h h':Heap}(x:Heap.ExtBut b h h')(hb:b∈l):But l h h':=fun c o hc e=>x c o (fun z=>hc (by rw[z];exact hb)) e
theorem But.trans{l:List Addr}{h h1 h2:Heap}(a:But l h h1)(b:But l h1 h2):But l h h2:=fun c o hc e=>b c o hc (a c o hc e)
theorem aja{z TI TO i1 i2 i3 t1 t2 t3:Addr}{xs ys zs:Array Value}{k:Nat}{x y v:Value}{Q:Value->SP0}(D:Apart3 z TI TO i1 i2 i3 t1 t2 t3)(S:Zip3 s.heap z TI TO i1 i2 i3 t1 t2 t3 xs ys zs .none k)
  (hx:xs[k]?=some x) (hy:ys[k]?=some y) (hv:zs[k]?=some v)
  (hQ:∀h',Zip3 h' z TI TO i1 i2 i3 t1 t2 t3 xs ys zs (rawInt s.heap.objs.size) (k+1)->ZJ h' s.heap.objs.size x y v->But [z,TO,i1,i2,i3] s.heap h'->Q (.ref s.heap.objs.size) { s with heap:=h' }):
  wpAny (model prog w) A (Builtin.«zip.__next__» ⟨[.ref z],[]⟩) (fun fin s'=>∃v,fin= .done (.ret v)/\Q v s') E s:=by
 obtain⟨hz,hTI,⟨a,b,c,hTO⟩,g1,g2,g3,a1,a2,a3⟩:=S;obtain⟨nd,ti,s1,s2,s3⟩:=D;simp only[List.nodup_cons,List.mem_cons,List.not_mem_nil,or_false,not_or]at nd ti s1 s2 s3;obtain⟨⟨n1,n2,n3,n4⟩,⟨n5,n6,n7⟩,⟨n8,n9⟩,n10,_⟩:=nd;obtain⟨t1z,t1o,t11,t12,t13⟩:=s1;obtain⟨t2z,t2o,t21,t22,t23⟩:=s2;obtain⟨t3z,t3o,t31,t32,t33⟩:=s3;obtain⟨tiz,tio,ti1,ti2,ti3⟩:=ti;refine wpAny_bind (m:=field (.ref z) 2) (wpAny_field hz rfl (x:= .bool false) rfl ?_);refine wpAny_bind (m:=field (.ref z) 3) (wpAny_field hz rfl (x:= .ref TI) rfl ?_);refine wpAny_bind (wpAny_seqItems hTI rfl ?_);refine wpAny_bind (m:=Builtin.SmallTypes.ownedTupleIsFree (.ref z)) ?_;unfold Builtin.SmallTypes.ownedTupleIsFree;refine wpAny_bind (wpAny_field hz rfl (x:= .none) rfl (wpAny_pure ?_));simp only[zzM];refine wpAny_bind (wpAny_rule ?_);refine wpAny_bind (wpAny_field hz rfl (x:= .ref TO) rfl ?_);refine wpAny_bind (wpAny_setField_rec hz (by simp) fun h1 hz1 b1=>?_)
 replace hz1:IsZip h1 z TI TO .ellipsis:=hz1
 refine wpAny_bind ?_;simp only[List.zipIdx_cons,List.zipIdx_nil,List.forIn_cons,List.forIn_nil];refine wpAny_bind (wpAny_bind (wpAny_onRaise ?_));refine wpAny_bind (m:=Builtin.SmallTypes.nextOf (.ref i1)) ?_;refine Zs (g1.extBut b1.extBut (Ne.symm n2)) (a1.extBut b1.extBut t1z) hx fun h2 g1' b2=>wpAny_pure ?_;have o2:ZJ h2 TO a b c:=b2.extBut _ _ n5 (b1.extBut _ _ (Ne.symm n1) hTO);refine wpAny_bind (wpAny_seqItems o2 rfl ?_);refine wpAny_bind (ab4 o2 fun h3 o3 b3=>?_)
 replace o3:ZJ h3 TO x b c:=o3
 refine wpAny_bind (wpAny_letGo (wpAny_pure ?_));refine wpAny_bind (wpAny_bind (wpAny_onRaise ?_));refine wpAny_bind (m:=Builtin.SmallTypes.nextOf (.ref i2)) ?_;refine Zs (((g2.extBut b1.extBut (Ne.symm n3)).extBut b2.extBut (Ne.symm n8)).extBut b3.extBut (Ne.symm n6)) (((a2.extBut b1.extBut t2z).extBut b2.extBut t21).extBut b3.extBut t2o) hy fun h4 g2' b4=>wpAny_pure ?_;have o4:ZJ h4 TO x b c:=b4.extBut _ _ n6 o3;refine wpAny_bind (wpAny_seqItems o4 rfl ?_);refine wpAny_bind (ab4 o4 fun h5 o5 b5=>?_)
 replace o5:ZJ h5 TO x y c:=o5
 refine wpAny_bind (wpAny_letGo (wpAny_pure ?_));refine wpAny_bind (wpAny_bind (wpAny_onRaise ?_));refine wpAny_bind (m:=Builtin.SmallTypes.nextOf (.ref i3)) ?_
 refine Zs (((((g3.extBut b1.extBut (Ne.symm n4)).extBut b2.extBut (Ne.symm n9)).extBut b3.extBut (Ne.symm n7)).extBut b4.extBut (Ne.symm n10)).extBut b5.extBut (Ne.symm n7))
  (((((a3.extBut b1.extBut t3z).extBut b2.extBut t31).extBut b3.extBut t3o).extBut b4.extBut t32).extBut b5.extBut t3o) hv fun h6 g3' b6=>wpAny_pure ?_
 have o6:ZJ h6 TO x y c:=b6.extBut _ _ n7 o5;refine wpAny_bind (wpAny_seqItems o6 rfl ?_);refine wpAny_bind (ab4 o6 fun h7 o7 b7=>?_)
 replace o7:ZJ h7 TO x y v:=o7
 refine wpAny_bind (wpAny_letGo (wpAny_pure (wpAny_pure ?_)));refine wpAny_bind (wpAny_seqItems o7 rfl ?_);refine wpAny_bind (wpAny_newTuple ?_);have sz:h7.objs.size=s.heap.objs.size:=by rw[b7.1,b6.1,b5.1,b4.1,b3.1,b2.1,b1.1]
 have B:But [z,TO,i1,i2,i3] s.heap h7:=
  ((((((But.of b1.extBut (by simp)).trans (But.of b2.extBut (by simp))).trans (But.of b3.extBut (by simp))).trans (But.of b4.extBut (by simp))).trans (But.of b5.extBut (by simp))).trans (But.of b6.extBut (by simp))).trans (But.of b7.extBut (by simp))
 have z7:IsZip h7 z TI TO .ellipsis:=b7.extBut _ _ n1 (b6.extBut _ _ n4 (b5.extBut _ _ n1 (b4.extBut _ _ n3 (b3.extBut _ _ n1 (b2.extBut _ _ n2 hz1)))));have i17:h7.IsTupleIter i1 t1 (k+1):=((((g1'.extBut b3.extBut (Ne.symm n5)).extBut b4.extBut n8).extBut b5.extBut (Ne.symm n5)).extBut b6.extBut n9).extBut b7.extBut (Ne.symm n5);have i27:h7.IsTupleIter i2 t2 (k+1):=((g2'.extBut b5.extBut (Ne.symm n6)).extBut b6.extBut n10).extBut b7.extBut (Ne.symm n6);have i37:h7.IsTupleIter i3 t3 (k+1):=g3'.extBut b7.extBut (Ne.symm n7);refine wpAny_bind (m:=Builtin.SmallTypes.ownedTupleHandOut (.ref z) (.ref h7.objs.size)) ?_;unfold Builtin.SmallTypes.ownedTupleHandOut;have z8:IsZip (h7.push { cls:= .type "tuple",data:= .seq #[x,y,v] }) z TI TO .ellipsis:=Heap.get?_push_of_some _ z7;refine wpAny_bind (wpAny_setField_rec z8 (by simp) fun h9 z9 b9=>?_)
 replace z9:IsZip h9 z TI TO (rawInt h7.objs.size):=z9
 refine wpAny_setField_rec z9 (by simp) fun h10 z10 b10=>?_
 replace z10:IsZip h10 z TI TO (rawInt h7.objs.size):=z10
 have up:∀c o,c≠z->h7.get? c=some o->h10.get? c=some o:=fun c o c1 e=>b10.extBut _ _ c1 (b9.extBut _ _ c1 (Heap.get?_push_of_some _ e));have zlt:z<h7.objs.size:=Heap.lt_size z7;have T10:ZJ h10 h7.objs.size x y v:=b10.extBut _ _ (Nat.ne_of_gt zlt) (b9.extBut _ _ (Nat.ne_of_gt zlt) (Heap.get?_push_size _ rfl));rw[sz]at z10 T10;refine wpAny_pure ⟨_,rfl,?_⟩;show Q (.ref h7.objs.size) _;rw[sz];have itk:∀{i t:Addr} {m:Nat},i≠z->h7.IsTupleIter i t m->h10.IsTupleIter i t m:=fun ne ⟨o,e,r⟩=>⟨o,up _ o ne e,r⟩;have tuk:∀{t:Addr} {us:Array Value},t∉[z,TO,i1,i2,i3]->s.heap.IsTuple t us->h10.IsTuple t us:=fun ne ⟨o,e,r⟩=>⟨o,up _ o (fun q=>ne (by simp[q])) (B _ o ne e),r⟩
 refine hQ h10 ⟨z10,up _ _ tiz (B _ _ (by simp[tiz,tio,ti1,ti2,ti3]) hTI),⟨x,y,v,up _ _ (Ne.symm n1) o7⟩,itk (Ne.symm n2) i17,itk (Ne.symm n3) i27,itk (Ne.symm n4) i37,
  tuk (by simp [t1z,t1o,t11,t12,t13]) a1,tuk (by simp [t2z,t2o,t21,t22,t23]) a2,tuk (by simp [t3z,t3o,t31,t32,t33]) a3⟩ T10 fun c o hc e=>up c o (fun q=>hc (by simp [q])) (B c o hc e)
theorem akB{z TI TO i1 i2 i3 t1 t2 t3:Addr}{xs ys zs:Array Value}{k:Nat}{Q:Fin->SP0}(hh:A.handled=none)(D:Apart3 z TI TO i1 i2 i3 t1 t2 t3)(S:Zip3 s.heap z TI TO i1 i2 i3 t1 t2 t3 xs ys zs .none k)(hx:xs[k]?=none)
  (hE:∀h' e,But [z,TO,i1,i2,i3] s.heap h'->(∃o,h'.get? e=some o/\o.cls= .type "StopIteration")->E (.ref e) { s with heap:=h' }):
  wpAny (model prog w) A (Builtin.«zip.__next__» ⟨[.ref z],[]⟩) Q E s:=by
 obtain⟨hz,hTI,⟨a,b,c,hTO⟩,g1,g2,g3,a1,a2,a3⟩:=S;obtain⟨nd,ti,s1,s2,s3⟩:=D;simp only[List.nodup_cons,List.mem_cons,List.not_mem_nil,or_false,not_or]at nd ti s1 s2 s3;obtain⟨⟨n1,n2,n3,n4⟩,⟨n5,n6,n7⟩,⟨n8,n9⟩,n10,_⟩:=nd;refine wpAny_bind (m:=field (.ref z) 2) (wpAny_field hz rfl (x:= .bool false) rfl ?_);refine wpAny_bind (m:=field (.ref z) 3) (wpAny_field hz rfl (x:= .ref TI) rfl ?_);refine wpAny_bind (wpAny_seqItems hTI rfl ?_);refine wpAny_bind (m:=Builtin.SmallTypes.ownedTupleIsFree (.ref z)) ?_;unfold Builtin.SmallTypes.ownedTupleIsFree;refine wpAny_bind (wpAny_field hz rfl (x:= .none) rfl (wpAny_pure ?_));simp only[zzM];refine wpAny_bind (wpAny_rule ?_);refine wpAny_bind (wpAny_field hz rfl (x:= .ref TO) rfl ?_);refine wpAny_bind (wpAny_setField_rec hz (by simp) fun h1 hz1 b1=>?_)
 replace hz1:IsZip h1 z TI TO .ellipsis:=hz1
 refine wpAny_bind ?_;simp only[List.zipIdx_cons,List.zipIdx_nil,List.forIn_cons,List.forIn_nil];refine wpAny_bind (wpAny_bind (wpAny_onRaise ?_));refine wpAny_bind (m:=Builtin.SmallTypes.nextOf (.ref i1)) ?_;refine ai9 hh (g1.extBut b1.extBut (Ne.symm n2)) (a1.extBut b1.extBut s1.1) hx fun h2 e b2 he=>?_;obtain⟨oe,ho,hc⟩:=he;have z2:IsZip h2 z TI TO .ellipsis:=b2 _ _ n2 hz1;have ez:e≠z:=fun q=>by subst q;rw[z2]at ho;cases ho;simp at hc
 refine wpAny_setField_rec z2 (by simp) fun h3 _ b3=>?_;exact hE h3 e (((But.of b1.extBut (by simp)).trans (But.of b2 (by simp))).trans (But.of b3.extBut (by simp))) ⟨oe,b3.extBut _ _ ez ho,hc⟩
end
structure ZipC(h:Heap)(z TI TO i1 i2 i3 t1 t2 t3:Addr)(f0:Value)(k:Nat):Prop where
 hz:IsZip h z TI TO f0
 hTI:ZJ h TI (.ref i1) (.ref i2) (.ref i3)
 hTO:∃a b c,ZJ h TO a b c
 g1:h.IsTupleIter i1 t1 k
 g2:h.IsTupleIter i2 t2 k
 g3:h.IsTupleIter i3 t3 k
theorem ZipC.all{h:Heap}{z TI TO i1 i2 i3 t1 t2 t3:Addr}{f0:Value}{k:Nat}(S:ZipC h z TI TO i1 i2 i3 t1 t2 t3 f0 k){xs ys zs:Array Value}(a1:h.IsTuple t1 xs)(a2:h.IsTuple t2 ys)(a3:h.IsTuple t3 zs):
  Zip3 h z TI TO i1 i2 i3 t1 t2 t3 xs ys zs f0 k:=⟨S.hz,S.hTI,S.hTO,S.g1,S.g2,S.g3,a1,a2,a3⟩
theorem Zip3.c{h:Heap}{z TI TO i1 i2 i3 t1 t2 t3:Addr}{xs ys zs:Array Value}{f0:Value}{k:Nat}(S:Zip3 h z TI TO i1 i2 i3 t1 t2 t3 xs ys zs f0 k):ZipC h z TI TO i1 i2 i3 t1 t2 t3 f0 k:=⟨S.hz,S.hTI,S.hTO,S.g1,S.g2,S.g3⟩
theorem ZipC.keep{h h':Heap}{z TI TO i1 i2 i3 t1 t2 t3:Addr}{f0:Value}{k:Nat}(S:ZipC h z TI TO i1 i2 i3 t1 t2 t3 f0 k)(kp:∀b∈[z,TI,TO,i1,i2,i3],∀o,h.get? b=some o->h'.get? b=some o):
  ZipC h' z TI TO i1 i2 i3 t1 t2 t3 f0 k:=by
 obtain⟨hz,hTI,⟨a,b,c,hTO⟩,⟨o1,e1,r1⟩,⟨o2,e2,r2⟩,⟨o3,e3,r3⟩⟩:=S;exact⟨kp z (by simp) _ hz,kp TI (by simp) _ hTI,⟨a,b,c,kp TO (by simp) _ hTO⟩,⟨o1,kp i1 (by simp) _ e1,r1⟩,⟨o2,kp i2 (by simp) _ e2,r2⟩,⟨o3,kp i3 (by simp) _ e3,r3⟩⟩
noncomputable def Itz(K:Fg)(t1 t2 t3:Addr):It:=
 ⟨fun i H=>∃xs ys zs x y v,SqT K H t1 xs/\SqT K H t2 ys/\SqT K H t3 zs/\xs[i]?=some x/\ys[i]?=some y/\zs[i]?=some v,
  fun i H u H'=>∃ p x y v,u= .ref p/\H p=none/\H'=upd H p (.tup [x,y,v])/\∀ xs ys zs,SqT K H t1 xs->SqT K H t2 ys->SqT K H t3 zs->xs[i]?=some x/\ys[i]?=some y/\zs[i]?=some v,
  fun i H=>∃ xs ys zs,SqT K H t1 xs/\SqT K H t2 ys/\SqT K H t3 zs/\xs.length<=i⟩
theorem akC{P:Program}{w:World}{K:Fg}{elts:List Expr}{x1:Nat}{pos:Pos}{z TI TO i1 i2 i3 t1 t2 t3:Addr}(nd:[z,TO,i1,i2,i3].Nodup)(ti:TI∉[z,TO,i1,i2,i3]):
  Turn P w K (.Tuple elts x1 pos) (Itz K t1 t2 t3) [z,TI,TO,i1,i2,i3] z (fun i h=>ZipC h z TI TO i1 i2 i3 t1 t2 t3 .none i) where
 mem:=by simp
 obj:=fun i h st b hb=>by
  obtain⟨hz,hTI,⟨a,b',c,hTO⟩,⟨o1,e1,_,d1⟩,⟨o2,e2,_,d2⟩,⟨o3,e3,_,d3⟩⟩:=st;simp only[List.mem_cons,List.not_mem_nil,or_false]at hb;rcases hb with rfl|rfl|rfl|rfl|rfl|rfl
  ·exact⟨_,hz,fun v q=>by cases q⟩
  ·exact⟨_,hTI,fun v q=>by cases q⟩
  ·exact⟨_,hTO,fun v q=>by cases q⟩
  ·exact⟨o1,e1,fun v q=>by rw[d1]at q;cases q⟩
  ·exact⟨o2,e2,fun v q=>by rw[d2]at q;cases q⟩
  ·exact⟨o3,e3,fun v q=>by rw[d3]at q;cases q⟩
 keep:=fun i h h' st k=>st.keep k
 item:=by
  intro X hP hw hK hc i Kp s σ H E I hf st hg;subst hP hw hK;obtain⟨xs,ys,zs,x,y,v,q1,q2,q3,ex,ey,ev⟩:=hg;obtain⟨us1,r1,p1,z1⟩:=I.tuple q1;obtain⟨us2,r2,p2,z2⟩:=I.tuple q2;obtain⟨us3,r3,p3,z3⟩:=I.tuple q3;obtain⟨u1,m1,l1⟩:=r1.get ex;obtain⟨u2,m2,l2⟩:=r2.get ey;obtain⟨u3,m3,l3⟩:=r3.get ev
  have trk:∀{t:Addr} {ws:List V},SqT X.K H t ws->t∉[z,TO,i1,i2,i3]:=fun {t ws} hq hb=>by
   have hb':t∈[z,TI,TO,i1,i2,i3]:=by
    simp only[List.mem_cons,List.not_mem_nil,or_false]at hb ⊢;rcases hb with e | e | e | e | e<;>simp[e]
   rcases hq with (e | ⟨o,e⟩) | ⟨o,its,n,hk,hcl,hs,_,_⟩
   ·have:=(hf t hb').1;rw[e]at this;cases this
   ·have:=(hf t hb').1;rw[e]at this;cases this
   ·-- an object of the module is no iterator of ours
    obtain⟨f0,f1,f2,f3,f4,f5⟩:=hf t hb';have hbase:=I.mod.kin t o hk;rcases f3 with q | q
    ·exact I.ok.noex t o hbase q
    ·exact absurd (Nat.lt_of_lt_of_le (Heap.lt_size hbase) (Nat.le_trans I.ok.bsz q)) (Nat.lt_irrefl _)
  have D:Apart3 z TI TO i1 i2 i3 t1 t2 t3:=⟨nd,ti,trk q1,trk q2,trk q3⟩;have S:=st.all (xs:=us1.toArray) (ys:=us2.toArray) (zs:=us3.toArray) p1 p2 p3;have hT:s.TypeIs (.ref z) "zip":=⟨_,st.hz,rfl⟩;unfold pyNext
  refine wpAny_bind (wpAny_attempt (wpAny_callSpecial?_slot (name:=Str.ofString "__next__") hT F.slot_zip_next
   (wpAny_call_entry F.slot_zip_next hT F.entry_zip_next (aja D S (by simpa using m1) (by simpa using m2) (by simpa using m3) fun h1 S1 T1 B1=>wpAny_pure ?_)
    (F.args_zip_next_1 _))))
  refine⟨_,rfl,?_⟩;refine wpAny_letOwnedTupleGo_zip (s:={ s with heap:=h1 }) S1.hz fun h2 z2' b2=>?_;have nT:H s.heap.objs.size=none:=I.hok.fresh (Nat.le_refl _);have zlt:z<s.heap.objs.size:=Heap.lt_size st.hz;have T2:ZJ h2 s.heap.objs.size u1 u2 u3:=b2.extBut _ _ (Nat.ne_of_gt zlt) T1;have B2:But [z,TO,i1,i2,i3] s.heap h2:=B1.trans (But.of b2.extBut (by simp))
  have inF:∀b∈[z,TO,i1,i2,i3],b∈[z,TI,TO,i1,i2,i3]:=fun b hb=>by
   simp only[List.mem_cons,List.not_mem_nil,or_false]at hb ⊢;rcases hb with e | e | e | e | e<;>simp[e]
  have ntr:∀b u,H b=some u->b∉[z,TO,i1,i2,i3]:=fun b u e hb=>by
   have:=(hf b (inF b hb)).1;rw[e]at this;cases this
  have neT:∀b u,H b=some u->b≠s.heap.objs.size:=fun b u e q=>by rw[q,nT]at e;cases e
  have hok2:HOk X.prog X.w (upd H s.heap.objs.size (.tup [x,y,v])) h2:=fun b u e=>by
   by_cases hb:b=s.heap.objs.size
   ·subst hb
    rw[jr]at e;cases e;exact⟨by show 3<=sizeLine;rw[sizeLine_eq];decide,[u1,u2,u3],.cons l1 (.cons l2 (.cons l3 .nil)),⟨_,T2,rfl,_,rfl⟩⟩
   ·rw[jn hb]at e
    refine(I.hok b u e).stay (fun c o hc' q=>B2 c o ?_ q) (fun c q=>by rw[jn (neT c _ q)];exact q) fun c ws q=>by rw[jn (neT c _ q)];exact q
    rcases hc' with q' | q'
    ·rw[q'];exact ntr b u e
    ·exact ntr c _ q'
  have I2:Inv X Kp σ (upd H s.heap.objs.size (.tup [x,y,v])) { s with heap:=h2,toks:=s.toks }:=by
   refine I.step (g':=s.gens) (d':=s.drawn) (ch:=[z,TO,i1,i2,i3]) (fun b hb=>?_) (fun b o _ _ hb e _=>B2 b o hb e) (fun b o _ _ hb e _=>⟨o.slots,B2 b o hb e⟩) (fun b o hb e n=>?_) (fun b o hb e=>⟨o,B2 b o hb e⟩)
    (fun b ws e=>by rw[jn (neT b _ e)];exact e) (fun b ob ws e=>by rw[jn (neT b _ e)];exact e) (fun b ps e=>⟨#[],by rw[jn (neT b _ e),e];simp⟩) (fun m hm=>?_) hok2 I.bare
   ·obtain⟨f0,f1,f2,f3,f4,f5⟩:=hf b (inF b hb)
    exact⟨f3,f1,f4,f5⟩
   ·rw[jn (Nat.ne_of_lt (Heap.lt_size e))];exact n
   ·obtain⟨o,es,ep,ho,r⟩:=hm
    refine⟨o,es,ep,B2 _ o (fun hb=>?_) ho,r⟩;exact(hf _ (inF _ hb)).2.1 rfl
  refine⟨.ref s.heap.objs.size,_,I2,rfl,⟨_,x,y,v,rfl,nT,rfl,fun as bs cs g1 g2 g3=>?_⟩,?_,fun b hb=>?_⟩
  ·rw[I.tuple_inj g1 q1,I.tuple_inj g2 q2,I.tuple_inj g3 q3]
   exact⟨ex,ey,ev⟩
  ·have c1:=S1.c
   obtain⟨_,hTI,⟨a,b,c,hTO⟩,⟨o1,e1,w1⟩,⟨o2,e2,w2⟩,⟨o3,e3,w3⟩⟩:=c1;simp only[List.nodup_cons,List.mem_cons,List.not_mem_nil,or_false,not_or]at nd ti;obtain⟨⟨n1,n2,n3,n4⟩,_⟩:=nd;exact⟨z2',b2.extBut _ _ ti.1 hTI,⟨a,b,c,b2.extBut _ _ (Ne.symm n1) hTO⟩,⟨o1,b2.extBut _ _ (Ne.symm n2) e1,w1⟩,⟨o2,b2.extBut _ _ (Ne.symm n3) e2,w2⟩,⟨o3,b2.extBut _ _ (Ne.symm n4) e3,w3⟩⟩
  ·obtain⟨o,ho,_⟩:∃o,s.heap.get? b=some o/\True:=by
    obtain⟨hz,hTI,⟨a,b',c,hTO⟩,⟨o1,e1,_⟩,⟨o2,e2,_⟩,⟨o3,e3,_⟩⟩:=st;simp only[List.mem_cons,List.not_mem_nil,or_false]at hb;rcases hb with rfl|rfl|rfl|rfl|rfl|rfl
    ·exact⟨_,hz,trivial⟩
    ·exact⟨_,hTI,trivial⟩
    ·exact⟨_,hTO,trivial⟩
    ·exact⟨_,e1,trivial⟩
    ·exact⟨_,e2,trivial⟩
    ·exact⟨_,e3,trivial⟩
   rw[jn (Nat.ne_of_lt (Heap.lt_size ho))];exact(hf b hb).1
 done:=by
  intro X hP hw hK hc i Kp s σ H E I hf st hg;subst hP hw hK;obtain⟨xs,ys,zs,q1,q2,q3,hl⟩:=hg;obtain⟨us1,r1,p1,z1⟩:=I.tuple q1;obtain⟨us2,r2,p2,z2⟩:=I.tuple q2;obtain⟨us3,r3,p3,z3⟩:=I.tuple q3
  have trk:∀{t:Addr} {ws:List V},SqT X.K H t ws->t∉[z,TO,i1,i2,i3]:=fun {t ws} hq hb=>by
   have hb':t∈[z,TI,TO,i1,i2,i3]:=by
    simp only[List.mem_cons,List.not_mem_nil,or_false]at hb ⊢;rcases hb with e | e | e | e | e<;>simp[e]
   rcases hq with (e | ⟨o,e⟩) | ⟨o,its,n,hk,hcl,hs,_,_⟩
   ·have:=(hf t hb').1;rw[e]at this;cases this
   ·have:=(hf t hb').1;rw[e]at this;cases this
   ·obtain⟨f0,f1,f2,f3,f4,f5⟩:=hf t hb'
    have hbase:=I.mod.kin t o hk;rcases f3 with q | q
    ·exact I.ok.noex t o hbase q
    ·exact absurd (Nat.lt_of_lt_of_le (Heap.lt_size hbase) (Nat.le_trans I.ok.bsz q)) (Nat.lt_irrefl _)
  have D:Apart3 z TI TO i1 i2 i3 t1 t2 t3:=⟨nd,ti,trk q1,trk q2,trk q3⟩;have S:=st.all (xs:=us1.toArray) (ys:=us2.toArray) (zs:=us3.toArray) p1 p2 p3;have hT:s.TypeIs (.ref z) "zip":=⟨_,st.hz,rfl⟩;have hlen:=r1.length;unfold pyNext
  refine wpAny_bind (wpAny_attempt (wpAny_callSpecial?_slot (name:=Str.ofString "__next__") hT F.slot_zip_next
   (wpAny_call_entry F.slot_zip_next hT F.entry_zip_next (akB (I.ok.hd hc) D S (by simp; omega) fun h1 e B1 he=>?_)
    (F.args_zip_next_1 _))))
  obtain⟨o,ho,hcl⟩:=he;refine wpAny_bind (wpAny_isInstance (T:="StopIteration") (b:=true) ⟨o,ho,hcl⟩ isSubtype_stop ?_);refine wpAny_pure ⟨rfl,?_⟩
  have inF:∀b∈[z,TO,i1,i2,i3],b∈[z,TI,TO,i1,i2,i3]:=fun b hb=>by
   simp only[List.mem_cons,List.not_mem_nil,or_false]at hb ⊢;rcases hb with e | e | e | e | e<;>simp[e]
  have ntr:∀b u,H b=some u->b∉[z,TO,i1,i2,i3]:=fun b u e hb=>by
   have:=(hf b (inF b hb)).1;rw[e]at this;cases this
  refine I.step (t':=s.toks) (g':=s.gens) (d':=s.drawn) (ch:=[z,TO,i1,i2,i3]) (fun b hb=>?_) (fun b o _ _ hb e _=>B1 b o hb e) (fun b o _ _ hb e _=>⟨o.slots,B1 b o hb e⟩) (fun b o hb e n=>n) (fun b o hb e=>⟨o,B1 b o hb e⟩)
   (fun b ws e=>e) (fun b ob ws e=>e) (fun b ps e=>⟨#[],by rw[e];simp⟩) (fun m hm=>?_) (fun b u e=>?_) I.bare
  ·obtain⟨f0,f1,f2,f3,f4,f5⟩:=hf b (inF b hb)
   exact⟨f3,f1,f4,f5⟩
  ·obtain⟨o,es,ep,ho,r⟩:=hm
   refine⟨o,es,ep,B1 _ o (fun hb=>?_) ho,r⟩;exact(hf _ (inF _ hb)).2.1 rfl
  ·refine(I.hok b u e).stay (fun c o hc' q=>B1 c o ?_ q) (fun c q=>q) fun c ws q=>q
   rcases hc' with q' | q'
   ·rw[q'];exact ntr b u e
   ·exact ntr c _ q'
 self:=fun _ _ _ _ _ st h=>wpAny_pyIter_zip st.hz h
theorem ac1(a b c:Value):checkTypeCall "zip" ⟨[a,b,c],[]⟩=pure ():=by kernel_rfl
theorem aeg(a b c:Value):checkBuiltinCall "zip.__new__" ⟨[.type "zip",a,b,c],[]⟩=pure ():=by kernel_rfl
theorem agQ(a b c d:Value):argsOk "object.__init__" ⟨[a,b,c,d],[]⟩:=by
 unfold argsOk
 rw[signature?_of (id:="object.__init__") (n:=['_','_','t','i','n','i','_','_'])
  (o:=['t','c','e','j','b','o']) (by kernel_rfl) F.owner_object]
 kernel_rfl
noncomputable abbrev ao9(t:Addr):Obj:={ cls:= .type "tuple_iterator",data:= .fields #[.ref t,.int 0 0] }
noncomputable abbrev zh1(h:Heap)(a:Addr):Heap:=h.push (ao9 a)
noncomputable abbrev zh2(h:Heap)(a b:Addr):Heap:=(zh1 h a).push (ao9 b)
noncomputable abbrev zh3(h:Heap)(a b c:Addr):Heap:=(zh2 h a b).push (ao9 c)
noncomputable abbrev zh4(h:Heap)(a b c:Addr):Heap:=(zh3 h a b c).push { cls:= .type "tuple",data:= .seq #[.ref h.objs.size,.ref (zh1 h a).objs.size,.ref (zh2 h a b).objs.size] }
noncomputable abbrev zh5(h:Heap)(a b c:Addr):Heap:=(zh4 h a b c).push { cls:= .type "tuple",data:= .seq #[.none,.none,.none] }
noncomputable abbrev zh6(h:Heap)(a b c:Addr):Heap:=(zh5 h a b c).push { cls:= .type "zip",data:= .fields #[.none,.bool false,.bool false,.ref (zh3 h a b c).objs.size,.ref (zh4 h a b c).objs.size] }
theorem akD(a b c:Addr)(xs ys zs:Array Value):
  Meets (Builtin.«zip.__new__» ⟨[.type "zip",.ref a,.ref b,.ref c],[]⟩) (fun _ R s=>s.heap.IsTuple a xs/\s.heap.IsTuple b ys/\s.heap.IsTuple c zs/\
   R (.ok (.ret (.ref (zh5 s.heap a b c).objs.size))) { s with heap:=zh6 s.heap a b c }):=
 .of_wp fun prog w A R s h=>by
  obtain⟨hp,g,d,tk,os⟩:=s;obtain⟨h1,h2,h3,h⟩:=h;have hsub:=sub_zip;have k1:Heap.IsTuple (Shared.heap ⟨hp,g,d,tk,os⟩) a xs:=h1;have k2:Heap.IsTuple (Shared.heap ⟨zh1 hp a,g,d,tk,os⟩) b ys:=Heap.IsTuple.push h2 _;have k3:Heap.IsTuple (Shared.heap ⟨zh2 hp a b,g,d,tk,os⟩) c zs:=Heap.IsTuple.push (Heap.IsTuple.push h3 _) _
  wp_walk using wpAny_pyIter_tuple k1,wpAny_pyIter_tuple k2,wpAny_pyIter_tuple k3
  exact⟨_,rfl,h⟩
section
variable {X:Cx}
noncomputable def aqt(K:Fg)(ta:TA):TI:=fun σ H R=>ta σ H fun vs H1=>∃a b c xs ys zs,vs=[.ref a,.ref b,.ref c]/\SqT K H1 a xs/\SqT K H1 b ys/\SqT K H1 c zs/\R (Itz K a b c) H1
theorem am3{ea eb ec:Expr}{elts:List Expr}{x1:Nat}{tp:Pos}{ta:TA}{p pos:Pos}(hg:Gl X "zip")(hm:X.mg "zip"=none)(ha:PA X [ea,eb,ec] ta)
  (hs:starEach [ea,eb,ec] X.env=[(false,eval ea X.env),(false,eval eb X.env),(false,eval ec X.env)]:=by rfl) (hs2:starEach [eb,ec] X.env=[(false,eval eb X.env),(false,eval ec X.env)]:=by rfl):
  PI X (.Tuple elts x1 tp) (.Call (.Name "zip" p) [ea,eb,ec] [] pos) (aqt X.K ta):=by
 intro Kp s σ H R I h;refine Call_ (Zr I hg hm boot_zip (PyProof.Rows.callWith_type1 (thn (ha pos Kp s σ H _ I h) fun us s1 ⟨vs,H1,I1,r1,q1⟩=>?_) (by rw[hs,hs2]) (by rw[hs2];rfl)));obtain⟨a,b,c,xs,ys,zs,e,q1,q2,q3,q⟩:=q1;subst e;cases r1 with
 | cons r1 rr=>
  cases rr with
  | cons r2 rr=>
   cases rr with
   | cons r3 rr=>
    cases rr;cases r1;cases r2;cases r3;obtain⟨us1,v1,p1,z1⟩:=I1.tuple q1;obtain⟨us2,v2,p2,z2⟩:=I1.tuple q2;obtain⟨us3,v3,p3,z3⟩:=I1.tuple q3
    refine callType_new F.called_zip (by decide) (ac1 _ _ _) (aeg _ _ _) (fun obj=>agQ obj _ _ _) F.entry_zip_new
     (akD a b c us1.toArray us2.toArray us3.toArray) ⟨p1,p2,p3,?_⟩
    have n1:(zh1 s1.heap a).objs.size=s1.heap.objs.size+1:=Heap.size_push ..;have n2:(zh2 s1.heap a b).objs.size=s1.heap.objs.size+2:=by rw[Heap.size_push,n1]
    have n3:(zh3 s1.heap a b c).objs.size=s1.heap.objs.size+3:=by rw[Heap.size_push,n2]
    have n4:(zh4 s1.heap a b c).objs.size=s1.heap.objs.size+4:=by rw[Heap.size_push,n3]
    have n5:(zh5 s1.heap a b c).objs.size=s1.heap.objs.size+5:=by rw[Heap.size_push,n4]
    have g6:(zh6 s1.heap a b c).get? (zh5 s1.heap a b c).objs.size=some _:=Heap.get?_push_size _ rfl;have g5:(zh6 s1.heap a b c).get? (zh4 s1.heap a b c).objs.size=some _:=Heap.get?_push_of_some _ (Heap.get?_push_size _ rfl);have g4:(zh6 s1.heap a b c).get? (zh3 s1.heap a b c).objs.size=some _:=Heap.get?_push_of_some _ (Heap.get?_push_of_some _ (Heap.get?_push_size _ rfl));have up3:∀x o,(zh3 s1.heap a b c).get? x=some o->(zh6 s1.heap a b c).get? x=some o:=fun x o e=>Heap.get?_push_of_some _ (Heap.get?_push_of_some _ (Heap.get?_push_of_some _ e));have g3:(zh6 s1.heap a b c).get? (zh2 s1.heap a b).objs.size=some _:=up3 _ _ (Heap.get?_push_size _ rfl);have g2:(zh6 s1.heap a b c).get? (zh1 s1.heap a).objs.size=some _:=up3 _ _ (Heap.get?_push_of_some _ (Heap.get?_push_size _ rfl));have g1:(zh6 s1.heap a b c).get? s1.heap.objs.size=some _:=up3 _ _ (Heap.get?_push_of_some _ (Heap.get?_push_of_some _ (Heap.get?_push_size _ rfl)));have kp:∀x o,s1.heap.get? x=some o->(zh6 s1.heap a b c).get? x=some o:=fun x o e=>up3 _ _ (Heap.get?_push_of_some _ (Heap.get?_push_of_some _ (Heap.get?_push_of_some _ e)));show _/\_;refine⟨⟨_,g6,rfl⟩,?_⟩;refine wpAny_pyIter_zip g6 ?_;have I2:Inv X Kp σ H1 { s1 with heap:=zh6 s1.heap a b c }:=I1.kept (t':=s1.toks) kp
    refine⟨_,[(zh5 s1.heap a b c).objs.size,(zh3 s1.heap a b c).objs.size,(zh4 s1.heap a b c).objs.size,s1.heap.objs.size,(zh1 s1.heap a).objs.size,(zh2 s1.heap a b).objs.size],
     _,_,H1,rfl,I2,akC (z:=(zh5 s1.heap a b c).objs.size) (TI:=(zh3 s1.heap a b c).objs.size) (TO:=(zh4 s1.heap a b c).objs.size) (i1:=s1.heap.objs.size) (i2:=(zh1 s1.heap a).objs.size) (i3:=(zh2 s1.heap a b).objs.size) (t1:=a) (t2:=b) (t3:=c) ?_ ?_,
     ⟨g6,g4,⟨_,_,_,g5⟩,⟨_,g1,rfl,rfl⟩,⟨_,g2,rfl,rfl⟩,⟨_,g3,rfl,rfl⟩⟩,fun x hx=>?_,q⟩
    ·rw[n5,n4,n1,n2]
     simp[List.nodup_cons]
    ·rw[n3,n5,n4,n1,n2]
     simp
    ·have hle:s1.heap.objs.size<=x:=by
      rw[n5,n3,n4,n1,n2]at hx;simp only[List.mem_cons,List.not_mem_nil,or_false]at hx;rcases hx with e | e | e | e | e | e<;>rw[e]<;>first|exact Nat.le_refl _|exact Nat.le_add_right _ _
     exact I1.fpOk hle (I1.hok.fresh hle)
noncomputable def Qv:LP->LP->LP->LP
 |x::xs,y::ys,z::zs=> .tuple [x,y,z]::Qv xs ys zs
 |_,_,_=>[]
noncomputable def ah0(ds:LP):Option (LP):=match ds with
 | [.tuple xs,.tuple ys,.tuple zs]=>if xs.length=ys.length/\ys.length=zs.length then some (Qv xs ys zs) else none
 |_=>none
theorem adq:∀(xs ys zs:LP),xs.length=ys.length->ys.length=zs.length->(Qv xs ys zs).length=xs.length
 | [],_,_,_,_=>by simp[Qv]
 |x::xs,[],_,h,_=>by simp at h
 |x::xs,y::ys,[],_,h=>by simp at h
 |x::xs,y::ys,z::zs,h,g=>by simp[Qv,adq xs ys zs (by simpa using h) (by simpa using g)]
theorem ads:∀(xs ys zs:LP) (i:Nat) (d:PyData),(Qv xs ys zs)[i]?=some d->∃x y z,xs[i]?=some x/\ys[i]?=some y/\zs[i]?=some z/\d= .tuple [x,y,z]
 | [],_,_,i,d,h=>by simp[Qv]at h
 |x::xs,[],_,i,d,h=>by simp[Qv]at h
 |x::xs,y::ys,[],i,d,h=>by simp[Qv]at h
 |x::xs,y::ys,z::zs,0,d,h=>by simp[Qv]at h;exact⟨x,y,z,rfl,rfl,rfl,h.symm⟩
 | x::xs,y::ys,z::zs,i+1,d,h=>by
  obtain⟨a,b,c,e1,e2,e3,e4⟩:=ads xs ys zs i d (by simpa[Qv]using h);exact⟨a,b,c,by simpa using e1,by simpa using e2,by simpa using e3,e4⟩
theorem akE{ea eb ec:Expr}{elts:List Expr}{x1:Nat}{tp:Pos}{p pos:Pos}{fr:Rho->Option (LP)}(hm:X.mg "zip"=none)(ha:PAD X [ea,eb,ec] fr)(hg:Gl X "zip":=by rfl)
  (hs:starEach [ea,eb,ec] X.env=[(false,eval ea X.env),(false,eval eb X.env),(false,eval ec X.env)]:=by rfl) (hs2:starEach [eb,ec] X.env=[(false,eval eb X.env),(false,eval ec X.env)]:=by rfl):
  PID X (.Tuple elts x1 tp) (.Call (.Name "zip" p) [ea,eb,ec] [] pos) (fun ρ=>(fr ρ).bind ah0):=by
 with_unfolding_all
  refine PI.imp (am3 hg hm ha hs hs2) fun σ H R ⟨ρ,ds,en,q,k⟩=>?_;cases h1:fr ρ with
  |none=>simp[h1]at q
  | some as=>
   have q':ah0 as=some ds:=by simpa[h1]using q
   refine⟨ρ,as,en,h1,fun vs H1 s1 r1=>?_⟩;unfold ah0 at q';split at q'
   ·rename_i xs ys zs
    split at q'
    ·rename_i hl
     cases q';obtain⟨v1,w1,e1,⟨a,us1,ea',qa,ra⟩,v2,w2,e2,⟨b,us2,eb',qb,rb⟩,v3,w3,e3,⟨c,us3,ec',qc,rc⟩,e4⟩:=r1;cases (show w3=[] from e4);subst ea';subst eb';subst ec';subst e3;subst e2;have l1:=ra.length;have l2:=rb.length;have l3:=rc.length;have lz:=adq xs ys zs hl.1 hl.2;refine⟨a,b,c,us1,us2,us3,e1,qa,qb,qc,k _ H1 s1 fun i H2 s2=>⟨fun hi=>?_,fun hi=>?_,fun u H3 y=>?_⟩⟩
     ·rw[lz]at hi
      exact⟨us1,us2,us3,us1[i]'(by omega),us2[i]'(by omega),us3[i]'(by omega),j6.tup s2 qa,j6.tup s2 qb,j6.tup s2 qc,by simp<;>omega,by simp<;>omega,by simp<;>omega⟩
     ·rw[lz]at hi
      exact⟨us1,us2,us3,j6.tup s2 qa,j6.tup s2 qb,j6.tup s2 qc,by omega⟩
     ·obtain⟨pp,x,y,v,e5,e6,e7,e8⟩:=y
      subst e5;subst e7;refine⟨jI e6,fun d hd=>?_⟩;obtain⟨dx,dy,dz,g1,g2,g3,g4⟩:=ads xs ys zs i d hd;subst g4;obtain⟨f1,f2,f3⟩:=e8 us1 us2 us3 (j6.tup s2 qa) (j6.tup s2 qb) (j6.tup s2 qc);have m:=s2.trans (jm.a (jI (o:= .tup [x,y,v]) e6));obtain⟨x',a1,a2⟩:=(Reps.monoA m _ _ ra).get g1;obtain⟨y',b1,b2⟩:=(Reps.monoA m _ _ rb).get g2;obtain⟨z',c1,c2⟩:=(Reps.monoA m _ _ rc).get g3;rw[f1]at a1;cases a1;rw[f2]at b1;cases b1;rw[f3]at c1;cases c1;exact⟨pp,[x,y,v],rfl,SqT.of jr,x,_,rfl,a2,y,_,rfl,b2,v,_,rfl,c2,rfl⟩
    ·cases q'
   ·cases q'
noncomputable def tyn:PyData->String
 |.none=>"NoneType"
 |.bool _=>"bool"
 |.int _=>"int"
 |.str _=>"str"
 |.tuple _=>"tuple"
 |.list _=>"list"
 |.dict kvs=>if zv kvs then "list" else "dict"
noncomputable def isFn:PyData->Bool
 |.dict [(.str _,_)]=>true
 |.dict [(.bool _,_)]=>true
 |_=>false
noncomputable def ac2(T:String)(d:PyData):OP:=if isFn d=true then none else some (.bool (tyn d==T||(T=="int" && tyn d=="bool")))
theorem akF{Kp:List (Addr×Obj)}{σ:St}{H:Hp}{s:Shared}{E:Value->SP0}{Q:Value->SP0}{d:PyData}{v:V}{u c:Value}{b:Bool}(I:Inv X Kp σ H s)(r:Rep X.K H d v)(hF:isFn d=false)(rv:jK v u)
  (e:PySem.W.kitOne X.K (.type (tyn d)) c=some b) (h:∀tk,Q (.bool b) { s with toks:=tk }):wpAny (model X.prog X.w) X.A (call (.builtin "isinstance") [u,c]) Q E s:=by
 cases d with
 |none=>cases r;cases rv;exact PySem.W.kia_one PySem.W.kitx_none I.kIn True.intro e (fun z=>nomatch z) h
 |bool y=>cases r;cases rv;exact PySem.W.kia_one PySem.W.kitx_bool I.kIn True.intro e (fun z=>nomatch z) h
 |int i=>cases r;obtain⟨t,rfl⟩:=rv;exact PySem.W.kia_one PySem.W.kitx_int I.kIn True.intro e (fun z=>nomatch z) h
 |str y=>cases r;obtain⟨t,rfl⟩:=rv;exact PySem.W.kia_one PySem.W.kitx_str I.kIn True.intro e (fun z=>nomatch z) h
 | tuple ds=>
  obtain⟨a,xs,e1,e2,e3⟩:=r;subst e1;cases rv;obtain⟨its,_,⟨o,h1,h2,_⟩,_⟩:=I.tuple e2;exact PySem.W.kia_one PySem.W.kitx_tuple I.kIn ⟨o,h1,h2⟩ e (fun z=>nomatch z) h
 | list ds=>
  obtain⟨a,xs,e1,e2,e3⟩:=r;subst e1;cases rv;obtain⟨its,_,⟨o,n,h1,h2,_⟩,_⟩:=I.list (SqL.of e2);exact PySem.W.kia_one PySem.W.kitx_list I.kIn ⟨o,h1,h2⟩ e (fun z=>nomatch z) h
 | dict ds=>
  obtain⟨a,e1,⟨ns,e2,e3⟩ | ⟨ks,ob,e2,e3⟩ | ⟨x,e2,_⟩ | ⟨x,_,_,e2,_⟩ | e2⟩:=r
  ·subst e1;cases rv
   subst e3;have e:PySem.W.kitOne X.K (.type "list") c=some b:=by simpa[tyn,adk]using e
   obtain⟨its,_,⟨o,n,h1,h2,_⟩,_⟩:=I.list e2;exact PySem.W.kia_one PySem.W.kitx_list I.kIn ⟨o,h1,h2⟩ e (fun z=>nomatch z) h
  ·subst e1;cases rv
   obtain⟨cc,rr,rfl,e4⟩:=e3.out;have e:PySem.W.kitOne X.K (.type "dict") c=some b:=by simpa[tyn,zv]using e
   obtain⟨_,_,vs,_,dd⟩:=abV I.hok (.inr ⟨ob,e2⟩);obtain⟨o,es,ep,h1,h2,_⟩:=dd;exact PySem.W.kia_one PySem.W.kitx_dict I.kIn ⟨o,h1,h2.1⟩ e (fun z=>nomatch z) h
  ·subst e2;simp[isFn]at hF
  ·subst e2;simp[isFn]at hF
  ·subst e2;simp[isFn]at hF
noncomputable def arq(K:Fg)(T:String):List V->Hp->VK->Prop:=fun xs H Q=>∃x d b,xs=[x,.ty T]/\Rep K H d x/\isFn d=false/\PySem.W.kitOne K (.type (tyn d)) (.type T)=some b/\Q (.bl b) H
theorem akG{T:String}:zu X (.builtin "isinstance") (arq X.K T):=by
 intro Kp s σ H xs us Q I r ⟨x,d,b,e,h1,hF,h2,q⟩;subst e;obtain⟨u,w',rfl,r1,r2⟩:=ahN r;cases (show w'=_ from r2);exact akF I h1 hF r1 h2 fun tk=>⟨.bl b,H,I.tok tk,rfl,q⟩
noncomputable def aay(T:String)(d:PyData):Bool:=tyn d==T||(T=="int" && tyn d=="bool")
@[simp] theorem apQ(T:String):ac2 T .none=some (.bool (aay T .none)):=rfl
@[simp] theorem apR(T:String)(b:Bool):ac2 T (.bool b)=some (.bool (aay T (.bool b))):=rfl
@[simp] theorem aqu(T:String)(i:Int):ac2 T (.int i)=some (.bool (aay T (.int i))):=rfl
@[simp] theorem aqv(T:String)(x:Str):ac2 T (.str x)=some (.bool (aay T (.str x))):=rfl
@[simp] theorem apa(T:String)(ds:LP):ac2 T (.tuple ds)=some (.bool (aay T (.tuple ds))):=rfl
@[simp] theorem apS(T:String)(ds:LP):ac2 T (.list ds)=some (.bool (aay T (.list ds))):=rfl
theorem akH{T:String}{d e:PyData}(h:ac2 T d=some e):isFn d=false/\e= .bool (aay T d):=by
 unfold ac2 at h;split at h
 ·cases h
 ·rename_i hf;cases h;exact⟨by simpa using hf,rfl⟩
theorem am4{K:Fg}{T:String}(hT:T="bool" ∨ T="int" ∨ T="tuple")(d:PyData):PySem.W.kitOne K (.type (tyn d)) (.type T)=some (aay T d):=by
 rcases hT with rfl|rfl|rfl<;>cases d<;>first|rfl | (rename_i kvs;by_cases h:zv kvs=true<;>simp only[tyn,aay,h]<;>rfl)
theorem ab5{a:Expr}{fa:RP}{T:Str}{Tn:String}{p p2 pos:Pos}(hT:Tn="bool" ∨ Tn="int" ∨ Tn="tuple")(hm1:X.mg "isinstance"=none)(hm2:X.mg T=none)(hv:bootBuiltins T=some (.type Tn))(ha:PD X a fa)
  (hg1:Gl X "isinstance":=by rfl) (hg2:Gl X T:=by rfl) (hn:T≠"__name__":=by decide) (hd:(T==("__debug__":Str))=false:=by decide)
  (he:starEach [a,.Name T p2] X.env=[(false,eval a X.env),(false,eval (.Name T p2) X.env)]:=by rfl) (he2:starEach [.Name T p2] X.env=[(false,eval (.Name T p2) X.env)]:=by rfl) (hpl:(backTo pos (starEach [.Name T p2] X.env)).any (·.1)=false:=by rfl):
  PD X (.Call (.Name "isinstance" p) [a,.Name T p2] [] pos) (fun ρ=>(fa ρ).bind fun d=>ac2 Tn d):=by
 with_unfolding_all
  have hT2:PE X (.Name T p2) (tC (.ty Tn)):=amv hg2 hm2 hv rfl hn hd;refine PE.imp (afn (akG (T:=Tn)) hg1 hm1 (by decide +kernel) (zd ha (zd hT2 J1 (by rw[he2];rfl)) (by rw[he,he2])) (by decide) (by decide) (by rw[he,he2]) hpl) fun σ H Q ⟨ρ,d,en,q,k⟩=>?_;cases h1:fa ρ with
  |none=>simp[h1]at q
  | some c=>
   obtain⟨hF,rfl⟩:=akH (show ac2 Tn c=some d by simpa[h1]using q);exact⟨ρ,c,en,h1,fun v H1 s1 r1=>⟨v,c,_,rfl,r1,hF,am4 hT c,k _ H1 s1 rfl⟩⟩
end
noncomputable def zn(H H':Hp):Prop:=∀b o,H b=some o->(∀xs,o ≠ .lst xs)->H' b=some o
theorem jm.n{H H':Hp}(e:jm H H'):zn H H':=fun b o h _=>e b o h
theorem zn.refl(H:Hp):zn H H:=fun _ _ h _=>h
theorem zn.trans{H H1 H2:Hp}(a:zn H H1)(b:zn H1 H2):zn H H2:=fun c o h n=>b c o (a c o h n) n
theorem zn.upd{H:Hp}{p:Addr}{xs ys:List V}(hp:H p=some (.lst xs)):zn H (upd H p (.lst ys)):=fun b o h n=>by
 have:b≠p:=fun e=>by subst e;rw[hp]at h;cases h;exact n _ rfl
 rw[jn this];exact h
mutual
noncomputable def noL:PyData->Bool
 |.none=>true
 |.bool _=>true
 |.int _=>true
 |.str _=>true
 |.tuple ds=>noLs ds
 |.list _=>false
 |.dict _=>false
noncomputable def noLs:LP->Bool
 | []=>true
 |d::ds=>noL d&&noLs ds
end
section
variable {K:Fg}{H H':Hp}
theorem zn.tup{a:Addr}{xs:List V}(e:zn H H')(h:SqT K H a xs):SqT K H' a xs:=by
 rcases h with (h | ⟨o,h⟩) | h
 ·exact .inl (.inl (e _ _ h fun _ z=>nomatch z))
 ·exact .inl (.inr ⟨o,e _ _ h fun _ z=>nomatch z⟩)
 ·exact .inr h
mutual
theorem Rep.monoN(e:zn H H'):∀(d:PyData) (v:V),noL d=true->Rep K H d v->Rep K H' d v
 |.none,v,_,h=>h
 |.bool _,v,_,h=>h
 |.int _,v,_,h=>h
 |.str _,v,_,h=>h
 |.tuple ds,v,n,⟨a,xs,h1,h2,h3⟩=>⟨a,xs,h1,zn.tup e h2,Reps.monoN e ds xs (by simpa[noL]using n) h3⟩
 |.list ds,v,n,h=>by simp[noL]at n
 |.dict ds,v,n,h=>by simp[noL]at n
theorem Reps.monoN(e:zn H H'):∀(ds:LP) (xs:List V),noLs ds=true->Reps K H ds xs->Reps K H' ds xs
 | [],xs,_,h=>h
 | d::ds,xs,n,⟨x,r,h1,h2,h3⟩=>by
  have n':noL d=true/\noLs ds=true:=by simpa[noLs]using n
  exact⟨x,r,h1,Rep.monoN e d x n'.1 h2,Reps.monoN e ds r n'.2 h3⟩
end
theorem Qw:∀(ds es:LP),noLs (ds++es)=(noLs ds&&noLs es)
 | [],es=>by simp[noLs]
 |d::ds,es=>by simp[noLs,Qw ds es,Bool.and_assoc]
theorem afx:∀{ds:LP},(∀d∈ds,noL d=true)->noLs ds=true
 | [],_=>rfl
 |d::ds,h=>by simp[noLs,h d List.mem_cons_self,afx fun x hx=>h x (List.mem_cons_of_mem _ hx)]
end
end BX
end
section
namespace BX
open PySem PySem.Spec L2
open PyProof.Rows hiding St
noncomputable def jj(P:Program)(w:World)(K:Fg)(mg:SV)(base:Heap)(x:Str)(ps:List Str)(k n:Nat)(g:LP->OP):Prop:=
 ∃(f:Addr) (fd:FuncData),FnOk P w K mg base CX0 k f fd ps (Pur K n g)/\mg x=some (.ref f)/\PySem.W.keepIn K (.ref f)=true/\Qs K fd ps []
theorem jk:∀(ρ:Rho) (ds:LP),jC ρ=some ds->ds.length=0:=fun ρ ds h=>by cases h;rfl
theorem jc{fa:RP}{fr:Rho->Option (LP)}{n:Nat}(h:∀(ρ:Rho) (ds:LP),fr ρ=some ds->ds.length=n):∀(ρ:Rho) (ds:LP),jq fa fr ρ=some ds->ds.length=n+1:=fun ρ ds q=>by
 cases h1:fa ρ with
 |none=>simp[jq,h1]at q
 | some x=>
  cases h2:fr ρ with
  |none=>simp[jq,h1,h2]at q
  | some r=>
   have:x::r=ds:=by simpa[jq,h1,h2]using q
   subst this;simp[h ρ r h2]
section
variable {X:Cx}{e:Expr}{es:List Expr}{pos:Pos}
theorem jf{k j n:Nat}{ps:List Str}{g:LP->OP}{x:Str}{p:Pos}{fr:Rho->Option (LP)}(c:jj X.prog X.w X.K X.mg X.base x ps k n g)(hr:Room j X.A)(hkj:k<=j)(ha:PAD X (e::es) fr)
  (hl:∀(ρ:Rho) (ds:LP),fr ρ=some ds->ds.length=n) (hn:(e::es).length=n:=by rfl) (hg:Gl X x:=by rfl) (hdb:(x==("__debug__":Str))=false:=by decide) (he:starEach (e::es) X.env=(false,eval e X.env)::starEach es X.env:=by rfl)
  (hpl:(backTo pos (starEach es X.env)).any (·.1)=false:=by rfl):PD X (.Call (.Name x p) (e::es) [] pos) (jJ g fr):=by
 with_unfolding_all
  obtain⟨f,fd,h1,h2,h3,h4⟩:=c;exact amY h1 (hr.mono hkj) h2 h3 h4 hn ha (fun ρ ds q=>by rw[hl ρ ds q,hn]) hg hdb he hpl
end
theorem Qx{ft:Rho->Option Bool}{fe:RP}{i:Nat}(p:PyData->Bool)(h:PyData->PyData):∀(ds:LP) (τ:Rho),(∀d∈ds,ft (τ.set i (some d))=some (p d))->(∀d∈ds,p d=true->fe (τ.set i (some d))=some (h d))->
  qM (jG i) ft fe ds τ=some ((ds.filter p).map h)
 | [],τ,_,_=>rfl
 | d::ds,τ,h1,h2=>by
  have ih:=Qx p h ds (τ.set i (some d)) (fun c hc=>by rw[List.set_set];exact h1 c (List.mem_cons_of_mem _ hc)) (fun c hc hp=>by rw[List.set_set];exact h2 c (List.mem_cons_of_mem _ hc) hp);simp only[qM,jG,zzD,h1 d List.mem_cons_self];by_cases hp:p d=true
  ·simp[hp,h2 d List.mem_cons_self hp,ih,List.filter_cons]
  ·simp[hp,ih,List.filter_cons]
theorem JK{fe:RP}{i:Nat}(h:PyData->PyData)(ds:LP)(τ:Rho)(h2:∀d∈ds,fe (τ.set i (some d))=some (h d)):qM (jG i) agO fe ds τ=some (ds.map h):=by
 rw[Qx (fun _=>true) h ds τ (fun _ _=>rfl) (fun d hd _=>h2 d hd),List.filter_eq_self.mpr (fun _ _=>rfl)]
noncomputable def ah1(st:Scope)(N:List Str)(sc:Scope)(N':List Str)(cap:List (Option Nat)):Bool:=
 sc.names.all (fun x=>!decide (x.2= .free)||decide (st.names.lookup x.1=some .cell)||decide (st.names.lookup x.1=some .free))&&sc.names.all (fun x=>!decide (x.2= .cell))&&decide (sc.kind= .function) &&
 sc.names.all (fun x=>!decide (x.2= .local)||decide (sc.names.lookup x.1=some .local))&&decide (cap.length=N'.length) &&
 (List.range N'.length).all (fun j=>match N'[j]?,cap[j]? with
  | some x,some (some i)=>decide (N[i]?=some x) && decide (sc.names.lookup x=some .free)
  | _,_=>true)
theorem zN{X:Cx}{sc:Scope}{N':List Str}{cap:List (Option Nat)}(st:Scope)(N:List Str)(h:ah1 st N sc N' cap=true)(hst:X.env.scope=st:=by rfl)(hN:X.N=N:=by rfl):CompOk X sc N' cap:=by
 simp only[ah1,Bool.and_eq_true,List.all_eq_true,Bool.or_eq_true,Bool.not_eq_true',decide_eq_true_eq,decide_eq_false_iff_not]at h;obtain⟨⟨⟨⟨⟨h1,h2⟩,h3⟩,h4⟩,h5⟩,h6⟩:=h;subst hst;subst hN;refine⟨fun x hx e=>?_,h2,h3,fun x hx e=>?_,h5,fun j i x e1 e2=>?_⟩
 ·rcases h1 x hx with (z | z) | z
  ·exact absurd e z
  ·exact .inl z
  ·exact .inr z
 ·rcases h4 x hx with z | z
  ·exact absurd e z
  ·exact z
 ·have hj:j<N'.length:=(List.getElem?_eq_some_iff.mp e1).1
  have:=h6 j (List.mem_range.mpr hj);rw[e1,e2]at this;simpa using this
noncomputable def Cx.inB(X:Cx):Cx:={ X with A:=X.A.in1,xe:=NoX }
theorem Cx.Ok.inB{X:Cx}(ok:X.Ok):(Cx.inB X).Ok:=
 ⟨ok.mod,ok.kind,ok.glob,ok.blt,ok.above,ok.inj,ok.has,ok.cab,fun h=>ok.hd h,ok.frames,ok.stk,ok.exf,ok.bs,ok.bsz,ok.noex,ok.exfs,ok.funs,ok.frf⟩
theorem Cx.Ok.outB{X:Cx}(ok:(Cx.inB X).Ok):X.Ok:=
 ⟨ok.mod,ok.kind,ok.glob,ok.blt,ok.above,ok.inj,ok.has,ok.cab,fun h=>ok.hd h,ok.frames,ok.stk,ok.exf,ok.bs,ok.bsz,ok.noex,ok.exfs,ok.funs,ok.frf⟩
section
variable {X:Cx}{Kp:List (Addr×Obj)}{σ:St}{H:Hp}{s:Shared}
theorem Inv.inB(I:Inv X Kp σ H s):Inv (Cx.inB X) Kp σ H s:=⟨Cx.Ok.inB I.ok,I.os,I.bare,I.base,I.loc,I.cell,I.free,I.freeC,I.pin,I.hok,I.len⟩
theorem Inv.outB(I:Inv (Cx.inB X) Kp σ H s):Inv X Kp σ H s:=⟨Cx.Ok.outB I.ok,I.os,I.bare,I.base,I.loc,I.cell,I.free,I.freeC,I.pin,I.hok,I.len⟩
end
theorem aqw{prog:Program}{w:World}{A:Around}{E:Value->SP0}{s:Shared}{a b:Int}{t u:Tok}{Q:Value->SP0}(h:Q (.bool (decide (a<b))) s):wpAny (model prog w) A (richCompare .Lt (.int a t) (.int b u)) Q E s:=
 CmpOf.ints_lt (prog:=prog) (w:=w) (A:=A) (P:=fun (i:Nat) v=>∃t,v= .int (if i=0 then a else b) t) (fun i=>if i=0 then a else b) (fun _ _ q=>q) 0 1 _ _ _ _ _ ⟨t,rfl⟩ ⟨u,rfl⟩ h
noncomputable def Zq(kf:PyData->Int):PyData->LP->PyData
 |b,[]=>b
 |b,d::r=>if kf d<kf b then Zq kf d r else Zq kf b r
noncomputable def ac3(kf:PyData->Int):OP->LP->PyData
 |none,[]=> .none
 |none,d::r=>Zq kf d r
 |some b,r=>Zq kf b r
noncomputable def lob(us:Array Value)(c:Nat):Obj:={ cls:= .type "list",data:= .seq us c }
structure Own1(X:Cx)(Kp:List (Addr×Obj))(b:Addr):Prop where
 h1:b≠X.env.locals
 h2:b∉X.fs
 h3:X.s₀.heap.objs.size<=b
 h4:∀x c,X.env.cells.lookup x=some c->c≠b
 h5:∀p∈X.pn++Kp,p.1≠b
noncomputable def akI(K:Fg)(H:Hp)(h:Heap)(S:Addr)(kf:PyData->Int):OP->Prop
 |none=>∃c,h.get? S=some (lob #[] c)
 |some b=>∃x u t c,Rep K H b x/\jK x u/\h.get? S=some (lob #[u,.int (kf b) t] c)
theorem aeh{h:Heap}{S:Addr}{us ws:Array Value}{c:Nat}(ho:h.get? S=some (lob us c)):∃c2,(h.update S (Obj.mapSeq fun _=>ws)).get? S=some (lob ws c2):=by
 have e:=Heap.get?_update_self (Obj.mapSeq fun _=>ws) ho rfl;exact⟨_,e⟩
theorem ZK:(toString "min"++toString ".loop":String)="min.loop":=by decide
theorem ajb{X:Cx}{k:Nat}{f:Addr}{fd:FuncData}{ps:List Str}{g:LP->OP}{kf:PyData->Int}{ds:LP}{xs:List V}{l it S:Addr}{Kp:List (Addr×Obj)}{σ:St}{R:Result->SP0}(hc:X.calm=true)
  (FO:FnOk X.prog X.w X.K X.mg X.base CX0 k f fd ps (Pur X.K 1 g)) (hr:Room (k+1) X.A) (hb:Qs X.K fd ps []) (hk:∀d∈ds,g [d]=some (.int (kf d))) (oI:Own1 X Kp it) (oS:Own1 X Kp S) (nIS:it≠S) (nlI:l≠it) (nlS:l≠S):
  ∀(r:LP) (i:Nat) (bo:OP) (s:Shared) (H:Hp),ds.drop i=r->Inv (Cx.inB X) Kp σ H s->H l=some (.lst xs)->Reps X.K H ds xs->H it=none->H S=none->s.heap.IsListIter it l i->akI X.K H s.heap S kf bo->
   (∀v u s' H',Inv (Cx.inB X) Kp σ H' s'->jm H H'->jK v u->Rep X.K H' (ac3 kf bo r) v->R (.ok (.ret u)) s')->
   codeAny (model X.prog X.w) X.A (.builtin "min.loop" ⟨[.ref it,.ref f,.ref S],[("default",.none)]⟩) R s:=by
 have fpo:∀{b:Addr} {H:Hp} {pl:List (Addr×Obj)},Own1 X Kp b->H b=none->(∀p∈pl,p.1≠b)->afi (Cx.inB X) (Kp++pl) H b:=fun {b H pl} o hn hp=>⟨hn,o.h1,o.h2,.inr o.h3,o.h4,fun p hq z=>by
  rcases List.mem_append.mp (show p ∈ X.pn++(Kp++pl) from hq) with q | q
  ·exact o.h5 p (List.mem_append_left _ q) z
  ·rcases List.mem_append.mp q with q | q
   ·exact o.h5 p (List.mem_append_right _ q) z
   ·exact hp p q z⟩
 intro r
 induction r with
 | nil=>
  intro i bo s H hd I hl hR hI hS st hB fin;obtain⟨its,rv,p,hz⟩:=I.list (SqL.of (K:=X.K) hl)
  have hle:ds.length<=i:=by
   have:=congrArg List.length hd;simp at this;omega
  have hlen:=hR.length;have hvl:=rv.length;have f0:=fpo (pl:=[]) oI hI (fun _ z=>nomatch z);obtain⟨q0,q1,q2,q3,q4,q5⟩:=f0;refine codeAny_builtin PySem.F.entry_min_loop ?_;rw[Around.under_plainId PySem.F.plain_min_loop _];cases bo with
  | none=>
   obtain⟨c,hSo⟩:=hB;refine wpAny_bind (m:=seqItems? (.ref S)) (wpAny_seqItems hSo rfl ?_);refine wpAny_bind (m:=tryCatch (pyNext (.ref it)) _) (wpAny_tryCatch (wpAny_pyNext_list_end (I.ok.hd hc) st p.isList (by simp;omega) fun h' eb=>?_));have I1:Inv (Cx.inB X) Kp σ H { s with heap:=h' }:=I.turned (t':=s.toks) (it:=it) (fun b o hb e=>eb b o hb e) hI oI.h1 (.inr oI.h3) oI.h4 oI.h5;refine wpAny_bind (m:=rule _) (wpAny_rule ?_);exact wpAny_pure (fin .non _ _ H I1 (jm.refl H) rfl rfl)
  | some b=>
   obtain⟨x,u,t,c,rx,ru,hSo⟩:=hB;refine wpAny_bind (m:=seqItems? (.ref S)) (wpAny_seqItems hSo rfl ?_);refine wpAny_bind (m:=tryCatch (pyNext (.ref it)) _) (wpAny_tryCatch (wpAny_pyNext_list_end (I.ok.hd hc) st p.isList (by simp;omega) fun h' eb=>?_));have I1:Inv (Cx.inB X) Kp σ H { s with heap:=h' }:=I.turned (t':=s.toks) (it:=it) (fun b o hb e=>eb b o hb e) hI oI.h1 (.inr oI.h3) oI.h4 oI.h5;have hS1:h'.get? S=some (lob #[u,.int (kf b) t] c):=eb S _ (Ne.symm nIS) hSo;refine wpAny_bind (m:=updateSeq S fun _=>#[]) ?_;refine wpAny_updateSeq hS1 rfl (wpAny_bind (wpAny_letGo (wpAny_pure ?_)));have I2:Inv (Cx.inB X) Kp σ H { s with heap:=h'.update S (Obj.mapSeq fun _=>(#[]:Array Value)) }:=Inv.turned (s:={ s with heap:=h' }) I1 (t':=s.toks) (it:=S) (fun b o hb e=>((Heap.SameBut.update h' S _).2 b hb).trans e) hS oS.h1 (.inr oS.h3) oS.h4 oS.h5;exact fin x u _ H I2 (jm.refl H) ru rx
 | cons d r ih=>
  intro i bo s H hd I hl hR hI hS st hB fin;obtain⟨its,rv,p,hz⟩:=I.list (SqL.of (K:=X.K) hl)
  have hi:ds[i]?=some d:=by
   have:(ds.drop i)[0]?=some d:=by rw[hd];rfl
   simpa using this
  have hd':ds.drop (i+1)=r:=by
   have:(ds.drop i).drop 1=r:=by rw[hd];rfl
   simpa[List.drop_drop,Nat.add_comm]using this
  have hmem:d∈ds:=List.mem_of_getElem? hi;obtain⟨x,hx,rx⟩:=hR.get hi;obtain⟨u,hu,ru⟩:=rv.get hx;refine codeAny_builtin PySem.F.entry_min_loop ?_;rw[Around.under_plainId PySem.F.plain_min_loop _]
  obtain⟨olds,hSo⟩:∃olds:Obj,s.heap.get? S=some olds/\(∀v,olds.data ≠ .cell v):=by
   cases bo with
   |none=>obtain⟨c,e⟩:=hB;exact⟨_,e,fun v z=>by cases z⟩
   |some b=>obtain⟨_,_,_,c,_,_,e⟩:=hB;exact⟨_,e,fun v z=>by cases z⟩
  obtain⟨hSo,hSc⟩:=hSo
  have nxt:∀{Q2:Option Value->SP0} {E2:Value->SP0},(∀h' oi,Inv (Cx.inB X) (Kp++[(S,olds),(it,oi)]) σ H { s with heap:=h' }->(oi.cls= .type "list_iterator"/\oi.data= .fields #[.ref l,.int ((i+1:Nat):Int) 0])->Q2 (some u) { s with heap:=h' })->
    wpAny (model X.prog X.w) X.A.in1 (pyNext (.ref it)) Q2 E2 s:=by
   intro Q2 E2 go;refine wpAny_pyNext_list_item st p.isList (x:=u) (by simpa using hu) fun h' st' sb=>?_;have I1:Inv (Cx.inB X) Kp σ H { s with heap:=h' }:=I.turned (t':=s.toks) (it:=it) (fun b o hb e=>(sb.2 b hb).trans e) hI oI.h1 (.inr oI.h3) oI.h4 oI.h5;have hS1:h'.get? S=some olds:=(sb.2 S (Ne.symm nIS)).trans hSo;obtain⟨oi,hoi,hci,hdi⟩:=id st';refine go h' oi (I1.pins_of fun q hq=>?_) ⟨hci,hdi⟩;rcases List.mem_append.mp hq with z | z
   ·exact I1.pin q (List.mem_append_right _ z)
   ·rcases List.mem_cons.mp z with e | z
    ·subst e;exact⟨hS1,hS,oS.h1,oS.h2,hSc⟩
    ·have e:q=(it,oi):=by simpa using z
     subst e;exact⟨hoi,hI,oI.h1,oI.h2,fun v z=>by rw[hdi]at z;cases z⟩
  have key:∀{Q3:Value->SP0} {E3:Value->SP0} {h':Heap} {oi:Obj},Inv (Cx.inB X) (Kp++[(S,olds),(it,oi)]) σ H { s with heap:=h' }->(oi.cls= .type "list_iterator"/\oi.data= .fields #[.ref l,.int ((i+1:Nat):Int) 0])->
    (∀t s2 H2,Inv (Cx.inB X) Kp σ H2 s2->jm H H2->H2 it=none->H2 S=none->s2.heap.IsListIter it l (i+1)->s2.heap.get? S=some olds->Q3 (.int (kf d) t) s2)->wpAny (model X.prog X.w) X.A.in1 (call (.ref f) [u]) Q3 E3 { s with heap:=h' }:=by
   intro Q3 E3 h' oi I1p ho go;have kk:(Pur X.K 1 g) [x] H (fun v H2=>v= .int (kf d)/\jm H H2) E0:=⟨[d],.int (kf d),rfl,⟨x,[],rfl,rx,rfl⟩,hk d hmem,fun v H2 s2 r2=>⟨r2,s2⟩⟩;refine wpAny_mono (akh (X:=Cx.inB X) (dvs:=[]) (ds:=[]) (E:=E0) FO (Room.in1 hr) hb .nil aob I1p (.cons ru .nil) (by simpa using kk)) (fun kv s2 h2=>?_) fun _ _ z=>z.elim;obtain⟨v2,H2,I2,r2,e2,s2'⟩:=h2;subst e2;obtain⟨t,rfl⟩:=r2;have pS:=I2.pin (S,olds) (List.mem_append_right _ (List.mem_append_right _ (by simp)));have pI:=I2.pin (it,oi) (List.mem_append_right _ (List.mem_append_right _ (by simp)));have I2d:Inv (Cx.inB X) Kp σ H2 s2:=I2.pins_of fun q hq=>I2.pin q (List.mem_append_right _ (List.mem_append_left _ hq));exact go t s2 H2 I2d s2' pI.2.1 pS.2.1 ⟨oi,pI.1,ho.1,ho.2⟩ pS.1
  have back:∀{b2:PyData} {s2:Shared} {H2:Hp},Inv (Cx.inB X) Kp σ H2 s2->jm H H2->H2 it=none->H2 S=none->s2.heap.IsListIter it l (i+1)->akI X.K H2 s2.heap S kf (some b2)->ac3 kf bo (d::r)=ac3 kf (some b2) r->
    codeAny (model X.prog X.w) X.A (.builtin "min.loop" ⟨[.ref it,.ref f,.ref S],[("default",.none)]⟩) R s2:=fun {b2 s2 H2} I2 s12 hI2 hS2 st2 hB2 em=>
   ih (i+1) (some b2) s2 H2 hd' I2 (s12 _ _ hl) (Reps.mono s12 _ _ hR) hI2 hS2 st2 hB2 fun v u s' H' I' s' r' q'=>fin v u _ H' I' (s12.trans s') r' (by rw[em];exact q')
  cases bo with
  | none=>
   obtain⟨c,hSn⟩:=hB;rw[hSn]at hSo;cases hSo;refine wpAny_bind (m:=seqItems? (.ref S)) (wpAny_seqItems hSn rfl ?_);refine wpAny_bind (m:=tryCatch (pyNext (.ref it)) _) (wpAny_tryCatch (nxt fun h' oi I1p ho=>?_));refine wpAny_bind (m:=tryCatch (holding [u] (call (.ref f) [u])) _) (wpAny_tryCatch (wpAny_holding (key I1p ho fun t s2 H2 I2 s12 hI2 hS2 st2 hS2o=>?_)));refine wpAny_bind (m:=updateSeq S fun _=>#[u,.int (kf d) t]) ?_;refine wpAny_updateSeq hS2o rfl ?_;obtain⟨c2,hc2⟩:=aeh (ws:=#[u,.int (kf d) t]) hS2o;have sb:=Heap.SameBut.update s2.heap S (Obj.mapSeq fun _=>#[u,.int (kf d) t]);have I3:Inv (Cx.inB X) Kp σ H2 { s2 with heap:=s2.heap.update S (Obj.mapSeq fun _=>#[u,.int (kf d) t]) }:=I2.turned (t':=s2.toks) (it:=S) (fun b o hb e=>(sb.2 b hb).trans e) hS2 oS.h1 (.inr oS.h3) oS.h4 oS.h5;obtain⟨oi,e1,e2⟩:=st2;rw[ZK];exact wpAny_pure ⟨plainId_quiet PySem.F.plain_min_loop _,back (b2:=d) I3 s12 hI2 hS2 ⟨oi,(sb.2 it nIS).trans e1,e2⟩ ⟨x,u,t,c2,Rep.mono s12 _ _ rx,ru,hc2⟩ rfl⟩
  | some b=>
   obtain⟨xb,ub,tb,c,rb,rub,hSn⟩:=hB;rw[hSn]at hSo;cases hSo;refine wpAny_bind (m:=seqItems? (.ref S)) (wpAny_seqItems hSn rfl ?_);refine wpAny_bind (m:=tryCatch (pyNext (.ref it)) _) (wpAny_tryCatch (nxt fun h' oi I1p ho=>?_));refine wpAny_bind (m:=tryCatch (holding [u] (call (.ref f) [u])) _) (wpAny_tryCatch (wpAny_holding (key I1p ho fun t s2 H2 I2 s12 hI2 hS2 st2 hS2o=>?_)));refine wpAny_bind (m:=tryCatch (holding [u,.int (kf d) t] (richCompare .Lt (.int (kf d) t) (.int (kf b) tb) >>= _)) _) (wpAny_tryCatch (wpAny_holding (wpAny_bind (aqw ?_))));refine wpAny_bind (wpAny_holding (wpAny_truthy_bool ?_));refine wpAny_bind (wpAny_letGo (wpAny_pure ?_));by_cases hlt:kf d<kf b
   ·simp only[hlt,decide_true,zzM]
    refine wpAny_bind (m:=updateSeq S fun _=>#[u,.int (kf d) t]) ?_;refine wpAny_updateSeq hS2o rfl (wpAny_bind (wpAny_letGo ?_));obtain⟨c2,hc2⟩:=aeh (ws:=#[u,.int (kf d) t]) hS2o;have sb:=Heap.SameBut.update s2.heap S (Obj.mapSeq fun _=>#[u,.int (kf d) t]);have I3:Inv (Cx.inB X) Kp σ H2 { s2 with heap:=s2.heap.update S (Obj.mapSeq fun _=>#[u,.int (kf d) t]) }:=I2.turned (t':=s2.toks) (it:=S) (fun b o hb e=>(sb.2 b hb).trans e) hS2 oS.h1 (.inr oS.h3) oS.h4 oS.h5;obtain⟨oi,e1,e2⟩:=st2;rw[ZK];exact wpAny_pure ⟨plainId_quiet PySem.F.plain_min_loop _,back (b2:=d) I3 s12 hI2 hS2 ⟨oi,(sb.2 it nIS).trans e1,e2⟩ ⟨x,u,t,c2,Rep.mono s12 _ _ rx,ru,hc2⟩ (by simp[ac3,Zq,hlt])⟩
   ·simp only[hlt,decide_false,zzL,zzN]
    refine wpAny_bind (wpAny_letGo ?_);rw[ZK];exact wpAny_pure ⟨plainId_quiet PySem.F.plain_min_loop _,back (b2:=b) I2 s12 hI2 hS2 st2 ⟨xb,ub,tb,c,Rep.mono s12 _ _ rb,rub,hS2o⟩ (by simp[ac3,Zq,hlt])⟩
theorem agR(a v d:Value):argsOk "min" ⟨[a],[("key",v),("default",d)]⟩:=by unfold argsOk;kernel_rfl
theorem afy{X:Cx}{Kp:List (Addr×Obj)}{σ:St}{H:Hp}{s:Shared}(I:Inv X Kp σ H s){b:Addr}(hb:s.heap.objs.size<=b):Own1 X Kp b:=by
 obtain⟨_,h1,h2,h3,h4,h5⟩:=I.fpOk (H':=fun _=>none) hb rfl;exact⟨h1,h2,Nat.le_trans I.sz hb,h4,h5⟩
theorem agS{X:Cx}{k:Nat}{f:Addr}{fd:FuncData}{ps:List Str}{g:LP->OP}{kf:PyData->Int}{ds:LP}{xs:List V}{l:Addr}{Kp:List (Addr×Obj)}{σ:St}{H:Hp}{s:Shared}{Q:VK}(hc:X.calm=true)
  (FO:FnOk X.prog X.w X.K X.mg X.base CX0 k f fd ps (Pur X.K 1 g)) (hr:Room (k+1) X.A) (hb:Qs X.K fd ps []) (hk:∀d∈ds,g [d]=some (.int (kf d))) (I:Inv X Kp σ H s) (hl:H l=some (.lst xs)) (hR:Reps X.K H ds xs)
  (q:∀v H',jm H H'->Rep X.K H' (ac3 kf none ds) v->Q v H'):
  wpAny (model X.prog X.w) X.A (call (.builtin "min") [.ref l] [("key",.ref f),("default",.none)]) (EP X Kp σ Q) X.xe s:=by
 obtain⟨its,rv,p,hz⟩:=I.list (SqL.of (K:=X.K) hl);have hlt:l<s.heap.objs.size:=I.hok.lt hl;refine PyProof.Rows.kmk_tree PySem.F.kind_min PySem.F.plain_min PySem.F.entry_min (agR _ _ _) ?_
 refine wpAny_bind (m:=Builtin.Builtins.bindParams "min" ["key","default"] 0 ⟨[],[("key",.ref f),("default",.none)]⟩)
  (wpAny_of_eq (show _=pure [some (.ref f),some .none] from rfl) ?_)
 refine wpAny_bind (wpAny_pure ?_);refine wpAny_bind (wpAny_pyIter_list p.isList ?_);refine wpAny_bind (wpAny_newList ?_ (Nat.zero_le _));rw[ZK];refine wpAny_pure ⟨plainId_quiet PySem.F.plain_min_loop _,?_⟩;generalize hh1:s.heap.push { cls:= .type "list_iterator",data:= .fields #[.ref l,.int 0 0] }=h1;have n1:h1.objs.size=s.heap.objs.size+1:=by rw[←hh1];exact Heap.size_push ..
 have k2:∀b o,s.heap.get? b=some o->(h1.push { cls:= .type "list",data:= .seq ([]:List Value).toArray }).get? b=some o:=fun b o e=>Heap.get?_push_of_some _ (by rw[←hh1];exact Heap.get?_push_of_some _ e);have I2:Inv X Kp σ H { s with heap:=h1.push { cls:= .type "list",data:= .seq ([]:List Value).toArray } }:=I.kept (t':=s.toks) k2
 refine ajb (kf:=kf) hc FO hr hb hk (afy I (Nat.le_refl _)) (afy I (b:=h1.objs.size) (by rw[n1];exact Nat.le_succ _)) (by rw[n1];exact Nat.ne_of_lt (Nat.lt_succ_self _)) (Nat.ne_of_lt hlt) (by rw[n1];exact Nat.ne_of_lt (Nat.lt_succ_of_lt hlt))
  ds 0 none _ H rfl (Inv.inB I2) hl hR (I.hok.fresh (Nat.le_refl _)) (I.hok.fresh (by rw[n1];exact Nat.le_succ _)) ⟨_,Heap.get?_push_of_some _ (by rw[←hh1];exact Heap.get?_push_size _ rfl),rfl,rfl⟩ ⟨0,Heap.get?_push_size _ rfl⟩ fun v u s' H' I' s1 r' q'=>?_
 exact⟨v,H',Inv.outB I',r',q v H' s1 q'⟩
noncomputable def ab6(g:LP->OP)(ds:LP):Bool:=ds.all fun d=>((g [d]).bind Qb).isSome
noncomputable def ZL(g:LP->OP)(d:PyData):Int:=((g [d]).bind Qb).getD 0
noncomputable def aaz(g:LP->OP):PyData->OP
 |.list ds=>if ab6 g ds=true then some (ac3 (ZL g) none ds) else none
 |_=>none
theorem ajc{d:PyData}{i:Int}(h:Qb d=some i):d= .int i:=by
 cases d<;>simp[Qb]at h
 rw[h]
theorem akJ{g:LP->OP}{ds:LP}(h:ab6 g ds=true):∀d∈ds,g [d]=some (.int (ZL g d)):=fun d hd=>by
 have:=List.all_eq_true.mp h d hd;cases e:g [d]with
 |none=>simp[e]at this
 | some c=>
  cases e2:Qb c with
  |none=>simp[e,e2]at this
  | some i=>
   have:=ajc e2;subst this;simp[ZL,e,Qb]
theorem ab7:bootBuiltins "min"=some (.builtin "min"):=by decide +kernel
theorem akK:bootBuiltins "max"=some (.builtin "max"):=by decide +kernel
section
variable {X:Cx}{a:Expr}{fa:RP}{pos p p2 p3 kp kp2:Pos}{j3:Nat}
theorem akL{k j:Nat}{ps:List Str}{g:LP->OP}{x:Str}(hc:X.calm=true)(c:jj X.prog X.w X.K X.mg X.base x ps k 1 g)(hr:Room j X.A)(hkj:k+1<=j)(hm:X.mg "min"=none)(ha:PD X a fa)(hg:Gl X "min":=by rfl)(hgx:Gl X x:=by rfl)
  (hdb:(x==("__debug__":Str))=false:=by decide) (hs:starEach [a] X.env=[(false,eval a X.env)]:=by rfl):
  PD X (.Call (.Name "min" p) [a] [⟨some "key",.Name x p2,kp⟩,⟨some "default",.Constant .none j3 p3,kp2⟩] pos) (fun ρ=>(fa ρ).bind (aaz g)):=by
 with_unfolding_all
  obtain⟨f,fd,FO,hmx,hkp,hb⟩:=c;intro Kp s σ H Q I h;obtain⟨ρ,d,en,q,kq⟩:=h;cases h1:fa ρ with
  |none=>simp[h1]at q
  | some y=>
   have q':aaz g y=some d:=by simpa[h1]using q
   refine wpAny_Call_Name_kw (Zr I hg hm ab7 ?_);have hA:PA X [a] (afk (tD X.K fa) amD):=zd ha J1 (by rw[hs];rfl);have hK:PK X [⟨some "key",.Name x p2,kp⟩,⟨some "default",.Constant .none j3 p3,kp2⟩] (afk (tC (.ref f)) (afk (tC .non) amD)):=ahO (ad4 hgx hmx rfl hdb) (ahO aj6 aoN);refine callWith_kw (thn (hA pos Kp s σ H (fun vs H1=>∃v,vs=[v]/\jm H H1/\Rep X.K H1 y v) I ⟨ρ,y,en,h1,fun v H1 s1 r1=>⟨v,rfl,s1,r1⟩⟩) fun us s1 ⟨vs,H1,I1,r1,v,e1,s1',rv⟩=>?_) (by rw[hs];rfl) (by rw[hs];rfl);subst e1;obtain⟨u,rfl,ru⟩:=abP r1;refine thn (hK pos Kp s1 σ H1 (fun zs H2=>zs=[.ref f,.non]/\H2=H1) I1 ⟨rfl,rfl⟩) fun ws s2 ⟨zs,H2,I2,r2,e2,e3⟩=>?_;subst e2;subst e3;obtain⟨w1,w2,rfl,a1,a2⟩:=ahN r2;cases (show w1=_ from a1);cases (show w2=_ from a2);cases y with
   | list ds=>
    by_cases hko:ab6 g ds=true
    ·have:ac3 (ZL g) none ds=d:=by simpa[aaz,hko]using q'
     subst this;obtain⟨l,xs,e4,e5,e6⟩:=rv;subst e4;cases (show u=_ from ru);exact agS (kf:=ZL g) hc FO (hr.mono hkj) hb (akJ hko) I2 e5 e6 fun v H' s' r'=>kq v H' (s1'.trans s') r'
    ·simp[aaz,hko]at q'
   |_=>simp[aaz]at q'
end
noncomputable def ah2:Int->List Int->Int
 |b,[]=>b
 |b,d::r=>if d>b then ah2 d r else ah2 b r
noncomputable def apb:Option Int->List Int->PyData
 |none,[]=> .none
 |none,d::r=> .int (ah2 d r)
 |some b,r=> .int (ah2 b r)
section
variable {X:Cx}{a:Expr}{fa:RP}{pos p p3 kp2:Pos}{j3:Nat}
end
end BX
end
section
namespace BX.Srt
open PySem PySem.W
open PyProof.Rows (mirror bubble mirror_size mirror_perm bubble_size bubble_perm getElem?_mirror_all getElem?_bubble)
section
variable (rk:Nat->Int)(n:Nat)
noncomputable def val(p:Array Nat)(k:Nat):Int:=rk (p.getD k 0)
noncomputable def Qc(p:Array Nat)(m:Nat):Prop:=∀i j,i<=j->j<m->val rk p i<=val rk p j
noncomputable def ab8(p:Array Nat)(m:Nat):Prop:=∀i j,i<=j->j<m->val rk p j<=val rk p i
noncomputable def afz(p:Array Nat)(m q:Nat):Prop:=∀i,m-(q+1)<=i->i<m->val rk p i=val rk p (m-1)
noncomputable def OKp(p:Array Nat):Prop:=p.Perm (List.range n).toArray
end
section
variable {rk:Nat->Int}{n:Nat}{p p':Array Nat}
theorem OKp.size(h:OKp n p):p.size=n:=by
 have:=h.size_eq;simpa using this
theorem OKp.lt(h:OKp n p){k:Nat}(hk:k<n):p.getD k 0<n:=by
 have hs:=h.size;have e:p.getD k 0=p[k]'(by omega):=by simp[Array.getD,hs,hk]
 have:p[k]'(by omega)∈(List.range n).toArray:=h.mem_iff.mp (Array.getElem_mem _);rw[e];simpa using this
theorem Qd(p:Array Nat)(k:Nat):p.getD k 0=(p[k]?).getD 0:=by simp[Array.getD_eq_getD_getElem?]
theorem abm{i j k:Nat}(hj:j<=p.size):val rk (kas_rev p i j) k=if i<=k/\k<j then val rk p (i+j-1-k) else val rk p k:=by
 unfold val kas_rev;rw[Qd,getElem?_mirror_all hj];by_cases h:i<=k/\k<j
 ·rw[if_pos h,if_pos h,←Qd]
 ·rw[if_neg h,if_neg h,←Qd]
theorem ah3{src d k:Nat}(hs:src<p.size)(hd:d<=src):val rk (bubble p src d) k=if k=src-d then val rk p src else if src-d<k/\k<=src then val rk p (k-1) else val rk p k:=by
 unfold val;rw[Qd,getElem?_bubble hs d hd k];by_cases h:k=src-d
 ·rw[if_pos h,if_pos h,←Qd]
 ·rw[if_neg h,if_neg h]
  by_cases h2:src-d<k/\k<=src
  ·rw[if_pos h2,if_pos h2,←Qd]
  ·rw[if_neg h2,if_neg h2,←Qd]
theorem OKp.rev(h:OKp n p)(i j:Nat):OKp n (kas_rev p i j):=(mirror_perm p i j _).trans h
theorem OKp.bub(h:OKp n p)(i j:Nat):OKp n (bubble p i j):=(bubble_perm p i j).trans h
theorem Zt{m q k:Nat}(hm:m<=p.size)(hq:q+1<=m)(h:afz rk p m q):val rk (kas_rev p (m-(q+1)) m) k=val rk p k:=by
 rw[abm hm];split
 ·rename_i hk
  rw[h _ (by omega) (by omega),h k hk.1 hk.2]
 ·rfl
end
variable {rk:Nat->Int}{n:Nat}{cmp:Nat->Nat->(Bool->SP0)->SP0}
section
variable {s:Shared}(hc:∀i j (C:Bool->SP0),i<n->j<n->C (decide (rk i<rk j)) s->cmp i j C s)
include hc
theorem ab9{α:Type}{p:Array Nat}{a b:Nat}{k:Bool->KasT α}{Q:α->SP0}(h:OKp n p)(ha:a<n)(hb:b<n)(h1:val rk p a<val rk p b->(k true).kasWp cmp Q s)(h2:val rk p b<=val rk p a->(k false).kasWp cmp Q s):
  (KasT.ask (p.getD a 0) (p.getD b 0) k).kasWp cmp Q s:=by
 refine hc _ _ _ (h.lt ha) (h.lt hb) ?_;by_cases hl:rk (p.getD a 0)<rk (p.getD b 0)
 ·simp only[hl,decide_true];exact h1 hl
 ·simp only[hl,decide_false];exact h2 (Int.not_lt.mp hl)
theorem agT{p:Array Nat}(h:OKp n p):∀(f m:Nat) (Q:Nat->SP0),1<=m->m+f<=n->Qc rk p m->
  (∀m',m<=m'->m'<=m+f->Qc rk p m'->(m'=m+f∨val rk p m' < val rk p (m'-1))->Q m' s)->(kas_asc p f m).kasWp cmp Q s
 |0,m,Q,_,_,hs,k=>k m (Nat.le_refl _) (Nat.le_refl _) hs (.inl rfl)
 | f+1,m,Q,h1,h2,hs,k=>by
  refine ab9 hc h (by omega) (by omega) (fun hl=>?_) (fun hl=>?_)
  ·show(if true=true then KasT.ret m else kas_asc p f (m+1)).kasWp cmp Q s
   rw[if_pos rfl];exact k m (Nat.le_refl _) (by omega) hs (.inr hl)
  ·show(if false=true then KasT.ret m else kas_asc p f (m+1)).kasWp cmp Q s
   rw[if_neg Bool.false_ne_true];refine agT h f (m+1) Q (by omega) (by omega) (fun i j hij hj=>?_) fun m' a1 a2 a3 a4=>k m' (by omega) (by omega) a3 (a4.elim (fun e=> .inl (by omega)) .inr);by_cases hjm:j<m
   ·exact hs i j hij hjm
   ·have ej:j=m:=by omega
    subst ej;by_cases him:i<j
    ·exact Int.le_trans (hs i (j-1) (by omega) (by omega)) hl
    ·have ei:i=j:=by omega
     subst ei;exact Int.le_refl _
theorem abn:∀(f:Nat) (p:Array Nat) (m q:Nat) (Q:Array Nat×Nat×Nat->SP0),OKp n p->q+1<=m->m+f<=n->ab8 rk p m->afz rk p m q->
  (∀p' m' q',OKp n p'->q'+1<=m'->m'<=m+f->ab8 rk p' m'->afz rk p' m' q'->Q (p',m',q') s)->(kas_desc f p m q).kasWp cmp Q s
 |0,p,m,q,Q,h,h1,h2,hn,he,k=>k p m q h h1 (Nat.le_refl _) hn he
 | f+1,p,m,q,Q,h,h1,h2,hn,he,k=>by
  have hsz:=h.size
  have grow:∀{p':Array Nat},(∀i,val rk p' i=val rk p i)->val rk p m<=val rk p (m-1)->ab8 rk p' (m+1):=fun {p'} hv hl i j hij hj=>by
   rw[hv,hv];by_cases hjm:j<m
   ·exact hn i j hij hjm
   ·have ej:j=m:=by omega
    subst ej;by_cases him:i<j
    ·exact Int.le_trans hl (hn i (j-1) (by omega) (by omega))
    ·have ei:i=j:=by omega
     subst ei;exact Int.le_refl _
  refine ab9 hc h (by omega) (by omega) (fun hl=>?_) (fun hl=>?_)
  ·show(if true=true then (if q>0 then kas_desc f (kas_rev p (m-(q+1)) m) (m+1) 0 else kas_desc f p (m+1) 0) else _).kasWp cmp Q s
   rw[if_pos rfl]
   have er:∀{p':Array Nat},afz rk p' (m+1) 0:=fun {p'} i h3 h4=>by
    have e:i=m+1-1:=by omega
    rw[e]
   by_cases hq:q>0
   ·rw[if_pos hq]
    exact abn f _ (m+1) 0 Q (h.rev _ _) (by omega) (by omega) (grow (fun i=>Zt (by omega) h1 he) (Int.le_of_lt hl)) er fun p' m' q' a1 a2 a3 a4 a5=>k p' m' q' a1 a2 (by omega) a4 a5
   ·rw[if_neg hq]
    exact abn f p (m+1) 0 Q h (by omega) (by omega) (grow (fun _=>rfl) (Int.le_of_lt hl)) er fun p' m' q' a1 a2 a3 a4 a5=>k p' m' q' a1 a2 (by omega) a4 a5
  ·show(if false=true then _ else KasT.ask (p.getD (m-1) 0) (p.getD m 0) fun d=>if d=true then .ret (p,m,q) else kas_desc f p (m+1) (q+1)).kasWp cmp Q s
   rw[if_neg Bool.false_ne_true];refine ab9 hc h (by omega) (by omega) (fun hl2=>?_) (fun hl2=>?_)
   ·show(if true=true then KasT.ret (p,m,q) else kas_desc f p (m+1) (q+1)).kasWp cmp Q s
    rw[if_pos rfl];exact k p m q h h1 (by omega) hn he
   ·show(if false=true then KasT.ret (p,m,q) else kas_desc f p (m+1) (q+1)).kasWp cmp Q s
    rw[if_neg Bool.false_ne_true];have eq:val rk p m=val rk p (m-1):=Int.le_antisymm hl2 hl;refine abn f p (m+1) (q+1) Q h (by omega) (by omega) (grow (fun _=>rfl) hl2) (fun i h3 h4=>?_) fun p' m' q' a1 a2 a3 a4 a5=>k p' m' q' a1 a2 (by omega) a4 a5;have e1:m+1-1=m:=by omega
    rw[e1];by_cases him:i<m
    ·rw[he i (by omega) him,eq]
    ·have ei:i=m:=by omega
     rw[ei]
theorem ah4{p:Array Nat}{m:Nat}{Q:Nat×Array Nat->SP0}(h:OKp n p)(h1:1<=m)(h2:m<=n)(hn:ab8 rk p m)(k:∀m' p',OKp n p'->1<=m'->m'<=n->Qc rk p' m'->Q (m',p') s):(kas_tail3 m n p).kasWp cmp Q s:=by
 have hsz:=h.size;unfold kas_tail3;rw[KasT.kasWp_bind];refine agT hc (h.rev 0 m) (n-m) m _ h1 (by omega) (fun i j hij hj=>?_) fun m' a1 a2 a3 _=>k m' _ (h.rev 0 m) (by omega) (by omega) a3;rw[abm (by omega),abm (by omega),if_pos ⟨Nat.zero_le _,by omega⟩,if_pos ⟨Nat.zero_le _,hj⟩];exact hn _ _ (by omega) (by omega)
theorem aa3{p:Array Nat}{m:Nat}{Q:Nat×Array Nat->SP0}(h:OKp n p)(h2:m+1<=n)(hn:ab8 rk p (m+1))(k:∀m' p',OKp n p'->1<=m'->m'<=n->Qc rk p' m'->Q (m',p') s):
  (kas_descPart m n p).kasWp cmp Q s:=by
 unfold kas_descPart;rw[KasT.kasWp_bind]
 have er:afz rk p (m+1) 0:=fun i h3 h4=>by
  have e:i=m+1-1:=by omega
  rw[e]
 refine abn hc (n-(m+1)) p (m+1) 0 _ h (by omega) (by omega) hn er fun p' m' q' a1 a2 a3 a4 a5=>?_;have hsz:=a1.size;show(if q'>0 then kas_tail3 m' n (kas_rev p' (m'-(q'+1)) m') else kas_tail3 m' n p').kasWp cmp Q s;by_cases hq:q'>0
 ·rw[if_pos hq]
  refine ah4 hc (a1.rev _ _) (by omega) (by omega) (fun i j hij hj=>?_) k;rw[Zt (by omega) a2 a5,Zt (by omega) a2 a5];exact a4 i j hij hj
 ·rw[if_neg hq]
  exact ah4 hc a1 (by omega) (by omega) a4 k
theorem akM{p:Array Nat}{Q:Nat×Array Nat->SP0}(h:OKp n p)(hn1:1<=n)(k:∀m' p',OKp n p'->1<=m'->m'<=n->Qc rk p' m'->Q (m',p') s):(kas_count n p).kasWp cmp Q s:=by
 have hsz:=h.size;unfold kas_count;rw[KasT.kasWp_bind]
 refine agT hc h (n-1) 1 _ (Nat.le_refl _) (by omega) (fun i j hij hj=>by
  have e1:i=0:=by omega
  have e2:j=0:=by omega
  rw [e1,e2]; exact Int.le_refl _) fun m a1 a2 a3 a4=>?_
 by_cases hm:(m==n)=true
 ·rw[if_pos hm]
  exact k m p h a1 (by omega) a3
 ·rw[if_neg hm]
  have hmn:m≠n:=by simpa using hm
  have hlast:val rk p m<val rk p (m-1):=a4.resolve_left (by omega);by_cases hm1:m>1
  ·rw[if_pos hm1]
   refine ab9 hc h (by omega) (by omega) (fun hl=>?_) (fun hl=>?_)
   ·show(if true=true then KasT.ret (m,p) else _).kasWp cmp Q s
    rw[if_pos rfl];exact k m p h a1 (by omega) a3
   ·show(if false=true then KasT.ret (m,p) else kas_descPart m n (kas_rev p 0 m)).kasWp cmp Q s
    rw[if_neg Bool.false_ne_true]
    have alleq:∀i,i<m->val rk p i=val rk p (m-1):=fun i hi=>by
     have b1:=a3 i (m-1) (by omega) (by omega);have b2:=a3 0 i (Nat.zero_le _) hi;omega
    have hv:∀i,val rk (kas_rev p 0 m) i=val rk p i:=fun i=>by
     rw[abm (by omega)];split
     ·rename_i hi
      rw[alleq _ (by omega),alleq i hi.2]
     ·rfl
    refine aa3 hc (h.rev _ _) (by omega) (fun i j hij hj=>?_) k;rw[hv,hv];by_cases hjm:j<m
    ·rw[alleq j hjm,alleq i (by omega)];exact Int.le_refl _
    ·have ej:j=m:=by omega
     subst ej;by_cases him:i<j
     ·rw[alleq i him];exact Int.le_of_lt hlast
     ·have ei:i=j:=by omega
      rw[ei];exact Int.le_refl _
  ·rw[if_neg hm1]
   have em:m=1:=by omega
   subst em;refine aa3 hc h (by omega) (fun i j hij hj=>?_) k;by_cases hj0:j=0
   ·have:i=0:=by omega
    rw[this,hj0];exact Int.le_refl _
   ·have ej:j=1:=by omega
    subst ej;by_cases hi0:i=0
    ·rw[hi0];exact Int.le_of_lt hlast
    ·have ei:i=1:=by omega
     rw[ei];exact Int.le_refl _
theorem aca{p:Array Nat}{k:Nat}(h:OKp n p)(hk:k<n)(hs:Qc rk p k):∀(f l r:Nat) (Q:Nat->SP0),l<=r->r<=k->r-l<=f->(∀i,i<l->val rk p i<=val rk p k)->(∀i,r<=i->i<k->val rk p k<val rk p i)->
  (∀l',l'<=k->(∀i,i<l'->val rk p i<=val rk p k)->(∀i,l'<=i->i<k->val rk p k<val rk p i)->Q l' s)->(kas_place p k f l r).kasWp cmp Q s
 | 0,l,r,Q,h1,h2,h3,a,b,q=>by
  have e:l=r:=by omega
  subst e;exact q l h2 a b
 | f+1,l,r,Q,h1,h2,h3,a,b,q=>by
  show(if l >= r then KasT.ret l else .ask (p.getD k 0) (p.getD ((l+r) / 2) 0) fun c=>if c=true then kas_place p k f l ((l+r) / 2) else kas_place p k f ((l+r) / 2+1) r).kasWp cmp Q s;by_cases hlr:l >= r
  ·rw[if_pos hlr]
   have e:l=r:=by omega
   subst e;exact q l h2 a b
  ·rw[if_neg hlr]
   refine ab9 hc h hk (by omega) (fun hl=>?_) (fun hl=>?_)
   ·show(if true=true then kas_place p k f l ((l+r) / 2) else kas_place p k f ((l+r) / 2+1) r).kasWp cmp Q s
    rw[if_pos rfl];refine aca h hk hs f l ((l+r) / 2) Q (by omega) (by omega) (by omega) a (fun i h4 h5=>?_) q;exact Int.lt_of_lt_of_le hl (hs _ i h4 h5)
   ·show(if false=true then kas_place p k f l ((l+r) / 2) else kas_place p k f ((l+r) / 2+1) r).kasWp cmp Q s
    rw[if_neg Bool.false_ne_true];refine aca h hk hs f ((l+r) / 2+1) r Q (by omega) h2 (by omega) (fun i h4=>?_) b q;exact Int.le_trans (hs i ((l+r) / 2) (by omega) (by omega)) hl
theorem aei:∀(f:Nat) (p:Array Nat) (k:Nat) (Q:Array Nat->SP0),OKp n p->k+f=n->Qc rk p k->(∀p',OKp n p'->Qc rk p' n->Q p' s)->(kas_bin f p k).kasWp cmp Q s
 | 0,p,k,Q,h,hk,hs,q=>by
  have e:k=n:=by omega
  exact q p h (by rw[←e];exact hs)
 | f+1,p,k,Q,h,hk,hs,q=>by
  have hsz:=h.size;show((kas_place p k k 0 k).bind fun l=>kas_bin f (bubble p k (k-l)) (k+1)).kasWp cmp Q s;rw[KasT.kasWp_bind];refine aca hc h (by omega) hs k 0 k _ (Nat.zero_le _) (Nat.le_refl _) (by omega) (fun i hi=>absurd hi (Nat.not_lt_zero _)) (fun i h1 h2=>absurd h2 (by omega)) fun l hl a b=>?_;refine aei f _ (k+1) Q (h.bub _ _) (by omega) (fun i j hij hj=>?_) q;have hb:k-(k-l)=l:=by omega
  rw[ah3 (by omega) (by omega),ah3 (by omega) (by omega),hb];by_cases hi1:i=l
  ·rw[if_pos hi1]
   by_cases hj1:j=l
   ·rw[if_pos hj1];exact Int.le_refl _
   ·rw[if_neg hj1,if_pos ⟨by omega,by omega⟩]
    exact Int.le_of_lt (b _ (by omega) (by omega))
  ·rw[if_neg hi1]
   by_cases hi2:l<i/\i<=k
   ·rw[if_pos hi2,if_neg (by omega),if_pos ⟨by omega,by omega⟩]
    exact hs _ _ (by omega) (by omega)
   ·rw[if_neg hi2]
    by_cases hj1:j=l
    ·rw[if_pos hj1];exact a i (by omega)
    ·rw[if_neg hj1]
     by_cases hj2:l<j/\j<=k
     ·rw[if_pos hj2]
      exact hs _ _ (by omega) (by omega)
     ·rw[if_neg hj2]
      exact hs _ _ hij (by omega)
theorem ah5{Q:Array Nat->SP0}(hn1:1<=n)(q:∀p',OKp n p'->Qc rk p' n->Q p' s):(kas_sort n).kasWp cmp Q s:=by
 unfold kas_sort;rw[KasT.kasWp_bind];refine akM hc (p:=(List.range n).toArray) (Array.Perm.refl _) hn1 fun m p h h1 h2 hs=>?_;show(if m<n then kas_bin (n-max m 1) p (max m 1) else KasT.ret p).kasWp cmp Q s;have em:max m 1=m:=by omega
 by_cases hm:m<n
 ·rw[if_pos hm,em]
  exact aei hc (n-m) p m Q h (by omega) hs q
 ·rw[if_neg hm]
  have e:m=n:=by omega
  exact q p h (by rw[←e];exact hs)
end
end BX.Srt
end
section
namespace BX
open PySem PySem.Spec L2
open PyProof.Rows hiding St
theorem am5(vs:List Value):(vs.toArray.zip vs.toArray).map (·.2)=vs.toArray:=by
 apply Array.toList_inj.mp;simp[List.map_snd_zip]
theorem am6(vs:List Value):(arrOf (SortSt.mk' general' (vs.toArray.zip vs.toArray) #[] 7 none)).map (·.2)=vs.toArray:=am5 vs
section
variable {prog:Program}{w:World}{A:Around}{E:Value->SP0}{s:Shared}
theorem agU{l:Addr}{vs:List Value}{Q:Value->SP0}(hl:s.heap.IsList l vs.toArray)(h2:vs.length<2)
  (h:∀h' D c,(∀b o,s.heap.get? b=some o->h'.get? b=some o)->h'.get? D=some (lob vs.toArray c)->s.heap.objs.size<=D->Q (.ref D) { s with heap:=h' }):
  wpAny (model prog w) A (call (.builtin "sorted") [.ref l]) Q E s:=by
 have small:vs.length<=sizeLine:=by rw[sizeLine_eq];omega
 refine Calls.call_function_entry kind_sorted plain_sorted entry_sorted (args_sorted1 _) ?_;unfold Builtin.«sorted»;refine wpAny_bind (m:=checkCount "sorted" 1 1 _) (wpAny_pure ?_);refine wpAny_bind (collect_list hl ?_ small);refine wpAny_bind (wpAny_newList ?_ small);generalize hh1:(s.heap.push (seqObj "list" #[] 0)).update s.heap.objs.size (Obj.mapSeq (·++vs.toArray))=h1;have n1:h1.objs.size=s.heap.objs.size+1:=by rw[←hh1,Heap.size_update,size_push']
 have k1:∀b o,s.heap.get? b=some o->h1.get? b=some o:=fun b o q=>by
  have hlt:b<s.heap.objs.size:=Heap.lt_size q;rw[←hh1,Heap.get?_update_ne _ _ _ _ (Nat.ne_of_lt hlt),Heap.get?_push_ne _ _ _ (Nat.ne_of_lt hlt)];exact q
 have hD:(h1.push (seqObj "list" vs.toArray 0)).get? h1.objs.size=some (seqObj "list" vs.toArray 0):=Heap.get?_push_size _ rfl;refine wpAny_bind (wpAny_holding (wpAny_call_entry (s:={ s with heap:=h1.push (seqObj "list" vs.toArray 0) }) slot_list_sort ⟨_,hD,rfl⟩ entry_list_sort ?body (args_list_sort _)))
 case body=>
  rw[list_sort_plain];refine wpAny_bind (listItems_at hD rfl ?_);refine wpAny_bind (listUpdate_at hD rfl ?_ (by rw[List.size_toArray];exact small) (Nat.zero_le _));obtain⟨e1,ho1⟩:∃e1,((h1.push (seqObj "list" vs.toArray 0)).update h1.objs.size (Obj.mapSeq fun _=>(#[]:Array Value))).get? h1.objs.size=some (seqObj "list" #[] e1):=⟨_,get?_update_seq hD fun _=>#[]⟩;refine wpAny_bind (seqEpoch_at ho1 rfl ?_);refine wpAny_bind (wpAny_newTuple ?_ small);refine wpAny_bind (wpAny_newList ?_ (Nat.zero_le _));refine wpAny_holding ?_;dsimp only;have hlt:vs.toArray.size<2:=by rw[List.size_toArray];exact h2
  rw[if_pos hlt,if_pos hlt];refine wpAny_bind (wpAny_pure ?_);rw[StateT.run_pure];refine wpAny_bind (wpAny_pure ?_);dsimp only;have ho3:((((h1.push (seqObj "list" vs.toArray 0)).update h1.objs.size (Obj.mapSeq fun _=>(#[]:Array Value))).push (seqObj "tuple" vs.toArray 0)).push (seqObj "list" #[] 0)).get? h1.objs.size=some (seqObj "list" #[] e1):=Heap.get?_push_of_some _ (Heap.get?_push_of_some _ ho1);refine wpAny_bind (seqEpoch_at ho3 rfl ?_);rw[am6];refine wpAny_bind (listUpdate_at ho3 rfl ?_ (Nat.zero_le _) (by rw[List.size_toArray];exact Nat.le_succ_of_le small));obtain⟨c2,hc2⟩:=aeh (ws:=vs.toArray) (show _=some (lob #[] e1) from ho3);simp only[bne_self_eq_false,zzL,zzN];refine wpAny_pure ⟨_,rfl,?_⟩;refine wpAny_pure ⟨_,rfl,?_⟩;refine h _ _ c2 (fun b o q=>?_) hc2 (by rw[n1];exact Nat.le_succ _);have q1:=k1 b o q;have lt1:b<h1.objs.size:=Heap.lt_size q1;have u1:=Heap.SameBut.update (h1.push (seqObj "list" vs.toArray 0)) h1.objs.size (Obj.mapSeq fun _=>(#[]:Array Value));have q2:=(u1.2 b (Nat.ne_of_lt lt1)).trans (Heap.get?_push_of_some _ q1);have q3:=Heap.get?_push_of_some { cls:= .type "list",data:= .seq (#[]:Array Value) } (Heap.get?_push_of_some { cls:= .type "tuple",data:= .seq vs.toArray } q2);exact((Heap.SameBut.update _ h1.objs.size (Obj.mapSeq fun _=>vs.toArray)).2 b (Nat.ne_of_lt lt1)).trans q3
end
theorem qw.there{P:Program}{w:World}{H:Hp}{h:Heap}{a:Addr}{o:HO}(x:qw P w H h a o):∃u,h.get? a=some u:=by
 cases o with
 |lst xs=>obtain⟨_,_,_,_,e⟩:=x;exact⟨_,e⟩
 |tup xs=>obtain⟨_,_,_,u,e,_⟩:=x;exact⟨_,e⟩
 |dK kvs=>obtain⟨_,_,_,_,o,_,_,e,_⟩:=x;exact⟨_,e⟩
 |dT kvs=>obtain⟨_,_,_,_,o,_,_,e,_⟩:=x;exact⟨_,e⟩
 |set S n=>obtain⟨o,_,_,_,e,_⟩:=x;exact⟨_,e⟩
 |ins C dx fs=>obtain⟨_,_,_,e,_⟩:=x;exact⟨_,e⟩
 |own y=>obtain⟨_,e⟩:=x;exact⟨_,e⟩
 |xd fs=>obtain⟨_,⟨_,_,_,e,_⟩,_⟩:=x;exact⟨_,e⟩
 |rng lo hi=>obtain⟨_,_,_,e⟩:=x;exact⟨_,e⟩
 |frz ob u=>obtain⟨e,_⟩:=x;exact⟨_,e⟩
 |tbl ps=>exact⟨_,(show h.get? a=some _ from x)⟩
 |met f y=>exact⟨_,(show h.get? a=some _ from x)⟩
 |ext φ=>obtain⟨_,⟨_,e⟩,_⟩:=x;exact⟨_,e⟩
theorem apc{h:Heap}{L:Addr}{m m':SV}(a:h.Ns L m)(b:h.Ns L m'):m=m':=by
 obtain⟨o,es,ep,e1,d1,_,q1⟩:=a;obtain⟨o',es',ep',e2,d2,_,q2⟩:=b;rw[e1]at e2;cases e2;rw[d1]at d2;cases d2;funext x;rw[←q1 x,←q2 x]
theorem Inv.grownL{X:Cx}{Kp:List (Addr×Obj)}{σ:St}{H:Hp}{s:Shared}{h':Heap}{m:SV}{D:Addr}{ys:List V}{us:List Value}{c:Nat}(I:Inv X Kp σ H s)(hm:s.heap.Ns X.env.locals m)(hm':h'.Ns X.env.locals m)
  (kp:∀b o,b≠X.env.locals->s.heap.get? b=some o->h'.get? b=some o) (hD:s.heap.get? D=none) (ho:h'.get? D=some (lob us.toArray c)) (rv:jB ys us) (hz:ys.length<=sizeLine):Inv X Kp σ (upd H D (.lst ys)) { s with heap:=h' }:=by
 have nD:H D=none:=by
  cases e:H D with
  |none=>rfl
  |some o=>obtain⟨u,q⟩:=qw.there (I.hok D o e);rw[hD]at q;cases q
 have neD:∀b u,H b=some u->b≠D:=fun b u e z=>by rw[z,nD]at e;cases e
 have nL:∀b u,H b=some u->b≠X.env.locals:=fun b u e z=>by rw[z,I.free]at e;cases e
 refine I.step (t':=s.toks) (g':=s.gens) (d':=s.drawn) (ch:=[]) (fun b hb=>nomatch hb) (fun b o hL _ _ e _=>kp b o hL e) (fun b o hL _ _ e _=>⟨o.slots,kp b o hL e⟩) (fun b o _ e n=>?_) (fun b o _ e=>?_) (fun b ws e=>by rw[jn (neD b _ e)];exact e)
  (fun b ob ws e=>by rw[jn (neD b _ e)];exact e) (fun b ps e=>⟨#[],by rw[jn (neD b _ e),e];simp⟩) (fun m2 h2=>by rw[←apc hm h2];exact hm') (fun b u e=>?_) I.bare
 ·have:b≠D:=fun z=>by rw[z,hD]at e;cases e
  rw[jn this];exact n
 ·by_cases hb:b=X.env.locals
  ·obtain⟨o',_,_,e',_⟩:=hm'
   exact⟨o',by rw[hb];exact e'⟩
  ·exact⟨o,kp b o hb e⟩
 ·by_cases hb:b=D
  ·subst hb
   rw[jr]at e;cases e;exact⟨hz,us,c,rv,ho⟩
  ·rw[jn hb]at e
   refine(I.hok b u e).stay (fun c' o hc' q=>kp c' o ?_ q) (fun c' q=>by rw[jn (neD c' _ q)];exact q) fun c' ws q=>by rw[jn (neD c' _ q)];exact q
   rcases hc' with q' | q'
   ·rw[q'];exact nL b u e
   ·exact nL c' _ q'
noncomputable def zA(p:Int×Int):PyData:= .tuple [.int p.1,.int p.2]
noncomputable def inB(p:Int×Int):Bool:=decide (0<=p.2)&&decide (p.2<1000000)
structure PairAt(h:Heap)(u:Value)(p:Int×Int):Prop where
 ex:∃a o k t t',u= .ref a/\h.get? a=some o/\o.cls= .type "tuple"/\o.data= .seq #[.int p.1 t,.int p.2 t'] k
theorem getD_some{α:Type}{l:List α}{i:Nat}{d x:α}(h:l[i]?=some x):l.getD i d=x:=by simp[List.getD,h]
theorem ajd{us:List Value}{xs:List V}(rv:jB xs us)(is:List Nat)(h:∀i∈is,i<us.length):jB (is.map fun i=>xs.getD i .non) (is.map fun i=>us.getD i Value.none):=by
 induction is with
 |nil=>exact .nil
 | cons i is ih=>
  have hi:=h i List.mem_cons_self;have hl:=rv.length;obtain⟨u,e1,e2⟩:=rv.get (show xs[i]?=some (xs[i]'(by omega)) by simp[hl,hi]);refine .cons ?_ (ih fun j hj=>h j (List.mem_cons_of_mem _ hj));show L2.jK (xs.getD i .non) (us.getD i Value.none);rw[getD_some e1,getD_some (show xs[i]?=some (xs[i]'(by omega)) by simp[hl,hi])];exact e2
theorem aje{K:Fg}{H:Hp}{ds:LP}{xs:List V}(r:Reps K H ds xs)(is:List Nat)(h:∀i∈is,i<ds.length):Reps K H (is.map fun i=>ds.getD i .none) (is.map fun i=>xs.getD i .non):=by
 induction is with
 |nil=>rfl
 | cons i is ih=>
  have hi:=h i List.mem_cons_self;obtain⟨x,e1,e2⟩:=r.get (show ds[i]?=some ds[i] by simp[hi]);refine⟨_,_,rfl,?_,ih fun j hj=>h j (List.mem_cons_of_mem _ hj)⟩;show Rep K H (ds.getD i .none) (xs.getD i .non);rw[getD_some e1,getD_some (show ds[i]?=some ds[i] by simp[hi])];exact e2
theorem aej{α:Type}{R:α->α->Prop}:∀{l:List α},l.length<2->l.Pairwise R
 | [],_=> .nil
 | [p],_=>List.pairwise_singleton _ _
 |_::_::_,h=>by simp at h;omega
section
variable {X:Cx}
variable {a b:Expr}{fa fb:RP}{pos p2:Pos}
noncomputable def agV:PyData->OP
 |.int i=>some (.int (-i))
 |_=>none
theorem JD(h:PD X a fa):PD X (.UnaryOp .USub a pos) (fun ρ=>(fa ρ).bind agV):=by
 with_unfolding_all
  refine PE.imp (ap6 aoL h) fun σ H Q ⟨ρ,d,en,q,k⟩=>?_;cases h1:fa ρ with
  |none=>simp[h1]at q
  | some y=>
   refine⟨ρ,y,en,h1,fun v H1 s1 r1=>?_⟩;have q':agV y=some d:=by simpa[h1]using q
   cases y with
   |int i=>cases q';cases (show v=_ from r1);exact⟨i,rfl,k _ H1 s1 rfl⟩
   |_=>cases q'
end
noncomputable def Qo(bt:Int->Int->Bool):List Int->Option Int
 | []=>none
 |n::ns=>some (ns.foldl (fun a b=>if bt b a then b else a) n)
theorem agW(bt:Int->Int->Bool)(ns:List Int)(x m:Int)(h:Qo bt ns=some m):Qo bt (ns++[x])=some (if bt x m then x else m):=by
 cases ns with
 |nil=>cases h
 | cons n ns=>
  have:ns.foldl (fun a b=>if bt b a then b else a) n=m:=by simpa[Qo]using h
  subst this;simp[Qo,List.foldl_append]
theorem adt(bt:Int->Int->Bool)(ns:List Int):∀k,k<ns.length->Qo bt (ns.take (k+1))=some (ns.getD (argBest (fun i j=>bt (ns.getD i 0) (ns.getD j 0)) k) 0)
 | 0,h=>by
  cases ns with
  |nil=>simp at h
  |cons n ns=>simp[Qo,argBest]
 | k+1,h=>by
  have ih:=adt bt ns k (by omega);have h1:ns.take (k+1+1)=ns.take (k+1)++[ns.getD (k+1) 0]:=by rw[List.take_succ];simp[h,List.getD]
  rw[h1,agW bt _ _ _ ih];simp only[argBest];by_cases hb:bt (ns.getD (k+1) 0) (ns.getD (argBest (fun i j=>bt (ns.getD i 0) (ns.getD j 0)) k) 0)=true
  ·rw[if_pos hb,if_pos hb]
  ·rw[if_neg hb,if_neg hb]
theorem akN(bt:Int->Int->Bool)(ns:List Int)(h:0<ns.length):Qo bt ns=some (ns.getD (argBest (fun i j=>bt (ns.getD i 0) (ns.getD j 0)) (ns.length-1)) 0):=by
 have:=adt bt ns (ns.length-1) (by omega);rwa[Nat.sub_add_cancel h,List.take_length]at this
variable {X:Cx}
noncomputable def aoh(K:Fg)(bt:Int->Int->Bool):List V->Hp->VK->Prop:=fun xs H Q=>∃a ns m,xs=[.ref a]/\(SqL K H a (List.map V.int ns)∨SqT K H a (List.map V.int ns))/\Qo bt ns=some m/\Q (.int m) H
theorem ajf(hc:X.calm=true):zu X (.builtin "min") (aoh X.K fun i j=>decide (i<j)):=by
 intro Kp s σ H xs us Q I r ⟨a,ns,m,e,hq,hm,q⟩;subst e;obtain⟨u,rfl,rx⟩:=abP r;cases rx;have hh:=I.ok.hd hc
 have h0:0<ns.length:=by cases ns with
  |nil=>cases hm
  |cons n ns=>simp
 have hb:=akN (fun i j=>decide (i<j)) ns h0;rw[hm]at hb;have hb:=Option.some.inj hb;rcases hq with hq | hq
 ·obtain⟨its,rv,pl,hz⟩:=I.list hq
  have hl:its.toArray.size=ns.length:=by have:=rv.length;simp at this ⊢;omega
  refine call_min_walk (aax pl.isList fun h2 it st hlt hne k1 hn=>?_);refine⟨it,[it,a],[it],its.toArray.size,(fun i v=>its.toArray[i]?=some v),_,_,rfl,Walks.list (A:=X.A.in1) hh it a hne its.toArray,st,hlt,by rw[hl];exact h0,CmpOf.ints_lt (fun i=>ns.getD i 0) fun i v hP=>qV rv hP,fun v h3 tk hP k2=>?_⟩;obtain⟨t,rfl⟩:=qV rv hP;exact⟨.int m,H,I.kept (t':=tk) (ZI k1 hn k2),⟨t,by rw[hl];rw[hb]⟩,q⟩
 ·obtain⟨its,rv,pl,hz⟩:=I.tuple hq
  have hl:its.toArray.size=ns.length:=by have:=rv.length;simp at this ⊢;omega
  refine call_min_walk (adp (show s.heap.IsTuple a its.toArray from pl) fun h2 it st hlt hne k1 hn=>?_);refine⟨it,[it,a],[it],its.toArray.size,(fun i v=>its.toArray[i]?=some v),_,_,rfl,Walks.tuple (A:=X.A.in1) hh it a hne its.toArray,st,hlt,by rw[hl];exact h0,CmpOf.ints_lt (fun i=>ns.getD i 0) fun i v hP=>qV rv hP,fun v h3 tk hP k2=>?_⟩;obtain⟨t,rfl⟩:=qV rv hP;exact⟨.int m,H,I.kept (t':=tk) (ZI k1 hn k2),⟨t,by rw[hl];rw[hb]⟩,q⟩
noncomputable def adu(bt:Int->Int->Bool)(ds:LP):OP:=match ds with
 | [.list xs]=>(qD xs).bind fun ns=>(Qo bt ns).map .int
 | [.tuple xs]=>(qD xs).bind fun ns=>(Qo bt ns).map .int
 |_=>none
theorem am7{K:Fg}{bt:Int->Int->Bool}{ds:LP}{d:PyData}{xs:List V}{H:Hp}{Q:VK}(h:adu bt ds=some d)(r:Reps K H ds xs)(k:∀v H',jm H H'->Rep K H' d v->Q v H'):aoh K bt xs H Q:=by
 unfold adu at h;split at h
 ·rename_i ys
  cases hb:qD ys with
  |none=>simp[hb]at h
  | some ns=>
   cases hf:Qo bt ns with
   |none=>simp[hb,hf]at h
   | some m=>
    have:PyData.int m=d:=by simpa[hb,hf]using h
    subst this;obtain⟨x,q,e1,e2,e3⟩:=r;cases (show q=[] from e3);obtain⟨a,us,g1,g2,g3⟩:=e2;subst g1;rw[zS hb]at g3;have:=Reps.ints g3;subst this;exact⟨a,ns,m,e1,.inl (SqL.of g2),hf,k _ H (jm.refl H) rfl⟩
 ·rename_i ys
  cases hb:qD ys with
  |none=>simp[hb]at h
  | some ns=>
   cases hf:Qo bt ns with
   |none=>simp[hb,hf]at h
   | some m=>
    have:PyData.int m=d:=by simpa[hb,hf]using h
    subst this;obtain⟨x,q,e1,e2,e3⟩:=r;cases (show q=[] from e3);obtain⟨a,us,g1,g2,g3⟩:=e2;subst g1;rw[zS hb]at g3;have:=Reps.ints g3;subst this;exact⟨a,ns,m,e1,.inr g2,hf,k _ H (jm.refl H) rfl⟩
 ·cases h
theorem am8(hc:X.calm=true):Zo X (.builtin "min") (adu fun i j=>decide (i<j)):=⟨_,ajf hc,fun ds d xs H Q h r k=>am7 h r k⟩
end BX
end
section
namespace BX
open PySem PySem.Spec L2
open PyProof.Rows hiding St
variable {X:Cx}
noncomputable def ac4(f:Expr->OP):List Expr->Option (LP)
 | []=>some []
 |e::es=>(f e).bind fun d=>(ac4 f es).map fun ds=>d::ds
noncomputable def lit:Nat->Expr->OP
 |0,_=>none
 | n+1,e=>match e with
  |.Constant (.int i) _ _=>some (.int i)
  |.Constant (.bool b) _ _=>some (.bool b)
  |.Constant .none _ _=>some .none
  |.Constant (.str x) _ _=>some (.str x)
  |.Tuple es _ _=>(ac4 (lit n) es).bind fun ds=>if few ds=true then some (.tuple ds) else none
  |.List es _=>(ac4 (lit n) es).bind fun ds=>if few ds=true then some (.list ds) else none
  |_=>none
theorem PD.as{e:Expr}{F G:RP}(h:PD X e F)(hi:∀ρ d,G ρ=some d->F ρ=some d):PD X e G:=by
 with_unfolding_all exact(PE.imp h fun σ H Q ⟨ρ,d,en,q,k⟩=>⟨ρ,d,en,hi ρ d q,k⟩)
theorem PAD.as{es:List Expr}{F G:Rho->Option (LP)}(h:PAD X es F)(hi:∀ρ d,G ρ=some d->F ρ=some d):PAD X es G:=by
 with_unfolding_all exact(PA.imp h fun σ H Q ⟨ρ,d,en,q,k⟩=>⟨ρ,d,en,hi ρ d q,k⟩)
noncomputable def akO(e:Expr):Prop:=∀(es:List Expr) (env:Env),starEach (e::es) env=(false,eval e env)::starEach es env
theorem aek{f:Expr->OP}(hf:∀e d,f e=some d->PD X e (cst d)/\akO e):∀(es:List Expr) (ds:LP),ac4 f es=some ds->PAD X es (fun _=>some ds)
 | [],ds,h=>by cases h;exact je
 | e::es,ds,h=>by
  cases h1:f e with
  |none=>simp[ac4,h1]at h
  | some d=>
   cases h2:ac4 f es with
   |none=>simp[ac4,h1,h2]at h
   | some r=>
    have:d::r=ds:=by with_unfolding_all simpa[ac4,h1,h2]using h
    subst this;obtain⟨p,st⟩:=hf e d h1;exact(ja p (aek hf es r h2) (st es X.env)).as fun ρ d' q=>by cases q;simp[jq,cst]
theorem agX:∀(n:Nat) (e:Expr) (d:PyData),lit n e=some d->PD X e (cst d)/\akO e
 |0,e,d,h=>by cases h
 | n+1,e,d,h=>by
  unfold lit at h;split at h
  ·cases h;exact⟨ji,fun _ _=>rfl⟩
  ·cases h;exact⟨zK,fun _ _=>rfl⟩
  ·cases h;exact⟨agL,fun _ _=>rfl⟩
  ·cases h;exact⟨ao0,fun _ _=>rfl⟩
  ·rename_i es x1 pos
   cases h1:ac4 (lit n) es with
   |none=>simp[h1]at h
   | some ds=>
    by_cases hf:few ds=true
    ·have:PyData.tuple ds=d:=by with_unfolding_all simpa[h1,hf]using h
     subst this;exact⟨(qE (aek (agX n) es ds h1)).as fun ρ d' q=>by cases q;simp[Qu,hf],fun _ _=>rfl⟩
    ·simp[h1,hf]at h
  ·rename_i es pos
   cases h1:ac4 (lit n) es with
   |none=>simp[h1]at h
   | some ds=>
    by_cases hf:few ds=true
    ·have:PyData.list ds=d:=by simpa[h1,hf]using h
     subst this;exact⟨(aar (aek (agX n) es ds h1)).as fun ρ d' q=>by cases q;simp[JB,hf],fun _ _=>rfl⟩
    ·simp[h1,hf]at h
  ·cases h
theorem acb(n:Nat){e:Expr}(d:PyData)(h:lit n e=some d):PD X e (cst d):=by
 with_unfolding_all exact((agX n e d h).1)
end BX
end
section
namespace BX
open PySem L2
open PyProof.Rows hiding St
noncomputable def jS(K:Fg)(x:Str)(st:Stmt):Prop:=
 ∃(f:Addr) (oc:Value) (od an:Option Addr) (kV doc pm Kc ct:Value) (osl:Array (Option Value)),PySem.W.nsIn K mainGlobals x=some (some (.ref f))/\
  K.lookup f=some ⟨oc,od,.func (PySem.W.fnOf x x (J8 st) (jM st) (jh st) .none kV doc pm an Kc ct),osl⟩/\PySem.W.codeIn K Kc x=true/\PySem.W.keepIn K (.ref f)=true
theorem akP{K:Fg}{x:Str}{st:Stmt}{f:Addr}{oc:Value}{od an:Option Addr}{kV doc pm Kc ct:Value}{osl:Array (Option Value)}(a:PySem.W.nsIn K mainGlobals x=some (some (.ref f)))
  (l:K.lookup f=some ⟨oc,od,.func (PySem.W.fnOf x x (J8 st) (jM st) (jh st) .none kV doc pm an Kc ct),osl⟩) (c:PySem.W.codeIn K Kc x=true) (k:PySem.W.keepIn K (.ref f)=true):jS K x st:=
 ⟨f,oc,od,an,kV,doc,pm,Kc,ct,osl,a,l,c,k⟩
noncomputable abbrev js(x:Str)(st:Stmt)(ps:List Str):Prop:=∀(kV doc pm:Value) (an:Option Addr) (Kc ct:Value) (us:List Value),us.length=ps.length->bindArgs (PySem.W.fnOf x x (J8 st) (jM st) (jh st) .none kV doc pm an Kc ct) ⟨us,[]⟩=pure (ps.zip us)
theorem jS.callee{P:Program}{w:World}{K:Fg}{mg:SV}{base h:Heap}{x:Str}{st:Stmt}{ps:List Str}{k n:Nat}{g:LP->OP}(T:jS K x st)(X:K.In h)(G:h.Ns mainGlobals mg)
  (hb:js x st ps) (F:∀(f:Addr) (fd:FuncData),Fun K x x st f fd->FnOk P w K mg base CX0 k f fd ps (Pur K n g)):jj P w K mg base x ps k n g:=by
 obtain⟨f,oc,od,an,kV,doc,pm,Kc,ct,osl,a,l,c,kp⟩:=T;have F1:=agJ (st:=st) l c kp;exact⟨f,_,F f _ F1,PySem.W.mg_of X G a,kp,F1.binds hb⟩
theorem jj.as{P:Program}{w:World}{K:Fg}{mg:SV}{base:Heap}{x:Str}{ps:List Str}{k n:Nat}{g g':LP->OP}(C:jj P w K mg base x ps k n g)(h:∀ds d,g' ds=some d->g ds=some d):jj P w K mg base x ps k n g':=by
 obtain⟨f,fd,F,a,b,c⟩:=C;exact⟨f,fd,aqp F fun ds d _ q=>h ds d q,a,b,c⟩
theorem akQ{K:Fg}{mg:SV}{h:Heap}{x:Str}{a:Addr}{ob:Obj}{ds:LP}(X:K.In h)(G:h.Ns mainGlobals mg)(e:PySem.W.nsIn K mainGlobals x=some (some (.ref a)))(l:K.lookup a=some ob)
  (hc:ob.cls= .type "tuple") (hi:∃(its:Array Value) (n:Nat) (xs:List V),ob.data= .seq its n/\its.size<=sizeLine/\jB xs its.toList/\∀H,Reps K H ds xs):∃v u,mg x=some u/\jK v u/\∀H,Rep K H (.tuple ds) v:=by
 obtain⟨its,n,xs,h1,h2,h3,h4⟩:=hi;exact⟨.ref a,.ref a,PySem.W.mg_of X G e,rfl,fun H=>⟨a,xs,rfl,.inr ⟨ob,its,n,l,hc,h1,h2,h3⟩,h4 H⟩⟩
end BX
end
section
namespace BX
open PySem PySem.Spec L2
open PyProof.Rows hiding St
noncomputable def Qp(a:Addr)(xs:List V):HO:= .ext fun h=>xs.length<=sizeLine/\∃(its:List Value) (n:Nat),jB xs its/\h.get? a=some { cls:= .type "list",data:= .seq its.toArray n }
noncomputable def aa4(P:Program)(w:World)(a:Addr)(ob:Obj)(ks:List (Key×V)):HO:= .ext fun h=>h.get? a=some ob/\ks.length<=sizeLine/\(a==sysModules)=false/\∃vs,KV ks vs/\h.DictOf (jZ P w) a vs
inductive Seal (P:Program) (w:World) (a:Addr):HO->HO->Prop where
 |l (xs:List V):Seal P w a (Qp a xs) (.lst xs)
 |d (ob:Obj) (ks:List (Key×V)):Seal P w a (aa4 P w a ob ks) (.frz ob (.dK ks))
theorem Seal.ext{P:Program}{w:World}{a:Addr}{c o:HO}(S:Seal P w a c o):∃φ,c= .ext φ:=by cases S<;>exact⟨_,rfl⟩
section
variable {X:Cx}{Kp:List (Addr×Obj)}{σ:St}{H:Hp}{s:Shared}{a:Addr}{c o:HO}
theorem Inv.opened(I:Inv X Kp σ H s)(S:Seal X.prog X.w a c o)(e:H a=some c):Inv X Kp σ (upd H a o) s:=by
 have q:=I.hok a c e;have mu:Mut (H a):=by rw[e];obtain⟨φ,rfl⟩:=S.ext;trivial
 cases S with
 | l xs=>
  obtain⟨h1,h2,_⟩:=q;exact I.write (x:=a) (e:=a) (h':=s.heap) (t':=s.toks) mu (.inl rfl) (fun _ _ _ z=>z) h2 h1
 | d ob ks=>
  obtain⟨h1,h2,_⟩:=q;exact I.write (x:=a) (e:=a) (h':=s.heap) (t':=s.toks) mu (.inl rfl) (fun _ _ _ z=>z) h2 ⟨h1.1,h1.2⟩
theorem Inv.redesc{o1 o2:HO}(I:Inv X Kp σ H s)(h1:H a=some o1)(n1:∀y,o1 ≠ .own y)(n2:∀xs,o1 ≠ .tup xs)(n3:∀ps,o1 ≠ .tbl ps)(nf:∀ob u,X.H₀ a≠some (.frz ob u))(new:qw X.prog X.w (upd H a o2) s.heap a o2):Inv X Kp σ (upd H a o2) s:=by
 have na:∀b,H b=none->upd H a o2 b=none:=fun b z=>by
  have:b≠a:=fun q=>by subst q;rw[h1]at z;cases z
  rw[jn this];exact z
 refine⟨I.ok,I.os,I.bare,⟨I.base.keep,I.base.slot,fun b u q n hx=>na b (I.base.free b u q n hx),I.base.there,fun b xs q=>?_,fun b ob u q=>?_,fun b ps q=>?_⟩,I.loc,I.cell,na _ I.free,fun x c' q=>na _ (I.freeC x c' q),fun p hp=>?_,fun b u q=>?_,I.len⟩
 ·have q':=I.base.tups b xs q
  have:b≠a:=fun z=>by subst z;rw[h1]at q';cases q';exact n2 _ rfl
  rw[jn this];exact q'
 ·have:b≠a:=fun z=>by subst z;exact nf _ _ q
  rw[jn this];exact I.base.frzs b ob u q
 ·obtain⟨more,q'⟩:=I.base.tbls b ps q
  have:b≠a:=fun z=>by subst z;rw[h1]at q';cases q';exact n3 _ rfl
  exact⟨more,by rw[jn this];exact q'⟩
 ·obtain⟨g1,g2,g3⟩:=I.pin p hp
  exact⟨g1,na _ g2,g3⟩
 ·by_cases hb:b=a
  ·subst hb
   rw[jr]at q;cases q;exact new
  ·rw[jn hb]at q
   refine(I.hok b u q).stay (fun c' v _ z=>z) (fun c' z=>?_) fun c' xs z=>?_
   ·have:c'≠a:=fun m=>by subst m;rw[h1]at z;cases z;exact n1 _ rfl
    rw[jn this];exact z
   ·have:c'≠a:=fun m=>by subst m;rw[h1]at z;cases z;exact n2 _ rfl
    rw[jn this];exact z
theorem Inv.nofrz{φ:Heap->Prop}(I:Inv X Kp σ H s)(e:H a=some (.ext φ)):∀ob u,X.H₀ a≠some (.frz ob u):=fun ob u z=>by
 have:=I.base.frzs _ _ _ z;rw[e]at this;cases this
theorem Inv.closed(I:Inv X Kp σ H s)(S:Seal X.prog X.w a c o)(e:H a=some o)(nf:∀ob u,X.H₀ a≠some (.frz ob u)):Inv X Kp σ (upd H a c) s:=by
 have q:=I.hok a o e;cases S with
 | l xs=>
  obtain⟨h1,its,n,h2,h3⟩:=q;refine I.write (x:=a) (e:=a) (h':=s.heap) (t':=s.toks) (by rw[e];trivial) (.inl rfl) (fun _ _ _ z=>z) ⟨_,h3⟩ ⟨⟨h1,its,n,h2,h3⟩,⟨_,h3⟩,?_⟩
  rintro g1 g2 ⟨z1,its,n,z2,z3⟩ k
  exact⟨z1,its,n,z2,k _ z3⟩
 | d ob ks=>
  obtain⟨h0,h1,h2,vs,h3,ob',es,ep,h4,h5⟩:=q;refine Inv.redesc I e (fun _ z=>nomatch z) (fun _ z=>nomatch z) (fun _ z=>nomatch z) nf ⟨⟨h0,h1,h2,vs,h3,ob',es,ep,h4,h5⟩,⟨_,h4⟩,?_⟩
  rintro g1 g2 ⟨z0,z1,z2,vs,z3,ob',es,ep,z4,z5⟩ k
  exact⟨k _ z0,z1,z2,vs,z3,ob',es,ep,k _ z4,z5⟩
theorem Inv.sealedD{ks:List (Key×V)}(I:Inv X Kp σ H s)(e:H a=some (.dK ks)):∃ob,Inv X Kp σ (upd H a (aa4 X.prog X.w a ob ks)) s:=by
 obtain⟨h1,h2,vs,h3,ob,es,ep,h4,h5⟩:=I.hok a _ e;refine⟨ob,I.write (x:=a) (e:=a) (h':=s.heap) (t':=s.toks) (by rw[e];trivial) (.inl rfl) (fun _ _ _ z=>z) ⟨_,h4⟩ ⟨⟨h4,h1,h2,vs,h3,ob,es,ep,h4,h5⟩,⟨_,h4⟩,?_⟩⟩
 rintro g1 g2 ⟨z0,z1,z2,vs,z3,ob',es,ep,z4,z5⟩ k
 exact⟨k _ z0,z1,z2,vs,z3,ob',es,ep,k _ z4,z5⟩
theorem Inv.openD{ob:Obj}{ks:List (Key×V)}(I:Inv X Kp σ H s)(e:H a=some (aa4 X.prog X.w a ob ks)):Inv X Kp σ (upd H a (.dK ks)) s:=by
 obtain⟨h1,h2,_⟩:=I.hok a _ e;exact I.write (x:=a) (e:=a) (h':=s.heap) (t':=s.toks) (by rw[e];trivial) (.inl rfl) (fun _ _ _ z=>z) h2 h1.2
end
mutual
noncomputable def noD:PyData->Bool
 |.tuple ds=>noDs ds
 |.list ds=>noDs ds
 |.dict _=>false
 |_=>true
noncomputable def noDs:LP->Bool
 | []=>true
 |d::ds=>noD d&&noDs ds
end
noncomputable def afA(H H':Hp):Prop:=∀b o,H b=some o->(∀ob ks,o ≠ .frz ob (.dK ks))->H' b=some o
section
variable {K:Fg}{H H':Hp}
theorem afA.tup{a:Addr}{xs:List V}(e:afA H H')(h:SqT K H a xs):SqT K H' a xs:=by
 rcases h with (h | ⟨o,h⟩) | h
 ·exact .inl (.inl (e _ _ h fun _ _ z=>nomatch z))
 ·exact .inl (.inr ⟨o,e _ _ h fun _ _ z=>nomatch z⟩)
 ·exact .inr h
mutual
theorem Rep.monoM(e:afA H H'):∀(d:PyData) (v:V),noD d=true->Rep K H d v->Rep K H' d v
 |.none,v,_,h=>h
 |.bool _,v,_,h=>h
 |.int _,v,_,h=>h
 |.str _,v,_,h=>h
 |.tuple ds,v,n,⟨a,xs,h1,h2,h3⟩=>⟨a,xs,h1,afA.tup e h2,Reps.monoM e ds xs (by simpa[noD]using n) h3⟩
 |.list ds,v,n,⟨a,xs,h1,h2,h3⟩=>⟨a,xs,h1,e _ _ h2 (fun _ _ z=>nomatch z),Reps.monoM e ds xs (by simpa[noD]using n) h3⟩
 |.dict ds,v,n,h=>by simp[noD]at n
theorem Reps.monoM(e:afA H H'):∀(ds:LP) (xs:List V),noDs ds=true->Reps K H ds xs->Reps K H' ds xs
 | [],xs,_,h=>h
 | d::ds,xs,n,⟨x,r,h1,h2,h3⟩=>by
  have n':noD d=true/\noDs ds=true:=by simpa[noDs]using n
  exact⟨x,r,h1,Rep.monoM e d x n'.1 h2,Reps.monoM e ds r n'.2 h3⟩
end
end
noncomputable def okB(c d:PyData):Bool:=match c with
 |.list _=>noL d
 |.dict _=>noD d
 |_=>false
noncomputable def ZM(P:Program)(w:World)(K:Fg)(H:Hp)(a:Addr):PyData->Prop
 |.list ds=>∃xs,H a=some (Qp a xs)/\Reps K H ds xs
 |.dict kvs=>∃ks r ob,kvs=(.none,.none)::r/\H a=some (aa4 P w a ob ks)/\RepM K H r ks
 |_=>False
theorem ZM.out{P:Program}{w:World}{K:Fg}{H:Hp}{a:Addr}{d:PyData}(h:ZM P w K H a d):∃c o,Seal P w a c o/\H a=some c/\
  (∀H',jR H H'->H' a=some o->Rep K H' d (.ref a))/\(∀H',jR H H'->H' a=some c->ZM P w K H' a d)/\
  ∀x H3 v,okB d x=true->H3 a=some o->Rep K H3 x v->Rep K (upd H3 a c) x v:=by
 cases d with
 | list ds=>
  obtain⟨xs,h1,h2⟩:=h
  exact⟨_,_,.l xs,h1,fun H' e q=>⟨a,xs,rfl,q,Reps.monoE e _ _ h2⟩,fun H' e q=>⟨xs,q,Reps.monoE e _ _ h2⟩,fun x H3 v n q r=>Rep.monoN (fun b u hb m=>by
   have:b ≠ a:=fun z=>by subst z; rw [q] at hb; cases hb; exact m _ rfl
   rw [jn this]; exact hb) x v n r⟩
 | dict kvs=>
  obtain⟨ks,r,ob,rfl,h1,h2⟩:=h
  exact⟨_,_,.d ob ks,h1,fun H' e q=>⟨a,rfl,.inr (.inl ⟨ks,ob,q,show RepM K H' r ks from RepM.monoE e _ _ h2⟩)⟩,fun H' e q=>⟨ks,r,ob,rfl,q,RepM.monoE e _ _ h2⟩,fun x H3 v n q r=>Rep.monoM (fun b u hb m=>by
   have:b ≠ a:=fun z=>by subst z; rw [q] at hb; cases hb; exact m _ _ rfl
   rw [jn this]; exact hb) x v n r⟩
 |none=>exact h.elim
 |bool _=>exact h.elim
 |int _=>exact h.elim
 |str _=>exact h.elim
 |tuple _=>exact h.elim
theorem jR.upd{H:Hp}{a:Addr}{φ:Heap->Prop}{o:HO}(e:H a=some (.ext φ)):jR H (upd H a o):=fun b u h n=>by
 have:b≠a:=fun z=>by subst z;rw[e]at h;cases h;exact n _ rfl
 rw[jn this];exact h
structure EnvO(P:Program)(w:World)(K:Fg)(Hs H:Hp)(own:Option Nat)(ρ:Rho)(σ:St):Prop where
 len:ρ.length=σ.length
 sm:jm Hs H
 pl:∀i d,ρ[i]?=some (some d)->own≠some i->∃v,σ[i]?=some (some v)/\Rep K H d v
 ow:∀i,own=some i->∃d a,ρ[i]?=some (some d)/\σ[i]?=some (some (.ref a))/\Hs a=none/\ZM P w K H a d
noncomputable def hid(own:Option Nat)(ρ:Rho):Rho:=match own with
 |none=>ρ
 |some i=>ρ.set i none
section
variable {P:Program}{w:World}{K:Fg}{Hs H H':Hp}{own:Option Nat}{ρ:Rho}{σ:St}
theorem EnvO.of(e:EnvR K H ρ σ)(s:jm Hs H):EnvO P w K Hs H none ρ σ:=⟨e.len,s,fun i d h _=>e.at' i d h,fun i z=>nomatch z⟩
theorem EnvO.to(e:EnvO P w K Hs H none ρ σ):EnvR K H ρ σ:=⟨e.len,fun i d h=>e.pl i d h (fun z=>nomatch z)⟩
theorem EnvO.hid(e:EnvO P w K Hs H own ρ σ):EnvR K H (hid own ρ) σ:=by
 cases own with
 |none=>exact e.to
 | some i=>
  refine⟨by simp[BX.hid,e.len],fun j d h=>?_⟩;by_cases hj:i=j
  ·subst hj
   simp only[BX.hid]at h;rw[List.getElem?_set]at h;simp at h
  ·simp only[BX.hid]at h
   rw[List.getElem?_set_ne hj]at h;exact e.pl j d h (fun z=>hj (Option.some.inj z))
theorem ZM.mono{a:Addr}{d:PyData}(h:ZM P w K H a d)(s:jm H H'):ZM P w K H' a d:=by
 obtain⟨c,o,_,h1,_,h2,_⟩:=h.out;exact h2 H' (jm.e s) (s _ _ h1)
theorem EnvO.mono(e:EnvO P w K Hs H own ρ σ)(s:jm H H'):EnvO P w K Hs H' own ρ σ:=
 ⟨e.len,e.sm.trans s,fun i d h n=>let ⟨v,h1,h2⟩:=e.pl i d h n;⟨v,h1,Rep.mono s d v h2⟩,fun i n=>let ⟨d,a,h1,h2,h3,h4⟩:=e.ow i n;⟨d,a,h1,h2,h3,h4.mono s⟩⟩
theorem EnvO.opn{i:Nat}(e:EnvO P w K Hs H (some i) ρ σ):∃d a c o,ρ[i]?=some (some d)/\σ[i]?=some (some (.ref a))/\Hs a=none/\Seal P w a c o/\H a=some c/\EnvR K (upd H a o) ρ σ/\jm Hs (upd H a o)/\
  (∀H3,jm (upd H a o) H3->jR H (upd H3 a c)/\EnvO P w K Hs (upd H3 a c) (some i) ρ σ)/\∀x H3 v,okB d x=true->H3 a=some o->Rep K H3 x v->Rep K (upd H3 a c) x v:=by
 obtain⟨d,a,h1,h2,h3,h4⟩:=e.ow i rfl;obtain⟨c,o,S,h5,h6,h7,h8⟩:=h4.out;obtain⟨φ,rfl⟩:=S.ext;have s1:jR H (upd H a o):=jR.upd h5;have sH:∀{H2:Hp},(∀b u,b≠a->H b=some u->H2 b=some u)->jm Hs H2:=fun {H2} k b u q=>k b u (fun z=>by subst z;rw[h3]at q;cases q) (e.sm b u q);refine⟨d,a,_,o,h1,h2,h3,S,h5,⟨e.len,fun j x q=>?_⟩,sH fun b u n q=>by rw[jn n];exact q,fun H3 s3=>⟨fun b u q m=>?_,e.len,sH fun b u n q=>by rw[jn n];exact s3 b u (by rw[jn n];exact q),fun j x q n=>?_,fun j n=>?_⟩,h8⟩
 ·by_cases hj:i=j
  ·subst hj
   rw[h1]at q;cases q;exact⟨.ref a,h2,h6 _ s1 jr⟩
  ·obtain⟨v,g1,g2⟩:=e.pl j x q (fun z=>hj (Option.some.inj z))
   exact⟨v,g1,Rep.monoE s1 _ _ g2⟩
 ·have:b≠a:=fun z=>by subst z;rw[h5]at q;cases q;exact m _ rfl
  rw[jn this];exact s3 b u (by rw[jn this];exact q)
 ·have s4:jR H (upd H3 a (.ext φ)):=fun b u q m=>by
   have:b≠a:=fun z=>by subst z;rw[h5]at q;cases q;exact m _ rfl
   rw[jn this];exact s3 b u (by rw[jn this];exact q)
  obtain⟨v,g1,g2⟩:=e.pl j x q n;exact⟨v,g1,Rep.monoE s4 _ _ g2⟩
 ·cases n
  have s4:jR H (upd H3 a (.ext φ)):=fun b u q m=>by
   have:b≠a:=fun z=>by subst z;rw[h5]at q;cases q;exact m _ rfl
   rw[jn this];exact s3 b u (by rw[jn this];exact q)
  exact⟨d,a,h1,h2,h3,h7 _ s4 jr⟩
end
end BX
end
section
namespace BX
open PySem PySem.Spec L2
open PyProof.Rows hiding St
noncomputable def brw(own:Option Nat)(f:RP):RP:=fun ρ=>match f (hid own ρ)with
 |some d=>some d
 | none=>match own with
  |none=>none
  | some i=>match f ρ,lkp i ρ with
   |some d,some c=>if okB c d=true then some d else none
   |_,_=>none
theorem am9{own:Option Nat}{f:RP}{ρ:Rho}{d:PyData}(h:brw own f ρ=some d):f (hid own ρ)=some d∨∃i c,own=some i/\f ρ=some d/\ρ[i]?=some (some c)/\okB c d=true:=by
 unfold brw at h;cases h1:f (hid own ρ)with
 |some x=>rw[h1]at h;exact .inl h
 | none=>
  rw[h1]at h;cases own with
  |none=>cases h
  | some i=>
   simp only at h;cases h2:f ρ with
   |none=>rw[h2]at h;cases h
   | some x=>
    rw[h2]at h;cases h3:lkp i ρ with
    |none=>rw[h3]at h;cases h
    | some c=>
     rw[h3]at h;simp only at h;split at h
     ·rename_i ok
      cases h;exact .inr ⟨i,c,rfl,rfl,qP h3,ok⟩
     ·cases h
section
variable {X:Cx}{e a b c tg src:Expr}{es:List Expr}{st:Stmt}{sts j8:List Stmt}{fa fb fc:RP}{F G:RO}{pos:Pos}{own:Option Nat}
noncomputable def tE(P:Program)(w:World)(K:Fg)(own:Option Nat)(f:RP):TE:=fun σ H Q=>∃Hs ρ d,EnvO P w K Hs H own ρ σ/\brw own f ρ=some d/\∀v H',jR H H'->EnvO P w K Hs H' own ρ σ->Rep K H' d v->Q v H'
theorem agY(h:PD X e fa):PE X e (tE X.prog X.w X.K own fa):=by
 with_unfolding_all
  intro Kp s σ H Q I ⟨Hs,ρ,d,E,hb,k⟩;rcases am9 hb with h1 | ⟨i,c,ho,h1,h2,ok⟩
  ·exact h Kp s σ H Q I ⟨hid own ρ,d,E.hid,h1,fun v H' s r=>k v H' (jm.e s) (E.mono s) r⟩
  ·subst ho
   obtain⟨d0,a,cl,o,g1,g2,g3,S,g4,env,sm,back,keep⟩:=E.opn;rw[h2]at g1;cases g1;refine thn (h Kp s σ (upd H a o) (fun v H3=>jm (upd H a o) H3/\Rep X.K H3 d v) (Inv.opened I S g4) ⟨ρ,d,env,h1,fun v H3 s3 r3=>⟨s3,r3⟩⟩) fun u s1 ⟨v,H3,I3,r,s3,r3⟩=>?_;have e3:H3 a=some o:=s3 _ _ jr;exact⟨v,upd H3 a cl,Inv.closed I3 S e3 (by obtain⟨φ,rfl⟩:=S.ext;exact Inv.nofrz I g4),r,k v _ (back H3 s3).1 (back H3 s3).2 (keep d H3 v ok e3 r3)⟩
noncomputable def tT(P:Program)(w:World)(K:Fg)(own:Option Nat)(f:Rho->Option Bool):TT:=fun σ H Q=>∃Hs ρ d,EnvO P w K Hs H own ρ σ/\f ρ=some d/\∀H',jR H H'->EnvO P w K Hs H' own ρ σ->Q d H'
theorem akR{tc:Rho->Option Bool}(h:PTD X e tc):PT X e (tT X.prog X.w X.K own tc):=by
 with_unfolding_all
  intro Kp s σ H Q I ⟨Hs,ρ,d,E,h1,k⟩;cases own with
  |none=>exact h Kp s σ H Q I ⟨ρ,d,E.to,h1,fun H' s=>k H' (jm.e s) (E.mono s)⟩
  | some i=>
   obtain⟨d0,a,cl,o,g1,g2,g3,S,g4,env,sm,back,keep⟩:=E.opn;refine thn (h Kp s σ (upd H a o) (fun b H3=>b=d/\jm (upd H a o) H3) (Inv.opened I S g4) ⟨ρ,d,env,h1,fun H3 s3=>⟨rfl,s3⟩⟩) fun b s1 ⟨H3,I3,hb,s3⟩=>?_;subst hb;exact⟨upd H3 a cl,Inv.closed I3 S (s3 _ _ jr) (by obtain⟨φ,rfl⟩:=S.ext;exact Inv.nofrz I g4),k _ (back H3 s3).1 (back H3 s3).2⟩
noncomputable def tF(P:Program)(w:World)(K:Fg)(own:Option Nat)(f:RP):TE:=fun σ H Q=>∃Hs ρ d,EnvO P w K Hs H own ρ σ/\f ρ=some d/\∀v H',jm Hs H'->Rep K H' d v->Q v H'
theorem apd(h:PD X e fa):PE X e (tF X.prog X.w X.K own fa):=by
 with_unfolding_all
  intro Kp s σ H Q I ⟨Hs,ρ,d,E,h1,k⟩;cases own with
  |none=>exact h Kp s σ H Q I ⟨ρ,d,E.to,h1,fun v H' s r=>k v H' (E.sm.trans s) r⟩
  | some i=>
   obtain⟨d0,a,cl,o,g1,g2,g3,S,g4,env,sm,back,keep⟩:=E.opn;exact h Kp s σ (upd H a o) Q (Inv.opened I S g4) ⟨ρ,d,env,h1,fun v H3 s3 r3=>k v H3 (sm.trans s3) r3⟩
noncomputable def aqx(P:Program)(w:World)(K:Fg)(Hs:Hp)(own:Option Nat)(D:Ends):Out->Prop
 |.nx ρ=>∀σ H,EnvO P w K Hs H own ρ σ->D.nx σ H
 |.rt d=>∀v H,jm Hs H->Rep K H d v->D.rt v H
 |.bk ρ=>∀σ H,EnvO P w K Hs H own ρ σ->D.bk σ H
 |.ct ρ=>∀σ H,EnvO P w K Hs H own ρ σ->D.ct σ H
noncomputable def tOS(P:Program)(w:World)(K:Fg)(own:Option Nat)(F:RO):TS:=fun D σ H=>∃Hs ρ o,EnvO P w K Hs H own ρ σ/\F ρ=some o/\aqx P w K Hs own D o
@[irreducible] noncomputable def PSO(X:Cx)(own:Option Nat)(st:Stmt)(F:RO):Prop:=PS X st (tOS X.prog X.w X.K own F)
@[irreducible] noncomputable def acd(X:Cx)(own:Option Nat)(sts:List Stmt)(F:RO):Prop:=PSs X sts (tOS X.prog X.w X.K own F)
theorem adv(h:PSD X st F):PSO X none st F:=by
 with_unfolding_all
  refine PS.imp h fun D σ H ⟨Hs,ρ,o,E,q,k⟩=>⟨ρ,o,E.to,q,?_⟩;cases o with
  |nx ρ'=>exact fun σ' H' s r=>k σ' H' (EnvO.of r (E.sm.trans s))
  |rt d=>exact fun v H' s r=>k v H' (E.sm.trans s) r
  |bk ρ'=>exact fun σ' H' s r=>k σ' H' (EnvO.of r (E.sm.trans s))
  |ct ρ'=>exact fun σ' H' s r=>k σ' H' (EnvO.of r (E.sm.trans s))
theorem Qy(h:acd X none sts F):ZE X sts F:=by
 with_unfolding_all
  refine PSs.imp h fun D σ H ⟨ρ,o,en,q,k⟩=>⟨H,ρ,o,EnvO.of en (jm.refl H),q,?_⟩;cases o with
  |nx ρ'=>exact fun σ' H' E=>k σ' H' E.sm E.to
  |rt d=>exact fun v H' s r=>k v H' s r
  |bk ρ'=>exact fun σ' H' E=>k σ' H' E.sm E.to
  |ct ρ'=>exact fun σ' H' E=>k σ' H' E.sm E.to
theorem ql:acd X own [] qp:=by
 with_unfolding_all
  refine PSs.imp ahL fun D σ H ⟨Hs,ρ,o,E,q,k⟩=>?_;cases q;exact k σ H E
theorem jA(h1 : PSO X own st F)(h2 : acd X own j8 G) : acd X own (st :: j8) (jF F G) := by
  with_unfolding_all
   refine PSs.imp (Qr h1 h2) fun D σ H ⟨Hs, ρ, o, E, q, k⟩ => ?_;cases hf : F ρ with
   |none => simp[jF, hf]at q
   | some p =>
     refine⟨Hs, ρ, p, E, hf, ?_⟩;cases p with
     |nx ρ' => exact fun σ' H' E' => ⟨Hs, ρ', o, E', by simpa[jF, hf]using q, k⟩
     | rt d => have : Out.rt d = o := by simpa[jF, hf]using q
               subst this;exact k
     | bk d => have : Out.bk d = o := by simpa[jF, hf]using q
               subst this;exact k
     | ct d => have : Out.ct d = o := by simpa[jF, hf]using q
               subst this;exact k
theorem ZN(h:PD X e fa):PSO X own (.Return (some e) pos) (qz fa):=by
 with_unfolding_all
  refine PS.imp (agA (apd (own:=own) h)) fun D σ H ⟨Hs,ρ,o,E,q,k⟩=>?_;cases h1:fa ρ with
  |none=>simp[qz,h1]at q
  | some d=>
   have:Out.rt d=o:=by simpa[qz,h1]using q
   subst this;exact⟨Hs,ρ,d,E,h1,k⟩
theorem ape{l r:List Stmt}{tc:Rho->Option Bool}(hc:PTD X c tc)(hl:acd X own l F)(hr:acd X own r G):PSO X own (.If c l r pos) (ifS tc F G):=by
 with_unfolding_all
  refine PS.imp (an8 (akR (own:=own) hc) hl hr) fun D σ H ⟨Hs,ρ,o,E,q,k⟩=>?_;cases h1:tc ρ with
  |none=>simp[ifS,h1]at q
  | some x=>
   refine⟨Hs,ρ,x,E,h1,fun H1 _ E1=>?_⟩;cases x with
   |true=>rw[if_pos rfl];exact⟨Hs,ρ,o,E1,by simpa[ifS,h1]using q,k⟩
   |false=>rw[if_neg Bool.false_ne_true];exact⟨Hs,ρ,o,E1,by simpa[ifS,h1]using q,k⟩
theorem EnvO.set{P:Program}{w:World}{K:Fg}{Hs H:Hp}{ρ:Rho}{σ:St}{i:Nat}{d:PyData}{v:V}(E:EnvO P w K Hs H own ρ σ)(hi:own≠some i)(r:Rep K H d v):EnvO P w K Hs H own (ρ.set i (some d)) (σ.set i (some v)):=by
 refine⟨by simp[E.len],E.sm,fun j x q n=>?_,fun j n=>?_⟩
 ·by_cases hj:i=j
  ·subst hj
   rw[List.getElem?_set]at q ⊢;simp only[zzM]at q ⊢;by_cases hl:i < ρ.length
   ·rw[if_pos hl]at q
    rw[if_pos (by rw[←E.len];exact hl)];cases q;exact⟨v,rfl,r⟩
   ·rw[if_neg hl]at q;cases q
  ·rw[List.getElem?_set_ne hj]at q ⊢
   exact E.pl j x q n
 ·have hj:i≠j:=fun z=>by subst z;exact hi n
  rw[List.getElem?_set_ne hj,List.getElem?_set_ne hj];exact E.ow j n
theorem abo(i:Nat){x:Str}{pos':Pos}(hN:X.N.Nodup)(he:PD X e fa)(ho:own≠some i:=by decide)(hi:X.N[i]?=some x:=by rfl)(hx:Loc X.env.scope x:=by first|exact Or.inl rfl|exact Or.inr rfl)(hs:swapsWith e (some (.Name x pos')) pos.line X.env=pure false:=by rfl)
  (hf:X.fn x=true∨X.env.scope.names.lookup x=some .local:=by first|exact .inl rfl|exact .inr rfl|assumption):PSO X own (.Assign [.Name x pos'] e pos) (qF (brw own fa) (jG i)):=by
 with_unfolding_all
  refine PS.imp (ad7 hN hi hx (agY (own:=own) he) hs hf) fun D σ H ⟨Hs,ρ,o,E,q,k⟩=>?_;cases h1:brw own fa ρ with
  |none=>simp[qF,h1]at q
  | some d=>
   have:Out.nx (ρ.set i (some d))=o:=by simpa[qF,h1,jG]using q
   subst this;exact⟨Hs,ρ,d,E,h1,fun v H1 _ E1 r1=>k _ H1 (E1.set ho r1)⟩
end
section
variable {X:Cx}{e a b c tg src:Expr}{es:List Expr}{st:Stmt}{sts j8 body:List Stmt}{fa fb fc:RP}{F G:RO}{pos:Pos}{own:Option Nat}
@[irreducible] noncomputable def PGO(X:Cx)(own:Option Nat)(tg:Expr)(ga:PyData->Rho->Option Rho):Prop:=
 PG X tg fun v σ H Q=>∃Hs ρ d ρ',EnvO X.prog X.w X.K Hs H own ρ σ/\Rep X.K H d v/\ga d ρ=some ρ'/\∀σ' H',EnvO X.prog X.w X.K Hs H' own ρ' σ'->Q σ' H'
@[irreducible] noncomputable def ana(X:Cx)(own:Option Nat)(ts:List Expr)(ga:LP->Rho->Option Rho):Prop:=
 PGs X ts fun vs σ H Q=>∃Hs ρ ds ρ',EnvO X.prog X.w X.K Hs H own ρ σ/\Reps X.K H ds vs/\ga ds ρ=some ρ'/\∀σ',EnvO X.prog X.w X.K Hs H own ρ' σ'->Q σ' H
theorem ZO(i:Nat){x:Str}(hN:X.N.Nodup)(ho:own≠some i:=by decide)(hi:X.N[i]?=some x:=by rfl)(hx:Loc X.env.scope x:=by first|exact Or.inl rfl|exact Or.inr rfl)
  (hf:X.fn x=true∨X.env.scope.names.lookup x=some .local:=by first|exact .inl rfl|exact .inr rfl|assumption):PGO X own (.Name x pos) (jG i):=by
 with_unfolding_all
  refine PG.imp (ZB hN hi hx hf) fun v σ H Q ⟨Hs,ρ,d,ρ',E,r,q,k⟩=>?_;cases q;exact k _ H (E.set ho r)
theorem ace:ana X own [] zG:=by
 with_unfolding_all
  refine PGs.imp ahM fun vs σ H Q ⟨Hs,ρ,ds,ρ',E,r,q,k⟩=>?_;cases ds with
  |nil=>cases r;cases q;exact⟨rfl,k σ E⟩
  |cons d ds=>cases q
theorem zT(i:Nat){x:Str}{gr:LP->Rho->Option Rho}(hN:X.N.Nodup)(h2:ana X own es gr)(ho:own≠some i:=by decide)(hi:X.N[i]?=some x:=by rfl)(hx:Loc X.env.scope x:=by first|exact Or.inl rfl|exact Or.inr rfl)
  (hf:X.fn x=true∨X.env.scope.names.lookup x=some .local:=by first|exact .inl rfl|exact .inr rfl|assumption)
  (hs:(assignEach (.Name x pos::es) X.env).map (·.2)=assign (.Name x pos) X.env::(assignEach es X.env).map (·.2):=by rfl):ana X own (.Name x pos::es) (jV (jG i) gr):=by
 with_unfolding_all
  refine PGs.imp (afh (ZB hN hi hx hf) h2 hs) fun vs σ H Q ⟨Hs,ρ,ds,ρ',E,r,q,k⟩=>?_;cases ds with
  |nil=>cases q
  | cons d ds=>
   obtain⟨y,rr,e1,r1,r2⟩:=r;subst e1;exact⟨y,rr,rfl,Hs,_,ds,ρ',E.set ho r1,r2,by simpa[jV,jG]using q,k⟩
theorem ael{k n:Nat}{gr:LP->Rho->Option Rho}(hc:X.calm=true)(h:ana X own es gr)(hn:(assignEach es X.env).length=n:=by rfl)(hst:(assignEach es X.env).findIdx? (·.1)=none:=by rfl):
  PGO X own (.Tuple es k pos) (Qq n gr):=by
 with_unfolding_all
  refine PG.imp (aj9 hc h hn hst) fun v σ H Q ⟨Hs,ρ,d,ρ',E,r,q,k⟩=>?_;cases d with
  | tuple ds=>
   obtain⟨a,xs,e1,e2,e3⟩:=r;by_cases hl:ds.length=n
   ·exact⟨a,xs,e1,e2,by rw[e3.length];exact hl,Hs,ρ,ds,ρ',E,e3,by simpa[Qq,hl]using q,fun σ' E'=>k σ' H E'⟩
   ·simp[Qq,hl]at q
  |_=>simp[Qq]at q
theorem EnvO.rebase{P:Program}{w:World}{K:Fg}{Hs H:Hp}{ρ:Rho}{σ:St}(E:EnvO P w K Hs H own ρ σ):∃Hb,EnvO P w K Hb H own ρ σ/\(∀H3,jm Hb H3->jR H H3)/\
  (∀H3 ρ3 σ3,EnvO P w K Hb H3 own ρ3 σ3->EnvO P w K Hs H3 own ρ3 σ3)/\∀H3,jm Hb H3->jm Hs H3:=by
 cases own with
 |none=>exact⟨H,⟨E.len,jm.refl H,E.pl,fun i z=>nomatch z⟩,fun _ s=>jm.e s,fun H3 ρ3 σ3 E3=>⟨E3.len,E.sm.trans E3.sm,E3.pl,fun i z=>nomatch z⟩,fun _ s=>E.sm.trans s⟩
 | some i=>
  obtain⟨d,a,h1,h2,h3,h4⟩:=E.ow i rfl;obtain⟨c,o,S,h5,_⟩:=h4.out;obtain⟨φ,rfl⟩:=S.ext;let Hb:Hp:=fun b=>if b=a then none else H b
  have ha:Hb a=none:=if_pos rfl;have hb:∀b,b≠a->Hb b=H b:=fun b n=>if_neg n
  have sH:∀H3,jm Hb H3->jm Hs H3:=fun H3 s b u q=>by
   have n:b≠a:=fun z=>by subst z;rw[h3]at q;cases q
   exact s b u (by rw[hb b n];exact E.sm b u q)
  refine⟨Hb,⟨E.len,fun b u q=>?_,E.pl,fun j n=>?_⟩,fun H3 s b u q m=>?_,fun H3 ρ3 σ3 E3=>⟨E3.len,sH H3 E3.sm,E3.pl,fun j n=>?_⟩,sH⟩
  ·by_cases n:b=a
   ·subst n;rw[ha]at q;cases q
   ·rw[hb b n]at q;exact q
  ·cases n
   exact⟨d,a,h1,h2,ha,h4⟩
  ·have n:b≠a:=fun z=>by subst z;rw[h5]at q;cases q;exact m _ rfl
   exact s b u (by rw[hb b n];exact q)
  ·obtain⟨d3,a3,g1,g2,g3,g4⟩:=E3.ow j n
   refine⟨d3,a3,g1,g2,?_,g4⟩;by_cases z:a3=a
   ·rw[z];exact h3
   ·rw[hb a3 z]at g3
    cases q:Hs a3 with
    |none=>rfl
    |some u=>have:=E.sm _ _ q;rw[g3]at this;cases this
theorem Qe{fi:Rho->Option (LP)}{ga:PyData->Rho->Option Rho}(hp:PassesOwn (model X.prog X.w) X.A X.env X.xe)(hc:X.calm=true)(hi:PID X tg src fi)(hg:PGO X own tg ga)(hb:acd X own body F)
  (hs:∀x,foldedSetIterable src X.env x=pure x:=by intro _;rfl):PSO X own (.For tg src body [] pos) (Je (fun ρ=>fi (hid own ρ)) ga F):=by
 with_unfolding_all
  refine PS.imp (ad8 hp hc hi hg hb hs) fun D σ H ⟨Hs,ρ,o,E,q,k⟩=>?_;cases h1:fi (hid own ρ)with
  |none=>simp[Je,h1]at q
  | some ds=>
   have q':jN ga F ds ρ=some o:=by simpa[Je,h1]using q
   refine⟨hid own ρ,ds,E.hid,h1,fun J H1 s1 Y=>?_⟩;obtain⟨Hb,Eb,sE,back,sb⟩:=(E.mono s1).rebase;refine⟨fun i m σ H2=>m=ds.length-i/\i<=ds.length/\∃ρ2,EnvO X.prog X.w X.K Hb H2 own ρ2 σ/\jN ga F (ds.drop i) ρ2=some o,⟨ds.length,by simp,Nat.zero_le _,ρ,Eb,by simpa using q'⟩,?_⟩
   rintro i m σ2 H2 ⟨rfl,hi,ρ2,en2,q2⟩
   obtain⟨g1,g2,g3⟩:=Y i H2 (jR.a (sE H2 en2.sm));by_cases hlt:i<ds.length
   ·right
    have hd:ds.drop i=ds[i]::ds.drop (i+1):=List.drop_eq_getElem_cons hlt;rw[hd]at q2;refine⟨g1 hlt,fun σ3 H3=>∃ρ3,EnvO X.prog X.w X.K Hb H3 own ρ3 σ3/\jN ga F (ds.drop (i+1)) ρ3=some o,fun σ3 H3 ⟨ρ3,a2,a3⟩=>⟨ds.length-(i+1),by omega,rfl,hlt,ρ3,a2,a3⟩,fun x H3 y=>?_⟩;obtain⟨s3,r3⟩:=g3 x H3 y;have r3':=r3 ds[i] (by simp[hlt]);cases h4:ga ds[i] ρ2 with
    |none=>simp[jN,h4]at q2
    | some ρ4=>
     refine⟨Hb,ρ2,ds[i],ρ4,en2.mono s3,r3',h4,fun σ5 H5 en5=>?_⟩;cases h5:F ρ4 with
     |none=>simp[jN,h4,h5]at q2
     | some p=>
      refine⟨Hb,ρ4,p,en5,h5,?_⟩;cases p with
      |nx ρ6=>exact fun σ6 H6 en6=>⟨ρ6,en6,by simpa[jN,h4,h5]using q2⟩
      |ct ρ6=>exact fun σ6 H6 en6=>⟨ρ6,en6,by simpa[jN,h4,h5]using q2⟩
      | bk ρ6=>
       have:Out.nx ρ6=o:=by simpa[jN,h4,h5]using q2
       subst this;exact fun σ6 H6 en6=>k σ6 H6 (back _ _ _ en6)
      | rt d=>
       have:Out.rt d=o:=by simpa[jN,h4,h5]using q2
       subst this;exact fun v H6 s6 r6=>k v H6 (sb _ s6) r6
   ·left
    have he:i=ds.length:=by omega
    have hn:ds.drop i=[]:=by rw[he];simp
    rw[hn]at q2;have:Out.nx ρ2=o:=by simpa[jN]using q2
    subst this;exact⟨g2 (by omega),k σ2 H2 (back _ _ _ en2)⟩
noncomputable def zf(tc:Rho->Option Bool)(F:RO):Nat->RO
 |0,_=>none
 | n+1,ρ=>(tc ρ).bind fun x=>if x=true then (F ρ).bind fun o=>match o with
   |.nx ρ2=>zf tc F n ρ2
   |.ct ρ2=>zf tc F n ρ2
   |.bk ρ2=>some (.nx ρ2)
   |.rt d=>some (.rt d)
  else some (.nx ρ)
theorem ajg(n:Nat){tc:Rho->Option Bool}(hp:PassesOwn (model X.prog X.w) X.A X.env X.xe)(hc:PTD X c tc)(hb:acd X own body F):PSO X own (.While c body [] pos) (zf tc F n):=by
 with_unfolding_all
  refine PS.imp (akb hp (akR (own:=own) hc) hb) fun D σ H ⟨Hs,ρ,o,E,q,k⟩=>?_;refine⟨fun m σ H=>∃ρ,EnvO X.prog X.w X.K Hs H own ρ σ/\zf tc F m ρ=some o,⟨n,ρ,E,q⟩,?_⟩
  rintro m σ2 H2 ⟨ρ2,E2,q2⟩
  cases m with
  |zero=>cases q2
  | succ m=>
   cases h1:tc ρ2 with
   |none=>simp[zf,h1]at q2
   | some x=>
    refine⟨Hs,ρ2,x,E2,h1,fun H3 _ E3=>?_⟩;cases x with
    | false=>
     rw[if_neg Bool.false_ne_true];have:Out.nx ρ2=o:=by simpa[zf,h1]using q2
     subst this;exact k σ2 H3 E3
    | true=>
     rw[if_pos rfl];refine⟨fun σ4 H4=>∃ρ4,EnvO X.prog X.w X.K Hs H4 own ρ4 σ4/\zf tc F m ρ4=some o,fun σ4 H4 ⟨ρ4,a1,a2⟩=>⟨m,Nat.lt_succ_self m,ρ4,a1,a2⟩,?_⟩;cases h5:F ρ2 with
     |none=>simp[zf,h1,h5]at q2
     | some p=>
      refine⟨Hs,ρ2,p,E3,h5,?_⟩;cases p with
      |nx ρ6=>exact fun σ6 H6 en6=>⟨ρ6,en6,by simpa[zf,h1,h5]using q2⟩
      |ct ρ6=>exact fun σ6 H6 en6=>⟨ρ6,en6,by simpa[zf,h1,h5]using q2⟩
      | bk ρ6=>
       have:Out.nx ρ6=o:=by simpa[zf,h1,h5]using q2
       subst this;exact fun σ6 H6 en6=>k σ6 H6 en6
      | rt d=>
       have:Out.rt d=o:=by simpa[zf,h1,h5]using q2
       subst this;exact fun v H6 s6 r6=>k v H6 s6 r6
end
theorem QO{H:Hp}{a:Addr}{o o':HO}:upd (upd H a o) a o'=upd H a o':=by
 funext b;by_cases h:b=a
 ·subst h;rw[jr,jr]
 ·rw[jn h,jn h,jn h]
section
variable {P:Program}{w:World}{K:Fg}{Hs H:Hp}{ρ:Rho}{σ:St}{i:Nat}
theorem EnvO.put{a:Addr}{d d':PyData}{φ:Heap->Prop}{H3:Hp}{c:HO}(E:EnvO P w K Hs H (some i) ρ σ)(h0:ρ[i]?=some (some d))(h2:σ[i]?=some (some (.ref a)))(h3:Hs a=none)(h5:H a=some (.ext φ))
  (s3:∀b u,b≠a->H b=some u->H3 b=some u) (ow:ZM P w K (upd H3 a c) a d'):EnvO P w K Hs (upd H3 a c) (some i) (ρ.set i (some d')) σ:=by
 have hi:i < ρ.length:=(List.getElem?_eq_some_iff.mp h0).1
 have s4:jR H (upd H3 a c):=fun b u q m=>by
  have:b≠a:=fun z=>by subst z;rw[h5]at q;cases q;exact m _ rfl
  rw[jn this];exact s3 b u this q
 refine⟨by simp[E.len],fun b u q=>?_,fun j x q n=>?_,fun j n=>?_⟩
 ·have:b≠a:=fun z=>by subst z;rw[h3]at q;cases q
  rw[jn this];exact s3 b u this (E.sm b u q)
 ·have hj:i≠j:=fun z=>n (by rw[z])
  rw[List.getElem?_set_ne hj]at q;obtain⟨v,g1,g2⟩:=E.pl j x q n;exact⟨v,g1,Rep.monoE s4 _ _ g2⟩
 ·cases n
  exact⟨d',a,by rw[List.getElem?_set_self hi],h2,h3,ow⟩
theorem EnvO.opnL{ds:LP}(E:EnvO P w K Hs H (some i) ρ σ)(h:ρ[i]?=some (some (.list ds))):∃a xs,σ[i]?=some (some (.ref a))/\Hs a=none/\H a=some (Qp a xs)/\Reps K H ds xs/\EnvR K (upd H a (.lst xs)) ρ σ:=by
 obtain⟨d,a,h1,h2,h3,h4⟩:=E.ow i rfl;rw[h]at h1;cases h1;obtain⟨xs,h5,h6⟩:=h4;have s1:jR H (upd H a (.lst xs)):=jR.upd h5;refine⟨a,xs,h2,h3,h5,h6,E.len,fun j x q=>?_⟩;by_cases hj:i=j
 ·subst hj
  rw[h]at q;cases q;exact⟨.ref a,h2,a,xs,rfl,jr,Reps.monoE s1 _ _ h6⟩
 ·obtain⟨v,g1,g2⟩:=E.pl j x q (fun z=>hj (Option.some.inj z))
  exact⟨v,g1,Rep.monoE s1 _ _ g2⟩
end
section
variable {X:Cx}{e a b c tg src:Expr}{es:List Expr}{st:Stmt}{sts j8 body:List Stmt}{fa fb fc:RP}{F G:RO}{pos:Pos}
noncomputable def apf(P:Program)(w:World)(K:Fg)(i:Nat)(g:RP):TE:=fun σ H Q=>∃Hs ρ d',EnvO P w K Hs H (some i) ρ σ/\g ρ=some d'/\∀H',EnvO P w K Hs H' (some i) (ρ.set i (some d')) σ->Q .non H'
noncomputable def ajh(i:Nat)(g:RP):RO:=fun ρ=>(g ρ).map fun d=> .nx (ρ.set i (some d))
theorem ah6{i:Nat}{g:RP}(h:PE X e (apf X.prog X.w X.K i g))(hs:swapsWith e none pos.line X.env=pure false:=by rfl):PSO X (some i) (.Expr e pos) (ajh i g):=by
 with_unfolding_all
  refine PS.imp (ad6 h hs) fun D σ H ⟨Hs,ρ,o,E,q,k⟩=>?_;cases h1:g ρ with
  |none=>simp[ajh,h1]at q
  | some d=>
   have:Out.nx (ρ.set i (some d))=o:=by simpa[ajh,h1]using q
   subst this;exact⟨Hs,ρ,d,E,h1,fun H' E'=>k σ H' E'⟩
noncomputable def anb(c d:OP):OP:=match c,d with
 |some (.list ds),some d=>if noL d=true/\ds.length<1000000 then some (.list (ds++[d])) else none
 |_,_=>none
noncomputable def apg(i:Nat)(fa:RP):RP:=fun ρ=>anb (lkp i ρ) (fa ρ)
theorem akS{c d:OP}{r:PyData}(h:anb c d=some r):∃ds x,c=some (.list ds)/\d=some x/\noL x=true/\ds.length<1000000/\r= .list (ds++[x]):=by
 unfold anb at h;split at h
 ·split at h
  ·rename_i hc
   cases h;exact⟨_,_,rfl,rfl,hc.1,hc.2,rfl⟩
  ·cases h
 ·cases h
theorem Zu{n:Nat}(h:n<1000000):n<sizeLine:=Nat.lt_of_lt_of_le h (by rw[sizeLine_eq];decide)
theorem aji(i:Nat){x:Str}{p1 apos cpos:Pos}(h:PD X e fa)(hN:X.N[i]?=some x:=by rfl)(hv:Vis X.env.scope x:=by first|exact Or.inl rfl|exact Or.inr (Or.inl rfl)|exact Or.inr (Or.inr rfl))(hd:(x==("__debug__":Str))=false:=by decide)
  (hcd:(x==("__classdict__":Str))=false:=by decide) (hbase:attributeBase (.Name x p1) "append" X.env (eval (.Name x p1) X.env)=eval (.Name x p1) X.env:=by rfl)
  (hfew:((backTo cpos (starEach [e] X.env)).all (fun x=>!x.1)&&(backToKw cpos (keywordEach [] X.env)).all (fun x=>x.1.isSome)&&decide ([e].length+([]:List Keyword).length+(if ([]:List Keyword).isEmpty then 0 else 1)<30))=true:=by rfl)
  (hline:(apos.endLine==cpos.line)=true:=by rfl) (hs:starEach [e] X.env=(false,eval e X.env)::starEach [] X.env:=by rfl) (hplain:(backTo cpos (starEach [] X.env)).any (·.1)=false:=by rfl):
  PE X (.Call (.Attribute (.Name x p1) "append" apos) [e] [] cpos) (apf X.prog X.w X.K i (apg i fa)):=by
 with_unfolding_all
  intro Kp s σ H Q I ⟨Hs,ρ,d',E,hg,k⟩;obtain⟨ds,d,q1,q2,hn,hl,rfl⟩:=akS hg;obtain⟨a,xs,g2,g3,g4,g5,env⟩:=E.opnL (qP q1);have hlen:=g5.length;have W:=akm (X:=X) (cpos:=cpos) (apos:=apos) PySem.F.plainAttrs_list PySem.F.slot_list_append PySem.F.type_list_append adf (abN hN hv hd hcd) (zd h J1 hs) hbase hfew hline hs hplain
  refine thn (W Kp s σ (upd H a (.lst xs)) (fun v H4=>∃H3 y,v= .non/\H4=upd H3 a (.lst (xs++[y]))/\jm (upd H a (.lst xs)) H3/\Rep X.K H3 d y) (Inv.opened I (.l xs) g4)
   ⟨.ref a,g2,.inl ⟨rfl,_,SqL.of jr⟩,ρ,d,env,q2,fun y H3 s3 r3=>⟨a,xs,y,rfl,rfl,s3 _ _ jr,by rw [hlen]; exact Zu hl,H3,y,rfl,rfl,s3,r3⟩⟩) fun u s1 ⟨v,H4,I4,r,H3,y,e1,e2,s3,r3⟩=>?_
  subst e1;have e4:H4 a=some (.lst (xs++[y])):=by rw[e2];exact jr
  have sb:∀b u,b≠a->H b=some u->H4 b=some u:=fun b u n q=>by rw[e2,jn n];exact s3 b u (by rw[jn n];exact q)
  refine⟨.non,upd H4 a (Qp a (xs++[y])),Inv.closed I4 (.l _) e4 (Inv.nofrz I g4),r,k _ (E.put (qP q1) g2 g3 g4 sb ⟨xs++[y],jr,?_⟩)⟩
  have s5:jR H (upd H4 a (Qp a (xs++[y]))):=fun b u q m=>by
   have:b≠a:=fun z=>by subst z;rw[g4]at q;cases q;exact m _ rfl
   rw[jn this];exact sb b u this q
  have s6:zn H3 (upd H4 a (Qp a (xs++[y]))):=fun b u q m=>by
   have e3:H3 a=some (.lst xs):=s3 _ _ jr;have:b≠a:=fun z=>by subst z;rw[e3]at q;cases q;exact m _ rfl
   rw[jn this,e2,jn this];exact q
  exact(Reps.monoE s5 _ _ g5).append ⟨y,[],rfl,Rep.monoN s6 _ _ hn r3,rfl⟩
end
section
variable {X:Cx}{e a b c tg src:Expr}{es:List Expr}{st:Stmt}{sts j8 body:List Stmt}{fa fb fc:RP}{F G:RO}{pos:Pos}
@[irreducible] noncomputable def PN(X:Cx)(e:Expr)(f:RP):Prop:=
 PE X e fun σ H Q=>∃ρ d,EnvR X.K H ρ σ/\f ρ=some d/\∀a H',jm H H'->H a=none->ZM X.prog X.w X.K H' a d->Q (.ref a) H'
theorem akT{fr:Rho->Option (LP)}(h:PAD X es fr):PN X (.List es pos) (JB fr):=by
 with_unfolding_all
  intro Kp s σ H Q I ⟨ρ,d,en,hf,k⟩;cases h1:fr ρ with
  |none=>simp[JB,h1]at hf
  | some ds=>
   by_cases hfew:few ds=true
   ·have:PyData.list ds=d:=by simpa[JB,h1,hfew]using hf
    subst this;refine thn (agF h Kp s σ H (fun v H2=>∃a xs H1,v= .ref a/\H1 a=none/\jm H H1/\H2=upd H1 a (.lst xs)/\Reps X.K H1 ds xs) I ⟨ρ,ds,en,h1,fun vs H1 s1 r1=>⟨by rw[r1.length];exact ab1 (by simpa[few]using hfew),fun l hl=>⟨l,vs,H1,rfl,hl,s1,rfl,r1⟩⟩⟩) fun u s1 ⟨v,H2,I2,r,a,xs,H1,e1,e2,s1',e3,r1⟩=>?_;subst e1;have e4:H2 a=some (.lst xs):=by rw[e3];exact jr
    have e5:upd H2 a (Qp a xs)=upd H1 a (Qp a xs):=by rw[e3,QO]
    have s2:jm H1 (upd H2 a (Qp a xs)):=by rw[e5];exact jI e2
    exact⟨.ref a,_,Inv.closed I2 (.l xs) e4 (fun ob u z=>by have:=I.base.frzs _ _ _ z;rw[s1'.free e2]at this;cases this),r,k a _ (s1'.trans s2) (s1'.free e2) ⟨xs,jr,Reps.mono s2 _ _ r1⟩⟩
   ·simp[JB,h1,hfew]at hf
theorem acf:PN X (.Dict [] [] pos) (cst (.dict [(.none,.none)])):=by
 with_unfolding_all
  intro Kp s σ H Q I ⟨ρ,d,en,hf,k⟩;cases hf;refine thn (akq Kp s σ H (fun v H2=>∃a,v= .ref a/\H a=none/\H2=upd H a (.dK [])) I (fun l hl=>⟨l,rfl,hl,rfl⟩)) fun u s1 ⟨v,H2,I2,r,a,e1,e2,e3⟩=>?_;subst e1;have e4:H2 a=some (.dK []):=by rw[e3];exact jr
  obtain⟨ob,I3⟩:=Inv.sealedD I2 e4;have s2:jm H (upd H2 a (aa4 X.prog X.w a ob [])):=by rw[e3,QO];exact jI e2
  exact⟨.ref a,_,I3,r,k a _ s2 e2 ⟨[],[],ob,rfl,jr,rfl⟩⟩
noncomputable def Zv(i:Nat)(f:RP)(G:RO):RO:=fun ρ=>(f ρ).bind fun d=>if i < ρ.length then (G (ρ.set i (some d))).bind fun o=>match o with
  |.rt c=>some (.rt c)
  |_=>none
 else none
theorem Qz(i:Nat){x:Str}{pos':Pos}(hN:X.N.Nodup)(he:PN X e fa)(h:acd X (some i) j8 G)(hi:X.N[i]?=some x:=by rfl)(hx:Loc X.env.scope x:=by first|exact Or.inl rfl|exact Or.inr rfl)(hs:swapsWith e (some (.Name x pos')) pos.line X.env=pure false:=by rfl)
  (hf:X.fn x=true∨X.env.scope.names.lookup x=some .local:=by first|exact .inl rfl|exact .inr rfl|assumption):acd X none (.Assign [.Name x pos'] e pos::j8) (Zv i fa G):=by
 with_unfolding_all
  refine PSs.imp (Qr (ad7 hN hi hx he hs hf) h) fun D σ H ⟨Hs,ρ,o,E,q,k⟩=>?_;cases h1:fa ρ with
  |none=>simp[Zv,h1]at q
  | some d=>
   by_cases hl:i < ρ.length
   ·cases h2:G (ρ.set i (some d))with
    |none=>simp[Zv,h1,h2]at q
    | some p=>
     cases p with
     | rt c=>
      have:Out.rt c=o:=by simpa[Zv,h1,h2,hl]using q
      subst this;refine⟨ρ,d,E.to,h1,fun a H' s hn ow=>⟨Hs,ρ.set i (some d),.rt c,⟨by simp[E.len],E.sm.trans s,fun j y q n=>?_,fun j n=>?_⟩,h2,k⟩⟩
      ·have hj:i≠j:=fun z=>n (by rw[z])
       rw[List.getElem?_set_ne hj]at q ⊢;obtain⟨v,g1,g2⟩:=E.pl j y q (fun z=>nomatch z);exact⟨v,g1,Rep.mono s _ _ g2⟩
      ·cases n
       refine⟨d,a,by rw[List.getElem?_set_self hl],by rw[List.getElem?_set_self (by rw[←E.len];exact hl)],E.sm.free hn,ow⟩
     |nx _=>simp[Zv,h1,h2,hl]at q
     |bk _=>simp[Zv,h1,h2,hl]at q
     |ct _=>simp[Zv,h1,h2,hl]at q
   ·simp[Zv,h1,hl]at q
noncomputable def isI(n:Int):PyData->Bool
 |.int m=>decide (m=n)
 |_=>false
noncomputable def isS(t:Str):PyData->Bool
 |.str m=>decide (m=t)
 |_=>false
noncomputable def aem(κ:Key)(d:PyData):Bool:=match κ with
 |.inl n=>isI n d
 |.inr t=>isS t d
theorem QA(κ κ':Key):aem κ (afu κ')=decide (κ'=κ):=by
 cases κ<;>cases κ'<;>simp[aem,isI,isS,afu]
noncomputable def adw(r:List (PyData×PyData))(κ:Key):OP:=(r.find? fun p=>aem κ p.1).map (·.2)
noncomputable def aoi(r:List (PyData×PyData))(κ:Key)(d:PyData):List (PyData×PyData):=if r.any (fun p=>aem κ p.1)=true then r.map (fun p=>if aem κ p.1=true then (p.1,d) else p) else r++[(afu κ,d)]
noncomputable def zg(r:List (PyData×PyData))(n:Int):OP:=(r.find? fun p=>isI n p.1).map (·.2)
noncomputable def ac5(r:List (PyData×PyData))(n:Int)(d:PyData):List (PyData×PyData):=if r.any (fun p=>isI n p.1)=true then r.map (fun p=>if isI n p.1=true then (p.1,d) else p) else r++[(.int n,d)]
theorem adx{K:Fg}{H:Hp}(n:Key):∀{r:List (PyData×PyData)}{ks:List (Key×V)},RepM K H r ks->(adw r n=none/\Jz ks n=none)∨∃d x,adw r n=some d/\Jz ks n=some x/\Rep K H d x
 | [],ks,h=>by cases (show ks=[] from h);exact .inl ⟨rfl,rfl⟩
 | (k,d)::r,ks,⟨i,x,s,h1,h2,h3,h4⟩=>by
  subst h1;subst h2;by_cases hn:i=n
  ·subst hn
   exact .inr ⟨d,x,by simp[adw,QA],by simp[Jz],h3⟩
  ·have e1:adw ((afu i,d)::r) n=adw r n:=by simp[adw,QA,hn,List.find?_cons]
   have e2:Jz ((i,x)::s) n=Jz s n:=by simp[Jz,List.find?_cons,hn]
   rw[e1,e2];exact adx n h4
theorem acg{K:Fg}{H:Hp}(n:Int){r:List (PyData×PyData)}{ks:List (Key×V)}(h:RepM K H r ks):(zg r n=none/\Jz ks (Sum.inl n:Key)=none)∨∃d x,zg r n=some d/\Jz ks (Sum.inl n:Key)=some x/\Rep K H d x:=adx (.inl n) h
theorem RepM.anyK{K:Fg}{H:Hp}(n:Key):∀{r:List (PyData×PyData)}{ks:List (Key×V)},RepM K H r ks->r.any (fun p=>aem n p.1)=ks.any fun kv=>decide (kv.1=n)
 | [],ks,h=>by cases (show ks=[] from h);rfl
 | (k,d)::r,ks,⟨i,x,s,h1,h2,h3,h4⟩=>by
  subst h1;subst h2;rw[List.any_cons,List.any_cons,RepM.anyK n h4,QA]
theorem RepM.any{K:Fg}{H:Hp}(n:Int){r:List (PyData×PyData)}{ks:List (Key×V)}(h:RepM K H r ks):r.any (fun p=>isI n p.1)=ks.any fun kv=>decide (kv.1=(Sum.inl n:Key)):=RepM.anyK (.inl n) h
theorem RepM.replK{K:Fg}{H:Hp}(n:Key){d':PyData}{x':V}(hr:Rep K H d' x'):∀{r:List (PyData×PyData)}{ks:List (Key×V)},RepM K H r ks->
  RepM K H (r.map fun p=>if aem n p.1=true then (p.1,d') else p) (ks.map fun kv=>if kv.1=n then (kv.1,x') else kv)
 | [],ks,h=>by cases (show ks=[] from h);exact rfl
 | (k,d)::r,ks,⟨i,x,s,h1,h2,h3,h4⟩=>by
  subst h1;subst h2;by_cases hn:i=n
  ·subst hn
   have c1:aem i ((afu i,d):PyData×PyData).1=true:=by simp[QA]
   rw[List.map_cons,List.map_cons,if_pos c1,if_pos rfl];exact⟨i,x',_,rfl,rfl,hr,RepM.replK i hr h4⟩
  ·have c1:¬ aem n ((afu i,d):PyData×PyData).1=true:=by simp[QA,hn]
   rw[List.map_cons,List.map_cons,if_neg c1,if_neg hn];exact⟨i,x,_,rfl,rfl,h3,RepM.replK n hr h4⟩
theorem RepM.snocK{K:Fg}{H:Hp}(n:Key){d':PyData}{x':V}(hr:Rep K H d' x'):∀{r:List (PyData×PyData)}{ks:List (Key×V)},RepM K H r ks->RepM K H (r++[(afu n,d')]) (ks++[(n,x')])
 | [],ks,h=>by cases (show ks=[] from h);exact⟨n,x',[],rfl,rfl,hr,rfl⟩
 | (k,d)::r,ks,⟨i,x,s,h1,h2,h3,h4⟩=>by
  subst h2;exact⟨i,x,_,h1,rfl,h3,RepM.snocK n hr h4⟩
theorem RepM.putK{K:Fg}{H:Hp}(n:Key){d':PyData}{x':V}(hr:Rep K H d' x'){r:List (PyData×PyData)}{ks:List (Key×V)}(h:RepM K H r ks):RepM K H (aoi r n d') (_root_.L2.putK ks n x'):=by
 unfold aoi _root_.L2.putK;rw[h.anyK n];by_cases c:(ks.any fun kv=>decide (kv.1=n))=true
 ·rw[if_pos c,if_pos c];exact h.replK n hr
 ·rw[if_neg c,if_neg c];exact h.snocK n hr
theorem RepM.put{K:Fg}{H:Hp}(n:Int){d':PyData}{x':V}(hr:Rep K H d' x'){r:List (PyData×PyData)}{ks:List (Key×V)}(h:RepM K H r ks):RepM K H (ac5 r n d') (_root_.L2.putK ks (Sum.inl n) x'):=RepM.putK (.inl n) hr h
theorem RepM.length{K:Fg}{H:Hp}:∀{r:List (PyData×PyData)}{ks:List (Key×V)},RepM K H r ks->ks.length=r.length
 | [],ks,h=>by cases (show ks=[] from h);rfl
 | (k,d)::r,ks,⟨i,x,s,h1,h2,h3,h4⟩=>by subst h2;simp[RepM.length h4]
noncomputable def aqy(P:Program)(w:World):V->V->V->Hp->(Hp->Prop)->Prop:=fun o k v H Q=>∃a ks ob n,o= .ref a/\k= .int n/\H a=some (aa4 P w a ob ks)/\ks.length<sizeLine/\∀ob',Q (upd H a (aa4 P w a ob' (putK ks (Sum.inl n) v)))
theorem akU(hu:X.A.units+1<cLine):ap0 X (aqy X.prog X.w):=by
 intro Kp s σ H o k v ov iv u Q I ro rk rv ⟨a,ks,ob,n,e1,e2,h1,h2,q⟩;subst e1;subst e2;cases ro;obtain⟨t,rfl⟩:=rk;refine ai1 hu (Inv.openD I h1) (aiZ.k (k:=Sum.inl n) jr h2) ⟨t,rfl⟩ rv fun s' I'=>?_;obtain⟨ob',I2⟩:=Inv.sealedD I' jr;rw[QO,QO]at I2;exact⟨_,I2,q ob'⟩
noncomputable def agZ(c v k:OP):OP:=match c,v,k with
 |some (.dict ((.none,.none)::r)),some d,some (.int n)=>if r.length<1000000 then some (.dict ((.none,.none)::ac5 r n d)) else none
 |_,_,_=>none
theorem akV{c v k:OP}{o:PyData}(h:agZ c v k=some o):∃r d n,c=some (.dict ((.none,.none)::r))/\v=some d/\k=some (.int n)/\r.length<1000000/\o= .dict ((.none,.none)::ac5 r n d):=by
 unfold agZ at h;split at h
 ·split at h
  ·rename_i hc
   cases h;exact⟨_,_,_,rfl,rfl,rfl,hc,rfl⟩
  ·cases h
 ·cases h
noncomputable def ag0(i:Nat)(fk fv:RP):RO:=fun ρ=>(agZ (lkp i ρ) (brw (some i) fv ρ) (brw (some i) fk ρ)).map fun d=> .nx (ρ.set i (some d))
theorem aen(i:Nat){x:Str}{p1 p2:Pos}{fk fv:RP}(hu:X.A.units+1<cLine)(hk:PD X b fk)(he:PD X e fv)(hN:X.N[i]?=some x:=by rfl)(hv:Vis X.env.scope x:=by first|exact Or.inl rfl|exact Or.inr (Or.inl rfl)|exact Or.inr (Or.inr rfl))
  (hd:(x==("__debug__":Str))=false:=by decide) (hcd:(x==("__classdict__":Str))=false:=by decide)
  (ha:∀v,assign (.Subscript (.Name x p1) b p2) X.env v=(do
   let ov ←holding [v] (eval (.Name x p1) X.env)
   let iv ←holding [v,ov] (eval b X.env)
   standAt p2
   holding [v,ov,iv] (setItem ov iv v)
   release [v,ov,iv] []):=by intro _; rfl)
  (hs:swapsWithSole [.Subscript (.Name x p1) b p2] e pos.line X.env=pure false:=by rfl) (hw:swappedStores [.Subscript (.Name x p1) b p2] e X.env=pure none:=by rfl)
  (h1:(assignEach [.Subscript (.Name x p1) b p2] X.env).map (·.2)=[assign (.Subscript (.Name x p1) b p2) X.env]:=by rfl):PSO X (some i) (.Assign [.Subscript (.Name x p1) b p2] e pos) (ag0 i fk fv):=by
 with_unfolding_all
  refine PS.imp (aka (agY (own:=some i) he) (aoC (abN hN hv hd hcd) (agY (own:=some i) hk) (akU hu) ha) hs hw h1) fun D σ H ⟨Hs,ρ,o,E,q,k⟩=>?_;cases hp:agZ (lkp i ρ) (brw (some i) fv ρ) (brw (some i) fk ρ)with
  |none=>simp[ag0,hp]at q
  | some nw=>
   have:Out.nx (ρ.set i (some nw))=o:=by simpa[ag0,hp]using q
   subst this;obtain⟨r,d,n,q1,q2,q3,hl,rfl⟩:=akV hp;refine⟨Hs,ρ,d,E,q2,fun v H1 s1 E1 r1=>?_⟩;obtain⟨d0,a,g1,g2,g3,g4⟩:=E1.ow i rfl;rw[qP q1]at g1;cases g1;refine⟨.ref a,g2,Hs,ρ,.int n,E1,q3,fun kv H2 s2 E2 r2=>?_⟩;cases (show kv=V.int n from r2);obtain⟨d1,a1,f1,f2,f3,f4⟩:=E2.ow i rfl;rw[qP q1]at f1;cases f1;rw[g2]at f2;cases f2;obtain⟨ks,r',ob,e1,e2,e3⟩:=f4;cases e1;refine⟨a,ks,ob,n,rfl,rfl,e2,by rw[e3.length];exact Zu hl,fun ob'=>k _ _ (E2.put (qP q1) g2 f3 e2 (fun _ _ _ z=>z) ⟨_,_,ob',rfl,jr,?_⟩)⟩;have s5:jR H2 (upd H2 a (aa4 X.prog X.w a ob' (putK ks (Sum.inl n) v))):=jR.upd e2;exact RepM.put n (Rep.monoE (s2.trans s5) _ _ r1) (RepM.monoE s5 _ _ e3)
end
noncomputable def zh:PyData->Option (List (PyData×PyData))
 |.dict ((.none,_)::r)=>some r
 |_=>none
theorem Jr{K:Fg}{H:Hp}{d:PyData}{r:List (PyData×PyData)}{v:V}(h:zh d=some r)(q:Rep K H d v):∃a ks ob,v= .ref a/\H a=some (.frz ob (.dK ks))/\RepM K H r ks:=by
 unfold zh at h;split at h
 ·cases h
  obtain⟨a,h1,⟨ns,h2,h3⟩ | ⟨ks,ob,h2,h3⟩ | ⟨x,h2,_⟩ | ⟨x,_,_,h2,_⟩ | h2⟩:=q
  ·cases ns with
   |nil=>cases h3
   |cons n ns=>cases h3
  ·exact⟨a,ks,ob,h1,h2,h3⟩
  ·cases h2
  ·cases h2
  ·cases h2
 ·cases h
theorem ach{H:Hp}{a:Addr}{ob:Obj}{ks:List (Key×V)}(h:H a=some (.frz ob (.dK ks)))(n:Int):abh H a (.int n) (Jz ks (Sum.inl n:Key)):= .inl ⟨ks,Sum.inl n,.inr ⟨ob,h⟩,rfl,rfl⟩
section
variable {X:Cx}{e a b c tg src:Expr}{es:List Expr}{fa fb fc:RP}{pos:Pos}
noncomputable def afB(p q:PyData):OP:=match zh p,q with
 |some r,.int n=>zg r n
 |_,_=>none
theorem ag1(hu:X.A.units+1<cLine)(ha:PD X a fa)(hb:PD X b fb)(hs:aoU b:=by intro _ _;rfl):PD X (.Subscript a b pos) (op2 afB fa fb):=by
 with_unfolding_all
  refine PE.imp (amM hu ha hb hs) fun σ H Q ⟨ρ,d,en,h,k⟩=>?_;cases h1:fa ρ with
  |none=>simp[op2,h1]at h
  | some p=>
   cases h2:fb ρ with
   |none=>simp[op2,h1,h2]at h
   | some q=>
    have h':afB p q=some d:=by simpa[op2,h1,h2]using h
    unfold afB at h';split at h'
    ·rename_i r n hp
     refine⟨ρ,p,en,h1,fun v H1 s1 r1=>⟨ρ,.int n,en.mono s1,h2,fun y H2 s2 r2=>?_⟩⟩;cases (show y=V.int n from r2);obtain⟨ad,ks,ob,e1,e2,e3⟩:=Jr hp (Rep.mono s2 _ _ r1);rcases acg n e3 with ⟨z,_⟩ | ⟨d',x,z1,z2,z3⟩
     ·rw[z]at h';cases h'
     ·rw[z1]at h';cases h'
      exact⟨ad,x,e1,by rw[←z2];exact ach e2 n,k x H2 (s1.trans s2) z3⟩
    ·cases h'
noncomputable def aa5(p q z:PyData):OP:=match zh p,q with
 |some r,.int n=>some ((zg r n).getD z)
 |_,_=>none
noncomputable def JL(fa fb fc:RP):RP:=fun ρ=>(fa ρ).bind fun p=>(fb ρ).bind fun q=>(fc ρ).bind fun z=>aa5 p q z
theorem QB{apos cpos:Pos}(hu:X.A.units+1<cLine)(ha:PD X a fa)(hb:PD X b fb)(hc:PD X c fc)(m:M2 X a "get" apos b c cpos:=by exact⟨rfl,rfl,rfl,rfl⟩):PD X (.Call (.Attribute a "get" apos) [b,c] [] cpos) (JL fa fb fc):=by
 with_unfolding_all
  refine PE.imp (aku hu ha hb hc m) fun σ H Q ⟨ρ,d,en,h,k⟩=>?_;cases h1:fa ρ with
  |none=>simp[JL,h1]at h
  | some p=>
   cases h2:fb ρ with
   |none=>simp[JL,h1,h2]at h
   | some q=>
    cases h3:fc ρ with
    |none=>simp[JL,h1,h2,h3]at h
    | some z=>
     have h':aa5 p q z=some d:=by simpa[JL,h1,h2,h3]using h
     unfold aa5 at h';split at h'
     ·rename_i r n hp
      cases h';refine⟨ρ,p,en,h1,fun v H1 s1 r1=>?_⟩;obtain⟨ad,ks,ob,e1,e2,e3⟩:=Jr hp r1;refine⟨ad,e1,.inl ⟨ks,.inr ⟨ob,e2⟩⟩,ρ,.int n,en.mono s1,h2,fun y H2 s2 r2=>⟨ρ,z,(en.mono s1).mono s2,h3,fun y3 H3 s3 r3=>?_⟩⟩;cases (show y=V.int n from r2);refine⟨_,ach (s3 _ _ (s2 _ _ e2)) n,?_⟩;rcases acg n (RepM.mono (s2.trans s3) _ _ e3)with ⟨z1,z2⟩ | ⟨d',x,z1,z2,z3⟩
      ·rw[z2];exact k _ H3 (s1.trans (s2.trans s3)) (by rw[z1];exact r3)
      ·rw[z2];exact k _ H3 (s1.trans (s2.trans s3)) (by rw[z1];exact z3)
     ·cases h'
noncomputable def ah7(p q:PyData):OP:=match zh p,q with
 |some r,.int n=>some ((zg r n).getD .none)
 |_,_=>none
theorem akW{apos cpos:Pos}(hu:X.A.units+1<cLine)(ha:PD X a fa)(hb:PD X b fb)(m:M1 X a "get" apos b cpos:=by exact⟨rfl,rfl,rfl,rfl⟩):PD X (.Call (.Attribute a "get" apos) [b] [] cpos) (op2 ah7 fa fb):=by
 with_unfolding_all
  refine PE.imp (akt hu ha hb m) fun σ H Q ⟨ρ,d,en,h,k⟩=>?_;cases h1:fa ρ with
  |none=>simp[op2,h1]at h
  | some p=>
   cases h2:fb ρ with
   |none=>simp[op2,h1,h2]at h
   | some q=>
    have h':ah7 p q=some d:=by simpa[op2,h1,h2]using h
    unfold ah7 at h';split at h'
    ·rename_i r n hp
     cases h';refine⟨ρ,p,en,h1,fun v H1 s1 r1=>?_⟩;obtain⟨ad,ks,ob,e1,e2,e3⟩:=Jr hp r1;refine⟨ad,e1,.inl ⟨ks,.inr ⟨ob,e2⟩⟩,ρ,.int n,en.mono s1,h2,fun y H2 s2 r2=>?_⟩;cases (show y=V.int n from r2);refine⟨_,ach (s2 _ _ e2) n,?_⟩;rcases acg n (RepM.mono s2 _ _ e3)with ⟨z1,z2⟩ | ⟨d',x,z1,z2,z3⟩
     ·rw[z2];exact k _ H2 (s1.trans s2) (by rw[z1];exact rfl)
     ·rw[z2];exact k _ H2 (s1.trans s2) (by rw[z1];exact z3)
    ·cases h'
noncomputable def Itd(d:Addr)(ob:Obj)(ks:List (Key×V)):It:=
 ⟨fun i H=>H d=some (.frz ob (.dK ks))/\i<ks.length,fun i H x H'=>H'=H/\∃kv,ks[i]?=some kv/\x=kV kv.1,fun i H=>H d=some (.frz ob (.dK ks))/\ks.length<=i⟩
theorem ajj{k:Key}{v:Value}(h:abL k v=true):jK (kV k) v:=by
 rcases qi h with ⟨i,t,rfl,rfl⟩ | ⟨x,t,rfl,rfl⟩
 ·exact⟨t,rfl⟩
 ·exact⟨t,rfl⟩
theorem akX{P:Program}{w:World}{H:Hp}{h:Heap}{d:Addr}{ob:Obj}{ks:List (Key×V)}{es:Array DictEntry}{ep:Nat}(ok:HOk P w H h)(e:H d=some (.frz ob (.dK ks)))(hd:ob.data= .dict es ep):∃vs,KV ks vs/\h.DictAt (jZ P w) d vs ep:=by
 obtain⟨h0,z,nm,vs,rel,ob',es',ep',h4,h5,h6,h7⟩:=ok d _ e;rw[h0]at h4;cases h4;rw[hd]at h6;cases h6;exact⟨vs,rel,ob,es,h0,h5,hd,h7⟩
theorem ajk{P:Program}{w:World}{K:Fg}{tg:Expr}(d it:Addr)(hne:d≠it)(ob:Obj)(ks:List (Key×V))(es:Array DictEntry)(ep:Nat)(hd:ob.data= .dict es ep):Turn P w K tg (Itd d ob ks) [it] it (fun i h=>h.IsKeyIter it d i ks.length ep) where
 mem:=by simp
 obj:=fun i h st b hb=>by
  have e:b=it:=by simpa using hb
  subst e;obtain⟨o,e,c,d⟩:=st;exact⟨o,e,fun v z=>by rw[d]at z;cases z⟩
 keep:=fun i h h' st k=>st.at fun o e=>k it (by simp) o e
 item:=by
  intro X hP hw hK hc i Kp s σ H E I hf st hg;subst hP hw hK;obtain⟨hH,hi⟩:=hg;obtain⟨vs,rel,dat⟩:=akX I.hok hH hd;have hl:=rel.length;obtain⟨f0,f1,f2,f3,f4,f5⟩:=hf it (by simp);have hi':i<vs.length:=by omega
  obtain⟨⟨k,x⟩,hx⟩:∃p,vs[i]?=some p:=⟨vs[i],by simp[hi']⟩;rw[hl]at st;refine wpAny_pyNext_dict_item st dat hx fun key h' hkey st' sb=>?_;have I1:Inv X Kp σ H { s with heap:=h' }:=I.turned (t':=s.toks) (fun b o hb e=>(sb.2 b hb).trans e) f0 f1 f3 f4 f5;obtain⟨o,e,c,dd⟩:=id st';rw[←hl]at st';have hk:(ks.map (·.1))[i]?=some k:=by rw[rel.keys,List.getElem?_map,hx];rfl
  rw[List.getElem?_map]at hk;cases hq:ks[i]? with
  |none=>rw[hq]at hk;cases hk
  | some kv=>
   rw[hq]at hk;have hk':kv.1=k:=by simpa using hk
   exact⟨key,rfl,afj (s:={ s with heap:=h' }) e c dd (by decide) ⟨kV k,H,I1,ajj hkey,⟨rfl,kv,hq,by rw[hk']⟩,st',fun b hb=>(hf b hb).1⟩⟩
 done:=by
  intro X hP hw hK hc i Kp s σ H E I hf st hg;subst hP hw hK;obtain⟨hH,hi⟩:=hg;obtain⟨vs,rel,dat⟩:=akX I.hok hH hd;have hl:=rel.length;obtain⟨f0,f1,f2,f3,f4,f5⟩:=hf it (by simp);rw[hl]at st;exact wpAny_pyNext_dict_end (I.ok.hd hc) st dat (by simp;omega) fun h' eb=>⟨rfl,I.turned (t':=s.toks) (fun b o hb e=>eb b o hb e) f0 f1 f3 f4 f5⟩
 self:=fun _ _ _ _ _ st h=>wpAny_pyIter_keyiter st h
end
section
variable {X:Cx}{e a b c tg src:Expr}{es:List Expr}{fa fb fc:RP}{pos:Pos}
noncomputable def ars(K:Fg)(tl:TE):TI:=fun σ H R=>tl σ H fun x H1=>∃d ob ks,x= .ref d/\H1 d=some (.frz ob (.dK ks))/\R (Itd d ob ks) H1
theorem anc{l:Expr}{tl:TE}(hl:PE X l tl):PI X tg l (ars X.K tl):=by
 intro Kp s σ H R I h;refine thn (hl Kp s σ H _ I h) fun v s1 ⟨x,H1,I1,r1,q1⟩=>?_;obtain⟨d,ob,ks,e,hq,q⟩:=q1;subst e;cases r1;obtain⟨h0,z,nm,vs,rel,ob',es,ep,h4,h5,h6,h7⟩:=I1.hok d _ hq;rw[h0]at h4;cases h4;have hl:=rel.length;refine wpAny_pyIter_dict nm (show s1.heap.DictAt (jZ X.prog X.w) d vs ep from⟨ob,es,h0,h5,h6,h7⟩) ?_;rw[←hl];refine⟨s1.heap.objs.size,[s1.heap.objs.size],_,_,H1,rfl,I1.kept (t':=s1.toks) fun b o e=>Heap.get?_push_of_some _ e,ajk d _ (Nat.ne_of_lt (Heap.lt_size h0)) ob ks es ep h6,⟨_,Heap.get?_push_size _ rfl,rfl,rfl⟩,fun b hb=>?_,q⟩;have e:b=s1.heap.objs.size:=by simpa using hb
 subst e;exact I1.fpOk (Nat.le_refl _) (I1.hok.fresh (Nat.le_refl _))
theorem RepM.keys{K:Fg}{H:Hp}:∀{r:List (PyData×PyData)}{ks:List (Key×V)}{i:Nat}{d:PyData}{kv:Key×V},RepM K H r ks->(r.map (·.1))[i]?=some d->ks[i]?=some kv->Rep K H d (kV kv.1)
 | [],ks,i,d,kv,h,e,q=>by simp at e
 | (k,c)::r,ks,0,d,kv,⟨i,x,s,h1,h2,h3,h4⟩,e,q=>by
  subst h1;subst h2;simp at e q;subst e;subst q;cases i<;>exact rfl
 | (k,c)::r,ks,j+1,d,kv,⟨i,x,s,h1,h2,h3,h4⟩,e,q=>by
  subst h2;exact RepM.keys (i:=j) h4 (by simpa using e) (by simpa using q)
noncomputable def itD(fa:RP):Rho->Option (LP):=fun ρ=>(fa ρ).bind fun d=>(zh d).map fun r=>r.map (·.1)
theorem aci(h:PD X e fa):PID X tg e (itD fa):=by
 with_unfolding_all
  refine PI.imp (anc h) fun σ H R ⟨ρ,ds,en,q,k⟩=>?_;cases h1:fa ρ with
  |none=>simp[itD,h1]at q
  | some d=>
   cases h2:zh d with
   |none=>simp[itD,h1,h2]at q
   | some r=>
    have:r.map (·.1)=ds:=by simpa[itD,h1,h2]using q
    subst this;refine⟨ρ,_,en,h1,fun v H1 s1 r1=>?_⟩;obtain⟨a,ks,ob,e1,e2,e3⟩:=Jr h2 r1;have hl:=e3.length;refine⟨a,ob,ks,e1,e2,k _ H1 s1 fun i H2 s2=>⟨fun hi=>?_,fun hi=>?_,fun x H' y=>?_⟩⟩
    ·exact⟨s2 _ _ e2 rfl,by rw[hl];simpa using hi⟩
    ·exact⟨s2 _ _ e2 rfl,by rw[hl];simpa using hi⟩
    ·obtain⟨z1,kv,z2,z3⟩:=y
     subst z1;subst z3;exact⟨jm.refl _,fun d hd=>RepM.keys (RepM.monoA s2 _ _ e3) hd z2⟩
noncomputable def ajl(fa fb:RP):RP:=fun ρ=>(fa ρ).bind fun k=>(fb ρ).bind fun d=>match k with
 |.int n=>some (.dict [(.none,.none),(.int n,d)])
 |_=>none
theorem acj(ha:PD X a fa)(hb:PD X b fb):PD X (.Dict [some a] [b] pos) (ajl fa fb):=by
 with_unfolding_all
  intro Kp s σ H Q I ⟨ρ,d,en,hf,k⟩;cases h1:fa ρ with
  |none=>simp[ajl,h1]at hf
  | some p=>
   cases h2:fb ρ with
   |none=>simp[ajl,h1,h2]at hf
   | some q=>
    cases p with
    | int n=>
     have:PyData.dict [(.none,.none),(.int n,q)]=d:=by simpa[ajl,h1,h2]using hf
     subst this;have W:=amO (X:=X) (pos:=pos) (akr ha hb amN) rfl rfl (by simp) (by simp);refine thn (W Kp s σ H (fun v H4=>∃l y H3,v= .ref l/\H l=none/\H3 l=some (.dK [])/\jm (upd H l (.dK [])) H3/\Rep X.K H3 q y/\H4=upd H3 l (.dK [(Sum.inl n,y)])) I fun l hl=>?_) fun u s1 ⟨v,H4,I4,r,l,y,H3,e1,e2,e3,e4,e5,e6⟩=>?_
     ·have s0:jm H (upd H l (.dK [])):=jI hl
      refine⟨ρ,.int n,en.mono s0,h1,fun x H1 s1 r1=>⟨ρ,q,(en.mono s0).mono s1,h2,fun y H2 s2 r2=>?_⟩⟩;cases (show x=V.int n from r1);have el:H2 l=some (.dK []):=s2 _ _ (s1 _ _ jr);exact⟨el,[(Sum.inl n,y)],rfl,by simp,l,y,H2,rfl,hl,el,s1.trans s2,r2,rfl⟩
     ·subst e1
      have e7:H4 l=some (.dK [(Sum.inl n,y)]):=by rw[e6];exact jr
      obtain⟨ob,I5⟩:=Inv.sealedD I4 e7;have I6:=Inv.opened I5 (.d ob _) jr;rw[QO]at I6
      have sA:j6 H3 (upd H4 l (.frz ob (.dK [(Sum.inl n,y)]))):=fun b o z dt=>by
       have:b≠l:=fun m=>by subst m;rw[e3]at z;cases z;cases dt
       rw[jn this,e6,jn this];exact z
      have sH:jm H (upd H4 l (.frz ob (.dK [(Sum.inl n,y)]))):=fun b o z=>by
       have:b≠l:=fun m=>by subst m;rw[e2]at z;cases z
       rw[jn this,e6,jn this];exact e4 b o (by rw[jn this];exact z)
      exact⟨.ref l,_,I6,r,k _ _ sH ⟨l,rfl,.inr (.inl ⟨_,ob,jr,show RepM X.K _ [(.int n,q)] _ from⟨.inl n,y,[],rfl,rfl,Rep.monoA sA _ _ e5,rfl⟩⟩)⟩⟩
    |_=>simp[ajl,h1,h2]at hf
end
end BX
end
section
namespace BX
open PySem PySem.Spec L2
theorem afC(l:Addr)(items:Array Value)(n:Nat)(u:Tok)(dd:Option Addr)(sl:Array (Option Value)):
  Meets (Builtin.«tuple.__mul__» ⟨[.ref l,.int 1 u],[]⟩) (fun _ R s=>s.heap.get? l=some { cls:= .type "tuple",dict:=dd,data:= .seq items n,slots:=sl }/\R (.ok (.ret (.ref l))) s):=
 .of_wp fun prog w A R s h=>by
  obtain⟨hp,g,d,tk,os⟩:=s;obtain⟨hl,h⟩:=h;have e1:(items.isEmpty||(1:Int)==1)=true:=by simp
  wp_walk
  exact⟨_,rfl,h⟩
theorem afD(l:Addr)(items:Array Value)(n:Nat)(x:Int)(u:Tok)(dd:Option Addr)(sl:Array (Option Value))(hx:x<=0)(hx2:-(2 ^ 63)<=x)(hi:items.isEmpty=false):
  Meets (Builtin.«tuple.__mul__» ⟨[.ref l,.int x u],[]⟩) (fun _ R s=>s.heap.get? l=some { cls:= .type "tuple",dict:=dd,data:= .seq items n,slots:=sl }/\R (.ok (.ret (.ref s.heap.objs.size))) { s with heap:=s.heap.push { cls:= .type "tuple",data:= .seq #[] } }):=
 .of_wp fun prog w A R s h=>by
  obtain⟨hp,g,d,tk,os⟩:=s;obtain⟨hl,h⟩:=h;have e0:(decide (x < -(2 ^ 63))||decide (x >= 2 ^ 63))=false:=by simp;omega
  have e1:(items.isEmpty||x==1)=false:=by rw[hi];simp;omega
  have e2:(decide (x<=0)||items.isEmpty)=true:=by simp[hx]
  wp_walk
  refine wpAny_ite_false (by rw[e0];rfl) ?_
  wp_walk
  refine wpAny_ite_false (by rw[e1];rfl) ?_
  wp_walk
  exact⟨_,rfl,h⟩
theorem afE(l:Addr)(items:Array Value)(n:Nat)(x:Int)(u:Tok)(dd:Option Addr)(sl:Array (Option Value))(hx:2<=x)(hx2:x<2 ^ 63)(hi:items.isEmpty=false)(hz:(items.size:Int)*x<=sizeLine)(hsz:(List.foldl (fun x1 x2=>x1++x2) #[] (List.replicate x.toNat items)).size<=sizeLine):
  Meets (Builtin.«tuple.__mul__» ⟨[.ref l,.int x u],[]⟩) (fun _ R s=>s.heap.get? l=some { cls:= .type "tuple",dict:=dd,data:= .seq items n,slots:=sl }/\R (.ok (.ret (.ref s.heap.objs.size))) { s with heap:=s.heap.push { cls:= .type "tuple",data:= .seq (List.foldl (fun x1 x2=>x1++x2) #[] (List.replicate x.toNat items)) } }):=
 .of_wp fun prog w A R s h=>by
  obtain⟨hp,g,d,tk,os⟩:=s;obtain⟨hl,h⟩:=h;have hs:((2 ^ 63-1) / 8:Int) >= (sizeLine:Int):=by rw[sizeLine_eq];decide
  have e0:(decide (x < -(2 ^ 63))||decide (x >= 2 ^ 63))=false:=by simp;omega
  have e1:(items.isEmpty||x==1)=false:=by rw[hi];simp;omega
  have e2:(decide (x<=0)||items.isEmpty)=false:=by rw[hi];simp;omega
  have e3:¬ (items.size:Int)*x>(2 ^ 63-1) / 8:=by omega
  have e4:Builtin.Tuple.tupleTooMany ((items.size:Int)*x)=false:=by simp[Builtin.Tuple.tupleTooMany];omega
  wp_walk
  refine wpAny_ite_false (by rw[e0];rfl) ?_
  wp_walk
  refine wpAny_ite_false (by rw[e1];rfl) ?_
  wp_walk
  refine wpAny_ite_false (by rw[e2];rfl) ?_
  wp_walk
  rw[if_neg e3];refine wpAny_ite_false (by rw[e4];rfl) ?_
  wp_walk
  exact⟨_,rfl,h⟩
theorem aaA:fillsNumberSlot (.type "tuple") "mul"=pure false:=
 PySem.fillsNumberSlot_seq (id:="tuple.__mul__") (r:=some (.builtin "tuple.__rmul__")) F.slot_tuple_mul.lookup (by decide +kernel) F.slot_tuple_rmul.lookup (by decide +kernel)
theorem aeo:seqRepeat? (.type "tuple")=pure (some (.builtin "tuple.__mul__")):=by
 unfold seqRepeat?;rw[PySem.seqSlot_of (T:="tuple") (name:="__mul__") (id:="tuple.__mul__") F.slot_tuple_mul.lookup (by decide +kernel),PySem.seqSlot_of (T:="tuple") (name:="__rmul__") (id:="tuple.__rmul__") F.slot_tuple_rmul.lookup (by decide +kernel)];rfl
theorem ack(a:Int)(t:Tok)(l:Addr)(items:Array Value)(n:Nat)(dd:Option Addr)(sl:Array (Option Value)):
  Meets (Builtin.«int.__rmul__» ⟨[.int a t,.ref l],[]⟩) (fun _ R s=>s.heap.get? l=some { cls:= .type "tuple",dict:=dd,data:= .seq items n,slots:=sl }/\R (.ok (.ret Value.notImplemented)) s):=
 .of_wp fun prog w A R s h=>by
  obtain⟨hp,g,d,tk,os⟩:=s;obtain⟨hl,h⟩:=h
  wp_walk
  exact⟨_,rfl,h⟩
section
open PyProof.Rows hiding St
variable {X:Cx}{e a b c tg src:Expr}{es:List Expr}{fa fb fc:RP}{pos:Pos}{j8:List Expr}
noncomputable def aqz(K:Fg):R2:=fun x y H Q=>∃l k xs,x= .ref l/\y= .int k/\SqT K H l xs/\0<xs.length/\-(2 ^ 63)<=k/\k<2 ^ 63/\(xs.length:Int)*k<=sizeLine/\
 (∀p,H p=none->Q (.ref p) (upd H p (.tup (List.replicate k.toNat xs).flatten)))/\(k=1->Q (.ref l) H)
theorem ane:OpR X (binaryOp .Mult) (aqz X.K):=by
 intro Kp s σ H x y v u Q I rx ry h;obtain⟨l,k,xs,rfl,rfl,hH,hne,h1,h2,hz,q,q1⟩:=h;cases rx;obtain⟨t,rfl⟩:=ry;obtain⟨its,r,⟨⟨oc,od,odt,osl⟩,e,c,n,d⟩,hlz⟩:=I.tuple hH;have hl:=r.length;cases c;cases (show odt=_ from d)
 have hi:its.toArray.isEmpty=false:=by
  cases its with
  |nil=>rw[hl]at hne;simp at hne
  |cons a r'=>simp
 refine wpAny_binaryOp_repeat_ref (T:="tuple") (U:="int") (by decide) ⟨_,e,rfl⟩ (fun s'=>typeIs_int s' k t) aaA F.fills_int_mul F.slot_int_rmul aeo F.slot_int_index.lookup
  (call_meets F.slot_int_rmul (typeIs_int s k t) F.entry_int_rmul (F.args_int_rmul_2 _ _) (ack k t l its.toArray n od osl) ⟨e,rfl,⟨_,e,rfl⟩,?_⟩)
 have fresh:∀{ys:List V} {jts:List Value},jB ys jts->ys.length<=sizeLine->Inv X Kp σ (upd H s.heap.objs.size (.tup ys)) { s with heap:=s.heap.push { cls:= .type "tuple",data:= .seq jts.toArray } }:=fun {ys jts} rv hy=>
  I.laid (t':=s.toks) (fun b o e=>Heap.get?_push_of_some _ e) (Nat.le_refl _) (show qw X.prog X.w _ _ _ (.tup ys) from⟨hy,jts,rv,IsTup.new _ _⟩)
 by_cases k1:k=1
 ·subst k1
  exact call_meets F.slot_tuple_mul ⟨_,e,rfl⟩ F.entry_tuple_mul (F.args_tuple_mul_2 _ _) (afC l its.toArray n t od osl) ⟨e,.ref l,H,I,rfl,q1 rfl⟩
 ·by_cases k0:k<=0
  ·have hk:k.toNat=0:=by omega
   refine call_meets F.slot_tuple_mul ⟨_,e,rfl⟩ F.entry_tuple_mul (F.args_tuple_mul_2 _ _) (afD l its.toArray n k t od osl k0 h1 hi) ⟨e,.ref _,_,fresh (ys:=[]) (jts:=[]) .nil (Nat.zero_le _),rfl,?_⟩;have:=q _ (I.hok.fresh (Nat.le_refl _));rw[hk]at this;exact this
  ·have hnew:List.foldl (fun x1 x2=>x1++x2) #[] (List.replicate k.toNat its.toArray)=(List.replicate k.toNat its).flatten.toArray:=by
    have:=aap its k.toNat [];rw[List.nil_append]at this;exact this
   have hlen:((List.replicate k.toNat xs).flatten.length:Int)=xs.length*k:=by
    rw[ahU,Int.natCast_mul,Int.mul_comm,Int.toNat_of_nonneg (by omega)]
   have hlen2:(List.replicate k.toNat xs).flatten.length<=sizeLine:=by omega
   have hl2:=(r.rep k.toNat).length;refine call_meets F.slot_tuple_mul ⟨_,e,rfl⟩ F.entry_tuple_mul (F.args_tuple_mul_2 _ _) (afE l its.toArray n k t od osl (by omega) h2 hi (by rw[List.size_toArray,←hl];exact hz) (by rw[hnew,List.size_toArray,←hl2];exact hlen2)) ⟨e,?_⟩;rw[hnew];exact⟨.ref _,_,fresh (r.rep k.toNat) hlen2,rfl,q _ (I.hok.fresh (Nat.le_refl _))⟩
end
end BX
end
section
namespace BX
open PySem PySem.Spec L2
open PyProof.Rows hiding St
section
variable {X:Cx}{e a b c tg src:Expr}{es:List Expr}{fa fb fc:RP}{pos:Pos}{j8:List Expr}
noncomputable def afF(p q:PyData):OP:=match p,q with
 |.tuple ds,.int k=>if 0<ds.length/\ds.length<1000/\-1000<k/\k<1000 then some (.tuple (List.replicate k.toNat ds).flatten) else none
 |_,_=>none
theorem afG:OpD X (binaryOp .Mult) afF:=by
 refine⟨_,ane,fun p q d x y H Q h rx ry k=>?_⟩;unfold afF at h;split at h
 ·rename_i ds n
  split at h
  ·rename_i hc
   cases h;obtain⟨a,us,e1,e2,e3⟩:=rx;cases (show y=V.int n from ry);have hl:=e3.length
   have hz:(us.length:Int)*n<=1000000:=by
    have h1:(us.length:Int)*n<=us.length*1000:=Int.mul_le_mul_of_nonneg_left (by omega) (by omega);omega
   refine⟨a,n,us,e1,rfl,e2,by omega,by omega,by omega,Int.le_trans hz (by rw[sizeLine_eq];decide),fun p hp=>?_,fun h1=>?_⟩
   ·have s1:=jI (o:= .tup (List.replicate n.toNat us).flatten) hp
    exact k _ _ s1 ⟨p,_,rfl,SqT.of jr,Reps.mono s1 _ _ (e3.rep _)⟩
   ·subst h1
    refine k _ H (jm.refl H) ⟨a,us,rfl,e2,?_⟩;simpa using e3
  ·cases h
 ·cases h
noncomputable def aqA(lo:Int)(n:Nat):It:=⟨fun i _=>i<n,fun i H x H'=>H'=H/\x= .int (lo-i),fun i _=>n<=i⟩
theorem afH{P:Program}{w:World}{K:Fg}{tg:Expr}(it:Addr)(lo:Int)(n:Nat):Turn P w K tg (aqA lo n) [it] it (fun i h=>IsRangeIter h it (lo+(i:Nat)*(-1)) ((n:Int)-(i:Nat)) (-1)) where
 mem:=by simp
 obj:=fun i h st b hb=>by
  have e:b=it:=by simpa using hb
  subst e
  exact⟨_,st,fun v z=>by
   have z':Data.fields _=Data.cell v:=z;cases z'⟩
 keep:=fun i h h' st k=>k it (by simp) _ st
 item:=by
  intro X hP hw hK hc i Kp s σ H E I hf st hg;subst hP hw hK;obtain⟨f0,f1,f2,f3,f4,f5⟩:=hf it (by simp);have W:=Walks.range (prog:=X.prog) (w:=X.w) (I.ok.hd hc) it lo (-1) n;refine W.item i s _ _ hg st fun v h' tk hv st' kk=>?_;obtain⟨t,rfl⟩:=hv;have I1:Inv X Kp σ H { s with heap:=h',toks:=tk }:=I.turned (fun b o hb e=>kk b o (by simpa using hb) e) f0 f1 f3 f4 f5;refine⟨_,rfl,afj (s:={ s with heap:=h',toks:=tk }) (n:="range_iterator") st' rfl rfl (by decide) ⟨.int (lo-i),H,I1,⟨t,?_⟩,⟨rfl,rfl⟩,st',fun b hb=>(hf b hb).1⟩⟩
  congr 1
  omega
 done:=by
  intro X hP hw hK hc i Kp s σ H E I hf st hg;subst hP hw hK;obtain⟨f0,f1,f2,f3,f4,f5⟩:=hf it (by simp);exact wpAny_pyNext_range_end (I.ok.hd hc) st (by have:n<=i:=hg;omega) fun h' eb=>⟨rfl,I.turned (t':=s.toks) (fun b o hb e=>eb b o hb e) f0 f1 f3 f4 f5⟩
 self:=fun _ _ _ _ _ st h=>wpAny_pyIter_rangeiter st h
theorem QC(a b:Int):Builtin.Range.rangeSize a b (-1)=if a>b then a-b else 0:=by
 unfold Builtin.Range.rangeSize;simp only[show ¬ (-1:Int)>0 by decide,zzN,Int.neg_neg,Int.ediv_one];split<;>omega
theorem ag2{a b:Int}(ha:-1000000<=a)(ha':a<1000000)(hb:-1000000<=b)(hb':b<1000000):Builtin.Range.small a b (-1)=true:=by
 unfold Builtin.Range.small;rw[QC];simp only[Builtin.Range.rangeFitsLong,Bool.and_eq_true,Bool.or_eq_true,decide_eq_true_eq,beq_iff_eq,show ¬ (-1:Int)>0 by decide,zzN];split<;>omega
noncomputable def aqB(ta:TA):TI:=fun σ H R=>ta σ H fun vs H1=>∃i j:Int,vs=[.int i,.int j,.int (-1)]/\(-1000000<=i/\i<1000000/\-1000000<=j/\j<1000000)/\R (aqA i (i-j).toNat) H1
theorem ajm{ta:TA}{p pos:Pos}(hg:Gl X "range")(hm:X.mg "range"=none)(ha:PA X [a,b,c] ta)(hs:starEach [a,b,c] X.env=[(false,eval a X.env),(false,eval b X.env),(false,eval c X.env)]:=by rfl)(hs2:starEach [b,c] X.env=[(false,eval b X.env),(false,eval c X.env)]:=by rfl):
  PI X tg (.Call (.Name "range" p) [a,b,c] [] pos) (aqB ta):=by
 intro Kp s σ H R I h;refine Call_ (Zr I hg hm boot_range (PyProof.Rows.callWith_type1 (thn (ha pos Kp s σ H _ I h) fun us s1 ⟨vs,H1,I1,r1,q1⟩=>?_) (by rw[hs,hs2]) (by rw[hs2];rfl)));obtain⟨i,j,e,⟨q1,q2,q3,q4⟩,q⟩:=q1;subst e;cases r1 with
 | cons r rr=>
  cases rr with
  | cons r' rr=>
   cases rr with
   | cons r'' rr=>
    cases rr;obtain⟨t,rfl⟩:=r;obtain⟨t',rfl⟩:=r';obtain⟨t'',rfl⟩:=r'';refine PySem.call_range_3 (by decide) ?_ (Or.inl (PyProof.noPylong_small (by decide)));refine wpAny_pyIter_range (IsRange.new ..) (ag2 q1 q2 q3 q4) ?_;have I2:Inv X Kp σ H1 { s1 with heap:=s1.heap.push { cls:= .type "range",data:= .fields #[.int i t,.int j t',.int (-1) t''] },toks:=s1.toks }:=I1.kept fun b o e=>Heap.get?_push_of_some _ e
    refine⟨(s1.heap.push { cls:= .type "range",data:= .fields #[.int i t,.int j t',.int (-1) t''] }).objs.size,[(s1.heap.push { cls:= .type "range",data:= .fields #[.int i t,.int j t',.int (-1) t''] }).objs.size],_,_,H1,rfl,
     I2.kept (t':=s1.toks) fun b o e=>Heap.get?_push_of_some _ e,afH _ i (i - j).toNat,?_,fun b hb=>?_,q⟩
    ·have e1:i+((0:Nat):Int)*(-1)=i:=by simp
     have e2:(((i-j).toNat:Nat):Int)-((0:Nat):Int)=Builtin.Range.rangeSize i j (-1):=by rw[QC];split<;>omega
     show IsRangeIter _ _ (i+((0:Nat):Int)*(-1)) ((((i-j).toNat:Nat):Int)-((0:Nat):Int)) (-1);rw[e1,e2];exact Heap.get?_push_size _ rfl
    ·have e:b=(s1.heap.push { cls:= .type "range",data:= .fields #[.int i t,.int j t',.int (-1) t''] }).objs.size:=by simpa using hb
     subst e;exact I2.fpOk (Nat.le_refl _) (I2.hok.fresh (Nat.le_refl _))
noncomputable def ah8(lo:Int)(n:Nat):LP:=(List.range n).map fun (k:Nat)=>PyData.int (lo-(k:Int))
noncomputable def ag3(ds:LP):Option (LP):=match ds with
 | [.int i,.int j,.int c]=>if c=-1/\-1000000<=i/\i<1000000/\-1000000<=j/\j<1000000 then some (ah8 i (i-j).toNat) else none
 |_=>none
theorem Qf{p pos:Pos}{fr:Rho->Option (LP)}(hg:Gl X "range")(hm:X.mg "range"=none)(ha:PAD X [a,b,c] fr)(hs:starEach [a,b,c] X.env=[(false,eval a X.env),(false,eval b X.env),(false,eval c X.env)]:=by rfl)(hs2:starEach [b,c] X.env=[(false,eval b X.env),(false,eval c X.env)]:=by rfl):
  PID X tg (.Call (.Name "range" p) [a,b,c] [] pos) (fun ρ=>(fr ρ).bind ag3):=by
 with_unfolding_all
  refine PI.imp (ajm hg hm ha hs hs2) fun σ H R ⟨ρ,ds,en,q,k⟩=>?_;cases h1:fr ρ with
  |none=>simp[h1]at q
  | some as=>
   have q':ag3 as=some ds:=by simpa[h1]using q
   refine⟨ρ,as,en,h1,fun vs H1 s1 r1=>?_⟩;unfold ag3 at q';split at q'
   ·rename_i i j cc
    split at q'
    ·rename_i hj
     cases q';obtain⟨rfl,hj⟩:=hj;obtain⟨x,r,e1,e2,y,r',e3,e4,z,r'',e5,e6,e7⟩:=r1;cases (show x=V.int i from e2);cases (show y=V.int j from e4);cases (show z=V.int (-1) from e6);cases (show r''=[] from e7);subst e5;subst e3;refine⟨i,j,e1,hj,k _ H1 s1 fun n H2 s2=>?_⟩;have hl:(ah8 i (i-j).toNat).length=(i-j).toNat:=by simp[ah8]
     refine⟨fun hi=>by rw[hl]at hi;exact hi,fun hi=>by rw[hl]at hi;exact hi,fun x H' y=>?_⟩;obtain⟨z1,z2⟩:=y;subst z1;refine⟨jm.refl _,fun d hd=>?_⟩
     have hi:n<(i-j).toNat:=by
      have:=(List.getElem?_eq_some_iff.mp hd).1;rw[hl]at this;exact this
     have:d= .int (i-n):=by
      simp[ah8,hi]at hd;exact hd.symm
     subst this;exact z2
    ·cases q'
   ·cases q'
noncomputable def ag4(fa fb:RP):RP:=fun ρ=>(fa ρ).bind fun x=>(asB x).bind fun t=>if t=true then fb ρ else some (.bool false)
theorem akY{op:BoolOp}(ha:PD X a fa):PD X (.BoolOp op [a] pos) fa:=by
 with_unfolding_all exact(aoy ha)
theorem akZ(ha:PD X a fa)(hb:PD X (.BoolOp .And (b::j8) pos) fb):PD X (.BoolOp .And (a::b::j8) pos) (ag4 fa fb):=by
 with_unfolding_all
  refine PE.imp (aoz ha hb) fun σ H Q ⟨ρ,d,en,h,k⟩=>?_;cases h1:fa ρ with
  |none=>simp[ag4,h1]at h
  | some x=>
   cases h2:asB x with
   |none=>simp[ag4,h1,h2]at h
   | some t=>
    have hx:=JG h2;subst hx;refine⟨ρ,_,en,h1,fun v H1 s1 r1=>⟨t,r1,?_⟩⟩;cases t with
    |true=>rw[if_pos rfl];exact⟨ρ,d,en.mono s1,by simpa[ag4,h1,h2]using h,fun v H2 s2 r2=>k v H2 (s1.trans s2) r2⟩
    | false=>
     rw[if_neg Bool.false_ne_true];have:PyData.bool false=d:=by simpa[ag4,h1,h2]using h
     subst this;exact k _ H1 s1 rfl
noncomputable def aqC:PyData->Bool
 |.none=>true
 |_=>false
theorem ak0{K:Fg}{H:Hp}{p:PyData}{x:V}(r:Rep K H p x):decide (x= .non)=aqC p:=by
 cases p with
 |none=>cases (show x= .non from r);rfl
 |bool b=>cases (show x=_ from r);rfl
 |int b=>cases (show x=_ from r);rfl
 |str b=>cases (show x=_ from r);rfl
 |tuple ds=>obtain⟨a,xs,h,_⟩:=r;subst h;rfl
 |list ds=>obtain⟨a,xs,h,_⟩:=r;subst h;rfl
 |dict ds=>obtain⟨a,h,_⟩:=r;subst h;rfl
noncomputable def ah9(p q:PyData):OP:=match q with
 |.none=>some (.bool (!aqC p))
 |_=>none
theorem ak1:OpD X (compareOp .IsNot) ah9:=by
 refine⟨_,amA,fun p q d x y H Q h rx ry k=>?_⟩;unfold ah9 at h;split at h
 ·cases h
  exact⟨ry,by rw[ak0 rx];exact k _ H (jm.refl H) rfl⟩
 ·cases h
end
section
variable {X:Cx}{e a b c tg src:Expr}{es:List Expr}{fa fb fc:RP}{pos:Pos}
noncomputable def aqD:V->List V->Hp->VK->Prop:=fun x vs H Q=>∃l xs y,x= .ref l/\vs=[.int 0,y]/\H l=some (.lst xs)/\xs.length<sizeLine/\Q .non (upd H l (.lst (y::xs)))
theorem ag5:MtM X "list.insert" aqD:=by
 intro Kp s σ H x vs v us Q I rx rv h;obtain⟨l,xs,y,rfl,rfl,hH,hz,q⟩:=h;cases rx;cases rv with
 | cons r0 rv=>
  obtain⟨t,rfl⟩:=r0;obtain⟨u,rfl,ru⟩:=jB.one rv;obtain⟨z,its,n,r,hl,e⟩:=I.lstM hH;refine call_meets F.slot_list_insert ⟨_,e,rfl⟩ F.entry_list_insert (F.args_list_insert_3 _ _ _) (AutoSeq1.list_insert_list_int_val_1 l its.toArray n 0 t u (by decide) (by rw[List.size_toArray];omega)) ⟨e,?_⟩;refine⟨.non,_,I.lset (its':=u::its) (t':=s.toks) hH e ?_ (.cons ru r) ?_,rfl,q⟩
  ·simp
  ·rw[List.length_cons];omega
noncomputable def anf(c z d:OP):OP:=match c,z,d with
 |some (.list ds),some (.int 0),some d=>if noL d=true/\ds.length<1000000 then some (.list (d::ds)) else none
 |_,_,_=>none
noncomputable def aqE(i:Nat)(fz fa:RP):RP:=fun ρ=>anf (lkp i ρ) (fz ρ) (fa ρ)
theorem ak2{c z d:OP}{r:PyData}(h:anf c z d=some r):∃ds x,c=some (.list ds)/\z=some (.int 0)/\d=some x/\noL x=true/\ds.length<1000000/\r= .list (x::ds):=by
 unfold anf at h;split at h
 ·split at h
  ·rename_i hc
   cases h;exact⟨_,_,rfl,rfl,rfl,hc.1,hc.2,rfl⟩
  ·cases h
 ·cases h
theorem ag6(i:Nat){x:Str}{p1 apos cpos:Pos}{fz:RP}(hz:PD X b fz)(h:PD X e fa)(hN:X.N[i]?=some x:=by rfl)(hv:Vis X.env.scope x:=by first|exact Or.inl rfl|exact Or.inr (Or.inl rfl)|exact Or.inr (Or.inr rfl))(hd:(x==("__debug__":Str))=false:=by decide)
  (hcd:(x==("__classdict__":Str))=false:=by decide) (hbase:attributeBase (.Name x p1) "insert" X.env (eval (.Name x p1) X.env)=eval (.Name x p1) X.env:=by rfl)
  (hfew:((backTo cpos (starEach [b,e] X.env)).all (fun x=>!x.1)&&(backToKw cpos (keywordEach [] X.env)).all (fun x=>x.1.isSome)&&decide ([b,e].length+([]:List Keyword).length+(if ([]:List Keyword).isEmpty then 0 else 1)<30))=true:=by rfl)
  (hline:(apos.endLine==cpos.line)=true:=by rfl) (hs:starEach [b,e] X.env=(false,eval b X.env)::starEach [e] X.env:=by rfl) (hs2:starEach [e] X.env=(false,eval e X.env)::starEach [] X.env:=by rfl) (hplain:(backTo cpos (starEach [e] X.env)).any (·.1)=false:=by rfl):
  PE X (.Call (.Attribute (.Name x p1) "insert" apos) [b,e] [] cpos) (apf X.prog X.w X.K i (aqE i fz fa)):=by
 with_unfolding_all
  intro Kp s σ H Q I ⟨Hs,ρ,d',E,hg,k⟩;obtain⟨ds,d,q1,q0,q2,hn,hl,rfl⟩:=ak2 hg;obtain⟨a,xs,g2,g3,g4,g5,env⟩:=E.opnL (qP q1);have hlen:=g5.length;have W:=akm (X:=X) (cpos:=cpos) (apos:=apos) PySem.F.plainAttrs_list PySem.F.slot_list_insert PySem.F.type_list_insert ag5 (abN hN hv hd hcd) (zd hz (zd h J1 hs2) hs) hbase hfew hline hs hplain
  refine thn (W Kp s σ (upd H a (.lst xs)) (fun v H4=>∃H3 y,v= .non/\H4=upd H3 a (.lst (y::xs))/\jm (upd H a (.lst xs)) H3/\Rep X.K H3 d y) (Inv.opened I (.l xs) g4)
   ⟨.ref a,g2,.inl ⟨rfl,_,SqL.of jr⟩,ρ,.int 0,env,q0,fun y0 H2 s2 r2=>⟨ρ,d,env.mono s2,q2,fun y H3 s3 r3=>?_⟩⟩) fun u s1 ⟨v,H4,I4,r,H3,y,e1,e2,s3,r3⟩=>?_
  ·cases (show y0=V.int 0 from r2)
   exact⟨a,xs,y,rfl,rfl,s3 _ _ (s2 _ _ jr),by rw[hlen];exact Zu hl,H3,y,rfl,rfl,s2.trans s3,r3⟩
  subst e1;have e4:H4 a=some (.lst (y::xs)):=by rw[e2];exact jr
  have sb:∀b u,b≠a->H b=some u->H4 b=some u:=fun b u n q=>by rw[e2,jn n];exact s3 b u (by rw[jn n];exact q)
  refine⟨.non,upd H4 a (Qp a (y::xs)),Inv.closed I4 (.l _) e4 (Inv.nofrz I g4),r,k _ (E.put (qP q1) g2 g3 g4 sb ⟨y::xs,jr,?_⟩)⟩
  have s5:jR H (upd H4 a (Qp a (y::xs))):=fun b u q m=>by
   have:b≠a:=fun z=>by subst z;rw[g4]at q;cases q;exact m _ rfl
   rw[jn this];exact sb b u this q
  have s6:zn H3 (upd H4 a (Qp a (y::xs))):=fun b u q m=>by
   have e3:H3 a=some (.lst xs):=s3 _ _ jr;have:b≠a:=fun z=>by subst z;rw[e3]at q;cases q;exact m _ rfl
   rw[jn this,e2,jn this];exact q
  exact⟨y,xs,rfl,Rep.monoN s6 _ _ hn r3,Reps.monoE s5 _ _ g5⟩
end
section
variable {X:Cx}{e a b c tg src:Expr}{es:List Expr}{fa fb fc:RP}{pos:Pos}
theorem Reps.set{K:Fg}{H:Hp}{d:PyData}{v:V}(r:Rep K H d v):∀{ds:LP}{xs:List V} (j:Nat),Reps K H ds xs->Reps K H (ds.set j d) (xs.set j v)
 | [],xs,j,h=>by cases (show xs=[] from h);exact rfl
 |_::ds,xs,0,⟨x,q,h1,h2,h3⟩=>by subst h1;exact⟨v,q,rfl,r,h3⟩
 |_::ds,xs,j+1,⟨x,q,h1,h2,h3⟩=>by subst h1;exact⟨x,_,rfl,h2,Reps.set r j h3⟩
noncomputable def ag7(ds:LP):OP:=match ds with
 | [.list xs]=>some (.tuple xs)
 | [.tuple xs]=>some (.tuple xs)
 |_=>none
theorem ak3:Zo X (.type "tuple") ag7:=by
 refine⟨_,acZ,fun ds d xs H Q h r k=>?_⟩;unfold ag7 at h;split at h
 ·cases h
  obtain⟨x,q,e1,e2,e3⟩:=r;cases (show q=[] from e3);obtain⟨a,us,g1,g2,g3⟩:=e2;subst g1;refine⟨a,us,e1,.inl ⟨SqL.of g2,fun l hl=>?_⟩⟩;have s1:=jI (o:= .tup us) hl;exact k _ _ s1 ⟨l,us,rfl,SqT.of jr,Reps.mono s1 _ _ g3⟩
 ·cases h
  obtain⟨x,q,e1,e2,e3⟩:=r;cases (show q=[] from e3);obtain⟨a,us,g1,g2,g3⟩:=e2;subst g1;exact⟨a,us,e1,.inr ⟨g2,k _ H (jm.refl H) ⟨a,us,rfl,g2,g3⟩⟩⟩
 ·cases h
end
section
variable {X:Cx}{e a b c:Expr}{fa fb fc:RP}{pos p2:Pos}
noncomputable def aep(ds:LP)(lo hi:Option Int):LP:=(ds.drop (HT.sIx ds.length 0 lo)).take (HT.sIx ds.length ds.length hi-HT.sIx ds.length 0 lo)
noncomputable def inI:PyData->Option Int
 |.int i=>some i
 |_=>none
theorem afI{d:PyData}{i:Int}(h:inI d=some i):d= .int i:=by cases d<;>simp[inI]at h;rw[h]
end
section
variable {prog:Program}{w:World}{A:Around}{E:Value->SP0}{s:Shared}
noncomputable def ItA(g:Bool)(h:Heap)(i t:Addr)(k:Nat):Prop:=match g with
 |true=>h.IsListIter i t k
 |false=>h.IsTupleIter i t k
noncomputable def SrA(g:Bool)(h:Heap)(t:Addr)(xs:Array Value):Prop:=match g with
 |true=>h.IsList t xs
 |false=>h.IsTuple t xs
theorem ItA.to{g:Bool}{h h':Heap}{i t:Addr}{k:Nat}(x:ItA g h i t k)(kp:∀o,h.get? i=some o->h'.get? i=some o):ItA g h' i t k:=by
 cases g<;>exact(let ⟨o,e,r⟩:=x;⟨o,kp o e,r⟩)
theorem SrA.to{g:Bool}{h h':Heap}{t:Addr}{xs:Array Value}(x:SrA g h t xs)(kp:∀o,h.get? t=some o->h'.get? t=some o):SrA g h' t xs:=by
 cases g<;>exact(let ⟨o,e,r⟩:=x;⟨o,kp o e,r⟩)
theorem ItA.extBut{g:Bool}{h h':Heap}{i t b:Addr}{k:Nat}(x:ItA g h i t k)(e:Heap.ExtBut b h h')(n:i≠b):ItA g h' i t k:=x.to fun o q=>e i o n q
theorem SrA.extBut{g:Bool}{h h':Heap}{t b:Addr}{xs:Array Value}(x:SrA g h t xs)(e:Heap.ExtBut b h h')(n:t≠b):SrA g h' t xs:=x.to fun o q=>e t o n q
theorem ItA.obj{g:Bool}{h:Heap}{i t:Addr}{k:Nat}(x:ItA g h i t k):∃o vs,h.get? i=some o/\o.data= .fields vs:=by
 cases g<;>exact(let ⟨o,e,_,d⟩:=x;⟨o,_,e,d⟩)
structure Apart2(z TI TO i1 i2 t1 t2:Addr):Prop where
 nd:[z,TO,i1,i2].Nodup
 ti:TI∉[z,TO,i1,i2]
 s1:t1∉[z,TO,i1,i2]
 s2:t2∉[z,TO,i1,i2]
structure Zip2(ga gb:Bool)(h:Heap)(z TI TO i1 i2 t1 t2:Addr)(f0:Value)(k:Nat):Prop where
 hz:IsZip h z TI TO f0
 hTI:IsPair h TI (.ref i1) (.ref i2)
 hTO:∃a b,IsPair h TO a b
 g1:ItA ga h i1 t1 k
 g2:ItA gb h i2 t2 k
theorem Zip2.keep{ga gb:Bool}{h h':Heap}{z TI TO i1 i2 t1 t2:Addr}{f0:Value}{k:Nat}(S:Zip2 ga gb h z TI TO i1 i2 t1 t2 f0 k)(kp:∀b∈[z,TI,TO,i1,i2],∀o,h.get? b=some o->h'.get? b=some o):
  Zip2 ga gb h' z TI TO i1 i2 t1 t2 f0 k:=by
 obtain⟨hz,hTI,⟨a,b,hTO⟩,g1,g2⟩:=S;exact⟨kp z (by simp) _ hz,kp TI (by simp) _ hTI,⟨a,b,kp TO (by simp) _ hTO⟩,g1.to (kp i1 (by simp)),g2.to (kp i2 (by simp))⟩
end
noncomputable def Sq(g:Bool)(K:Fg)(H:Hp)(t:Addr)(xs:List V):Prop:=match g with
 |true=>SqL K H t xs
 |false=>SqT K H t xs
theorem Sq.inj{g:Bool}{X:Cx}{Kp:List (Addr×Obj)}{σ:St}{H:Hp}{s:Shared}{a:Addr}{xs ys:List V}(I:Inv X Kp σ H s)(q:Sq g X.K H a xs)(q':Sq g X.K H a ys):xs=ys:=by
 cases g with
 |true=>exact I.list_inj q q'
 |false=>exact I.tuple_inj q q'
theorem Sq.monoE{g:Bool}{K:Fg}{H H':Hp}{a:Addr}{xs:List V}(e:jR H H')(h:Sq g K H a xs):Sq g K H' a xs:=by
 cases g with
 |true=>exact jR.sql e h
 |false=>exact jR.tup e h
theorem Sq.monoA{g:Bool}{K:Fg}{H H':Hp}{a:Addr}{xs:List V}(e:j6 H H')(h:Sq g K H a xs):Sq g K H' a xs:=by
 cases g with
 |true=>exact j6.sql e h
 |false=>exact j6.tup e h
theorem Sq.at{g:Bool}{K:Fg}{H:Hp}{a:Addr}{xs:List V}(h:Sq g K H a xs):(∃u,H a=some u)∨∃o,K.lookup a=some o:=by
 cases g with
 |true=>rcases h with (e | ⟨o,e⟩) | ⟨o,its,n,hk,_⟩<;>first|exact .inl ⟨_,e⟩|exact .inr ⟨_,hk⟩
 |false=>rcases h with (e | ⟨o,e⟩) | ⟨o,its,n,hk,_⟩<;>first|exact .inl ⟨_,e⟩|exact .inr ⟨_,hk⟩
section
variable {X:Cx}
end
section
variable {X:Cx}{e a b c:Expr}{fa fb fc:RP}{pos p2:Pos}
theorem QP:∀{is:List Int}{us:List Value},jB (is.map V.int) us->∀(j:Nat) (i:Int),is[j]?=some i->∃t,us[j]?=some (.int i t)
 | [],us,r,j,i,h=>by simp at h
 | i0::is,u::us,.cons r rr,j,i,h=>by
  cases j with
  |zero=>cases h;obtain⟨t,rfl⟩:=r;exact⟨t,rfl⟩
  |succ j=>exact QP rr j i (by simpa using h)
end
structure OneCell(sc:Scope)(y0:Str)(pre post:List (Str×NameKind)):Prop where
 split:sc.names=pre++(y0,.cell)::post
 pre:∀x∈pre,x.2 ≠ .cell
 post:∀x∈post,x.2 ≠ .cell
structure CompOk1(X:Cx)(sc:Scope)(N':List Str)(cap:List (Option Nat))(y0:Str):Prop where
 fr:∀x∈sc.names,x.2= .free->X.env.kindOf x.1=some .cell∨X.env.kindOf x.1=some .free
 one:∃pre post,OneCell sc y0 pre post
 lk:sc.names.lookup y0=some .cell
 kind:sc.kind= .function
 nm:∀x∈sc.names,x.2= .local->sc.names.lookup x.1=some .local
 len:cap.length=N'.length
 cp:∀(j i:Nat) (x:Str),N'[j]?=some x->cap[j]?=some (some i)->X.N[i]?=some x/\sc.names.lookup x=some .free
section
variable {X:Cx}{e:Expr}{fa:RP}
end
section
variable {X:Cx}{tg src:Expr}{pos pos':Pos}
end
structure Mine(X:Cx)(H:Hp)(b:Addr):Prop where
 un:H b=none
 new:X.s₀.heap.get? b=none
 loc:b≠X.env.locals
 cel:∀x c,X.env.cells.lookup x=some c->c≠b
 pin:∀p∈X.pn,p.1≠b
structure Xc(X:Cx)(H:Hp)(h:Heap)(e C:Addr):Prop where
 mine:Mine X H e
 ob:∃oe vs,h.get? e=some oe/\(oe.cls= .ref C/\oe.dict=none/\vs[2]?=some .none)/\oe.data= .fields vs/\1<vs.size/\
  (vs[1]?=some .none∨∃T oT ts,vs[1]?=some (.ref T)/\T≠e/\Mine X H T/\h.get? T=some oT/\oT.data= .fields ts/\3<ts.size)
theorem Inv.exIn{X:Cx}{Kp:List (Addr×Obj)}{σ:St}{H:Hp}{s:Shared}{ch:List Addr}(I:Inv X Kp σ H s)(hn:∀b∈ch,X.s₀.heap.get? b=none/\b≠X.env.locals/\∀x c,X.env.cells.lookup x=some c->c≠b):Inv { X with ex:=ch++X.ex } Kp σ H s:=by
 have no:∀b,b∉ch++X.ex->b∉X.ex:=fun b h z=>h (List.mem_append_right _ z)
 refine⟨⟨I.ok.mod,I.ok.kind,I.ok.glob,I.ok.blt,I.ok.above,I.ok.inj,I.ok.has,I.ok.cab,I.ok.hd,I.ok.frames,I.ok.stk,fun b hb=>?_,I.ok.bs,I.ok.bsz,fun b o e hb=>?_,fun b hb z=>?_,I.ok.funs,I.ok.frf⟩,I.os,I.bare,
  ⟨fun b o e n hf hx=>I.base.keep b o e n hf (no b hx),fun b o e n hf hx=>I.base.slot b o e n hf (no b hx),fun b o e n hx=>I.base.free b o e n (no b hx),fun b o e hx=>I.base.there b o e (no b hx),I.base.tups,I.base.frzs,I.base.tbls⟩,I.loc,I.cell,I.free,I.freeC,I.pin,I.hok,I.len⟩
 ·rcases List.mem_append.mp hb with q | q
  ·exact(hn b q).2
  ·exact I.ok.exf b q
 ·rcases List.mem_append.mp hb with q | q
  ·have:=(I.ok.bs b o e).1
   rw[(hn b q).1]at this;cases this
  ·exact I.ok.noex b o e q
 ·rcases List.mem_append.mp hb with q | q
  ·obtain⟨_,o,ho,_⟩:=I.ok.funs.mem z
   rw[(hn b q).1]at ho;cases ho
  ·exact I.ok.exfs b q z
theorem Inv.exOut{X:Cx}{Kp:List (Addr×Obj)}{σ:St}{H:Hp}{s:Shared}{ch:List Addr}(I:Inv { X with ex:=ch++X.ex } Kp σ H s)(ok:X.Ok)(hn:∀b∈ch,X.s₀.heap.get? b=none):Inv X Kp σ H s:=by
 have no:∀b o,X.s₀.heap.get? b=some o->b∉X.ex->b∉ch++X.ex:=fun b o e h z=>by
  rcases List.mem_append.mp z with q | q
  ·rw[hn b q]at e;cases e
  ·exact h q
 exact⟨ok,I.os,I.bare,⟨fun b o e n hf hx=>I.base.keep b o e n hf (no b o e hx),fun b o e n hf hx=>I.base.slot b o e n hf (no b o e hx),fun b o e n hx=>I.base.free b o e n (no b o e hx),fun b o e hx=>I.base.there b o e (no b o e hx),I.base.tups,I.base.frzs,I.base.tbls⟩,I.loc,I.cell,I.free,I.freeC,I.pin,I.hok,I.len⟩
section
variable {X:Cx}{σ:St}{H:Hp}{s:Shared}{h':Heap}{e C:Addr}{E:Value->SP0}{A:Around}
theorem Inv.shake{ch:List Addr}(I:Inv X [] σ H s)(hm:∀b∈ch,Mine X H b)(keep:∀b o,b∉frs X.stack->b∉ch->s.heap.get? b=some o->h'.get? b=some o)
  (slot:∀b o,b∈frs X.stack->b∉ch->s.heap.get? b=some o->∃sl,h'.get? b=some { o with slots:=sl }):Inv X [] σ H { s with heap:=h' }:=by
 have u:Un (frs X.stack) ch H H s.heap h':=⟨fun b o q _ nf nc=>keep b o nf nc q,fun b o q _ hf nc=>slot b o hf nc q,fun _ _ _ n _=>n,fun b o q nc=>by
  by_cases hf:b ∈ frs X.stack
  ·obtain ⟨sl,z⟩:=slot b o hf nc q; exact ⟨_,z⟩
  ·exact ⟨o,keep b o hf nc q⟩,fun _ _ q=>q,fun _ _ _ q=>q,fun _ ps q=>⟨#[],by rw [q]; simp⟩⟩
 have hok:HOk X.prog X.w H h':=fun b o q=>(I.hok b o q).stay (fun c v hc r=>by
  have hb:H c ≠ none:=by
   rcases hc with rfl | hc
   ·rw [q]; exact fun z=>nomatch z
   ·rw [hc]; exact fun z=>nomatch z
  exact keep c v (fun z=>hb (I.stkFree c z)) (fun z=>hb (hm c z).un) r) (fun _ r=>r) fun _ _ r=>r
 exact Inv.exOut (Inv.call (X:={ X with ex:=ch++X.ex }) (g':=s.gens) (d':=s.drawn) (t':=s.toks) (Inv.exIn I fun b hb=>⟨(hm b hb).new,(hm b hb).loc,(hm b hb).cel⟩) u hok I.bare fun b hb=>⟨.inl (List.mem_append_left _ hb),(hm b hb).loc,(hm b hb).cel,fun p hp=>(hm b hb).pin p (by simpa using hp)⟩) I.ok fun b hb=>(hm b hb).new
structure XcT(X:Cx)(H:Hp)(h:Heap)(e C:Addr):Prop where
 mine:Mine X H e
 ob:∃oe vs T oT ts,h.get? e=some oe/\(oe.cls= .ref C/\oe.dict=none/\vs[2]?=some .none)/\oe.data= .fields vs/\vs[1]?=some (.ref T)/\T≠e/\Mine X H T/\h.get? T=some oT/\oT.data= .fields ts/\3<ts.size
theorem XcT.c{h:Heap}(x:XcT X H h e C):Xc X H h e C:=by
 obtain⟨oe,vs,T,oT,ts,h1,h2,h3,h4,h5,h6,h7,h8,h9⟩:=x.ob;exact⟨x.mine,oe,vs,h1,h2,h3,(Array.getElem?_eq_some_iff.mp h4).1,.inr ⟨T,oT,ts,h4,h5,h6,h7,h8,h9⟩⟩
structure Top0(X:Cx):Prop where
 st:X.stack=X.env::X.Ko
 fr:X.env.frame=some X.env.locals
 ex:X.ex=[]
theorem Mine.nofr{b:Addr}(m:Mine X H b)(I:Inv X [] σ H s):b∉frs X.stack:=fun z=>by
 rcases List.mem_cons.mp (I.stkSub b z)with q | q
 ·exact m.loc q
 ·obtain⟨_,o,ho,_⟩:=I.ok.funs.mem q
  rw[m.new]at ho;cases ho
theorem ang{P:Program}{w:World}{h:Heap}{b:Addr}{u:HO}(hok:HOk P w H h)(hH:H b=some u)(hb:h.get? b=none):False:=by
 have x:=hok b u hH;have no:∀{o:Obj},h.get? b=some o->False:=fun {o} q=>by rw[hb]at q;cases q
 cases u with
 |lst xs=>obtain⟨_,_,_,_,e⟩:=x;exact no e
 |tup xs=>obtain⟨_,_,_,⟨_,e,_⟩⟩:=x;exact no e
 |dK kvs=>obtain⟨_,_,_,_,o,_,_,e,_⟩:=x;exact no e
 |dT kvs=>obtain⟨_,_,_,_,o,_,_,e,_⟩:=x;exact no e
 |set S n=>obtain⟨o,_,_,_,e,_⟩:=x;exact no e
 |ins C dx fs=>obtain⟨_,_,_,e,_⟩:=x;exact no e
 |own y=>obtain⟨_,e⟩:=x;exact no e
 |xd fs=>obtain⟨_,⟨_,_,_,e,_⟩,_⟩:=x;exact no e
 |rng lo hi=>obtain⟨_,_,_,e⟩:=x;exact no e
 |frz ob u=>obtain⟨e,_⟩:=x;exact no e
 |tbl ps=>exact no (show h.get? b=some _ from x)
 |met f y=>exact no (show h.get? b=some _ from x)
 |ext φ=>obtain⟨_,⟨_,e⟩,_⟩:=x;exact no e
theorem ZP(hx:X.ex=[])(I:Inv X [] σ H s){b:Addr}(hb:s.heap.get? b=none):Mine X H b:=by
 have no:∀{o:Obj},s.heap.get? b=some o->False:=fun {o} q=>by rw[hb]at q;cases q
 refine⟨?_,?_,fun z=>?_,fun x c q z=>?_,fun p hp z=>?_⟩
 ·cases hH:H b with
  |none=>rfl
  |some u=>exact(ang I.hok hH hb).elim
 ·cases h0:X.s₀.heap.get? b with
  |none=>rfl
  | some o=>
   obtain⟨o',q⟩:=I.base.there b o h0 (by rw[hx];simp);exact(no q).elim
 ·subst z
  obtain⟨m,⟨o,_,_,ho,_⟩,_⟩:=I.loc;exact no ho
 ·obtain⟨v,o,ho,_⟩:=I.cell x c q
  subst z;exact no ho
 ·have:=(I.pin p (List.mem_append_left _ hp)).1
  rw[z]at this;exact no this
theorem afJ{oe:Obj}{vs:Array Value}{head:Value}{hadNext:Bool}(T0:Top0 X)(hA:A.frames=some X.stack)(I:Inv X [] σ H s)(me:Mine X H e)(he:s.heap.get? e=some oe)(hc:oe.cls= .ref C/\oe.dict=none/\vs[2]?=some .none)(hd:oe.data= .fields vs)(hsz:1<vs.size):
  wpAny (model X.prog X.w) A (do let a ←frameOf X.env;let pl ←entryPlaceOf X.env.locals hadNext;let b ←EntryCells.newEntry head a .none (rawInt X.env.locals) .none pl;setField (.ref e) 1 b) (fun _ s'=>Inv X [] σ H s'/\XcT X H s'.heap e C) E s:=by
 have hst:=T0.st;have hfn:=I.stack;rw[hst]at hfn hA
 have hene:e∉(X.env::X.Ko).filterMap (·.frame):=by
  have:=me.nofr I;rw[hst]at this;exact this
 refine wpAny_bind (wpAny_frameOf_fun hA hfn T0.fr fun h₁ hs₁=>?_);refine wpAny_bind (wpAny_entryPlaceOf fun pl hpl=>?_);unfold EntryCells.newEntry newFields;refine wpAny_bind (wpAny_newObj_type ?_ (hpl.sizeOk5 _ _ _ _ _));have he₁:h₁.get? e=some oe:=(hs₁.2.1 e hene).trans he;generalize hob:({ cls:= .type "traceback",dict:=none,data:= .fields ([head,Value.ref X.env.locals,.none,rawInt X.env.locals,.none]++(if pl.isEmpty then List.replicate 6 Value.none else pl)).toArray }:Obj)=ob;have obd:ob.data= .fields ([head,Value.ref X.env.locals,.none,rawInt X.env.locals,.none]++(if pl.isEmpty then List.replicate 6 Value.none else pl)).toArray:=by rw[←hob]
 have obf:ob.isFreed=false:=by rw[←hob];rfl
 have he₂:(h₁.push ob).get? e=some oe:=Heap.get?_push_of_some ob he₁;refine wpAny_setField he₂ hd hsz ?_;have hTe:h₁.objs.size≠e:=Nat.ne_of_gt (Heap.lt_size he₁);have hd₃:=Obj.data_mapFields hd (·.setIfInBounds 1 (Value.ref h₁.objs.size));have he₃:=Heap.get?_update_self (Obj.mapFields (·.setIfInBounds 1 (Value.ref h₁.objs.size))) he₂ (Obj.isFreed_of_fields hd₃);have hT₃:((h₁.push ob).update e (Obj.mapFields (·.setIfInBounds 1 (Value.ref h₁.objs.size)))).get? h₁.objs.size=some ob:=(Heap.get?_update_other _ _ (Ne.symm hTe)).trans (Heap.get?_push_size h₁ obf)
 have keep:∀b o,b≠e->h₁.get? b=some o->((h₁.push ob).update e (Obj.mapFields (·.setIfInBounds 1 (Value.ref h₁.objs.size)))).get? b=some o:=fun b o hb q=>by
  rw[Heap.get?_update_other _ _ (Ne.symm hb)];exact Heap.get?_push_of_some _ q
 have hfr:frs X.stack=(X.env::X.Ko).filterMap (·.frame):=by rw[hst];rfl
 have sz:h₁.objs.size=s.heap.objs.size:=hs₁.1
 have J:Inv X [] σ H { s with heap:=(h₁.push ob).update e (Obj.mapFields (·.setIfInBounds 1 (Value.ref h₁.objs.size))) }:=by
  refine Inv.shake (s:=s) (ch:=[e]) I (fun b hb=>by rw[List.mem_singleton.mp hb];exact me) (fun b o nf nc q=>keep b o (fun z=>nc (by simp[z])) ((hs₁.2.1 b (by rw[←hfr];exact nf)).trans q)) (fun b o _ nc q=>?_);obtain⟨sl,z⟩:=hs₁.2.2 b o q;exact⟨sl,keep b _ (fun w=>nc (by simp[w])) z⟩
 refine⟨J,me,_,_,h₁.objs.size,ob,_,he₃,?_,hd₃,by simp[hsz],hTe,?_,hT₃,obd,?_⟩
 ·rw[Obj.cls_mapFields];exact⟨hc.1,by unfold Obj.mapFields;split<;>exact hc.2.1,by rw[Array.getElem?_setIfInBounds_ne (by decide)];exact hc.2.2⟩
 ·exact ZP T0.ex I (Heap.get?_none_of_le (by rw[sz];exact Nat.le_refl _))
 ·simp only[List.size_toArray,List.length_append,List.length_cons,List.length_nil];omega
theorem aeq(T0:Top0 X)(hA:A.frames=some X.stack)(I:Inv X [] σ H s)(x:Xc X H s.heap e C):wpAny (model X.prog X.w) A (noteFrame (.ref e) X.env) (fun _ s'=>Inv X [] σ H s'/\XcT X H s'.heap e C) E s:=by
 obtain⟨oe,vs,he,hc,hd,hsz,hT⟩:=x.ob;unfold noteFrame;simp only[T0.fr];rcases hT with h1 | ⟨T,oT,ts,h1,hTe,mT,hT,hdT,h3⟩
 ·refine wpAny_bind (wpAny_field he hd h1 ?_)
  rw[if_neg (by decide)];exact afJ T0 hA I x.mine he hc hd hsz
 ·refine wpAny_bind (wpAny_field he hd h1 ?_)
  rw[if_pos (show(Value.ref T != Value.none)=true from by simp)];refine wpAny_bind (wpAny_field hT hdT (x:=ts[3]) (by simp[h3]) ?_);by_cases hq:(ts[3]==rawInt X.env.locals)=true
  ·rw[if_pos hq]
   exact wpAny_pure ⟨I,x.mine,oe,vs,T,oT,ts,he,hc,hd,h1,hTe,mT,hT,hdT,h3⟩
  ·rw[if_neg hq]
   refine wpAny_bind (wpAny_setField hT hdT h3 ?_);have other:∀b,b≠T->(s.heap.update T (Obj.mapFields (·.setIfInBounds 3 Value.none))).get? b=s.heap.get? b:=fun b hb=>Heap.get?_update_other _ _ (Ne.symm hb)
   have J:Inv X [] σ H { s with heap:=s.heap.update T (Obj.mapFields (·.setIfInBounds 3 Value.none)) }:=
    Inv.shake (s:=s) (ch:=[T]) I (fun b hb=>by rw[List.mem_singleton.mp hb];exact mT) (fun b o _ nc q=>(other b fun z=>nc (by simp[z])).trans q) fun b o _ nc q=>⟨o.slots,(other b fun z=>nc (by simp[z])).trans q⟩
   exact afJ (s:={ s with heap:=s.heap.update T (Obj.mapFields (·.setIfInBounds 3 Value.none)) }) T0 hA J x.mine ((other e (Ne.symm hTe)).trans he) hc hd hsz
theorem JM(fl:Option Addr)(I:Inv X [] σ H s)(x:XcT X H s.heap e C):wpAny (model X.prog X.w) A (setFlight (.ref e) fl) (fun _ s'=>Inv X [] σ H s'/\XcT X H s'.heap e C) E s:=by
 obtain⟨oe,vs,T,oT,ts,he,hc,hd,h1,hTe,mT,hT,hdT,h3⟩:=x.ob;unfold setFlight;refine wpAny_bind (wpAny_field he hd h1 ?_);rw[if_pos (show(Value.ref T != Value.none)=true from by simp)];refine wpAny_setField hT hdT h3 ?_;have other:∀b,b≠T->(s.heap.update T (Obj.mapFields (·.setIfInBounds 3 (fl.elim Value.none fun f=>rawInt f)))).get? b=s.heap.get? b:=fun b hb=>Heap.get?_update_other _ _ (Ne.symm hb)
 have J:Inv X [] σ H { s with heap:=s.heap.update T (Obj.mapFields (·.setIfInBounds 3 (fl.elim Value.none fun f=>rawInt f))) }:=
  Inv.shake (s:=s) (ch:=[T]) I (fun b hb=>by rw[List.mem_singleton.mp hb];exact mT) (fun b o _ nc q=>(other b fun z=>nc (by simp[z])).trans q) fun b o _ nc q=>⟨o.slots,(other b fun z=>nc (by simp[z])).trans q⟩
 exact⟨J,x.mine,oe,vs,T,_,_,(other e (Ne.symm hTe)).trans he,hc,hd,h1,hTe,mT,Heap.get?_update_self _ hT (Obj.isFreed_of_fields (Obj.data_mapFields hdT _)),Obj.data_mapFields hdT _,by simpa using h3⟩
theorem art{P:Value->SP0}(T0:Top0 X)(hA:A.frames=some X.stack)(hP:∀e s,P e s->∃a C σ H,e= .ref a/\Inv X [] σ H s/\Xc X H s.heap a C/\∀s',Inv X [] σ H s'->XcT X H s'.heap a C->P e s'):PassesOwn (model X.prog X.w) A X.env P:=fun ev s' h=>by
 obtain⟨a,C,σ,H,rfl,I,x,back⟩:=hP ev s' h;refine wpAny_mono (aeq (E:=fun _ _=>False) T0 hA I x) (fun _ s2 ⟨I2,x2⟩=>?_) fun _ _ z=>z.elim;obtain⟨oe,vs,T,oT,ts,he,hc,hd,h1,r⟩:=id x2.ob;unfold cameBackBy;refine wpAny_bind (wpAny_field he hd h1 ?_);rw[if_neg (by simp)]
 first
  |exact wpAny_mono (JM (E:=fun _ _=>False) _ I2 x2) (fun _ s3 ⟨I3,x3⟩=>back s3 I3 x3) fun _ _ z=>z.elim
  |exact wpAny_bind (wpAny_pure (wpAny_mono (JM (E:=fun _ _=>False) _ I2 x2) (fun _ s3 ⟨I3,x3⟩=>back s3 I3 x3) fun _ _ z=>z.elim))
end
structure XcO(h0:Heap)(H:Hp)(h:Heap)(e C:Addr):Prop where
 un:H e=none
 new:h0.get? e=none
 ob:∃oe vs T oT ts,h.get? e=some oe/\(oe.cls= .ref C/\oe.dict=none/\vs[2]?=some .none)/\oe.data= .fields vs/\vs[1]?=some (.ref T)/\T≠e/\H T=none/\h0.get? T=none/\h.get? T=some oT/\oT.data= .fields ts/\3<ts.size
noncomputable def CXt(P:Program)(w:World):CXT:=fun Ko H s E ev s'=>∃e C H',ev= .ref e/\s'.os=s.os/\AllBare s'.gens/\Un (frs Ko) [] H H' s.heap s'.heap/\HOk P w H' s'.heap/\XcO s.heap H' s'.heap e C/\E (.ref C) none H'
section
variable {X:Cx}
theorem Xc.of(hx:X.ex=[]){Kp:List (Addr×Obj)}{σ:St}{H H':Hp}{s s':Shared}{e0 C:Addr}(I:Inv X Kp σ H s)(x:XcO s.heap H' s'.heap e0 C):Xc X H' s'.heap e0 C:=by
 have J:Inv X [] σ H s:=I.pins_of fun p hp=>nomatch hp
 obtain⟨oe,ws,T,oT,ts,h1,h2,h3,h4,h5,h6,h7,h8,h9,h10⟩:=x.ob;have m1:=ZP hx J x.new;have m2:=ZP hx J h7;exact⟨⟨x.un,m1.new,m1.loc,m1.cel,m1.pin⟩,oe,ws,h1,h2,h3,(Array.getElem?_eq_some_iff.mp h4).1,.inr ⟨T,oT,ts,h4,h5,⟨h6,m2.new,m2.loc,m2.cel,m2.pin⟩,h8,h9,h10⟩⟩
end
noncomputable def Thr(X:Cx)(H:Hp)(c:Str)(ev:Value)(s':Shared):Prop:=∃e C σ' H',ev= .ref e/\X.mg c=some (.ref C)/\Inv X [] σ' H' s'/\jm H H'/\Xc X H' s'.heap e C
theorem Thr.mono{X:Cx}{H H1:Hp}{c:Str}{ev:Value}{s':Shared}(s:jm H H1)(h:Thr X H1 c ev s'):Thr X H c ev s':=by
 obtain⟨e,C,σ',H',h1,h2,h3,h4,h5⟩:=h;exact⟨e,C,σ',H',h1,h2,h3,s.trans h4,h5⟩
@[irreducible] noncomputable def PDX(X:Cx)(e:Expr)(fx:Rho->Option Str):Prop:=∀(s:Shared) (σ:St) (H:Hp) (ρ:Rho) (c:Str),Inv X [] σ H s->EnvR X.K H ρ σ->fx ρ=some c->(∀ev s',Thr X H c ev s'->X.xe ev s')->wpAny (model X.prog X.w) X.A (eval e X.env) (fun _ _=>False) X.xe s
@[irreducible] noncomputable def PSX(X:Cx)(st:Stmt)(fx:Rho->Option Str):Prop:=∀(s:Shared) (σ:St) (H:Hp) (ρ:Rho) (c:Str),Inv X [] σ H s->EnvR X.K H ρ σ->fx ρ=some c->(∀ev s',Thr X H c ev s'->X.xe ev s')->wpAny (model X.prog X.w) X.A (exec st X.env) (fun _ _=>False) X.xe s
@[irreducible] noncomputable def abi(X:Cx)(sts:List Stmt)(fx:Rho->Option Str):Prop:=∀(s:Shared) (σ:St) (H:Hp) (ρ:Rho) (c:Str),Inv X [] σ H s->EnvR X.K H ρ σ->fx ρ=some c->(∀ev s',Thr X H c ev s'->X.xe ev s')->wpAny (model X.prog X.w) X.A (execs sts X.env) (fun _ _=>False) X.xe s
noncomputable def vB:List Value:=[.type "ValueError",.type "Exception",.type "BaseException",.type "object"]
noncomputable def afK(K:Fg)(mg:SV)(x:Str):Prop:=∃C,mg x=some (.ref C)/\PySem.W.excIn K C vB "ValueError.__new__"=true
theorem aia{K:Fg}{h:Heap}{C:Addr}(X:K.In h)(q:PySem.W.excIn K C vB "ValueError.__new__"=true):
  ∃bm N nm qn bs hdct sn sub ab col dd k0 k1 k2 k3 k5 mN,h.get? C=some (excClassObj nm qn C N bs bm hdct sn sub ab col dd k0 k1 k2 k3 k5 "ValueError.__new__")/\h.Ns N mN/\mN "__init__"=none/\OwnTail h vB bm:=by
 unfold PySem.W.excIn at q;split at q
 ·rename_i dd cd sl ho
  split at q
  ·rename_i C' bm k0 k1 k2 k3 n k5 hm hs
   simp only[Bool.and_eq_true,beq_iff_eq,Bool.not_eq_true']at q;obtain⟨⟨⟨⟨⟨rfl,rfl⟩,hdel⟩,ht⟩,hok⟩,hni⟩:=q;obtain⟨nm,bs,mro,ns,qn,hd,sn,sub,ab,col,del⟩:=cd;dsimp only at hm hdel hok hni;subst hm hdel
   have hsl:sl=#[k0,k1,k2,k3,some (.builtin "ValueError.__new__"),k5]:=by
    obtain⟨l⟩:=sl;simp only at hs;rw[hs]
   subst hsl;exact⟨bm,ns,nm,qn,bs,hd,sn,sub,ab,col,dd,k0,k1,k2,k3,k5,_,X _ _ ho,.of_isNs (PySem.W.isNs_of_in X hok),PySem.W.nsMap_none_of_in X hok hni,PySem.W.tail_of_in X ht⟩
  ·cases q
 ·cases q
section
variable {X:Cx}{e a b c:Expr}{es:List Expr}{st:Stmt}{sts j8:List Stmt}{fx gx:Rho->Option Str}{F:RO}{pos:Pos}
theorem qd(h:PSX X st fx):abi X (st::j8) fx:=by
 with_unfolding_all
  intro s σ H ρ c I en q k;exact wpAny_execs_cons (wpAny_mono (h s σ H ρ c I en q k) (fun _ _ z=>z.elim) fun _ _ z=>z)
noncomputable def nxX(F:RO)(gx:Rho->Option Str):Rho->Option Str:=fun ρ=>(F ρ).bind fun o=>match o with
 |.nx ρ'=>gx ρ'
 |_=>none
theorem QQ(h1:PSD X st F)(h2:abi X j8 gx):abi X (st::j8) (nxX F gx):=by
 with_unfolding_all
  intro s σ H ρ c I en q k;cases hF:F ρ with
  |none=>simp[nxX,hF]at q
  | some o=>
   cases o with
   | nx ρ'=>
    have q':gx ρ'=some c:=by simpa[nxX,hF]using q
    refine wpAny_execs_cons (wpAny_mono (h1 [] s σ H { nx:=fun σ' H'=>jm H H'/\EnvR X.K H' ρ' σ',rt:=fun _ _=>False,bk:=fun _ _=>False,ct:=fun _ _=>False } I ⟨ρ,.nx ρ',en,hF,fun σ' H' s1 e1=>⟨s1,e1⟩⟩) (fun f s1 z=>?_) fun _ _ z=>z);cases f with
    | next=>
     obtain⟨σ',H',I',sm,e1⟩:=z;exact wpAny_mono (h2 s1 σ' H' ρ' c I' e1 q' fun ev s' t=>k ev s' (t.mono sm)) (fun _ _ z=>z.elim) fun _ _ z=>z
    |brk=>obtain⟨_,_,_,z⟩:=z;exact z.elim
    |cont=>obtain⟨_,_,_,z⟩:=z;exact z.elim
    |ret u=>obtain⟨_,_,_,_,_,z⟩:=z;exact z.elim
   |_=>simp[nxX,hF]at q
noncomputable def ifX(tc:Rho->Option Bool)(fx gx:Rho->Option Str):Rho->Option Str:=fun ρ=>(tc ρ).bind fun x=>if x=true then fx ρ else gx ρ
noncomputable def ag8:Rho->Option Str:=fun _=>none
theorem Qg:abi X sts ag8:=by
 with_unfolding_all
  intro s σ H ρ c I en q k;cases q
theorem aer{l r:List Stmt}{tc:Rho->Option Bool}(hc:PTD X a tc)(hl:abi X l fx)(hr:abi X r gx):PSX X (.If a l r pos) (ifX tc fx gx):=by
 with_unfolding_all
  intro s σ H ρ c I en q k;cases ht:tc ρ with
  |none=>simp[ifX,ht]at q
  | some x=>
   refine wpAny_If (wpAny_mono (hc [] s σ H (fun b H'=>b=x/\jm H H') I ⟨ρ,x,en,ht,fun H' s1=>⟨rfl,s1⟩⟩) (fun d s1 z=>?_) fun _ _ z=>z);obtain⟨H1,I1,rfl,s1'⟩:=z;cases d with
   |true=>exact hl s1 σ H1 ρ c I1 (en.mono s1') (by simpa[ifX,ht]using q) fun ev s' t=>k ev s' (t.mono s1')
   |false=>exact hr s1 σ H1 ρ c I1 (en.mono s1') (by simpa[ifX,ht]using q) fun ev s' t=>k ev s' (t.mono s1')
theorem aib(h:PDX X e fx):PSX X (.Return (some e) pos) fx:=by
 with_unfolding_all
  intro s σ H ρ c I en q k;exact wpAny_Return_some (wpAny_mono (h s σ H ρ c I en q k) (fun _ _ z=>z.elim) fun _ _ z=>z)
theorem ZQ(h:PDX X e fx)(hs:swapsWith e none pos.line X.env=pure false:=by rfl):PSX X (.Expr e pos) fx:=by
 with_unfolding_all
  intro s σ H ρ c I en q k;exact wpAny_Expr_any (wpAny_mono (h s σ H ρ c I en q k) (fun _ _ z=>z.elim) fun _ _ z=>z) I.quiet hs
end
noncomputable def ak4(K:Fg)(mg:SV)(n:Nat)(gx:LP->Option Str):Sp:=fun vs H _ E=>∃ds c,ds.length=n/\Reps K H ds vs/\gx ds=some c/\∀C H',mg c=some (.ref C)->jm H H'->E (.ref C) none H'
noncomputable def ZR(P:Program)(w:World)(K:Fg)(mg:SV)(base:Heap)(x:Str)(ps:List Str)(k n:Nat)(gx:LP->Option Str):Prop:=
 ∃(f:Addr) (fd:FuncData),FnOk P w K mg base (CXt P w) k f fd ps (ak4 K mg n gx)/\mg x=some (.ref f)/\PySem.W.keepIn K (.ref f)=true/\Qs K fd ps []
section
variable {X:Cx}{e a b c:Expr}{es:List Expr}{st:Stmt}{sts j8:List Stmt}{fx gx:Rho->Option Str}{F:RO}{pos:Pos}
theorem JN{k j n:Nat}{ps:List Str}{g:LP->Option Str}{x:Str}{p:Pos}{fr:Rho->Option (LP)}(hxe:X.ex=[])(C:ZR X.prog X.w X.K X.mg X.base x ps k n g)(hr:Room j X.A)(hkj:k<=j)(ha:PAD X (e::es) fr)(hl:∀ρ ds,fr ρ=some ds->ds.length=n)
  (hg:Gl X x:=by rfl) (hdb:(x==("__debug__":Str))=false:=by decide) (he:starEach (e::es) X.env=(false,eval e X.env)::starEach es X.env:=by rfl)
  (hpl:(backTo pos (starEach es X.env)).any (·.1)=false:=by rfl):PDX X (.Call (.Name x p) (e::es) [] pos) (fun ρ=>(fr ρ).bind g):=by
 with_unfolding_all
  intro s σ H ρ c I en q k';obtain⟨f,fd,F,hm,hk,hb⟩:=C;cases hd:fr ρ with
  |none=>simp[hd]at q
  | some ds=>
   have q':g ds=some c:=by simpa[hd]using q
   refine wpAny_Call_Name_kw (abj I hg hm ?_ hdb);refine PySem.W.callWith_K (h₀:=X.base) I.ok.mod.kin hk (thn (ha pos [] s σ H (fun vs H1=>jm H H1/\Reps X.K H1 ds vs) I ⟨ρ,ds,en,hd,fun vs H1 s1 r1=>⟨s1,r1⟩⟩) fun us s1 ⟨vs,H1,I1,r,sm,rd⟩=>⟨I1.kIn,?_⟩) he hpl;have hsp:ak4 X.K X.mg n g vs H1 (fun _ _=>False) (fun cls _ H'=>X.mg c=some cls/\jm H1 H')->vs.length=ps.length:=fun z=>F.len _ _ _ _ z;by_cases hn:ds.length=n
   ·have sp:ak4 X.K X.mg n g vs H1 (fun _ _=>False) (fun cls _ H'=>X.mg c=some cls/\jm H1 H'):=⟨ds,c,hn,rd,q',fun C H' hC s2=>⟨hC,s2⟩⟩
    have hlu:(us++[]).length=ps.length:=by rw[List.append_nil,←r.length];exact hsp sp
    have hbd:=hb s1 us I1.kIn hlu;rw[List.append_nil]at hbd;refine wpAny_call (codeAny_mono (F.run X.A X.stack s1 H1 ⟨us,[]⟩ us vs _ _ (hr.mono hkj) I1.env0 hbd r sp) fun rs s' hq=>?_);cases rs with
    | error ev=>
     obtain⟨e0,C,H',rfl,os,bare,un,hok,xc,hC,sm2⟩:=hq;have J':Inv X [] σ H' s':=I1.call' (ch:=[]) os un hok bare fun b z=>nomatch z
     exact k' _ _ ⟨e0,C,σ,H',rfl,hC,J',sm.trans sm2,Xc.of hxe I1 xc⟩
    | ok fl=>
     cases fl with
     |ret u=>obtain⟨v,H',_,_,_,_,_,z⟩:=hq;exact z.elim
     |next=>exact False.elim hq
     |brk=>exact False.elim hq
     |cont=>exact False.elim hq
   ·exact absurd (hl ρ ds hd) hn
theorem QR{x m:Str}{k0:_}{np p3 cpos:Pos}(hxe:X.ex=[])(hE:afK X.K X.mg x)(hc:X.calm=true)(hg:Gl X x:=by rfl)(hdb:(x==("__debug__":Str))=false:=by decide)
  (he:starEach [.Constant (.str m) k0 p3] X.env=[(false,eval (.Constant (.str m) k0 p3) X.env)]:=by rfl):PSX X (.Raise (some (.Call (.Name x np) [.Constant (.str m) k0 p3] [] cpos)) none pos) (fun _=>some x):=by
 with_unfolding_all
  intro s σ H ρ c I en q k;cases q;obtain⟨C,hm,hex⟩:=hE;obtain⟨bm,N,nm,qn,bs,hdct,sn,sub,ab,col,dd,k0',k1,k2,k3,k5,mN,hC,hN,hni,TL⟩:=aia (h:=X.base) I.ok.mod.kin hex;have hpl:(backTo cpos (starEach [.Constant (.str m) k0 p3] X.env)).any (·.1)=false:=by rw[he];rfl
  refine wpAny_Raise_call_subT (C:=C) (nm:=nm) (q:=qn) (N:=N) (bs:=bs) (bm:=bm) (hdct:=hdct) (sn:=sn) (sub:=sub) (ab:=ab) (col:=col) (dd:=dd) (k0:=k0') (k1:=k1) (k2:=k2) (k3:=k3) (k5:=k5) PySem.F.excBase_ValueError (mN:=mN) (TL.hasType rfl) (I.ok.hd hc) hpl hni ?_;refine wpAny_mono (ad4 (pos:=np) hg hm (show jK (.ref C) (.ref C) from rfl) hdb [] s σ H (fun v H'=>v= .ref C/\H'=H) I ⟨rfl,rfl⟩) (fun v s1 ⟨y,H1,I1,r1,e1,e2⟩=>?_) fun _ _ z=>z;subst e1;subst e2;obtain rfl:v=Value.ref C:=r1;refine⟨rfl,?_⟩;have pa:PA X [.Constant (.str m) k0 p3] _:=zd (X:=X) aj7 J1 he;have hsp:=pa cpos [] s1 σ H1 (fun vs H'=>vs.length=1/\H'=H1) I1 ⟨rfl,rfl⟩;rw[he]at hsp ⊢;refine Calls.evalArgs_plain (wpAny_mono hsp (fun us s2 ⟨vs,H2,I2,r2,l2,e2⟩=>?_) fun _ _ z=>z);subst e2;have kp:∀b o,X.base.get? b=some o->s2.heap.get? b=some o:=fun b o e=>(I2.bs b o e).1;refine⟨rfl,?_,kp _ _ hC,hN.keeps kp,TL.keeps kp,fun h' e0 md=>?_⟩
  ·show us.length<=sizeLine
   rw[←r2.length,l2,sizeLine_eq];decide
  ·obtain⟨t,h1,h2,h3⟩:=md.there
   have I3:Inv X [] σ H2 { s2 with heap:=h' }:=I2.kept (t':=s2.toks) md.keeps;have m0:=ZP hxe I2 md.new;exact k _ _ ⟨e0,C,σ,H2,rfl,hm,I3,jm.refl _,m0,_,_,h1,⟨rfl,rfl,rfl⟩,rfl,by simp,.inl rfl⟩
end
theorem ak5{CX:CXT}{P:Program}{w:World}{K:Fg}{mg:SV}{base:Heap}{k:Nat}{f:Addr}{name qual:Str}{params:Arguments}{body:List Stmt}{scope:Scope}{dV kV doc pm Kc ct oc:Value}{an od:Option Addr}
  {osl:Array (Option Value)} {N ps:List Str} {sp:Sp} (lk:K.lookup f=some ⟨oc,od,.func (PySem.W.fnOf name qual params body scope dV kV doc pm an Kc ct),osl⟩) (hcd:PySem.W.codeIn K Kc qual=true) (S:FnScope N ps scope)
  (len:∀vs H Q E,sp vs H Q E->vs.length=ps.length)
  (hbody:∀(A:Around) (Ko:List Env) (s:Shared) (H:Hp) (vs:List V) (Q:VK) (E:XK) (s1:Shared),Room k (A.deeper (envOfC qual scope s.heap.objs.size f Kc))->sp vs H Q E->
   Inv (Jy CX P w K mg base N qual scope f Kc A Ko s H E) [] (L2.Jb N vs) H s1->
   wpAny (model P w) (A.deeper (envOfC qual scope s.heap.objs.size f Kc)) (execs body (envOfC qual scope s.heap.objs.size f Kc)) (SP (Jy CX P w K mg base N qual scope f Kc A Ko s H E) [] { nx:=fun _ H'=>Q .non H',rt:=Q }) (Jy CX P w K mg base N qual scope f Kc A Ko s H E).xe s1):
  FnOk P w K mg base CX (k+1) f (PySem.W.fnOf name qual params body scope dV kV doc pm an Kc ct) ps sp:=by
 refine⟨len,fun A Ko s H args us vs Q E hr e0 hb r hsp=>?_⟩;have hl:=len _ _ _ _ hsp;have KX:K.In s.heap:=e0.mod.kin.keeps fun b o e=>(e0.bs b o e).1;have lim:s.heap.NoLimit:=e0.mod.nolimit.keeps fun b o e=>(e0.bs b o e).1
 have hkind:∀y∈ps.zip us,scope.names.lookup y.1=some .local∨(scope.names.lookup y.1=some .cell/\((cellsFrom (s.heap.objs.size+1) scope.names []).lookup y.1).isSome=true):=fun⟨n,v⟩ hy=>by
  rcases S.par n (List.of_mem_zip hy).1 with q | q
  ·exact .inl q
  ·exact .inr ⟨q,PySem.W.cellsFrom_some _ _ _ (.inl q)⟩
 refine codeAny_call_function hr.depth (KX _ _ lk) rfl S.co S.gen rfl (PySem.W.codeRec_of KX hcd) (hb _ _ _ _ ?_);refine wpAny_newFunctionEnv_cells S.kind hkind fun env he s1 x=>?_;subst he;refine⟨lim.keeps x.toInCall.keep,codeAny_func ?_⟩;have I:Inv (Jy CX P w K mg base N qual scope f Kc A Ko s H E) [] (L2.Jb N vs) H s1:=ade S hr.hd e0 hl r x;refine wpAny_mono (hbody A Ko s H vs Q E s1 (hr.deeper _) hsp I) (fun fl s' hs=>?_) fun e s' hs=>hs
 have fin:∀{σ':St} {H':Hp} {v:V} {u:Value},Inv (Jy CX P w K mg base N qual scope f Kc A Ko s H E) [] σ' H' s'->jK v u->Q v H'->CE Ko P w H s Q u s':=
  fun {σ' H' v u} J rv q=>⟨v,H',J.os,J.bare,J.base,J.hok,rv,q⟩
 cases fl with
 | ret u=>
  obtain⟨v,σ',H',J,rv,q⟩:=hs;exact fin J rv q
 | next=>
  obtain⟨σ',H',J,q⟩:=hs;exact fin (v:=V.non) (u:=Value.none) J rfl q
 | brk=>
  obtain⟨_,_,_,q⟩:=hs;exact False.elim q
 | cont=>
  obtain⟨_,_,_,q⟩:=hs;exact False.elim q
theorem ak6{CX:CXT}{P:Program}{w:World}{K:Fg}{mg:SV}{base:Heap}{N:List Str}{qual:Str}{scope:Scope}{f:Addr}{cd:Value}{A:Around}{Ko:List Env}{s:Shared}{H:Hp}{E:XK}:Top0 (Jy CX P w K mg base N qual scope f cd A Ko s H E):=⟨rfl,rfl,rfl⟩
section
variable {P:Program}{w:World}{K:Fg}{mg:SV}{base:Heap}
noncomputable def QD(N:List Str)(n:Nat)(Fx:Rho->Option Str)(ds:LP):Option Str:=if ds.length=n then Fx (jL N ds) else none
theorem aaB{x qual:Str}{st:Stmt}{f:Addr}{fd:FuncData}{N ps:List Str}{k:Nat}{Fx:Rho->Option Str}(F:Fun K x qual st f fd)(S:FnScope N ps (jh st))
  (body:∀(Kc:Value) (A:Around) (Ko:List Env) (s:Shared) (H:Hp) (E:XK),Room k (A.deeper (envOfC qual (jh st) s.heap.objs.size f Kc))->abi (Jy (CXt P w) P w K mg base N qual (jh st) f Kc A Ko s H E) (jM st) Fx):
  FnOk P w K mg base (CXt P w) (k+1) f fd ps (ak4 K mg ps.length (QD N ps.length Fx)):=by
 with_unfolding_all
  obtain⟨oc,od,kV,doc,pm,an,Kc,ct,osl,rfl,lk,hcd⟩:=F.ex;refine ak5 lk hcd S (fun vs H Q E h=>?_) fun A Ko s H vs Q E s1 hr h I=>?_
  ·obtain⟨ds,c,h1,h2,_⟩:=h
   rw[h2.length];exact h1
  ·obtain⟨ds,c,h1,h2,h3,h4⟩:=h
   unfold QD at h3;rw[if_pos h1]at h3;refine wpAny_mono (body Kc A Ko s H E hr s1 (L2.Jb N vs) H (jL N ds) c I (aat h2) h3 fun ev s' t=>?_) (fun _ _ z=>z.elim) fun _ _ z=>z;obtain⟨e,C,σ',H',rfl,hC,J,sm,xc⟩:=t;have T0:Top0 (Jy (CXt P w) P w K mg base N qual (jh st) f Kc A Ko s H E):=ak6;show wpAny (model P w) (A.deeper (envOfC qual (jh st) s.heap.objs.size f Kc)) (leaving (envOfC qual (jh st) s.heap.objs.size f Kc) (.ref e)) (fun _ s''=>CXt P w Ko H s E (.ref e) s'') (fun e' s''=>CXt P w Ko H s E e' s'') s';have n1:=aeq (E:=fun _ _=>False) (A:=A.deeper (envOfC qual (jh st) s.heap.objs.size f Kc)) T0 J.ok.frames J xc;unfold leaving;refine wpAny_bind (wpAny_mono n1 (fun _ s2 ⟨J2,t2⟩=>?_) fun _ _ z=>z.elim);have n2:=JM (E:=fun _ _=>False) (A:=A.deeper (envOfC qual (jh st) s.heap.objs.size f Kc)) none J2 t2;refine wpAny_mono n2 (fun _ s3 ⟨J3,t3⟩=>?_) fun _ _ z=>z.elim;obtain⟨oe,ws,T,oT,ts,g1,g2,g3,g4,g5,g6,g7,g8,g9⟩:=t3.ob;exact⟨e,C,H',rfl,J3.os,J3.bare,J3.base,J3.hok,⟨t3.mine.un,t3.mine.new,oe,ws,T,oT,ts,g1,g2,g3,g4,g5,g6.un,g6.new,g7,g8,g9⟩,h4 C H' hC sm⟩
end
theorem Inv.asA{X:Cx}{Kp:List (Addr×Obj)}{σ:St}{H:Hp}{s:Shared}{A:Around}{cm:Bool}{xe:Value->SP0}(I:Inv X Kp σ H s)(hf:A.frames=some X.stack)(hd:cm=true->A.handled=none):Inv { X with A:=A,calm:=cm,xe:=xe } Kp σ H s:=
 ⟨⟨I.ok.mod,I.ok.kind,I.ok.glob,I.ok.blt,I.ok.above,I.ok.inj,I.ok.has,I.ok.cab,hd,hf,I.ok.stk,I.ok.exf,I.ok.bs,I.ok.bsz,I.ok.noex,I.ok.exfs,I.ok.funs,I.ok.frf⟩,I.os,I.bare,I.base,I.loc,I.cell,I.free,I.freeC,I.pin,I.hok,I.len⟩
theorem Inv.ofA{X:Cx}{Kp:List (Addr×Obj)}{σ:St}{H:Hp}{s:Shared}{A:Around}{cm:Bool}{xe:Value->SP0}(ok:X.Ok)(I:Inv { X with A:=A,calm:=cm,xe:=xe } Kp σ H s):Inv X Kp σ H s:=
 ⟨ok,I.os,I.bare,I.base,I.loc,I.cell,I.free,I.freeC,I.pin,I.hok,I.len⟩
theorem Mine.unwish{X:Cx}{E:Value->SP0}{H:Hp}{b:Addr}(m:Mine (X.wish E) H b):Mine X H b:=⟨m.un,m.new,m.loc,m.cel,m.pin⟩
theorem Xc.unwish{X:Cx}{E:Value->SP0}{H:Hp}{h:Heap}{e C:Addr}(x:Xc (X.wish E) H h e C):Xc X H h e C:=by
 obtain⟨oe,vs,h1,h2,h3,h4,h5⟩:=x.ob;refine⟨x.mine.unwish,oe,vs,h1,h2,h3,h4,?_⟩;rcases h5 with q | ⟨T,oT,ts,q1,q2,q3,q4⟩
 ·exact .inl q
 ·exact .inr ⟨T,oT,ts,q1,q2,q3.unwish,q4⟩
@[irreducible] noncomputable def PS0(X:Cx)(st:Stmt)(F:RO):Prop:=∀(s:Shared) (σ:St) (H:Hp) (D:Ends),Inv X [] σ H s->tDS X.K F D σ H->wpAny (model X.prog X.w) X.A (exec st X.env) (SP X [] D) X.xe s
@[irreducible] noncomputable def ak7(X:Cx)(sts:List Stmt)(F:RO):Prop:=∀(s:Shared) (σ:St) (H:Hp) (D:Ends),Inv X [] σ H s->tDS X.K F D σ H->wpAny (model X.prog X.w) X.A (execs sts X.env) (SP X [] D) X.xe s
section
variable {X:Cx}{st:Stmt}{sts j8 tb hb:List Stmt}{F G:RO}{pos:Pos}
theorem anh(h:ZE X sts F):ak7 X sts F:=by
 with_unfolding_all
  exact fun s σ H D I t=>h [] s σ H D I t
theorem ajn(h1:PS0 X st F)(h2:ak7 X j8 G):ak7 X (st::j8) (jF F G):=by
 with_unfolding_all
  intro s σ H D I ⟨ρ,o,en,q,k⟩;cases hF:F ρ with
  |none=>simp[jF,hF]at q
  | some o1=>
   cases o1 with
   | nx ρ1=>
    have q':G ρ1=some o:=by simpa[jF,hF]using q
    refine wpAny_execs_cons (thn (h1 s σ H { D with nx:=fun σ' H'=>jm H H'/\EnvR X.K H' ρ1 σ' } I ⟨ρ,.nx ρ1,en,hF,fun σ' H' s1 e1=>⟨s1,e1⟩⟩) fun f s1 z=>?_);cases f with
    | next=>
     obtain⟨σ',H',I',sm,e1⟩:=z;exact h2 s1 σ' H' D I' ⟨ρ1,o,e1,q',k.mono sm⟩
    |brk=>exact z
    |cont=>exact z
    |ret u=>exact z
   | rt d=>
    have q':Out.rt d=o:=by simpa[jF,hF]using q
    subst q';refine wpAny_execs_cons (thn (h1 s σ H { D with nx:=fun _ _=>False } I ⟨ρ,.rt d,en,hF,k⟩) fun f s1 z=>?_);cases f with
    |next=>obtain⟨_,_,_,z⟩:=z;exact z.elim
    |brk=>exact z
    |cont=>exact z
    |ret u=>exact z
   | bk ρ1=>
    have q':Out.bk ρ1=o:=by simpa[jF,hF]using q
    subst q';refine wpAny_execs_cons (thn (h1 s σ H { D with nx:=fun _ _=>False } I ⟨ρ,.bk ρ1,en,hF,k⟩) fun f s1 z=>?_);cases f with
    |next=>obtain⟨_,_,_,z⟩:=z;exact z.elim
    |brk=>exact z
    |cont=>exact z
    |ret u=>exact z
   | ct ρ1=>
    have q':Out.ct ρ1=o:=by simpa[jF,hF]using q
    subst q';refine wpAny_execs_cons (thn (h1 s σ H { D with nx:=fun _ _=>False } I ⟨ρ,.ct ρ1,en,hF,k⟩) fun f s1 z=>?_);cases f with
    |next=>obtain⟨_,_,_,z⟩:=z;exact z.elim
    |brk=>exact z
    |cont=>exact z
    |ret u=>exact z
end
section
variable {X:Cx}{st b0:Stmt}{sts j8 tb hb:List Stmt}{F G:RO}{fx:Rho->Option Str}{pos:Pos}
noncomputable def acl(n:Nat):Rho:=List.replicate n none
theorem ajo{K:Fg}{H:Hp}{σ:St}:EnvR K H (acl σ.length) σ:=⟨by simp[acl],fun i d q=>by simp[acl,List.getElem?_replicate]at q⟩
noncomputable def ag9(n:Nat)(y:Str)(F:RO)(fx:Rho->Option Str)(G:RO):RO:=fun ρ=>match F ρ with
 |some o=>some o
 | none=>match fx ρ with
  |some c=>if c=y then G (acl n) else none
  |none=>none
noncomputable abbrev hX(X:Cx)(e:Addr):Cx:={ X with A:=X.A.mark (some (.ref e)),calm:=false,xe:=fun _ _=>False }
theorem SP.ofA{A:Around}{cm:Bool}{xe:Value->SP0}{D:Ends}{f:Flow}{s':Shared}(ok:X.Ok)(h:SP { X with A:=A,calm:=cm,xe:=xe } [] D f s'):SP X [] D f s':=by
 cases f with
 |next=>obtain⟨σ',H',I,q⟩:=h;exact⟨σ',H',Inv.ofA ok I,q⟩
 |brk=>obtain⟨σ',H',I,q⟩:=h;exact⟨σ',H',Inv.ofA ok I,q⟩
 |cont=>obtain⟨σ',H',I,q⟩:=h;exact⟨σ',H',Inv.ofA ok I,q⟩
 |ret u=>obtain⟨v,σ',H',I,r,q⟩:=h;exact⟨v,σ',H',Inv.ofA ok I,r,q⟩
theorem ani{y:Str}{np hpos:Pos}{n:Nat}(T0:Top0 X)(hN:X.N.length=n)(hE:afK X.K X.mg y)(hn:∀E,ZE (X.wish E) tb F)(hx:∀E,abi (X.wish E) tb fx)(hh:∀e,ZE (hX X e) (b0::hb) G)
  (hg:Gl X y:=by rfl) (hdb:(y==("__debug__":Str))=false:=by decide):PS0 X (.Try tb [.ExceptHandler (some (.Name y np)) none (b0::hb) hpos] [] [] pos) (ag9 n y F fx G):=by
 with_unfolding_all
  intro s σ H D I ⟨ρ,o,en,q,k⟩;refine wpAny_Try_except ?_;let E':Value->SP0:=fun ev s1=>wpAny (model X.prog X.w) X.A (noteFrame ev X.env) (fun _ s₂=>wpAny (model X.prog X.w) X.A (setFlight ev none) (fun _ s₃=>wpAny (model X.prog X.w) X.A (handleBy ev X.env [.ExceptHandler (some (.Name y np)) none (b0::hb) hpos]) (SP X [] D) X.xe s₃) X.xe s₂) X.xe s1
  cases hF:F ρ with
  | some o1=>
   have e1:o1=o:=by simpa[ag9,hF]using q
   subst e1;refine wpAny_mono (hn E' [] s σ H D (I.wish E') ⟨ρ,o1,en,hF,k⟩) (fun f s1 z=>?_) fun _ _ z=>z;have z':=SP.unwish z;cases f with
   |next=>exact wpAny_execs_nil z'
   |brk=>exact z'
   |cont=>exact z'
   |ret u=>exact z'
  | none=>
   cases hc:fx ρ with
   |none=>simp[ag9,hF,hc]at q
   | some c=>
    by_cases hy:c=y
    ·subst hy
     have q':G (acl n)=some o:=by simpa[ag9,hF,hc]using q
     refine wpAny_mono (hx E' s σ H ρ c (I.wish E') en hc fun ev s1 t=>?_) (fun _ _ z=>z.elim) fun _ _ z=>z;obtain⟨e,C,σ1,H1,rfl,hm,J,sm,xc⟩:=t;have J0:=J.unwish;have x0:=xc.unwish;show wpAny _ X.A (noteFrame (.ref e) X.env) _ _ s1;refine wpAny_mono (aeq (E:=fun _ _=>False) T0 J0.ok.frames J0 x0) (fun _ s2 ⟨J2,t2⟩=>?_) fun _ _ z=>z.elim;refine wpAny_mono (JM (E:=fun _ _=>False) none J2 t2) (fun _ s3 ⟨J3,t3⟩=>?_) fun _ _ z=>z.elim;have ok:=J3.ok;obtain⟨C',hm',hex⟩:=hE;have hm0:X.mg c=some (.ref C):=hm;rw[hm0]at hm';cases hm';have fr:(X.A.mark (some (.ref e))).frames=some X.stack:=ok.frames;have J4:Inv (hX X e) [] σ1 H1 s3:=Inv.asA J3 fr (fun z=>nomatch z);refine wpAny_handleBy_cons (codeAny_handlers_test ?_) (fun z=>nomatch z);refine abj (X:=hX X e) J4 hg hm0 ?_ hdb;obtain⟨oe,ws,T,oT,ts,g1,g2,g3,g4,g5,g6,g7,g8,g9⟩:=t3.ob;obtain⟨bm,N,nm,qn,bs,hdct,sn,sub,ab,col,dd,k0',k1,k2,k3,k5,mN,hC,hNs,hni,TL⟩:=aia J4.kIn hex;obtain⟨h3,gg3,d3,tk3,os3⟩:=s3;refine wpAny_excMatches_sub_self hC g1 g2.1 (TL.hasType rfl) ?_;refine codeAny_handlers_suite ?_;refine wpAny_mono (JM (A:=X.A.mark (some (.ref e))) (E:=fun _ _=>False) none J3 t3) (fun _ s5 ⟨J5,t5⟩=>?_) fun _ _ z=>z.elim;have J6:Inv (hX X e) [] σ1 H1 s5:=Inv.asA J5 fr (fun z=>nomatch z);have eb:EnvR X.K H1 (acl n) σ1:=by rw[←hN,←J5.len];exact ajo
     exact wpAny_mono (hh e [] s5 σ1 H1 D J6 ⟨acl n,o,eb,q',k.mono sm⟩) (fun f s6 z=>SP.ofA J5.ok z) fun _ _ z=>z.elim
    ·simp[ag9,hF,hc,hy]at q
end
section
variable {P:Program}{w:World}{K:Fg}{mg:SV}{base:Heap}
theorem ak8{x qual:Str}{st:Stmt}{f:Addr}{fd:FuncData}{N ps:List Str}{k:Nat}{B:RO}(F:Fun K x qual st f fd)(S:FnScope N ps (jh st))
  (body:∀(Kc:Value) (A:Around) (Ko:List Env) (s:Shared) (H:Hp) (E:XK),Room k (A.deeper (envOfC qual (jh st) s.heap.objs.size f Kc))->ak7 (Jy CX0 P w K mg base N qual (jh st) f Kc A Ko s H E) (jM st) B):
  FnOk P w K mg base CX0 (k+1) f fd ps (Pur K ps.length (jw N ps.length B)):=by
 with_unfolding_all
  obtain⟨oc,od,kV,doc,pm,an,Kc,ct,osl,rfl,lk,hcd⟩:=F.ex;refine ak5 lk hcd S (fun vs H Q E h=>?_) fun A Ko s H vs Q E s1 hr h I=>?_
  ·obtain⟨ds,d,h1,h2,_⟩:=h
   rw[h2.length];exact h1
  ·obtain⟨ds,d,h1,h2,h3,h4⟩:=h
   unfold jw at h3;rw[if_pos h1]at h3;cases hB:B (jL N ds)with
   |none=>rw[hB]at h3;cases h3
   | some o=>
    rw[hB]at h3;refine body Kc A Ko s H E hr s1 (L2.Jb N vs) H _ I ⟨jL N ds,o,aat h2,hB,?_⟩;cases o with
    |rt c=>cases h3;exact fun v H' sm r=>h4 v H' sm r
    |nx ρ=>cases h3;exact fun σ H' sm e=>h4 .non H' sm rfl
    |bk ρ=>cases h3
    |ct ρ=>cases h3
end
theorem ZS{t sl:Addr}{items:Array Value}{vl vu:Value}{lo hi:Option Int}{Q:Value->SP0}(ht:IsTup s.heap t items)(hs:s.heap.IsSliceOf sl vl vu .none)(pl:IsPart vl lo)(pu:IsPart vu hi)
  (hw:HT.sIx items.size 0 lo=0/\HT.sIx items.size items.size hi=items.size) (h:Q (.ref t) s):wpAny (model prog w) A (getItem (.ref t) (.ref sl)) Q E s:=by
 obtain⟨os,hos,hcs,hds⟩:=id hs;have hTs:s.TypeIs (.ref sl) "slice":=⟨os,hos,hcs⟩;unfold getItem
 first | (with_reducible refine wpAny_holding ?_) | skip
 first | refine wpAny_bind (wpAny_pure ?_) | skip
 refine wpAny_bind (wpAny_sequenceKey ht.typeIs (by decide) ?_);refine wpAny_bind (wpAny_callSpecial?_slot (name:=Str.ofString "__getitem__") ht.typeIs PyProof.Rows.slot_tuple_getitem (wpAny_call_entry PyProof.Rows.slot_tuple_getitem ht.typeIs entry_tuple_getitem ?_ (args_tuple_getitem _ _)));show wpAny _ _ (Builtin.Tuple.tupleItemsOf (.ref t) >>= _) _ _ s;refine wpAny_bind (tupleItemsOf_ ht (wpAny_bind (wpAny_typeOf hTs ?_)));rw[if_pos (show(Value.type "slice" == Value.type "slice")=true by decide)];refine wpAny_bind (HT.sliceApplied_gen hs pl pu ?_);rw[hw.1,hw.2];have hyes:((((0:Nat):Int)==0&&(1:Int)==1&&(items.size-0)==items.size)=true):=by simp
 show wpAny _ _ (if ((((0:Nat):Int)==0&&(1:Int)==1&&(items.size-0)==items.size)=true) then _ else _) _ _ s;rw[if_pos hyes];obtain⟨o,ho,hc,hd⟩:=id ht;have hT:s.TypeIs (.ref t) "tuple":=⟨o,ho,hc⟩
 have ex:∀{R:Bool->SP0} {A':Around} {E':Value->SP0},R true s->wpAny (model prog w) A' (Builtin.Tuple.tupleIsExact (.ref t)) R E' s:=fun {R A' E'} hR=>by
  unfold Builtin.Tuple.tupleIsExact
  first
   |exact wpAny_bind (wpAny_typeOf hT (wpAny_pure hR))
   | (wp_walk;exact hR)
 first
  |exact wpAny_bind (ex (wpAny_bind (wpAny_rule (wpAny_pure ⟨_,rfl,wpAny_pure h⟩))))
  |exact wpAny_bind (ex (by rw[if_pos rfl];exact wpAny_bind (wpAny_rule (wpAny_pure ⟨_,rfl,wpAny_pure h⟩))))
  | (refine wpAny_bind (ex ?_);wp_walk;exact⟨_,rfl,wpAny_pure h⟩)
  | (refine wpAny_bind (wpAny_bind (ex ?_));wp_walk;exact⟨_,rfl,wpAny_pure h⟩)
section
variable {X:Cx}{e a b c:Expr}{fa fb fc:RP}{pos p2:Pos}
noncomputable def aqF(K:Fg):V->Option Int->Option Int->Hp->VK->Prop:=fun x lo hi H Q=>∃a xs,x= .ref a/\SqT K H a xs/\(HT.sIx xs.length 0 lo=0/\HT.sIx xs.length xs.length hi=xs.length)/\Q (.ref a) H
theorem afL:SlR X (aqF X.K):=by
 intro Kp s σ H x v vl vu lo hi sl Q I rx hs pl pu h;obtain⟨a,xs,rfl,hx,hw,q⟩:=h;cases rx;obtain⟨its,r,ht,hz⟩:=I.tuple hx;have hlen:its.toArray.size=xs.length:=by rw[List.size_toArray];exact r.length.symm
 exact⟨"tuple",_,PyProof.Rows.slot_tuple_getitem.lookup,ht.typeIs,ZS ht hs pl pu (by rw[hlen];exact hw) ⟨.ref a,H,I,rfl,q⟩⟩
noncomputable def ZT(p:PyData)(lo hi:Option Int):OP:=match p with
 |.tuple ds=>some (.tuple (aep ds lo hi))
 |_=>none
theorem ak9{K:Fg}{p d:PyData}{lo hi:Option Int}{x:V}{H:Hp}{Q:VK}(h:ZT p lo hi=some d)(r:Rep K H p x)(k:∀v H',jm H H'->Rep K H' d v->Q v H'):aqf K x lo hi H Q∨aqF K x lo hi H Q:=by
 unfold ZT at h;split at h
 ·rename_i ds
  cases h;obtain⟨a,xs,e1,e2,e3⟩:=r;have hl:=e3.length
  have rr:Reps K H (aep ds lo hi) (ad9 xs lo hi):=by
   unfold ad9 aep;rw[hl];exact(e3.drop _).take _
  by_cases hw:HT.sIx xs.length 0 lo=0/\HT.sIx xs.length xs.length hi=xs.length
  ·refine .inr ⟨a,xs,e1,e2,hw,k _ H (jm.refl H) ⟨a,xs,rfl,e2,?_⟩⟩
   have ex:ad9 xs lo hi=xs:=by unfold ad9;rw[hw.1,hw.2];simp
   rw[ex]at rr;exact rr
  ·refine .inl ⟨a,xs,e1,e2,hw,fun q hq=>?_⟩
   have s1:=jI (o:= .tup (ad9 xs lo hi)) hq;exact k _ _ s1 ⟨q,_,rfl,SqT.of jr,Reps.mono s1 _ _ rr⟩
 ·cases h
noncomputable def acm(fa fb:RP):RP:=fun ρ=>(fa ρ).bind fun p=>(fb ρ).bind fun q=>(inI q).bind fun i=>ZT p none (some i)
theorem afM(ha:PD X a fa)(hb:PD X b fb):PD X (.Subscript a (.Slice none (some b) none p2) pos) (acm fa fb):=by
 with_unfolding_all
  refine PE.imp (afo (akl.or afL) ha ahQ (ahR hb)) fun σ H Q ⟨ρ,d,en,q,k⟩=>?_;cases h1:fa ρ with
  |none=>simp[acm,h1]at q
  | some y=>
   cases h2:fb ρ with
   |none=>simp[acm,h1,h2]at q
   | some z=>
    cases h3:inI z with
    |none=>simp[acm,h1,h2,h3]at q
    | some i=>
     have q':ZT y none (some i)=some d:=by simpa[acm,h1,h2,h3]using q
     have hz:=afI h3;subst hz;refine⟨ρ,y,en,h1,fun v H1 s1 r1=>⟨ρ,_,en.mono s1,h2,fun u H2 s2 r2=>?_⟩⟩;cases (show u=_ from r2);exact⟨i,rfl,ak9 q' (Rep.mono s2 _ _ r1) fun v H' s r=>k v H' (s1.trans (s2.trans s)) r⟩
noncomputable def Qh(fa fb:RP):RP:=fun ρ=>(fa ρ).bind fun p=>(fb ρ).bind fun q=>(inI q).bind fun i=>ZT p (some i) none
theorem acn(ha:PD X a fa)(hb:PD X b fb):PD X (.Subscript a (.Slice (some b) none none p2) pos) (Qh fa fb):=by
 with_unfolding_all
  refine PE.imp (afo (akl.or afL) ha (ahR hb) ahQ) fun σ H Q ⟨ρ,d,en,q,k⟩=>?_;cases h1:fa ρ with
  |none=>simp[Qh,h1]at q
  | some y=>
   cases h2:fb ρ with
   |none=>simp[Qh,h1,h2]at q
   | some z=>
    cases h3:inI z with
    |none=>simp[Qh,h1,h2,h3]at q
    | some i=>
     have q':ZT y (some i) none=some d:=by simpa[Qh,h1,h2,h3]using q
     have hz:=afI h3;subst hz;refine⟨ρ,y,en,h1,fun v H1 s1 r1=>⟨ρ,_,en.mono s1,h2,fun u H2 s2 r2=>?_⟩⟩;cases (show u=_ from r2);exact⟨i,rfl,ak9 q' (Rep.mono s2 _ _ r1) fun v H' s r=>k v H' (s1.trans (s2.trans s)) r⟩
end
section
variable {X:Cx}
end
section
variable {X:Cx}
end
section
variable {X:Cx}{e a b c:Expr}{fa fb fc:RP}{pos p2:Pos}
end
section
variable {X:Cx}
end
section
variable {X:Cx}{e:Expr}{es:List Expr}{pos p:Pos}
noncomputable def aoj(x:Str):PyData->Bool
 |.dict [(.str y,.none)]=>decide (y=x)
 |_=>false
@[simp] theorem aph(x:Str):aoj x (fnD x)=true:=by simp[aoj,fnD]
end
section
variable {X:Cx}{e a b c:Expr}{es:List Expr}{fa:RP}{fx gx:Rho->Option Str}{pos:Pos}
end
section
variable {X:Cx}{own:Option Nat}{e a b c tg src:Expr}{es:List Expr}{st:Stmt}{sts j8 body:List Stmt}{fx gx:Rho->Option Str}{F:RO}{fa:RP}{pos:Pos}
theorem Thr.unwish{W:Value->SP0}{Hb Hs:Hp}{c:Str}{ev:Value}{s':Shared}(sb:∀H3,jm Hb H3->jm Hs H3)(h:Thr (X.wish W) Hb c ev s'):Thr X Hs c ev s':=by
 obtain⟨e,C,σ',H',h1,h2,h3,h4,h5⟩:=h;exact⟨e,C,σ',H',h1,h2,h3.unwish,sb _ h4,h5.unwish⟩
end
section
variable {X:Cx}{e a b c:Expr}{es:List Expr}{st:Stmt}{sts j8:List Stmt}{fx gx:Rho->Option Str}{F:RO}{pos p:Pos}
noncomputable def orX(fx gx:Rho->Option Str):Rho->Option Str:=fun ρ=>match fx ρ with
 |some c=>some c
 |none=>gx ρ
theorem aes(h1:abi X sts fx)(h2:abi X sts gx):abi X sts (orX fx gx):=by
 with_unfolding_all
  intro s σ H ρ c I en q k;cases hf:fx ρ with
  | some c'=>
   have:c'=c:=by simpa[orX,hf]using q
   subst this;exact h1 s σ H ρ c' I en hf k
  |none=>exact h2 s σ H ρ c I en (by simpa[orX,hf]using q) k
end
section
variable {X:Cx}{a b c:Expr}{tc ta tb:Rho->Option Bool}{pos:Pos}
end
section
variable {X:Cx}{a b:Expr}{fa fb:RP}
end
structure RoomH(k:Nat)(A:Around):Prop where
 dp:A.depth+3*k+5<recursionLimit
 un:A.units+16*k+200<cLine
theorem RoomH.deeper{k:Nat}{A:Around}(r:RoomH (k+1) A)(env:Env):RoomH k (A.deeper env):=
 ⟨by have:=r.dp;show A.depth+1+3*k+5<_;omega,by have:=r.un;show A.units+3+16*k+200<_;omega⟩
theorem RoomH.mark{k:Nat}{A:Around}{v:Option Value}(r:RoomH k A):RoomH k (A.mark v):=⟨r.dp,r.un⟩
structure FnH(P:Program)(w:World)(K:Fg)(mg:SV)(base:Heap)(k:Nat)(f:Addr)(fd:FuncData)(ps:List Str)(sp:Sp):Prop where
 len:∀vs H Q E,sp vs H Q E->vs.length=ps.length
 run:∀(A:Around) (Ko:List Env) (s:Shared) (H:Hp) (args:Args) (us:List Value) (vs:List V) (Q:VK) (E:XK),RoomH k A->Env0 P w K mg base A Ko s H->BindsTo s fd args (ps.zip us)->jB vs us->sp vs H Q E->
  codeAny (model P w) A (.call (.ref f) args) (CR CX0 Ko P w H s Q E) s
noncomputable def aqW(P:Program)(w:World)(K:Fg)(mg:SV)(base:Heap)(x:Str)(ps:List Str)(k n:Nat)(g:LP->OP):Prop:=
 ∃(f:Addr) (fd:FuncData),FnH P w K mg base k f fd ps (Pur K n g)/\mg x=some (.ref f)/\PySem.W.keepIn K (.ref f)=true/\Qs K fd ps []
section
variable {P:Program}{w:World}{K:Fg}{mg:SV}{base:Heap}
end
section
variable {X:Cx}{e:Expr}{es:List Expr}{pos:Pos}
end
structure ExcK(K:Fg)(C:Addr):Prop where
 exc:PySem.W.excIn K C vB "ValueError.__new__"=true
 ga:PySem.W.findIn K (.ref C) "__getattribute__"=some (some (.builtin "BaseException.__getattribute__"))
 gt:PySem.W.findIn K (.ref C) "__getattr__"=some none
 cl:PySem.W.findIn K (.ref C) "__class__"=some (some (.builtin "object.__class__"))
 mo:PySem.W.mroIn K C (.type "object")=some true
 mb:PySem.W.mroIn K C (.type "BaseException")=some true
structure ClsG(K:Fg):Prop where
 gt:PySem.W.specialIn K (.builtin "object.__class__") "__get__"=some (some (.builtin "getset_descriptor.__get__"))
 tk:PySem.W.takesIn K (.builtin "object.__class__")=some true
section
variable {prog:Program}{w:World}{A:Around}{E:Value->SP0}{s:Shared}{K:Fg}{a C:Addr}{oe:Obj}
end
noncomputable def adr(K:Fg)(c:Str):Option Addr:=match PySem.W.nsIn K mainGlobals c with
 |some (some (.ref C))=>some C
 |_=>none
theorem anj{K:Fg}{c:Str}{C:Addr}(h:adr K c=some C):PySem.W.nsIn K mainGlobals c=some (some (.ref C)):=by
 unfold adr at h;split at h
 ·rename_i q;cases h;exact q
 ·cases h
noncomputable def api(K:Fg)(C:Addr):Bool:=PySem.W.excIn K C vB "ValueError.__new__" && ((PySem.W.findIn K (.ref C) "__getattribute__" == some (some (.builtin "BaseException.__getattribute__")))&&((PySem.W.findIn K (.ref C) "__getattr__" == some none)&&((PySem.W.findIn K (.ref C) "__class__" == some (some (.builtin "object.__class__")))&&((PySem.W.mroIn K C (.type "object")==some true)&&(PySem.W.mroIn K C (.type "BaseException")==some true)))))
theorem ala{K:Fg}{C:Addr}(h:api K C=true):ExcK K C:=by
 unfold api at h;simp only[Bool.and_eq_true,beq_iff_eq]at h;obtain⟨h1,h2,h3,h4,h5,h6⟩:=h;exact⟨h1,h2,h3,h4,h5,h6⟩
noncomputable def aet(K:Fg)(y:Str)(cs:List Str):Bool:=(PySem.W.specialIn K (.builtin "object.__class__") "__get__" == some (some (.builtin "getset_descriptor.__get__")))&&((PySem.W.takesIn K (.builtin "object.__class__")==some true)&&(match adr K y with
 | none=>false
 | some B=>(PySem.W.typeIn K (.ref B) == some (.type "type")) && ((PySem.W.mroIn K B (.type "BaseException") == some true) && cs.all fun c=>match adr K c with
  | none=>false
  | some C=>api K C && ((PySem.W.mroIn K C (.ref B) == some true) && ((PySem.W.kitOne K (.ref C) (.type "ValueError") == some true) && cs.all fun d=>match adr K d with
   | none=>false
   | some D=>PySem.W.kitOne K (.ref C) (.ref D) == some (c == d))))))
structure ErrT(K:Fg)(mg:SV)(y:Str)(cs:List Str):Prop where
 tab:aet K y cs=true
 mgs:∀c C,adr K c=some C->mg c=some (.ref C)
section
variable {K:Fg}{mg:SV}{y:Str}{cs:List Str}
theorem ErrT.g(h:ErrT K mg y cs):ClsG K:=by
 have:=h.tab;unfold aet at this;simp only[Bool.and_eq_true,beq_iff_eq]at this;exact⟨this.1,this.2.1⟩
theorem ErrT.par(h:ErrT K mg y cs):∃B,adr K y=some B/\mg y=some (.ref B)/\PySem.W.typeIn K (.ref B)=some (.type "type")/\PySem.W.mroIn K B (.type "BaseException")=some true/\
  ∀c∈cs,∃C,adr K c=some C/\mg c=some (.ref C)/\ExcK K C/\PySem.W.mroIn K C (.ref B)=some true/\PySem.W.kitOne K (.ref C) (.type "ValueError")=some true/\∀d∈cs,∃D,adr K d=some D/\mg d=some (.ref D)/\PySem.W.kitOne K (.ref C) (.ref D)=some (c==d):=by
 have q:=h.tab;unfold aet at q;simp only[Bool.and_eq_true,beq_iff_eq]at q;obtain⟨_,_,q⟩:=q;cases hB:adr K y with
 |none=>rw[hB]at q;cases q
 | some B=>
  rw[hB]at q;simp only[Bool.and_eq_true,beq_iff_eq,List.all_eq_true]at q;obtain⟨q1,q2,q3⟩:=q;refine⟨B,rfl,h.mgs y B hB,q1,q2,fun c hc=>?_⟩;have z:=q3 c hc;cases hC:adr K c with
  |none=>rw[hC]at z;cases z
  | some C=>
   rw[hC]at z;simp only[Bool.and_eq_true,beq_iff_eq,List.all_eq_true]at z;obtain⟨z1,z2,z3,z4⟩:=z;refine⟨C,rfl,h.mgs c C hC,ala z1,z2,z3,fun d hd=>?_⟩;have v:=z4 d hd;cases hD:adr K d with
   |none=>rw[hD]at v;cases v
   | some D=>
    rw[hD]at v;exact⟨D,rfl,h.mgs d D hD,beq_iff_eq.mp v⟩
theorem ErrT.err(h:ErrT K mg y cs){c:Str}(hc:c∈cs):afK K mg c:=by
 obtain⟨B,_,_,_,_,q⟩:=h.par;obtain⟨C,_,q2,q3,_⟩:=q c hc;exact⟨C,q2,q3.exc⟩
end
noncomputable def aqG:PyData->Option Str
 |.dict [(.str c,.bool true)]=>some c
 |_=>none
@[simp] theorem apj(c:Str):aqG (arn c)=some c:=rfl
section
variable {X:Cx}{a:Expr}{fa:RP}{pos p p2:Pos}{y:Str}{cs:List Str}
end
section
variable {X:Cx}{σ:St}{H:Hp}{s:Shared}{e C:Addr}
theorem Inv.take{oe:Obj}(I:Inv X [] σ H s)(m:Mine X H e)(he:s.heap.get? e=some oe):Inv X [] σ (upd H e (.frz oe (.own e))) s/\jm H (upd H e (.frz oe (.own e))):=by
 have ne:∀b o,H b=some o->b≠e:=fun b o q z=>by subst z;rw[m.un]at q;cases q
 have sm:jm H (upd H e (.frz oe (.own e))):=fun b o q=>by rw[jn (ne b o q)];exact q
 have u:Un (frs X.stack) [e] H (upd H e (.frz oe (.own e))) s.heap s.heap:=⟨fun b o q _ _ _=>q,fun b o q _ _ _=>⟨o.slots,q⟩,fun b o q n nc=>by rw[jn (fun z=>nc (by simp[z]))];exact n,fun b o q _=>⟨o,q⟩,fun b xs q=>sm b _ q,fun b o v q=>sm b _ q,fun b ps q=>⟨#[],by rw[sm b _ q];simp⟩⟩
 have hok:HOk X.prog X.w (upd H e (.frz oe (.own e))) s.heap:=fun b o q=>by
  by_cases hb:b=e
  ·subst hb
   rw[jr]at q;cases q;exact⟨he,_,he⟩
  ·rw[jn hb]at q
   exact(I.hok b o q).stay (fun c v hc r=>r) (fun c r=>sm _ _ r) fun c v r=>sm _ _ r
 refine⟨?_,sm⟩
 have J:=Inv.call (X:={ X with ex:=[e]++X.ex }) (g':=s.gens) (d':=s.drawn) (t':=s.toks) (Inv.exIn I fun b hb=>by rw[List.mem_singleton.mp hb];exact⟨m.new,m.loc,m.cel⟩) u hok I.bare fun b hb=>by
  rw[List.mem_singleton.mp hb];exact⟨.inl (List.mem_append_left _ (by simp)),m.loc,m.cel,fun p hp=>m.pin p (by simpa using hp)⟩
 exact Inv.exOut J I.ok fun b hb=>by rw[List.mem_singleton.mp hb];exact m.new
end
section
variable {X:Cx}{st b0:Stmt}{sts j8 tb hb:List Stmt}{F G:RO}{fx:Rho->Option Str}{pos:Pos}
end
noncomputable abbrev aru:=Int×(Int×Int)
structure TripAt(h:Heap)(u:Value)(t:aru):Prop where
 ex:∃a o k tk a2,u= .ref a/\h.get? a=some o/\o.cls= .type "tuple"/\o.data= .seq #[.int t.1 tk,.ref a2] k/\PairAt h (.ref a2) t.2
theorem aco{h:Heap}{a:Addr}{p:Int×Int}(x:PairAt h (.ref a) p):Reads h (.ref a) (zA p) []:=by
 obtain⟨b,o,k,t,t',e1,e2,e3,e4⟩:=x.ex;cases e1;exact .tuple e2 e3 e4 (.cons (.int _ t) (.cons (.int _ t') .nil))
theorem acp{h:Heap}{a:Addr}{p:Int×Int}(x:PairAt h (.ref a) p):∃t t',IsTup h a #[.int p.1 t,.int p.2 t']:=by
 obtain⟨b,o,k,t,t',e1,e2,e3,e4⟩:=x.ex;cases e1;exact⟨t,t',o,e2,e3,k,e4⟩
theorem alb(p q:Int×Int):PyData.eqv (zA p) (zA q)=decide (p.1=q.1/\p.2=q.2):=by
 simp only[zA,PyData.eqv,PyData.eqvAll,Bool.and_true];rw[Bool.decide_and,Bool.beq_eq_decide_eq,Bool.beq_eq_decide_eq]
section
variable {X:Cx}
theorem alc{Kp:List (Addr×Obj)}{σ:St}{H:Hp}{s:Shared}{a:Addr}{o:Obj}{xs:Array Value}{k:Nat}(I:Inv X Kp σ H s)(eo:s.heap.get? a=some o)(dk:o.data= .seq xs k):a≠X.env.locals:=fun z=>by
 obtain⟨_,⟨o',es,ep,h1,h2,_⟩,_⟩:=I.loc;rw[z]at eo;rw[eo]at h1;cases h1;rw[dk]at h2;cases h2
theorem ank{Kp:List (Addr×Obj)}{σ:St}{H:Hp}{s:Shared}{v:V}{p:Int×Int}{u:Value}{h':Heap}(I:Inv X Kp σ H s)(r:Rep X.K H (zA p) v)(rv:jK v u)(kp:∀b o,b≠X.env.locals->s.heap.get? b=some o->h'.get? b=some o):∃a,u= .ref a/\PairAt h' u p:=by
 obtain⟨a2,ws,e2,e3,x1,r1,e4,e5,x2,r2,e6,e7,e8⟩:=r;cases (show x1=_ from e5);cases (show x2=_ from e7);cases (show r2=[] from e8);subst e6;subst e4;subst e2;cases rv;obtain⟨its,r3,⟨o,eo,co,k,dk⟩,_⟩:=I.tuple e3;cases r3 with
 | cons y1 r3=>
  cases r3 with
  | cons y2 r3=>
   cases r3;obtain⟨t,rfl⟩:=y1;obtain⟨t',rfl⟩:=y2;exact⟨a2,rfl,a2,o,k,t,t',rfl,kp a2 o (alc I eo dk) eo,co,by simpa using dk⟩
end
section
variable {α:Type}
noncomputable def ajp(rk:α->Int)(p:α):List α->List α
 | []=>[p]
 |q::r=>if rk p<=rk q then p::q::r else q::ajp rk p r
noncomputable def aa6(rk:α->Int):List α->List α
 | []=>[]
 |p::r=>ajp rk p (aa6 rk r)
theorem aaC(rk:α->Int)(p:α):∀l,(ajp rk p l).Perm (p::l)
 | []=>List.Perm.refl _
 | q::r=>by
  unfold ajp;split
  ·exact List.Perm.refl _
  ·exact((aaC rk p r).cons q).trans (List.Perm.swap p q r)
theorem Qi(rk:α->Int):∀l,(aa6 rk l).Perm l
 | []=>List.Perm.refl _
 |p::r=>(aaC rk p _).trans ((Qi rk r).cons p)
theorem aa7(rk:α->Int)(p:α):∀l,l.Pairwise (fun a b=>rk a<=rk b)->(ajp rk p l).Pairwise (fun a b=>rk a<=rk b)
 | [],_=>List.pairwise_singleton _ _
 | q::r,h=>by
  have hq:=List.pairwise_cons.mp h;unfold ajp;split
  ·rename_i hle
   refine List.pairwise_cons.mpr ⟨fun b hb=>?_,h⟩;rcases List.mem_cons.mp hb with rfl | hb
   ·exact hle
   ·exact Int.le_trans hle (hq.1 b hb)
  ·rename_i hle
   refine List.pairwise_cons.mpr ⟨fun b hb=>?_,aa7 rk p r hq.2⟩;rcases List.mem_cons.mp ((aaC rk p r).mem_iff.mp hb)with rfl | hb
   ·omega
   ·exact hq.1 b hb
theorem ZU(rk:α->Int):∀l,(aa6 rk l).Pairwise (fun a b=>rk a<=rk b)
 | []=> .nil
 |p::r=>aa7 rk p _ (ZU rk r)
theorem aa8{rk:α->Int}:∀{l l':List α},l.Pairwise (fun a b=>rk a<=rk b)->l'.Pairwise (fun a b=>rk a<=rk b)->l.Perm l'->(∀p∈l,∀q∈l,rk p=rk q->p=q)->l=l'
 | [],l',_,_,hp,_=>hp.nil_eq
 |a::l,[],_,_,hp,_=>by have:=hp.length_eq;simp at this
 | a::l,b::l',h1,h2,hp,hb=>by
  have h1':=List.pairwise_cons.mp h1;have h2':=List.pairwise_cons.mp h2
  have hab:a=b:=by
   have ha:a∈b::l':=hp.mem_iff.mp List.mem_cons_self;have hb':b∈a::l:=hp.mem_iff.mpr List.mem_cons_self;rcases List.mem_cons.mp ha with e | ha'
   ·exact e
   ·rcases List.mem_cons.mp hb' with e | hb''
    ·exact e.symm
    ·exact hb a List.mem_cons_self b hb' (Int.le_antisymm (h1'.1 b hb'') (h2'.1 a ha'))
  subst hab;rw[aa8 h1'.2 h2'.2 (List.Perm.cons_inv hp) fun p hp q hq=>hb p (List.mem_cons_of_mem _ hp) q (List.mem_cons_of_mem _ hq)]
end
section
variable {X:Cx}{e a b c:Expr}{es j8:List Expr}{st:Stmt}{sts srest:List Stmt}{fx gx:Rho->Option Str}{fa fb:RP}{F:RO}{pos:Pos}
noncomputable def items:PyData->Option (LP)
 |.list ds=>some ds
 |.tuple ds=>some ds
 |_=>none
noncomputable def itS(fa:RP):Rho->Option (LP):=fun ρ=>(fa ρ).bind items
theorem ZV{tg:Expr}(h:PD X e fa):PID X tg e (itS fa):=by
 with_unfolding_all
  intro Kp s σ H R I ⟨ρ,ds,en,q,k⟩;cases hf:fa ρ with
  |none=>simp[itS,hf]at q
  | some d=>
   have q':items d=some ds:=by simpa[itS,hf]using q
   cases d with
   | list es=>
    cases q';exact Jd (tg:=tg) h Kp s σ H R I ⟨ρ,ds,en,by simp[itL,hf,JC],k⟩
   | tuple es=>
    cases q';exact abk (tg:=tg) h Kp s σ H R I ⟨ρ,ds,en,by simp[itT,hf,aas],k⟩
   |_=>cases q'
end
theorem _root_.L2.Room.sort{k:Nat}{A:Around}(r:Room k A):A.in1.in1.units+8<cLine:=by
 have:=r.un;show A.units+1+1+8<cLine;omega
theorem _root_.L2.Room.units1{k:Nat}{A:Around}(r:Room k A):A.units+1<cLine:=by have:=r.un;omega
theorem RoomH.units{k:Nat}{A:Around}(r:RoomH k A):A.units+64<cLine:=by have:=r.un;omega
theorem RoomH.mono{j k:Nat}{A:Around}(r:RoomH k A)(h:j<=k):RoomH j A:=⟨by have:=r.dp;omega,by have:=r.un;omega⟩
section
variable {X:Cx}{a b:Expr}{pos:Pos}
end
section
variable {X:Cx}{e a b c:Expr}{l r:List Stmt}{fx gx:Rho->Option Str}{pos:Pos}
end
section
variable {X:Cx}{own:Option Nat}{tg:Expr}{st:Stmt}{sts:List Stmt}{fx:Rho->Option Str}{F:RO}
end
section
variable {X:Cx}{a i e:Expr}{es:List Expr}{pos fp:Pos}
end
section
variable {X:Cx}{own:Option Nat}{e a b c:Expr}{es:List Expr}{st:Stmt}{sts j8:List Stmt}{fa fb fc:RP}{F G:RO}{pos:Pos}
end
section
variable {X:Cx}{tg src:Expr}{pos pos':Pos}{own:Option Nat}
end
noncomputable def QE(ps:List (Int×Int)):PyData:= .tuple (ps.map zA)
noncomputable def jU:List (Int×Int)->Int
 | []=>0
 |p::r=>(p.1*1000+p.2)*(1000000:Int) ^ r.length+jU r
noncomputable def inP(p:Int×Int):Bool:=decide (0<=p.1)&&decide (p.1<1000)&&decide (0<=p.2)&&decide (p.2<1000)
noncomputable def inS(n:Nat)(ps:List (Int×Int)):Bool:=decide (ps.length=n)&&decide (1<=n)&&ps.all inP
theorem afN(k:Nat):(0:Int)<(1000000:Int) ^ k:=by
 induction k with
 |zero=>decide
 |succ k ih=>rw[Int.pow_succ];omega
theorem aeu{p:Int×Int}(h:inP p=true):0<=p.1/\p.1<1000/\0<=p.2/\p.2<1000:=by
 simp only[inP,Bool.and_eq_true,decide_eq_true_eq]at h;omega
theorem acq:∀(ps:List (Int×Int)),ps.all inP=true->0<=jU ps/\jU ps<(1000000:Int) ^ ps.length
 | [],_=>by simp[jU]
 | p::r,h=>by
  rw[List.all_cons,Bool.and_eq_true]at h;obtain⟨a1,a2,a3,a4⟩:=aeu h.1;obtain⟨b1,b2⟩:=acq r h.2;have hp:=afN r.length;have hm:0<=p.1*1000+p.2/\p.1*1000+p.2<=999999:=by omega
  simp only[jU,List.length_cons,Int.pow_succ];generalize p.1*1000+p.2=m at*;generalize (1000000:Int) ^ r.length=P at*;have h1:0<=m*P:=Int.mul_nonneg hm.1 (by omega);have h2:m*P<=999999*P:=Int.mul_le_mul_of_nonneg_right hm.2 (by omega);omega
theorem ajq{m m' P x y:Int}(hP:0<P)(hx:0<=x/\x<P)(hy:0<=y/\y<P):(m*P+x<m'*P+y)↔(m<m'∨(m=m'/\x<y)):=by
 rcases Int.lt_trichotomy m m' with h | h | h
 ·have:(m+1)*P<=m'*P:=Int.mul_le_mul_of_nonneg_right (by omega) (by omega)
  rw[Int.add_mul]at this;constructor
  ·intro _;exact .inl h
  ·intro _;omega
 ·subst h
  constructor
  ·intro q;exact .inr ⟨rfl,by omega⟩
  ·intro q;omega
 ·have:(m'+1)*P<=m*P:=Int.mul_le_mul_of_nonneg_right (by omega) (by omega)
  rw[Int.add_mul]at this;constructor
  ·intro q;omega
  ·intro q;omega
theorem acr{p q:Int×Int}{r r':List (Int×Int)}(hl:r.length=r'.length)(hp:inP p=true)(hq:inP q=true)(hr:r.all inP=true)(hr':r'.all inP=true):
  (jU (p::r)<jU (q::r'))↔((p.1<q.1∨(p.1=q.1/\p.2<q.2))∨((p.1=q.1/\p.2=q.2)/\jU r<jU r')):=by
 obtain⟨a1,a2,a3,a4⟩:=aeu hp;obtain⟨c1,c2,c3,c4⟩:=aeu hq;have b:=acq r hr;have b':=acq r' hr';rw[←hl]at b';simp only[jU];rw[←hl,ajq (afN r.length) b b'];constructor
 ·rintro (h | ⟨h,k⟩)
  ·left;omega
  ·right;exact⟨by omega,k⟩
 ·rintro (h | ⟨h,k⟩)
  ·left;omega
  ·right;exact⟨by omega,k⟩
theorem ady:∀{r r':List (Int×Int)},r.length=r'.length->r.all inP=true->r'.all inP=true->jU r=jU r'->r=r'
 | [],[],_,_,_,_=>rfl
 | [],_::_,h,_,_,_=>by simp at h
 |_::_,[],h,_,_,_=>by simp at h
 | p::r,q::r',h,h1,h2,e=>by
  rw[List.all_cons,Bool.and_eq_true]at h1 h2;have hl:r.length=r'.length:=by simpa using h
  have l1:=acr hl h1.1 h2.1 h1.2 h2.2;have l2:=acr hl.symm h2.1 h1.1 h2.2 h1.2;have n1:¬ jU (p::r)<jU (q::r'):=by omega
  have n2:¬ jU (q::r')<jU (p::r):=by omega
  rw[l1]at n1;rw[l2]at n2;have e1:p.1=q.1/\p.2=q.2:=by omega
  have e2:jU r=jU r':=by omega
  obtain⟨p1,p2⟩:=p;obtain⟨q1,q2⟩:=q;simp only at e1;rw[e1.1,e1.2,ady hl h1.2 h2.2 e2]
noncomputable def zr(h:Heap):List Value->List (Int×Int)->Prop
 | [],ps=>ps=[]
 |v::vs,ps=>∃p r a,ps=p::r/\v= .ref a/\PairAt h (.ref a) p/\zr h vs r
theorem zr.len{h:Heap}:∀{vs:List Value}{ps:List (Int×Int)},zr h vs ps->vs.length=ps.length
 | [],ps,e=>by cases (show ps=[] from e);rfl
 |v::vs,ps,⟨p,r,a,e,_,_,k⟩=>by rw[e,List.length_cons,List.length_cons,k.len]
structure SetAt(h:Heap)(u:Value)(ps:List (Int×Int)):Prop where
 ex:∃a o k vs,u= .ref a/\h.get? a=some o/\o.cls= .type "tuple"/\o.data= .seq (List.toArray vs) k/\zr h vs ps
theorem afO{X:Cx}(hu:X.A.in1.in1.units+8<cLine){s:Shared}{Q:Bool->SP0}:∀(us vs:List Value) (ps qs:List (Int×Int)) (i:Nat),zr s.heap us ps->zr s.heap vs qs->ps.length=qs.length->ps.all inP=true->qs.all inP=true->Q (decide (jU ps<jU qs)) s->
  PySem.W.KatLex X.prog X.w X.A.in1.in1 false false Q (us.zip vs) i s
 | [],vs,ps,qs,i,a,b,hl,_,_,h=>by
  cases (show ps=[] from a);cases qs with
  |nil=>exact PySem.W.kat_nil (by simpa[jU]using h)
  |cons q qs=>simp at hl
 | u::us,[],ps,qs,i,a,b,hl,_,_,h=>by
  cases (show qs=[] from b);obtain⟨p,r,_,rfl,_⟩:=a;simp at hl
 | u::us,v::vs,ps,qs,i,a,b,hl,h1,h2,h=>by
  obtain⟨p,r,a2,rfl,rfl,pa,ra⟩:=a;obtain⟨q,r',b2,rfl,rfl,pb,rb⟩:=b;rw[List.all_cons,Bool.and_eq_true]at h1 h2;have hl':r.length=r'.length:=by simpa using hl
  have hr:=acr hl' h1.1 h2.1 h1.2 h2.2;show PySem.W.KatLex X.prog X.w X.A.in1.in1 false false Q ((.ref a2,.ref b2)::us.zip vs) i s;refine PySem.W.kat_cons (SeqAt.eqAt_reads (zA p) (zA q) _ s _ _ [] [] (aco pa) (aco pb) rfl rfl ?_ X.prog X.w _ _ ?_)
  ·have:(zA p).depth=2∨(zA p).depth<=8:= .inr (by simp[zA,PyData.depth,PyData.depthAll])
   omega
  rw[alb];by_cases e2:p.1=q.1/\p.2=q.2
  ·rw[decide_eq_true e2]
   refine PySem.W.kat_yes (afO hu us vs r r' (i+1) ra rb hl' h1.2 h2.2 ?_)
   have:decide (jU (p::r)<jU (q::r'))=decide (jU r<jU r'):=by
    apply decide_eq_decide.mpr;rw[hr];constructor
    ·rintro (z | ⟨_,z⟩)
     ·omega
     ·exact z
    ·exact fun z=> .inr ⟨e2,z⟩
   rw[←this];exact h
  ·rw[decide_eq_false e2]
   obtain⟨t1,t2,i1⟩:=acp pa;obtain⟨t3,t4,i2⟩:=acp pb;refine PySem.W.kat_no ?_;rw[Bool.false_and];refine PySem.W.kat_one _ _ (HT.lt_tupInts (ns:=[p.1,p.2]) (ms:=[q.1,q.2]) i1 i2 (.cons _ t1 (.cons _ t2 .nil)) (.cons _ t3 (.cons _ t4 .nil)) (by omega) ?_);show Q (HT.lexLt [p.1,p.2] [q.1,q.2]) s
   have:HT.lexLt [p.1,p.2] [q.1,q.2]=decide (jU (p::r)<jU (q::r')):=by
    rw[HT.lexLt_cons,HT.lexLt_cons,HT.lexLt_nil_nil];by_cases c1:p.1=q.1
    ·rw[if_pos c1,if_neg (fun z=>e2 ⟨c1,z⟩)]
     apply decide_eq_decide.mpr;rw[hr];constructor
     ·exact fun z=> .inl (.inr ⟨c1,z⟩)
     ·rintro (z | ⟨z,_⟩)
      ·omega
      ·exact absurd z e2
    ·rw[if_neg c1]
     apply decide_eq_decide.mpr;rw[hr];constructor
     ·exact fun z=> .inl (.inl z)
     ·rintro (z | ⟨z,_⟩)
      ·omega
      ·exact absurd z e2
   rw[this];exact h
theorem apk{X:Cx}(hu:X.A.in1.in1.units+8<cLine){n:Nat}{s:Shared}{u v:Value}{p q:List (Int×Int)}{Q:Bool->SP0}{E:Value->SP0}(hp:inS n p=true)(hq:inS n q=true)(xu:SetAt s.heap u p)(xv:SetAt s.heap v q)
  (h:Q (decide (jU p<jU q)) s):wpAny (model X.prog X.w) X.A.in1.in1 (keyLt' (tuples' (Value.type "tuple" != Value.type "tuple")) u v) Q E s:=by
 obtain⟨a,oa,ka,us,rfl,ea,_,da,pa⟩:=xu.ex;obtain⟨b,ob,kb,vs,rfl,eb,_,db,pb⟩:=xv.ex;simp only[inS,Bool.and_eq_true,decide_eq_true_eq]at hp hq;have hT:(Value.type "tuple" != Value.type "tuple")=false:=by decide
 rw[hT];refine PySem.W.kat_lt ea da eb db ?_
 have hz:decide ((List.toArray us).size<(List.toArray vs).size)=false:=by
  rw[List.size_toArray,List.size_toArray,pa.len,pb.len];exact decide_eq_false (by omega)
 rw[hz];exact afO hu us vs p q 0 pa pb (by omega) hp.2 hq.2 h
section
variable {X:Cx}
theorem afP{Kp:List (Addr×Obj)}{σ:St}{H:Hp}{s:Shared}{h':Heap}(I:Inv X Kp σ H s)(kp:∀b o,b≠X.env.locals->s.heap.get? b=some o->h'.get? b=some o):∀(ps:List (Int×Int)) (xs:List V) (us:List Value),Reps X.K H (ps.map zA) xs->jB xs us->zr h' us ps
 | [],xs,us,r,v=>by
  cases (show xs=[] from r);cases v;rfl
 | p::ps,xs,us,r,v=>by
  obtain⟨x,q,rfl,e2,e3⟩:=r;cases v with
  | cons y v=>
   obtain⟨a,rfl,pp⟩:=ank I e2 y kp;exact⟨p,ps,a,rfl,rfl,pp,afP I kp ps _ _ e3 v⟩
theorem ald{Kp:List (Addr×Obj)}{σ:St}{H:Hp}{s:Shared}{v:V}{p:List (Int×Int)}{u:Value}{h':Heap}(I:Inv X Kp σ H s)(r:Rep X.K H (QE p) v)(rv:jK v u)(kp:∀b o,b≠X.env.locals->s.heap.get? b=some o->h'.get? b=some o):SetAt h' u p:=by
 obtain⟨a2,ws,e2,e3,e4⟩:=r;subst e2;cases rv;obtain⟨its,r3,⟨o,eo,co,k,dk⟩,_⟩:=I.tuple e3;exact⟨a2,o,k,its,rfl,kp a2 o (alc I eo dk) eo,co,dk,afP I kp p ws its e4 r3⟩
end
noncomputable def aev:PyData->Option (Int×Int)
 |.tuple [.int p,.int q]=>some (p,q)
 |_=>none
noncomputable def qQ:LP->Option (List (Int×Int))
 | []=>some []
 |d::ds=>(aev d).bind fun t=>(qQ ds).map fun ts=>t::ts
theorem ZW:∀{ds:LP}{ts:List (Int×Int)},qQ ds=some ts->ds=ts.map zA
 | [],ts,h=>by cases h;rfl
 | d::ds,ts,h=>by
  cases h1:aev d with
  |none=>simp[qQ,h1]at h
  | some t=>
   cases h2:qQ ds with
   |none=>simp[qQ,h1,h2]at h
   | some r=>
    have:t::r=ts:=by simpa[qQ,h1,h2]using h
    subst this
    have hd:d=zA t:=by
     unfold aev at h1;split at h1
     ·cases h1;rfl
     ·cases h1
    rw[hd,ZW h2];rfl
theorem aa9:∀(ts:List (Int×Int)),qQ (ts.map zA)=some ts
 | []=>rfl
 | t::ts=>by
  show(some t).bind (fun t=>(qQ (ts.map zA)).map fun ts=>t::ts)=_;rw[aa9 ts];rfl
noncomputable def aha:PyData->Option (List (Int×Int))
 |.tuple ds=>qQ ds
 |_=>none
noncomputable def Jh:LP->Option (List (List (Int×Int)))
 | []=>some []
 |d::ds=>(aha d).bind fun t=>(Jh ds).map fun ts=>t::ts
theorem acs:∀{ds:LP}{ts:List (List (Int×Int))},Jh ds=some ts->ds=ts.map QE
 | [],ts,h=>by cases h;rfl
 | d::ds,ts,h=>by
  cases h1:aha d with
  |none=>simp[Jh,h1]at h
  | some t=>
   cases h2:Jh ds with
   |none=>simp[Jh,h1,h2]at h
   | some r=>
    have:t::r=ts:=by simpa[Jh,h1,h2]using h
    subst this
    have hd:d=QE t:=by
     unfold aha at h1;split at h1
     ·rw[ZW h1];rfl
     ·cases h1
    rw[hd,acs h2];rfl
theorem adz:∀(ts:List (List (Int×Int))),Jh (ts.map QE)=some ts
 | []=>rfl
 | t::ts=>by
  show(qQ (t.map zA)).bind (fun t=>(Jh (ts.map QE)).map fun ts=>t::ts)=_;rw[aa9 t,adz ts];rfl
set_option maxHeartbeats 4000000 in
section
variable {X:Cx}
end
section
variable {prog:Program}{w:World}{A:Around}{E:Value->SP0}{s:Shared}
end
section
variable {X:Cx}{a:Expr}{fa:RP}{pos p1 p2 p3:Pos}{j:Nat}
theorem Reps.rev{K:Fg}{H:Hp}{ds:LP}{xs:List V}(h:Reps K H ds xs):Reps K H ds.reverse xs.reverse:=by
 have app:∀{as bs:LP} {us vs:List V},Reps K H as us->Reps K H bs vs->Reps K H (as++bs) (us++vs):=by
  intro as
  induction as with
  |nil=>intro bs us vs h1 h2;cases (show us=[] from h1);exact h2
  | cons d as ih=>
   intro bs us vs ⟨x,r,e,h1,h2⟩ h3;subst e;exact⟨x,r++vs,rfl,h1,ih h2 h3⟩
 induction ds generalizing xs with
 |nil=>cases (show xs=[] from h);rfl
 | cons d ds ih=>
  obtain⟨x,r,rfl,h1,h2⟩:=h;rw[List.reverse_cons,List.reverse_cons];exact app (ih h2) ⟨x,[],rfl,h1,rfl⟩
end
section
variable {X:Cx}{e b ev:Expr}{j8:List Stmt}{fe fk fv:RP}{G:RO}{pos pos2:Pos}
end
section
variable {X:Cx}
theorem aba:∀ns:List Int,qD (ns.map PyData.int)=some ns
 | []=>rfl
 |n::ns=>by simp[qD,Qb,aba ns]
theorem RepM.ints{K:Fg}{H:Hp}:∀{r:List (PyData×PyData)}{ks:List (Key×V)}{ns:List Int},RepM K H r ks->qD (r.map (·.1))=some ns->ks.map (·.1)=ns.map (fun n=>(Sum.inl n:Key))
 | [],ks,ns,h,e=>by cases (show ks=[] from h);cases e;rfl
 | (k,c)::r,ks,ns,⟨i,x,s,h1,h2,h3,h4⟩,e=>by
  subst h1;subst h2;have e':=zS e;cases ns with
  |nil=>simp at e'
  | cons n ns=>
   rw[List.map_cons,List.map_cons]at e';obtain⟨e1,e2⟩:=List.cons.inj e'
   have e1:i=Sum.inl n:=by
    cases i with
    |inl i=>exact congrArg _ (by injection e1)
    |inr t=>cases e1
   have e3:qD (r.map (·.1))=some ns:=by rw[e2];exact aba ns
   rw[List.map_cons,List.map_cons,RepM.ints h4 e3,e1]
end
section
variable {X:Cx}{σ:St}{H:Hp}{s:Shared}{h':Heap}{e C:Addr}{E:Value->SP0}{A:Around}
end
section
variable {X:Cx}{e a b c:Expr}{es:List Expr}{pos:Pos}
end
section
variable {prog:Program}{w:World}{A:Around}{s:Shared}{R:Result->SP0}
end
section
variable {X:Cx}{tg src:Expr}
end
section
variable {X:Cx}{e:Expr}{st:Stmt}{j8:List Stmt}{fa:RP}{G F:RO}{pos:Pos}
end
section
variable {X:Cx}{e a b c:Expr}{fa fb fc:RP}{pos p2:Pos}
end
section
variable {X:Cx}{own:Option Nat}{e a b c tg src:Expr}{body:List Stmt}{F:RO}{pos:Pos}
variable {es:List Expr}
end
end BX
end
section
namespace BX.Tim
open PySem
open PyProof.Rows (SortSt SortKind Keyed kindOf arrOf pendingOf gallopOf failedOf setArr setPending keyLt' lt' elem' ltAt' lt'_eq elem'_eq ltAt'_eq wpS wpS_pure wpS_bind wpS_mono wpS_get wpS_modify wpS_forRange wpS_lift)
noncomputable def aqH:Bool->Keyed->Array Keyed->Nat->Nat->Nat->StateT SortSt Sem (Option Nat):=sortPriv% PySem.Builtin.gallop
variable {prog:Program}{w:World}{A:Around}{E:Value->SP0}{s:Shared}{κ:SortKind}{it:Keyed->Prop}{rk:Keyed->Int}
noncomputable def Cmp(prog:Program)(w:World)(A:Around)(s:Shared)(κ:SortKind)(it:Keyed->Prop)(rk:Keyed->Int):Prop:=
 ∀(x y:Keyed),it x->it y->∀(E:Value->SP0) (Q:Bool->SP0),Q (decide (rk x<rk y)) s->wpAny (model prog w) A (keyLt' κ x.1 y.1) Q E s
theorem afQ(hc:Cmp prog w A s κ it rk){st:SortSt}(hk:kindOf st=κ){x y:Keyed}(hx:it x)(hy:it y){Q:Option Bool->SortSt->Prop}(h:Q (some (decide (rk x<rk y))) st):wpS (model prog w) A E s (lt' x y) Q st:=by
 rw[lt'_eq];refine wpS_bind (wpS_get ?_);rw[hk];refine wpS_bind (wpS_lift (wpAny_attempt (hc x y hx hy _ _ ⟨rfl,?_⟩)));exact wpS_pure h
theorem jW{arr:Array Keyed}{i:Nat}{x:Keyed}(hx:arr[i]?=some x){st:SortSt}{Q:Keyed->SortSt->Prop}(h:Q x st):wpS (model prog w) A E s (elem' arr i) Q st:=by
 rw[elem'_eq,hx];exact wpS_pure h
noncomputable def bey(rk:Keyed->Int)(left:Bool)(key x:Keyed):Bool:=if left=true then decide (rk x<rk key) else !decide (rk key<rk x)
theorem act(hc:Cmp prog w A s κ it rk){st:SortSt}(hk:kindOf st=κ){left:Bool}{key x:Keyed}(hkey:it key)(hx:it x){arr:Array Keyed}{i:Nat}(e:arr[i]?=some x){Q:Option Bool->SortSt->Prop}(h:Q (some (bey rk left key x)) st):
  wpS (model prog w) A E s (do let x ←elem' arr i;if left=true then lt' x key else do let r ←lt' key x;pure (Option.map (fun x=>!x) r)) Q st:=by
 refine wpS_bind (jW e ?_);unfold bey at h;by_cases hl:left=true
 ·rw[if_pos hl]at h ⊢
  exact afQ hc hk hx hkey h
 ·rw[if_neg hl]at h ⊢
  exact wpS_bind (afQ hc hk hkey hx (wpS_pure h))
noncomputable abbrev GS:=Option (Option Nat)×Nat×Nat
theorem aqI{M:Model}{n:Nat}{b:Nat->Bool}(hm:∀i j,i<=j->j<n->b j=true->b i=true){F:Nat->GS->StateT SortSt Sem (ForInStep GS)}{st:SortSt}
  (hd:∀i lo hi (Q:ForInStep GS->SortSt->Prop),hi<=lo->Q (.done (none,lo,hi)) st->wpS M A E s (F i (none,lo,hi)) Q st)
  (hs:∀i lo hi (Q:ForInStep GS->SortSt->Prop),lo<hi->hi<=n->(b (lo+(hi-lo) / 2)=true->Q (.yield (none,lo+(hi-lo) / 2+1,hi)) st)->(b (lo+(hi-lo) / 2)=false->Q (.yield (none,lo,lo+(hi-lo) / 2)) st)->wpS M A E s (F i (none,lo,hi)) Q st)
  {lo hi:Nat} (h1:lo<=hi) (h2:hi<=n) (h3:∀j,j<lo->b j=true) (h4:∀j,hi<=j->j<n->b j=false) {Q:GS->SortSt->Prop}
  (hq:∀k,k<=n->(∀j,j<k->b j=true)->(∀j,k<=j->j<n->b j=false)->Q (none,k,k) st):wpS M A E s (forIn [:n] ((none,lo,hi):GS) F) Q st:=by
 refine wpS_forRange (I:=fun i (c:GS) st'=>st'=st/\∃lo hi,c=(none,lo,hi)/\lo<=hi/\hi<=n/\hi-lo<=n-i/\(∀j,j<lo->b j=true)/\(∀j,hi<=j->j<n->b j=false)) ?_ ?_ ⟨rfl,lo,hi,rfl,h1,h2,by omega,h3,h4⟩
 ·rintro i c st' _ hin ⟨rfl,lo,hi,rfl,a1,a2,a3,a4,a5⟩
  by_cases hlh:hi<=lo
  ·have:lo=hi:=by omega
   subst this;exact hd _ _ _ _ hlh (hq lo a2 a4 a5)
  ·exact hs _ _ _ _ (by omega) a2 (fun q=>⟨rfl,_,_,rfl,by omega,a2,by omega,fun j hj=>hm j _ (by omega) (by omega) q,a5⟩) fun q=>⟨rfl,_,_,rfl,by omega,by omega,by omega,a4,fun j h5 h6=>by
    cases z:b j with
    | false=>rfl
    | true=>rw [hm _ j h5 h6 z] at q; cases q⟩
 ·rintro c st' ⟨rfl,lo,hi,rfl,a1,a2,a3,a4,a5⟩
  have:lo=hi:=by omega
  subst this;exact hq lo a2 a4 a5
theorem aaD(hc:Cmp prog w A s κ it rk){st:SortSt}(hk:kindOf st=κ){left:Bool}{key:Keyed}(hkey:it key){arr:Array Keyed}{base n hint:Nat}(hh:hint<n)(g:Nat->Keyed)(hb:∀j,j<n->arr[base+j]?=some (g j)/\it (g j))
  (hm:∀i j,i<=j->j<n->bey rk left key (g j)=true->bey rk left key (g i)=true) {Q:Option Nat->SortSt->Prop}
  (hq:∀k,k<=n->(∀j,j<k->bey rk left key (g j)=true)->(∀j,k<=j->j<n->bey rk left key (g j)=false)->Q (some k) st):wpS (model prog w) A E s (aqH left key arr base n hint) Q st:=by
 have hf:∀i j,i<=j->j<n->bey rk left key (g i)=false->bey rk left key (g j)=false:=fun i j hij hj e=>by
  cases q:bey rk left key (g j)with
  |false=>rfl
  |true=>rw[hm i j hij hj q]at e;cases e
 unfold aqH;refine wpS_bind (act hc hk hkey (hb hint hh).2 (hb hint hh).1 ?_);simp only;cases q:bey rk left key (g hint)with
 | true=>
  rw[if_pos rfl]
  refine wpS_bind (wpS_mono (Q:=fun (c:GS) st'=>st'=st/\∃lo hi,c=(none,lo,hi)/\lo<hi/\lo<n-hint/\bey rk left key (g (hint+lo))=true/\(hi >= n-hint∨bey rk left key (g (hint+hi))=false))
   (wpS_forRange (I:=fun i (c:GS) st'=>st'=st/\∃ lo hi,c=(none,lo,hi)/\lo<hi/\lo<n - hint/\i<hi/\bey rk left key (g (hint+lo))=true) ?_ ?_ ⟨rfl,_,_,rfl,by omega,by omega,by omega,q⟩) ?_)
  ·rintro i c st' _ hin ⟨rfl,lo,hi,rfl,a1,a2,a3,a4⟩
   simp only;by_cases hlh:hi >= n-hint
   ·rw[if_pos hlh]
    exact wpS_pure ⟨rfl,_,_,rfl,a1,a2,a4,.inl hlh⟩
   ·rw[if_neg hlh]
    refine wpS_bind (act hc hk hkey (hb _ (by omega)).2 (hb _ (by omega)).1 ?_);simp only;cases q2:bey rk left key (g (hint+hi))with
    |true=>exact wpS_pure ⟨rfl,_,_,rfl,by omega,by omega,by omega,q2⟩
    |false=>exact wpS_pure ⟨rfl,_,_,rfl,a1,a2,a4,.inr q2⟩
  ·rintro c st' ⟨rfl,lo,hi,rfl,a1,a2,a3,a4⟩
   exact⟨rfl,_,_,rfl,a1,a2,a4,.inl (by omega)⟩
  ·rintro c st' ⟨rfl,lo,hi,rfl,a1,a2,a3,a4⟩
   simp only;refine wpS_bind (aqI hm (fun i lo hi Q' h k=>?_) (fun i lo hi Q' h h' k1 k2=>?_) (by omega) (by omega) (fun j hj=>hm j (hint+lo) (by omega) (by omega) a3) (fun j h5 h6=>?_) fun k k1 k2 k3=>wpS_pure (hq k k1 k2 k3))
   ·simp only
    rw[if_pos h];exact wpS_pure k
   ·simp only
    rw[if_neg (by omega)];refine wpS_bind (act hc hk hkey (hb _ (by omega)).2 (hb _ (by omega)).1 ?_);simp only;cases q3:bey rk left key (g (lo+(hi-lo) / 2))with
    |true=>exact wpS_pure (k1 q3)
    |false=>exact wpS_pure (k2 q3)
   ·rcases a4 with a4 | a4
    ·omega
    ·by_cases c:hi<n-hint
     ·exact hf (hint+hi) j (by omega) h6 a4
     ·omega
 | false=>
  rw[if_neg (by simp)]
  refine wpS_bind (wpS_mono (Q:=fun (c:GS) st'=>st'=st/\∃lo hi,c=(none,lo,hi)/\lo<hi/\lo<hint+1/\bey rk left key (g (hint-lo))=false/\(hi >= hint+1∨bey rk left key (g (hint-hi))=true))
   (wpS_forRange (I:=fun i (c:GS) st'=>st'=st/\∃ lo hi,c=(none,lo,hi)/\lo<hi/\lo<hint+1/\i<hi/\bey rk left key (g (hint - lo))=false) ?_ ?_ ⟨rfl,_,_,rfl,by omega,by omega,by omega,q⟩) ?_)
  ·rintro i c st' _ hin ⟨rfl,lo,hi,rfl,a1,a2,a3,a4⟩
   simp only;by_cases hlh:hi >= hint+1
   ·rw[if_pos hlh]
    exact wpS_pure ⟨rfl,_,_,rfl,a1,a2,a4,.inl hlh⟩
   ·rw[if_neg hlh]
    refine wpS_bind (act hc hk hkey (hb _ (by omega)).2 (hb _ (by omega)).1 ?_);simp only;cases q2:bey rk left key (g (hint-hi))with
    |false=>exact wpS_pure ⟨rfl,_,_,rfl,by omega,by omega,by omega,q2⟩
    |true=>exact wpS_pure ⟨rfl,_,_,rfl,a1,a2,a4,.inr q2⟩
  ·rintro c st' ⟨rfl,lo,hi,rfl,a1,a2,a3,a4⟩
   exact⟨rfl,_,_,rfl,a1,a2,a4,.inl (by omega)⟩
  ·rintro c st' ⟨rfl,lo,hi,rfl,a1,a2,a3,a4⟩
   simp only;refine wpS_bind (aqI hm (fun i lo hi Q' h k=>?_) (fun i lo hi Q' h h' k1 k2=>?_) (by omega) (by omega) (fun j hj=>?_) (fun j h5 h6=>hf (hint-lo) j h5 h6 a3) fun k k1 k2 k3=>wpS_pure (hq k k1 k2 k3))
   ·simp only
    rw[if_pos h];exact wpS_pure k
   ·simp only
    rw[if_neg (by omega)];refine wpS_bind (act hc hk hkey (hb _ (by omega)).2 (hb _ (by omega)).1 ?_);simp only;cases q3:bey rk left key (g (lo+(hi-lo) / 2))with
    |true=>exact wpS_pure (k1 q3)
    |false=>exact wpS_pure (k2 q3)
   ·rcases a4 with a4 | a4
    ·omega
    ·by_cases c:hi<hint+1
     ·exact hm j (hint-hi) (by omega) (by omega) a4
     ·omega
end BX.Tim
end
section
namespace BX.Tim
open PySem
open PyProof.Rows (SortSt SortKind Keyed kindOf arrOf pendingOf gallopOf failedOf setArr setPending keyLt' lt' elem' ltAt' lt'_eq elem'_eq ltAt'_eq wpS wpS_pure wpS_bind wpS_mono wpS_get wpS_modify wpS_forRange wpS_lift)
noncomputable def at'(a:Array Keyed)(j:Nat):Keyed:=a.getD j (Value.none,Value.none)
theorem jX{a:Array Keyed}{j:Nat}(h:j<a.size):a[j]?=some (at' a j):=by simp[at',Array.getD,h]
theorem qg{a:Array Keyed}{j:Nat}(h:j<a.size):a.toList[j]?=some (at' a j):=by rw[←jX h];simp
theorem acu{a:Array Keyed}{i:Nat}{x:Keyed}:x∈a.toList.drop i↔∃j,i<=j/\j<a.size/\x=at' a j:=by
 constructor
 ·intro h
  obtain⟨k,hk,e⟩:=List.mem_iff_getElem.mp h;have hk':i+k<a.size:=by simp at hk;omega
  refine⟨i+k,by omega,hk',?_⟩;have:=qg hk';rw[List.getElem_drop]at e;rw[List.getElem?_eq_getElem (by simpa using hk'),Option.some.injEq]at this;rw[←this];exact e.symm
 ·rintro⟨j,h1,h2,rfl⟩
  have:=qg h2;refine List.mem_iff_getElem?.mpr ⟨j-i,?_⟩;rw[List.getElem?_drop,show i+(j-i)=j by omega];exact this
noncomputable def LeR(rk:Keyed->Int)(x y:Keyed):Prop:=rk x<=rk y
noncomputable def Asc(rk:Keyed->Int)(a:Array Keyed):Prop:=∀i j,i<=j->j<a.size->rk (at' a i)<=rk (at' a j)
noncomputable def Res(rk:Keyed->Int)(a b r:Array Keyed):Prop:=r.toList.Perm (a.toList++b.toList)/\r.toList.Pairwise (LeR rk)
theorem Asc.drop{rk:Keyed->Int}{a:Array Keyed}(h:Asc rk a)(i:Nat):(a.toList.drop i).Pairwise (LeR rk):=by
 rw[List.pairwise_iff_getElem];intro p q hp hq hpq;have hp':i+p<a.size:=by simp at hp;omega
 have hq':i+q<a.size:=by simp at hq;omega
 have e1:=qg hp';have e2:=qg hq';rw[List.getElem?_eq_getElem (by simpa using hp'),Option.some.injEq]at e1;rw[List.getElem?_eq_getElem (by simpa using hq'),Option.some.injEq]at e2;rw[List.getElem_drop,List.getElem_drop,e1,e2];exact h _ _ (by omega) hq'
structure MI(rk:Keyed->Int)(a b out:Array Keyed)(ia ib:Nat):Prop where
 pm:(out.toList++(a.toList.drop ia++b.toList.drop ib)).Perm (a.toList++b.toList)
 so:out.toList.Pairwise (LeR rk)
 le:∀x∈out.toList,∀y∈a.toList.drop ia++b.toList.drop ib,rk x<=rk y
section
variable {rk:Keyed->Int}{a b out:Array Keyed}{ia ib:Nat}
theorem ale(a:Array Keyed){i k:Nat}(h:i+k<=a.size):a.toList.drop i=(a.extract i (i+k)).toList++a.toList.drop (i+k):=by
 rw[Array.toList_extract,List.extract,show i+k-i=k by omega,←List.drop_drop];exact(List.take_append_drop k _).symm
theorem aic{x:Keyed}{i k:Nat}(h:i+k<=a.size)(hx:x∈(a.extract i (i+k)).toList):∃j,i<=j/\j<i+k/\x=at' a j:=by
 rw[Array.toList_extract,List.extract,show i+k-i=k by omega]at hx;obtain⟨n,hn,e⟩:=List.mem_iff_getElem.mp hx;have hn':n<k/\i+n<a.size:=by simp at hn;omega
 have:=qg hn'.2;rw[List.getElem?_eq_getElem (by simpa using hn'.2),Option.some.injEq]at this;refine⟨i+n,by omega,by omega,?_⟩;rw[←e,List.getElem_take,List.getElem_drop,this]
theorem MI.extA(M:MI rk a b out ia ib)(sa:Asc rk a){k:Nat}(h:ia+k<=a.size)(hle:∀i,ia<=i->i<ia+k->∀j,ib<=j->j<b.size->rk (at' a i)<=rk (at' b j)):MI rk a b (out++a.extract ia (ia+k)) (ia+k) ib:=by
 obtain⟨pm,so,le⟩:=M;have sd:=sa.drop ia;rw[ale a h]at pm le sd;have pa:=List.pairwise_append.mp sd;refine⟨?_,?_,fun x hx y hy=>?_⟩
 ·rw[Array.toList_append];simpa[List.append_assoc]using pm
 ·rw[Array.toList_append]
  exact List.pairwise_append.mpr ⟨so,pa.1,fun x hx y hy=>le x hx y (by simp only[List.mem_append];exact .inl (.inl hy))⟩
 ·rw[Array.toList_append]at hx
  rcases List.mem_append.mp hx with hx | hx
  ·exact le x hx y (by simp only[List.mem_append]at hy ⊢;rcases hy with hy | hy;exact .inl (.inr hy);exact .inr hy)
  ·rcases List.mem_append.mp hy with hy | hy
   ·exact pa.2.2 x hx y hy
   ·obtain⟨i,i1,i2,rfl⟩:=aic h hx
    obtain⟨j,j1,j2,rfl⟩:=acu.mp hy;exact hle i i1 i2 j j1 j2
theorem MI.swap(M:MI rk a b out ia ib):MI rk b a out ib ia:=
 ⟨((List.Perm.append_left _ List.perm_append_comm).trans M.pm).trans List.perm_append_comm,M.so,fun x hx y hy=>M.le x hx y (by simp only[List.mem_append]at hy ⊢;exact hy.symm)⟩
theorem MI.extB(M:MI rk a b out ia ib)(sb:Asc rk b){k:Nat}(h:ib+k<=b.size)(hle:∀i,ib<=i->i<ib+k->∀j,ia<=j->j<a.size->rk (at' b i)<=rk (at' a j)):MI rk a b (out++b.extract ib (ib+k)) ia (ib+k):=(M.swap.extA sb h hle).swap
theorem aid(a:Array Keyed){i:Nat}(h:i<a.size)(out:Array Keyed):out++a.extract i (i+1)=out.push (at' a i):=by
 apply Array.toList_inj.mp;rw[Array.toList_append,Array.toList_push,Array.toList_extract,List.extract,show i+1-i=1 by omega]
 congr 1
 have:=qg h;rw[List.take_one,List.head?_drop,this];rfl
theorem MI.pushA(M:MI rk a b out ia ib)(sa:Asc rk a)(h:ia<a.size)(hle:∀j,ib<=j->j<b.size->rk (at' a ia)<=rk (at' b j)):MI rk a b (out.push (at' a ia)) (ia+1) ib:=by
 rw[←aid a h out];exact M.extA sa h fun i i1 i2 j j1 j2=>by rw[show i=ia by omega];exact hle j j1 j2
theorem MI.pushB(M:MI rk a b out ia ib)(sb:Asc rk b)(h:ib<b.size)(hle:∀j,ia<=j->j<a.size->rk (at' b ib)<=rk (at' a j)):MI rk a b (out.push (at' b ib)) ia (ib+1):=(M.swap.pushA sb h hle).swap
theorem aie(a:Array Keyed)(i:Nat):(a.extract i).toList=a.toList.drop i:=by
 rw[Array.toList_extract,List.extract];exact List.take_of_length_le (by simp)
theorem MI.fin(M:MI rk a b out ia ib)(so:(a.toList.drop ia++b.toList.drop ib).Pairwise (LeR rk)):Res rk a b (out++a.extract ia++b.extract ib):=by
 unfold Res;rw[Array.toList_append,Array.toList_append,aie,aie,List.append_assoc];exact⟨M.pm,List.pairwise_append.mpr ⟨M.so,so,M.le⟩⟩
theorem MI.doneB(M:MI rk a b out ia ib)(sa:Asc rk a)(h:ib=b.size):Res rk a b (out++a.extract ia++b.extract ib):=M.fin (by
 subst h;rw [show b.toList.drop b.size=[] by simp,List.append_nil]; exact sa.drop ia)
theorem MI.doneA(M:MI rk a b out ia ib)(sb:Asc rk b)(h:ia=a.size):Res rk a b (out++a.extract ia++b.extract ib):=M.fin (by
 subst h;rw [show a.toList.drop a.size=[] by simp,List.nil_append]; exact sb.drop ib)
theorem MI.last(M:MI rk a b out ia ib)(sb:Asc rk b)(h:ia+1=a.size)(hl:∀j,j<b.size->rk (at' b j)<=rk (at' a (a.size-1))):Res rk a b (out++b.extract ib++a.extract ia):=by
 have:=M.swap.fin (by
  rw [List.pairwise_append];refine ⟨sb.drop ib,?_,fun x hx y hy=>?_⟩
  ·rw [List.pairwise_iff_getElem]
   intro p q hp hq hpq;simp at hp hq; omega
  ·obtain ⟨i,i1,i2,rfl⟩:=acu.mp hx
   obtain ⟨j,j1,j2,rfl⟩:=acu.mp hy;rw [show j=a.size - 1 by omega]; exact hl i i2)
 exact⟨this.1.trans List.perm_append_comm,this.2⟩
theorem MI.sz(M:MI rk a b out ia ib)(h1:ia<=a.size)(h2:ib<=b.size):out.size=ia+ib:=by
 have:=M.pm.length_eq;simp at this;omega
end
noncomputable def aqJ:Array Keyed->Array Keyed->StateT SortSt Sem (Array Keyed):=sortPriv% PySem.Builtin.mergeLo
structure jm(st st':SortSt):Prop where
 k:kindOf st'=kindOf st
 a:arrOf st'=arrOf st
 p:pendingOf st'=pendingOf st
 f:failedOf st'=failedOf st
variable {prog:Program}{w:World}{A:Around}{E:Value->SP0}{s:Shared}{κ:SortKind}{it:Keyed->Prop}{rk:Keyed->Int}
theorem adA{key x:Keyed}:bey rk false key x=true↔rk x<=rk key:=by
 unfold bey;simp
theorem adB{key x:Keyed}:bey rk true key x=true↔rk x<rk key:=by
 unfold bey;simp
theorem ahb{key x:Keyed}(h:bey rk true key x=false):rk key<=rk x:=by
 unfold bey at h;simpa using h
theorem ahc{key x:Keyed}(h:bey rk false key x=false):rk key<rk x:=by
 unfold bey at h;simpa using h
theorem jE{M:Model}{α:Type}{c:Prop}[Decidable c]{x y:StateT SortSt Sem α}{Q:α->SortSt->Prop}{st:SortSt}(h1:c->wpS M A E s x Q st)(h2:¬ c->wpS M A E s y Q st):wpS M A E s (if c then x else y) Q st:=by
 by_cases h:c
 ·rw[if_pos h];exact h1 h
 ·rw[if_neg h];exact h2 h
theorem afR(out a:Array Keyed)(i:Nat):out++a.extract i (i+0)=out:=by
 apply Array.toList_inj.mp;rw[Array.toList_append,Array.toList_extract,List.extract];simp
theorem jm.trans{a b c:SortSt}(h:jm a b)(k:jm b c):jm a c:=⟨k.k.trans h.k,k.a.trans h.a,k.p.trans h.p,k.f.trans h.f⟩
noncomputable def sMG:Nat->StateT SortSt Sem Unit:=sortPriv% PySem.Builtin.setMinGallop
theorem aew{M:Model}{g:Nat}{st:SortSt}{Q:Unit->SortSt->Prop}(h:∀st',jm st st'->Q () st'):wpS M A E s (sMG g) Q st:=wpS_modify (h _ ⟨rfl,rfl,rfl,rfl⟩)
noncomputable abbrev LS:=Option (Array Keyed)×Array Keyed×Nat×Nat×Nat
noncomputable abbrev LS1:=Option (Array Keyed)×Array Keyed×Nat×Nat×Nat×Nat
noncomputable abbrev LS2:=Option (Array Keyed)×Array Keyed×Nat×Nat×Nat×Nat×Nat
theorem apl(hc:Cmp prog w A s κ it rk){st:SortSt}(hk:kindOf st=κ){a b:Array Keyed}(ia0:∀j,j<a.size->it (at' a j))(ib0:∀j,j<b.size->it (at' b j))(sa:Asc rk a)(sb:Asc rk b)(ha:1<=a.size)(hb:1<=b.size)
  (h0:rk (at' b 0)<=rk (at' a 0)) (hl:∀j,j<b.size->rk (at' b j)<=rk (at' a (a.size-1))) {Q:Array Keyed->SortSt->Prop}
  (hq:∀r st',jm st st'->Res rk a b r->Q r st'):wpS (model prog w) A E s (aqJ a b) Q st:=by
 unfold aqJ;refine wpS_bind (wpS_lift (wpAny_rule ⟨rfl,?_⟩));refine wpS_bind (jW (jX (show 0<b.size by omega)) ?_)
 have M0:MI rk a b #[at' b 0] 0 1:=by
  have:=MI.pushB (rk:=rk) (a:=a) (b:=b) (out:=#[]) (ia:=0) (ib:=0) ⟨by simp,by simp,fun x hx=>by simp at hx⟩ sb (by omega) fun j _ hj=>Int.le_trans h0 (sa 0 j (by omega) hj);exact this
 simp only;by_cases c1:(1==b.size)=true
 ·rw[if_pos c1]
  exact wpS_pure (hq _ _ ⟨rfl,rfl,rfl,rfl⟩ (M0.doneB sa (by simpa using c1)))
 rw[if_neg c1];by_cases c2:(0+1==a.size)=true
 ·rw[if_pos c2]
  exact wpS_pure (hq _ _ ⟨rfl,rfl,rfl,rfl⟩ (M0.last sb (by simpa using c2) hl))
 rw[if_neg c2];have d1:1≠b.size:=by simpa using c1
 have d2:0+1≠a.size:=by simpa using c2
 refine wpS_bind (wpS_get ?_);have fin:∀(r:Array Keyed) st',jm st st'->Res rk a b r->Q r st':=hq
 refine wpS_bind (wpS_mono (Q:=fun (c:LS) st'=>jm st st'/\∃r x,c=(some r,x)/\Res rk a b r)
  (wpS_forRange (I:=fun i (c:LS) st'=>jm st st'/\∃ out ia ib mg,c=(none,out,ia,ib,mg)/\MI rk a b out ia ib/\ia+1<a.size/\ib<b.size/\i<ia+ib) ?_ ?_ ⟨⟨rfl,rfl,rfl,rfl⟩,_,_,_,_,rfl,M0,by omega,by omega,by omega⟩) ?_)
 ·rintro i c st1 _ hi ⟨S1,out,ia,ib,mg,rfl,M,b1,b2,b3⟩
  simp only
  refine wpS_bind (wpS_mono (Q:=fun (c:LS1) st'=>st'=st1/\((∃r x,c=(some r,x)/\Res rk a b r)∨∃out ia' ib' x y,c=(none,out,ia',ib',x,y)/\MI rk a b out ia' ib'/\ia'+1<a.size/\ib' < b.size/\ia+ib<=ia'+ib'))
   (wpS_forRange (I:=fun _ (c:LS1) st'=>st'=st1/\∃ out ia' ib' x y,c=(none,out,ia',ib',x,y)/\MI rk a b out ia' ib'/\ia'+1<a.size/\ib' < b.size/\ia+ib<=ia'+ib') ?_ ?_ ⟨rfl,_,_,_,_,_,rfl,M,b1,b2,Nat.le_refl _⟩) ?_)
  ·rintro i2 c st2 _ _ ⟨rfl,out,ia',ib',ac,bc,rfl,M,e1,e2,e3⟩
   simp only;refine wpS_bind (jW (jX e2) ?_);refine wpS_bind (jW (jX (show ia' < a.size by omega)) ?_);refine wpS_bind (afQ hc (S1.k.trans hk) (ib0 _ e2) (ia0 _ (by omega)) ?_);simp only;by_cases lt:rk (at' b ib')<rk (at' a ia')
   ·rw[decide_eq_true lt,if_pos rfl]
    refine wpS_bind (jW (jX e2) ?_);have M':=M.pushB sb e2 fun j j1 j2=>Int.le_trans (Int.le_of_lt lt) (sa _ _ j1 j2);by_cases f1:(ib'+1==b.size)=true
    ·rw[if_pos f1]
     exact wpS_pure ⟨rfl,.inl ⟨_,_,rfl,M'.doneB sa (by simpa using f1)⟩⟩
    rw[if_neg f1];have f1':ib'+1≠b.size:=by simpa using f1
    split
    ·exact wpS_pure ⟨rfl,.inr ⟨_,_,_,_,_,rfl,M',e1,by omega,by omega⟩⟩
    ·exact wpS_pure ⟨rfl,_,_,_,_,_,rfl,M',e1,by omega,by omega⟩
   ·rw[decide_eq_false lt,if_neg Bool.false_ne_true]
    refine wpS_bind (jW (jX (show ia' < a.size by omega)) ?_);have M':=M.pushA sa (by omega) fun j j1 j2=>Int.le_trans (Int.not_lt.mp lt) (sb _ _ j1 j2);by_cases f1:(ia'+1+1==a.size)=true
    ·rw[if_pos f1]
     exact wpS_pure ⟨rfl,.inl ⟨_,_,rfl,M'.last sb (by simpa using f1) hl⟩⟩
    rw[if_neg f1];have f1':ia'+1+1≠a.size:=by simpa using f1
    split
    ·exact wpS_pure ⟨rfl,.inr ⟨_,_,_,_,_,rfl,M',by omega,by omega,by omega⟩⟩
    ·exact wpS_pure ⟨rfl,_,_,_,_,_,rfl,M',by omega,by omega,by omega⟩
  ·rintro c st2 ⟨rfl,out,ia',ib',ac,bc,rfl,M,e1,e2,e3⟩
   exact⟨rfl,.inr ⟨_,_,_,_,_,rfl,M,e1,e2,e3⟩⟩
  ·rintro c st2 ⟨rfl,⟨r,x,rfl,R⟩ | ⟨out,ia',ib',ac,bc,rfl,M,e1,e2,e3⟩⟩
   ·simp only
    exact wpS_pure ⟨S1,_,_,rfl,R⟩
   simp only;refine wpS_bind (wpS_lift (wpAny_rule ⟨rfl,?_⟩))
   refine wpS_bind (wpS_mono (Q:=fun (c:LS2) st'=>jm st st'/\((∃r x,c=(some r,x)/\Res rk a b r)∨∃out ia2 ib2 x,c=(none,out,ia2,ib2,x)/\MI rk a b out ia2 ib2/\ia2+1<a.size/\ib2<b.size/\ia'+ib' < ia2+ib2))
    (wpS_forRange (I:=fun j (c:LS2) st'=>jm st st'/\∃ out ia2 ib2 x y z,c=(none,out,ia2,ib2,x,y,z)/\MI rk a b out ia2 ib2/\ia2+1<a.size/\ib2<b.size/\ia'+ib'+j<=ia2+ib2) ?_ ?_ ⟨S1,_,_,_,_,_,_,rfl,M,e1,e2,by omega⟩) ?_)
   ·rintro j c st3 _ _ ⟨S3,out,ia2,ib2,mg,ac,bc,rfl,M,g1,g2,g3⟩
    simp -zeta -zetaHave only;refine jE (fun _=>wpS_bind (aew fun st4 S4=>?_)) fun _=>wpS_bind (aew fun st4 S4=>?_)
    all_goals
     replace S3:=S3.trans S4
     refine wpS_bind (jW (jX g2) ?_)
     refine wpS_bind (aaD (n:=a.size-ia2) (base:=ia2) (hint:=0) (arr:=a) hc (S3.k.trans hk) (ib0 _ g2) (by omega) (fun j=>at' a (ia2+j)) (fun j hj=>⟨jX (by omega),ia0 _ (by omega)⟩) (fun i j hij hj h=>by
      rw [adA] at h ⊢;exact Int.le_trans (sa _ _ (by omega) (by omega)) h) ?_)
     intro k k1 k2 k3;simp only[adA]at k2
     have M1:=M.extA sa (k:=k) (by omega) fun i i1 i2 j j1 j2=>by
      have:=k2 (i-ia2) (by omega);rw[show ia2+(i-ia2)=i by omega]at this;exact Int.le_trans this (sb _ _ j1 j2)
     have k3':∀j,ia2+k<=j->j<a.size->rk (at' b ib2)<=rk (at' a j):=fun j j1 j2=>by
      have:=ahc (k3 (j-ia2) (by omega) (by omega));simp only[show ia2+(j-ia2)=j by omega]at this;exact Int.le_of_lt this
     have M2:=M1.pushB sb g2 k3';refine jE (fun k0=>jE (fun f1=>wpS_pure ⟨S3,.inl ⟨_,_,rfl,M1.last sb (by simpa using f1) hl⟩⟩) fun f1=>jE (fun f2=>wpS_pure ⟨S3,.inl ⟨_,_,rfl,M1.doneA sb (by simpa using f2)⟩⟩) fun f2=>have f1':ia2+k+1≠a.size:=(by simpa using f1);have f2':ia2+k≠a.size:=(by simpa using f2);?_) fun k0=>have hz:k=0:=(by omega);?_
     all_goals
      try
       obtain rfl:=hz;rw[afR,Nat.add_zero]at M1 M2
      refine wpS_bind (jW (jX g2) ?_);refine jE (fun f3=>wpS_pure ⟨S3,.inl ⟨_,_,rfl,M2.doneB sa (by simpa using f3)⟩⟩) fun f3=>?_;have f3':ib2+1≠b.size:=by simpa using f3
      refine wpS_bind (jW (jX (by omega)) ?_)
      refine wpS_bind (aaD (n:=b.size-(ib2+1)) (base:=ib2+1) (hint:=0) (arr:=b) hc (S3.k.trans hk) (ia0 _ (by omega)) (by omega) (fun j=>at' b (ib2+1+j)) (fun j hj=>⟨jX (by omega),ib0 _ (by omega)⟩) (fun i j hij hj h=>by
       rw [adB] at h ⊢;exact Int.lt_of_le_of_lt (sb _ _ (by omega) (by omega)) h) ?_)
      intro l l1 l2 l3;simp only[adB]at l2
      have M3:=M2.extB sb (k:=l) (by omega) fun i i1 i2 j j1 j2=>by
       have:=l2 (i-(ib2+1)) (by omega);rw[show ib2+1+(i-(ib2+1))=i by omega]at this;exact Int.le_trans (Int.le_of_lt this) (sa _ _ j1 j2)
      have M4:=M3.pushA sa (by omega) fun j j1 j2=>by
       have:=ahb (l3 (j-(ib2+1)) (by omega) (by omega));simp only[show ib2+1+(j-(ib2+1))=j by omega]at this;exact this
      refine jE (fun l0=>jE (fun f4=>wpS_pure ⟨S3,.inl ⟨_,_,rfl,M3.doneB sa (by simpa using f4)⟩⟩) fun f4=>have f4':ib2+1+l≠b.size:=(by simpa using f4);?_) fun l0=>have hy:l=0:=(by omega);?_
      all_goals
       try
        obtain rfl:=hy;rw[afR,Nat.add_zero]at M3 M4
       refine wpS_bind (jW (jX (by omega)) ?_);refine jE (fun f5=>wpS_pure ⟨S3,.inl ⟨_,_,rfl,M4.last sb (by simpa using f5) hl⟩⟩) fun f5=>?_;have f5':=(by simpa using f5:¬ _=a.size);exact jE (fun _=>wpS_pure ⟨S3,.inr ⟨_,_,_,_,rfl,M4,by omega,by omega,by omega⟩⟩) fun _=>wpS_pure ⟨S3,_,_,_,_,_,_,rfl,M4,by omega,by omega,by omega⟩
   ·rintro c st3 ⟨S3,out,ia2,ib2,mg,ac,bc,rfl,M,g1,g2,g3⟩
    exact⟨S3,.inr ⟨_,_,_,_,rfl,M,g1,g2,by omega⟩⟩
   ·rintro c st3 ⟨S3,⟨r,x,rfl,R⟩ | ⟨out,ia2,ib2,x,rfl,M,g1,g2,g3⟩⟩
    ·exact wpS_pure ⟨S3,_,_,rfl,R⟩
    ·refine wpS_bind (wpS_modify (wpS_pure ⟨⟨S3.k,S3.a,S3.p,S3.f⟩,_,_,_,_,rfl,M,g1,g2,by simp only;omega⟩))
 ·rintro c st1 ⟨S1,out,ia,ib,mg,rfl,M,b1,b2,b3⟩
  omega
 ·rintro c st1 ⟨S1,r,x,rfl,R⟩
  exact wpS_pure (hq _ _ S1 R)
end BX.Tim
end
section
namespace BX.Tim
open PySem
open PyProof.Rows (SortSt SortKind Keyed kindOf arrOf pendingOf gallopOf failedOf setArr setPending keyLt' lt' elem' ltAt' lt'_eq elem'_eq ltAt'_eq wpS wpS_pure wpS_bind wpS_mono wpS_get wpS_modify wpS_forRange wpS_lift)
noncomputable def aqK:Array Keyed->Array Keyed->StateT SortSt Sem (Array Keyed):=sortPriv% PySem.Builtin.mergeHi
structure MH(rk:Keyed->Int)(a b out:Array Keyed)(na nb:Nat):Prop where
 pm:((a.toList.take na++b.toList.take nb)++out.toList.reverse).Perm (a.toList++b.toList)
 so:out.toList.reverse.Pairwise (LeR rk)
 le:∀x∈a.toList.take na++b.toList.take nb,∀y∈out.toList,rk x<=rk y
section
variable {rk:Keyed->Int}{a b out:Array Keyed}{na nb:Nat}
theorem acv{x:Keyed}(h:na<=a.size)(hx:x∈a.toList.take na):∃j,j<na/\x=at' a j:=by
 obtain⟨n,hn,e⟩:=List.mem_iff_getElem.mp hx;have hn':n<na/\n<a.size:=by simp at hn;omega
 have:=qg hn'.2;rw[List.getElem?_eq_getElem (by simpa using hn'.2),Option.some.injEq]at this;exact⟨n,hn'.1,by rw[←e,List.getElem_take,this]⟩
theorem Asc.take(h:Asc rk a)(n:Nat):(a.toList.take n).Pairwise (LeR rk):=by
 have:=h.drop 0;rw[List.drop_zero]at this;exact this.sublist (List.take_sublist _ _)
theorem alf(a:Array Keyed){i n:Nat}(h1:i<=n)(h2:n<=a.size):a.toList.take n=a.toList.take i++(a.extract i n).toList:=by
 rw[Array.toList_extract,List.extract];have e:n=i+(n-i):=by omega
 conv=>lhs;rw[e,List.take_add]
theorem MH.swap(M:MH rk a b out na nb):MH rk b a out nb na:=
 ⟨((List.perm_append_comm.append_right _).trans M.pm).trans List.perm_append_comm,M.so,fun x hx y hy=>M.le x (by simp only[List.mem_append]at hx ⊢;exact hx.symm) y hy⟩
theorem MH.extA(M:MH rk a b out na nb)(sa:Asc rk a){i:Nat}(h1:i<=na)(h2:na<=a.size)(h3:nb<=b.size)(hle:∀p,i<=p->p<na->∀j,j<nb->rk (at' b j)<=rk (at' a p)):MH rk a b (out++(a.extract i na).reverse) i nb:=by
 obtain⟨pm,so,le⟩:=M;have st:=sa.take na;rw[alf a h1 h2]at pm le st;have pa:=List.pairwise_append.mp st
 have e:(out++(a.extract i na).reverse).toList.reverse=(a.extract i na).toList++out.toList.reverse:=by
  rw[Array.toList_append,Array.toList_reverse,List.reverse_append,List.reverse_reverse]
 refine⟨?_,?_,fun x hx y hy=>?_⟩
 ·rw[e]
  refine List.Perm.trans ?_ pm;simp only[List.append_assoc];refine List.Perm.append_left _ ?_;rw[←List.append_assoc,←List.append_assoc];exact List.perm_append_comm.append_right _
 ·rw[e]
  exact List.pairwise_append.mpr ⟨pa.2.1,so,fun x hx y hy=>le x (by simp only[List.mem_append];exact .inl (.inr hx)) y (by simpa using hy)⟩
 ·rw[Array.toList_append,Array.toList_reverse]at hy
  rcases List.mem_append.mp hy with hy | hy
  ·exact le x (by simp only[List.mem_append]at hx ⊢;rcases hx with hx | hx;exact .inl (.inl hx);exact .inr hx) y hy
  ·have hy:=List.mem_reverse.mp hy
   rcases List.mem_append.mp hx with hx | hx
   ·exact pa.2.2 x hx y hy
   ·obtain⟨j,j1,rfl⟩:=acv h3 hx
    have:∃p,i<=p/\p<na/\y=at' a p:=by
     have:=aic (a:=a) (i:=i) (k:=na-i) (x:=y) (by omega) (by rw[show i+(na-i)=na by omega];exact hy);obtain⟨p,p1,p2,p3⟩:=this;exact⟨p,p1,by omega,p3⟩
    obtain⟨p,p1,p2,rfl⟩:=this;exact hle p p1 p2 j j1
theorem MH.extB(M:MH rk a b out na nb)(sb:Asc rk b){i:Nat}(h1:i<=nb)(h2:nb<=b.size)(h3:na<=a.size)(hle:∀p,i<=p->p<nb->∀j,j<na->rk (at' a j)<=rk (at' b p)):MH rk a b (out++(b.extract i nb).reverse) na i:=(M.swap.extA sb h1 h2 h3 hle).swap
theorem alg(a:Array Keyed){i:Nat}(h:i<a.size)(out:Array Keyed):out++(a.extract i (i+1)).reverse=out.push (at' a i):=by
 rw[←aid a h out]
 congr 1
 apply Array.toList_inj.mp;rw[Array.toList_reverse,Array.toList_extract,List.extract,show i+1-i=1 by omega];have:=qg h;rw[List.take_one,List.head?_drop,this];rfl
theorem MH.pushA(M:MH rk a b out (na+1) nb)(sa:Asc rk a)(h2:na+1<=a.size)(h3:nb<=b.size)(hle:∀j,j<nb->rk (at' b j)<=rk (at' a na)):MH rk a b (out.push (at' a na)) na nb:=by
 rw[←alg a (by omega) out];exact M.extA sa (by omega) h2 h3 fun p p1 p2 j j1=>by rw[show p=na by omega];exact hle j j1
theorem MH.pushB(M:MH rk a b out na (nb+1))(sb:Asc rk b)(h2:nb+1<=b.size)(h3:na<=a.size)(hle:∀j,j<na->rk (at' a j)<=rk (at' b nb)):MH rk a b (out.push (at' b nb)) na nb:=(M.swap.pushA sb h2 h3 hle).swap
theorem MH.popA(M:MH rk a b out na nb)(sa:Asc rk a)(h1:1<=na)(h2:na<=a.size)(h3:nb<=b.size)(hle:∀j,j<nb->rk (at' b j)<=rk (at' a (na-1))):MH rk a b (out.push (at' a (na-1))) (na-1) nb:=
 MH.pushA (by rw[show na-1+1=na by omega];exact M) sa (by omega) h3 hle
theorem MH.popB(M:MH rk a b out na nb)(sb:Asc rk b)(h1:1<=nb)(h2:nb<=b.size)(h3:na<=a.size)(hle:∀j,j<na->rk (at' a j)<=rk (at' b (nb-1))):MH rk a b (out.push (at' b (nb-1))) na (nb-1):=(M.swap.popA sb h1 h2 h3 hle).swap
theorem alh(a:Array Keyed)(n:Nat):(a.extract 0 n).toList=a.toList.take n:=by
 rw[Array.toList_extract,List.extract,List.drop_zero,Nat.sub_zero]
theorem MH.fin(M:MH rk a b out na nb)(so:(a.toList.take na++b.toList.take nb).Pairwise (LeR rk)):Res rk a b (a.extract 0 na++b.extract 0 nb++out.reverse):=by
 unfold Res;rw[Array.toList_append,Array.toList_append,alh,alh,Array.toList_reverse];exact⟨M.pm,List.pairwise_append.mpr ⟨so,M.so,fun x hx y hy=>M.le x hx y (List.mem_reverse.mp hy)⟩⟩
theorem MH.doneA(M:MH rk a b out na nb)(sb:Asc rk b)(h:na=0):Res rk a b (a.extract 0 na++b.extract 0 nb++out.reverse):=M.fin (by
 subst h; rw [List.take_zero,List.nil_append]; exact sb.take nb)
theorem MH.doneB(M:MH rk a b out na nb)(sa:Asc rk a)(h:nb=0):Res rk a b (a.extract 0 na++b.extract 0 nb++out.reverse):=M.fin (by
 subst h; rw [List.take_zero,List.append_nil]; exact sa.take na)
theorem MH.first(M:MH rk a b out na nb)(sa:Asc rk a)(h:nb=1)(h2:na<=a.size)(h3:nb<=b.size)(h0:rk (at' b 0)<=rk (at' a 0)):Res rk a b (b.extract 0 nb++a.extract 0 na++out.reverse):=by
 have:=M.swap.fin (by
  rw [List.pairwise_append];refine ⟨?_,sa.take na,fun x hx y hy=>?_⟩
  ·rw [List.pairwise_iff_getElem]
   intro p q hp hq hpq;simp at hp hq; omega
  ·obtain ⟨i,i1,rfl⟩:=acv h3 hx
   obtain ⟨j,j1,rfl⟩:=acv h2 hy;rw [show i=0 by omega];exact Int.le_trans h0 (sa _ _ (by omega) (by omega)))
 exact⟨this.1.trans List.perm_append_comm,this.2⟩
theorem aif(out a:Array Keyed)(i:Nat):out++(a.extract i i).reverse=out:=by
 apply Array.toList_inj.mp;rw[Array.toList_append,Array.toList_reverse,Array.toList_extract,List.extract];simp
end
variable {prog:Program}{w:World}{A:Around}{E:Value->SP0}{s:Shared}{κ:SortKind}{it:Keyed->Prop}{rk:Keyed->Int}
noncomputable abbrev HS:=Option (Array Keyed)×Nat×Nat×Array Keyed×Nat
noncomputable abbrev HS1:=Option (Array Keyed)×Nat×Nat×Array Keyed×Nat×Nat
noncomputable abbrev HS2:=Option (Array Keyed)×Nat×Nat×Array Keyed×Nat×Nat×Nat
theorem apm(hc:Cmp prog w A s κ it rk){st:SortSt}(hk:kindOf st=κ){a b:Array Keyed}(ia0:∀j,j<a.size->it (at' a j))(ib0:∀j,j<b.size->it (at' b j))(sa:Asc rk a)(sb:Asc rk b)(ha:1<=a.size)(hb:1<=b.size)
  (h0:rk (at' b 0)<=rk (at' a 0)) (hl:∀j,j<b.size->rk (at' b j)<=rk (at' a (a.size-1))) {Q:Array Keyed->SortSt->Prop}
  (hq:∀r st',jm st st'->Res rk a b r->Q r st'):wpS (model prog w) A E s (aqK a b) Q st:=by
 unfold aqK;refine wpS_bind (wpS_lift (wpAny_rule ⟨rfl,?_⟩));refine wpS_bind (jW (jX (show a.size-1<a.size by omega)) ?_)
 have M0:MH rk a b #[at' a (a.size-1)] (a.size-1) b.size:=by
  have:=MH.pushA (rk:=rk) (a:=a) (b:=b) (out:=#[]) (na:=a.size-1) (nb:=b.size) ⟨by rw[show a.size-1+1=a.size by omega,List.take_of_length_le (by simp),List.take_of_length_le (by simp)];simp,by simp,fun x _ y hy=>by simp at hy⟩ sa (by omega) (Nat.le_refl _) hl;exact this
 simp only;by_cases c1:(a.size-1==0)=true
 ·rw[if_pos c1]
  exact wpS_pure (hq _ _ ⟨rfl,rfl,rfl,rfl⟩ (M0.doneA sb (by simpa using c1)))
 rw[if_neg c1];by_cases c2:(b.size==1)=true
 ·rw[if_pos c2]
  exact wpS_pure (hq _ _ ⟨rfl,rfl,rfl,rfl⟩ (M0.first sa (by simpa using c2) (by omega) (Nat.le_refl _) h0))
 rw[if_neg c2];have d1:a.size-1≠0:=by simpa using c1
 have d2:b.size≠1:=by simpa using c2
 refine wpS_bind (wpS_get ?_)
 refine wpS_bind (wpS_mono (Q:=fun (c:HS) st'=>jm st st'/\∃r x,c=(some r,x)/\Res rk a b r)
  (wpS_forRange (I:=fun i (c:HS) st'=>jm st st'/\∃ na nb out mg,c=(none,na,nb,out,mg)/\MH rk a b out na nb/\1<=na/\2<=nb/\na<=a.size/\nb<=b.size/\i+na+nb<a.size+b.size) ?_ ?_ ⟨⟨rfl,rfl,rfl,rfl⟩,_,_,_,_,rfl,M0,by omega,by omega,by omega,by omega,by omega⟩) ?_)
 ·rintro i c st1 _ hi ⟨S1,na,nb,out,mg,rfl,M,b1,b2,b4,b5,b3⟩
  simp only
  refine wpS_bind (wpS_mono (Q:=fun (c:HS1) st'=>st'=st1/\((∃r x,c=(some r,x)/\Res rk a b r)∨∃na' nb' out x y,c=(none,na',nb',out,x,y)/\MH rk a b out na' nb'/\1<=na'/\2<=nb'/\na'<=a.size/\nb'<=b.size/\na'+nb'<=na+nb))
   (wpS_forRange (I:=fun _ (c:HS1) st'=>st'=st1/\∃ na' nb' out x y,c=(none,na',nb',out,x,y)/\MH rk a b out na' nb'/\1<=na'/\2<=nb'/\na'<=a.size/\nb'<=b.size/\na'+nb'<=na+nb) ?_ ?_ ⟨rfl,_,_,_,_,_,rfl,M,b1,b2,b4,b5,Nat.le_refl _⟩) ?_)
  ·rintro i2 c st2 _ _ ⟨rfl,na',nb',out,ac,bc,rfl,M,e1,e2,e4,e5,e3⟩
   simp only;refine wpS_bind (jW (jX (show nb'-1<b.size by omega)) ?_);refine wpS_bind (jW (jX (show na'-1<a.size by omega)) ?_);refine wpS_bind (afQ hc (S1.k.trans hk) (ib0 _ (by omega)) (ia0 _ (by omega)) ?_);simp only;by_cases lt:rk (at' b (nb'-1))<rk (at' a (na'-1))
   ·rw[decide_eq_true lt,if_pos rfl]
    refine wpS_bind (jW (jX (show na'-1<a.size by omega)) ?_);have M':=M.popA sa e1 e4 e5 fun j j1=>Int.le_trans (sb _ _ (by omega) (by omega)) (Int.le_of_lt lt);refine jE (fun f1=>wpS_pure ⟨rfl,.inl ⟨_,_,rfl,M'.doneA sb (by simpa using f1)⟩⟩) fun f1=>?_;have f1':na'-1≠0:=by simpa using f1
    exact jE (fun _=>wpS_pure ⟨rfl,.inr ⟨_,_,_,_,_,rfl,M',by omega,e2,by omega,e5,by omega⟩⟩) fun _=>wpS_pure ⟨rfl,_,_,_,_,_,rfl,M',by omega,e2,by omega,e5,by omega⟩
   ·rw[decide_eq_false lt,if_neg Bool.false_ne_true]
    refine wpS_bind (jW (jX (show nb'-1<b.size by omega)) ?_);have M':=M.popB sb (by omega) e5 e4 fun j j1=>Int.le_trans (sa _ _ (by omega) (by omega)) (Int.not_lt.mp lt);refine jE (fun f1=>wpS_pure ⟨rfl,.inl ⟨_,_,rfl,M'.first sa (by simpa using f1) e4 (by omega) h0⟩⟩) fun f1=>?_;have f1':nb'-1≠1:=by simpa using f1
    exact jE (fun _=>wpS_pure ⟨rfl,.inr ⟨_,_,_,_,_,rfl,M',e1,by omega,e4,by omega,by omega⟩⟩) fun _=>wpS_pure ⟨rfl,_,_,_,_,_,rfl,M',e1,by omega,e4,by omega,by omega⟩
  ·rintro c st2 ⟨rfl,na',nb',out,ac,bc,rfl,M,e1,e2,e4,e5,e3⟩
   exact⟨rfl,.inr ⟨_,_,_,_,_,rfl,M,e1,e2,e4,e5,e3⟩⟩
  ·rintro c st2 ⟨rfl,⟨r,x,rfl,R⟩ | ⟨na',nb',out,ac,bc,rfl,M,e1,e2,e4,e5,e3⟩⟩
   ·simp only
    exact wpS_pure ⟨S1,_,_,rfl,R⟩
   simp only;refine wpS_bind (wpS_lift (wpAny_rule ⟨rfl,?_⟩))
   refine wpS_bind (wpS_mono (Q:=fun (c:HS2) st'=>jm st st'/\((∃r x,c=(some r,x)/\Res rk a b r)∨∃na2 nb2 out x,c=(none,na2,nb2,out,x)/\MH rk a b out na2 nb2/\1<=na2/\2<=nb2/\na2<=a.size/\nb2<=b.size/\na2+nb2<na'+nb'))
    (wpS_forRange (I:=fun j (c:HS2) st'=>jm st st'/\∃ na2 nb2 out x y z,c=(none,na2,nb2,out,x,y,z)/\MH rk a b out na2 nb2/\1<=na2/\2<=nb2/\na2<=a.size/\nb2<=b.size/\na2+nb2+j<=na'+nb') ?_ ?_ ⟨S1,_,_,_,_,_,_,rfl,M,e1,e2,e4,e5,by omega⟩) ?_)
   ·rintro j c st3 _ _ ⟨S3,na2,nb2,out,mg,ac,bc,rfl,M,g1,g2,g4,g5,g3⟩
    simp -zeta -zetaHave only;refine jE (fun _=>wpS_bind (aew fun st4 S4=>?_)) fun _=>wpS_bind (aew fun st4 S4=>?_)
    all_goals
     replace S3:=S3.trans S4
     refine wpS_bind (jW (jX (show nb2-1<b.size by omega)) ?_)
     refine wpS_bind (aaD (n:=na2) (base:=0) (hint:=na2-1) (arr:=a) hc (S3.k.trans hk) (ib0 _ (by omega)) (by omega) (fun j=>at' a (0+j)) (fun j hj=>⟨jX (by omega),ia0 _ (by omega)⟩) (fun i j hij hj h=>by
      rw [adA] at h ⊢;exact Int.le_trans (sa _ _ (by omega) (by omega)) h) ?_)
     intro k k1 k2 k3;simp only[adA,Nat.zero_add]at k2 k3;have M1:=M.extA sa k1 g4 g5 fun p p1 p2 j j1=>Int.le_trans (sb _ _ (by omega) (by omega)) (Int.le_of_lt (ahc (k3 p p1 p2)));have M2:=M1.popB sb (by omega) g5 (by omega) fun j j1=>k2 j j1;refine jE (fun k0=>jE (fun f1=>wpS_pure ⟨S3,.inl ⟨_,_,rfl,M1.doneA sb (by simpa using f1)⟩⟩) fun f1=>have f1':k≠0:=(by simpa using f1);?_) fun k0=>have hz:k=na2:=(by omega);?_
     all_goals
      try
       obtain rfl:=hz;rw[aif]at M1 M2
      refine wpS_bind (jW (jX (show nb2-1<b.size by omega)) ?_);refine jE (fun f3=>wpS_pure ⟨S3,.inl ⟨_,_,rfl,M2.first sa (by simpa using f3) (by omega) (by omega) h0⟩⟩) fun f3=>?_;have f3':nb2-1≠1:=by simpa using f3
      refine wpS_bind (jW (jX (show k-1<a.size by omega)) ?_)
      refine wpS_bind (aaD (n:=nb2-1) (base:=0) (hint:=nb2-1-1) (arr:=b) hc (S3.k.trans hk) (ia0 _ (by omega)) (by omega) (fun j=>at' b (0+j)) (fun j hj=>⟨jX (by omega),ib0 _ (by omega)⟩) (fun i j hij hj h=>by
       rw [adB] at h ⊢;exact Int.lt_of_le_of_lt (sb _ _ (by omega) (by omega)) h) ?_)
      intro l l1 l2 l3;simp only[adB,Nat.zero_add]at l2 l3;have M3:=M2.extB sb l1 (by omega) (by omega) fun p p1 p2 j j1=>Int.le_trans (sa _ _ (by omega) (by omega)) (ahb (l3 p p1 p2));have M4:=M3.popA sa (by omega) (by omega) (by omega) fun j j1=>Int.le_of_lt (l2 j j1);refine jE (fun l0=>jE (fun f4=>wpS_pure ⟨S3,.inl ⟨_,_,rfl,M3.first sa (by simpa using f4) (by omega) (by omega) h0⟩⟩) fun f4=>jE (fun f6=>wpS_pure ⟨S3,.inl ⟨_,_,rfl,M3.doneB sa (by simpa using f6)⟩⟩) fun f6=>have f4':l≠1:=(by simpa using f4);have f6':l≠0:=(by simpa using f6);?_) fun l0=>have hy:l=nb2-1:=(by omega);?_
      all_goals
       try
        obtain rfl:=hy;rw[aif]at M3 M4
       refine wpS_bind (jW (jX (show k-1<a.size by omega)) ?_);refine jE (fun f5=>wpS_pure ⟨S3,.inl ⟨_,_,rfl,M4.doneA sb (by simpa using f5)⟩⟩) fun f5=>?_;have f5':k-1≠0:=by simpa using f5
       exact jE (fun _=>wpS_pure ⟨S3,.inr ⟨_,_,_,_,rfl,M4,by omega,by omega,by omega,by omega,by omega⟩⟩) fun _=>wpS_pure ⟨S3,_,_,_,_,_,_,rfl,M4,by omega,by omega,by omega,by omega,by omega⟩
   ·rintro c st3 ⟨S3,na2,nb2,out,mg,ac,bc,rfl,M,g1,g2,g4,g5,g3⟩
    exact⟨S3,.inr ⟨_,_,_,_,rfl,M,g1,g2,g4,g5,by omega⟩⟩
   ·rintro c st3 ⟨S3,⟨r,x,rfl,R⟩ | ⟨na2,nb2,out,x,rfl,M,g1,g2,g4,g5,g3⟩⟩
    ·exact wpS_pure ⟨S3,_,_,rfl,R⟩
    ·refine wpS_bind (wpS_modify (wpS_pure ⟨⟨S3.k,S3.a,S3.p,S3.f⟩,_,_,_,_,rfl,M,g1,g2,g4,g5,by simp only;omega⟩))
 ·rintro c st1 ⟨S1,na,nb,out,mg,rfl,M,b1,b2,b4,b5,b3⟩
  omega
 ·rintro c st1 ⟨S1,r,x,rfl,R⟩
  exact wpS_pure (hq _ _ S1 R)
end BX.Tim
end
section
namespace BX.Tim
open PySem
open PyProof.Rows (SortSt SortKind Keyed kindOf arrOf pendingOf gallopOf failedOf setArr setPending keyLt' lt' elem' ltAt' lt'_eq elem'_eq ltAt'_eq mergeAt' wpS wpS_pure wpS_bind wpS_mono wpS_get wpS_modify wpS_forRange wpS_lift)
noncomputable abbrev Zw(rk:Keyed->Int)(l:List Keyed):Prop:=l.Pairwise (LeR rk)
section
variable {rk:Keyed->Int}{a:Array Keyed}
theorem ali(h:Zw rk a.toList):Asc rk a:=fun i j hij hj=>by
 rcases Nat.eq_or_lt_of_le hij with e | hlt
 ·rw[e];exact Int.le_refl _
 ·have:=List.pairwise_iff_getElem.mp h i j (by simp;omega) (by simpa using hj) hlt
  have e1:=qg (show i<a.size by omega);have e2:=qg hj;rw[List.getElem?_eq_getElem (by simp;omega),Option.some.injEq]at e1;rw[List.getElem?_eq_getElem (by simpa using hj),Option.some.injEq]at e2;rw[e1,e2]at this;exact this
structure Pc(a:Array Keyed)(base:Nat)(L:List Keyed):Prop where
 ex:∃P T,a.toList=P++(L++T)/\P.length=base
theorem Pc.get{base:Nat}{L:List Keyed}(p:Pc a base L){j:Nat}(h:j<L.length):base+j<a.size/\at' a (base+j)=L[j]:=by
 obtain⟨P,T,e,rfl⟩:=p.ex;have hs:a.size=P.length+(L.length+T.length):=by rw[←Array.length_toList,e];simp
 refine⟨by omega,?_⟩;have:=qg (a:=a) (j:=P.length+j) (by omega);rw[e,List.getElem?_append_right (by omega),show P.length+j-P.length=j by omega,List.getElem?_append_left h,List.getElem?_eq_getElem h,Option.some.injEq]at this;exact this.symm
theorem Pc.asc{base:Nat}{L:List Keyed}(p:Pc a base L)(h:Zw rk L){i j:Nat}(hij:i<=j)(hj:j<L.length):rk (at' a (base+i))<=rk (at' a (base+j)):=by
 rw[(p.get hj).2,(p.get (show i<L.length by omega)).2];rcases Nat.eq_or_lt_of_le hij with e | hlt
 ·subst e;exact Int.le_refl _
 ·exact List.pairwise_iff_getElem.mp h i j (by omega) hj hlt
theorem aig(base:Nat):∀(l:List Keyed) (n:Nat) (a:Array Keyed) (k:Nat),base+n+l.length<=a.size->((l.zipIdx n).foldl (fun a x=>a.setIfInBounds (base+x.2) x.1) a)[k]?=if base+n<=k/\k<base+n+l.length then l[k-(base+n)]? else a[k]?
 | [],n,a,k,_=>by
  rw[if_neg (by intro h;simp at h;omega)];rfl
 | x::l,n,a,k,h=>by
  rw[List.zipIdx_cons,List.foldl_cons,aig base l (n+1) _ k (by simp only[Array.size_setIfInBounds];simp only[List.length_cons]at h;omega)];simp only[List.length_cons]at h ⊢;by_cases c1:base+(n+1)<=k/\k<base+(n+1)+l.length
  ·rw[if_pos c1,if_pos (by omega),show k-(base+n)=k-(base+(n+1))+1 by omega,zzB]
  ·rw[if_neg c1]
   by_cases c2:k=base+n
   ·subst c2
    rw[if_pos (by omega),Nat.sub_self,zzA,Array.getElem?_setIfInBounds_self,if_pos (by omega)]
   ·rw[if_neg (by omega),Array.getElem?_setIfInBounds_ne (by omega)]
theorem alj{P X R l:List Keyed}{base:Nat}(e:a.toList=P++(X++R))(hP:P.length=base)(hl:l.length=X.length):(l.zipIdx.foldl (fun a x=>a.setIfInBounds (base+x.2) x.1) a).toList=P++(l++R):=by
 have hs:a.size=P.length+(X.length+R.length):=by rw[←Array.length_toList,e];simp
 apply List.ext_getElem?;intro k;rw[Array.getElem?_toList,aig base l 0 a k (by omega),←Array.getElem?_toList,e,Nat.add_zero];by_cases c:base<=k/\k<base+l.length
 ·rw[if_pos c,List.getElem?_append_right (by omega),List.getElem?_append_left (by omega),hP]
 ·rw[if_neg c]
  by_cases c2:k<base
  ·rw[List.getElem?_append_left (by omega),List.getElem?_append_left (by omega)]
  ·rw[List.getElem?_append_right (by omega),List.getElem?_append_right (by omega),List.getElem?_append_right (by omega),List.getElem?_append_right (by omega),hl]
end
theorem adC{L:List Keyed}{k:Nat}{x:Keyed}(h:x∈L.take k):∃j,j<k/\∃hj:j<L.length,x=L[j]:=by
 obtain⟨n,hn,e⟩:=List.mem_iff_getElem.mp h;have hn':n<k/\n<L.length:=by simp at hn;omega
 exact⟨n,hn'.1,hn'.2,by rw[←e,List.getElem_take]⟩
theorem adD{L:List Keyed}{k:Nat}{x:Keyed}(h:x∈L.drop k):∃j,k<=j/\∃hj:j<L.length,x=L[j]:=by
 obtain⟨n,hn,e⟩:=List.mem_iff_getElem.mp h;have hn':k+n<L.length:=by simp at hn;omega
 exact⟨k+n,by omega,hn',by rw[←e,List.getElem_drop]⟩
theorem acw{a:Array Keyed}{j:Nat}(h:j<a.size):at' a j∈a.toList:=List.mem_of_getElem? (qg h)
variable {prog:Program}{w:World}{A:Around}{E:Value->SP0}{s:Shared}{κ:SortKind}{it:Keyed->Prop}{rk:Keyed->Int}
theorem apn{M:Model}{x st:SortSt}{Q:PUnit->SortSt->Prop}(h:∀st',kindOf st'=kindOf x->arrOf st'=arrOf x->pendingOf st'=pendingOf x->failedOf st'=failedOf x->Q ⟨⟩ st'):wpS M A E s (set x:StateT SortSt Sem PUnit) Q st:=by
 unfold wpS;rw[StateT.run_set];exact wpAny_pure ⟨rfl,h _ rfl rfl rfl rfl⟩
theorem apo(hc:Cmp prog w A s κ it rk){st:SortSt}(hk:kindOf st=κ)(hf:failedOf st=none){i:Nat}{P L1 L2 R:List Keyed}{pw pw':Nat}(e:(arrOf st).toList=P++(L1++(L2++R)))(hit:∀x∈(arrOf st).toList,it x)
  (p1:(pendingOf st)[i]?=some (P.length,L1.length,pw)) (p2:(pendingOf st)[i+1]?=some (P.length+L1.length,L2.length,pw')) (s1:Zw rk L1) (s2:Zw rk L2) (n1:1<=L1.length) (n2:1<=L2.length) {Q:Bool->SortSt->Prop}
  (hq:∀L st',L.Perm (L1++L2)->Zw rk L->(arrOf st').toList=P++(L++R)->kindOf st'=κ->failedOf st'=none->pendingOf st'=((pendingOf st).setIfInBounds i (P.length,L1.length+L2.length,pw)).eraseIdxIfInBounds (i+1)->Q true st'):
  wpS (model prog w) A E s (mergeAt' i) Q st:=by
 unfold mergeAt';refine wpS_bind (wpS_get ?_)
 have ea:∀k,k<(arrOf st).size->it (at' (arrOf st) k):=fun k hk=>hit _ (by
  have:=qg hk;exact List.mem_of_getElem? this)
 have q1:Pc (arrOf st) P.length L1:=⟨P,L2++R,e,rfl⟩;have q2:Pc (arrOf st) (P.length+L1.length) L2:=⟨P++L1,R,by rw[e];simp,by simp⟩;simp only[p1,p2];refine wpS_bind (apn fun st1 k1 a1 pd1 f1=>?_)
 replace k1:kindOf st1=κ:=k1.trans hk
 replace f1:failedOf st1=none:=f1.trans hf
 replace a1:arrOf st1=arrOf st:=a1
 have b2:=(q2.get (show 0<L2.length by omega));rw[Nat.add_zero]at b2;refine wpS_bind (jW (jX b2.1) ?_)
 refine wpS_bind (aaD hc k1 (ea _ b2.1) (by omega) (fun j=>at' (arrOf st) (P.length+j)) (fun j hj=>⟨jX (q1.get hj).1,ea _ (q1.get hj).1⟩) (fun i j hij hj h=>by
  rw [adA] at h ⊢;exact Int.le_trans (q1.asc s1 hij hj) h) ?_)
 intro k k1' k2 k3;simp only[adA]at k2
 have lo2:∀y∈L2,rk (at' (arrOf st) (P.length+L1.length))<=rk y:=fun y hy=>by
  obtain⟨n,hn,rfl⟩:=List.mem_iff_getElem.mp hy;rw[←(q2.get hn).2];have:=q2.asc s2 (Nat.zero_le n) hn;rwa[Nat.add_zero]at this
 have K2:∀x∈L1.take k,∀y∈L2,rk x<=rk y:=fun x hx y hy=>by
  obtain⟨j,j1,j2,rfl⟩:=adC hx;have:=k2 j j1;rw[(q1.get j2).2]at this;exact Int.le_trans this (lo2 y hy)
 have K3:∀x∈L1.drop k,rk (at' (arrOf st) (P.length+L1.length))<rk x:=fun x hx=>by
  obtain⟨j,j1,j2,rfl⟩:=adD hx;have:=ahc (k3 j j1 j2);rwa[(q1.get j2).2]at this
 refine jE (fun c=>wpS_pure (hq (L1++L2) _ (List.Perm.refl _) ?_ (by rw[a1,e,List.append_assoc]) k1 f1 pd1)) fun c=>?_
 ·have:L1.length-k=0:=by simpa using c
  rw[List.take_of_length_le (by omega)]at K2;exact List.pairwise_append.mpr ⟨s1,s2,K2⟩
 have c':L1.length-k≠0:=by simpa using c
 have g1:=(q1.get (show L1.length-1<L1.length by omega));have ei:P.length+k+(L1.length-k)-1=P.length+(L1.length-1):=by omega
 rw[ei];refine wpS_bind (jW (jX g1.1) ?_)
 refine wpS_bind (aaD hc k1 (ea _ g1.1) (by omega) (fun j=>at' (arrOf st) (P.length+L1.length+j)) (fun j hj=>⟨jX (q2.get hj).1,ea _ (q2.get hj).1⟩) (fun i j hij hj h=>by
  rw [adB] at h ⊢;exact Int.lt_of_le_of_lt (q2.asc s2 hij hj) h) ?_)
 intro l l1 l2 l3;simp only[adB]at l2
 have hi1:∀x∈L1,rk x<=rk (at' (arrOf st) (P.length+(L1.length-1))):=fun x hx=>by
  obtain⟨n,hn,rfl⟩:=List.mem_iff_getElem.mp hx;rw[←(q1.get hn).2];exact q1.asc s1 (by omega) (by omega)
 have N2:∀y∈L2.take l,rk y<rk (at' (arrOf st) (P.length+(L1.length-1))):=fun y hy=>by
  obtain⟨j,j1,j2,rfl⟩:=adC hy;have:=l2 j j1;rwa[(q2.get j2).2]at this
 have N3:∀y∈L2.drop l,rk (at' (arrOf st) (P.length+(L1.length-1)))<=rk y:=fun y hy=>by
  obtain⟨j,j1,j2,rfl⟩:=adD hy;have:=ahb (l3 j j1 j2);rwa[(q2.get j2).2]at this
 refine jE (fun d=>wpS_pure (hq (L1++L2) _ (List.Perm.refl _) ?_ (by rw[a1,e,List.append_assoc]) k1 f1 pd1)) fun d=>?_
 ·have:l=0:=by simpa using d
  subst this;exact List.pairwise_append.mpr ⟨s1,s2,fun x hx y hy=>Int.le_trans (hi1 x hx) (N3 y hy)⟩
 have d':l≠0:=by simpa using d
 have ex:((arrOf st).extract (P.length+k) (P.length+L1.length)).toList=L1.drop k:=by
  rw[Array.toList_extract,List.extract,e,show P.length+L1.length-(P.length+k)=(L1.drop k).length by rw[List.length_drop];omega,List.drop_length_add_append,List.drop_append_of_le_length (by omega),List.take_left]
 have ey:((arrOf st).extract (P.length+L1.length) (P.length+L1.length+l)).toList=L2.take l:=by
  rw[Array.toList_extract,List.extract,e,show P.length+L1.length+l-(P.length+L1.length)=l by omega,List.drop_length_add_append,List.drop_left,List.take_append_of_le_length l1]
 have zx:((arrOf st).extract (P.length+k) (P.length+L1.length)).size=L1.length-k:=by rw[←Array.length_toList,ex,List.length_drop]
 have zy:((arrOf st).extract (P.length+L1.length) (P.length+L1.length+l)).size=l:=by rw[←Array.length_toList,ey,List.length_take];omega
 generalize (arrOf st).extract (P.length+k) (P.length+L1.length)=x at*;generalize (arrOf st).extract (P.length+L1.length) (P.length+L1.length+l)=y at*
 have ix:∀j,j<x.size->it (at' x j):=fun j hj=>hit _ (by
  have:=acw hj;rw [ex] at this;rw [e]; simp only [List.mem_append]; exact .inr (.inl (List.mem_of_mem_drop this)))
 have iy:∀j,j<y.size->it (at' y j):=fun j hj=>hit _ (by
  have:=acw hj;rw [ey] at this;rw [e]; simp only [List.mem_append]; exact .inr (.inr (.inl (List.mem_of_mem_take this))))
 have sx:Asc rk x:=ali (by rw[ex];exact s1.sublist (List.drop_sublist _ _));have sy:Asc rk y:=ali (by rw[ey];exact s2.sublist (List.take_sublist _ _))
 have y0:at' y 0=at' (arrOf st) (P.length+L1.length):=by
  have:=qg (a:=y) (j:=0) (by omega);rw[ey,List.getElem?_take_of_lt (by omega),List.getElem?_eq_getElem (by omega),Option.some.injEq]at this;rw[←this,b2.2]
 have h0:rk (at' y 0)<=rk (at' x 0):=by
  rw[y0];have:=acw (a:=x) (j:=0) (by omega);rw[ex]at this;exact Int.le_of_lt (K3 _ this)
 have hl:∀j,j<y.size->rk (at' y j)<=rk (at' x (x.size-1)):=fun j hj=>by
  have h1:=acw hj;rw[ey]at h1;have h2:=qg (a:=x) (j:=x.size-1) (by omega);rw[ex,List.getElem?_drop,zx,show k+(L1.length-k-1)=L1.length-1 by omega,List.getElem?_eq_getElem (by omega),Option.some.injEq]at h2;rw[zx,←h2,←g1.2];exact Int.le_of_lt (N2 _ h1)
 have fin:∀(r:Array Keyed) (st2:SortSt),jm st1 st2->Res rk x y r->Q true (SortSt.mk' (kindOf st2) (r.toList.zipIdx.foldl (fun a x=>a.setIfInBounds (P.length+k+x.2) x.1) (arrOf st2)) (pendingOf st2) (gallopOf st2) (failedOf st2)):=fun r st2 S R=>by
  obtain⟨R1,R2⟩:=R;rw[ex,ey]at R1
  have pm:(L1.take k++(r.toList++L2.drop l)).Perm (L1++L2):=by
   have h1:=((R1.append_right (L2.drop l)).append_left (L1.take k));have h2:L1.take k++((L1.drop k++L2.take l)++L2.drop l)=L1++L2:=by rw[List.append_assoc (L1.drop k),List.take_append_drop,←List.append_assoc,List.take_append_drop]
   rw[h2]at h1;exact h1
  refine hq (L1.take k++(r.toList++L2.drop l)) _ pm ?_ ?_ (S.k.trans k1) (S.f.trans f1) (S.p.trans pd1)
  ·have t1:=s1
   have t2:=s2;rw[←List.take_append_drop k L1]at t1;rw[←List.take_append_drop l L2]at t2;have t1:=List.pairwise_append.mp t1;have t2:=List.pairwise_append.mp t2;refine List.pairwise_append.mpr ⟨t1.1,List.pairwise_append.mpr ⟨R2,t2.2.1,fun x hx y hy=>?_⟩,fun x hx y hy=>?_⟩
   ·rcases List.mem_append.mp (R1.mem_iff.mp hx)with hx | hx
    ·exact Int.le_trans (hi1 x (List.mem_of_mem_drop hx)) (N3 y hy)
    ·exact t2.2.2 x hx y hy
   ·rcases List.mem_append.mp hy with hy | hy
    ·rcases List.mem_append.mp (R1.mem_iff.mp hy)with hy | hy
     ·exact t1.2.2 x hx y hy
     ·exact K2 x hx y (List.mem_of_mem_take hy)
    ·exact K2 x hx y (List.mem_of_mem_drop hy)
  ·show(r.toList.zipIdx.foldl (fun a x=>a.setIfInBounds (P.length+k+x.2) x.1) (arrOf st2)).toList=_
   rw[alj (P:=P++L1.take k) (X:=L1.drop k++L2.take l) (R:=L2.drop l++R) ?_ ?_ ?_]
   ·simp only[List.append_assoc]
   ·rw[S.a,a1,e]
    have h1:=List.take_append_drop k L1;have h2:=List.take_append_drop l L2
    conv=>lhs;rw[←h1,←h2]
    simp only[List.append_assoc]
   ·rw[List.length_append,List.length_take];omega
   ·exact R1.length_eq
 refine jE (fun _=>wpS_bind (apl hc k1 ix iy sx sy (by omega) (by omega) h0 hl ?_)) fun _=>wpS_bind (apm hc k1 ix iy sx sy (by omega) (by omega) h0 hl ?_)
 all_goals
  intro r st2 S R;refine wpS_bind (wpS_modify (wpS_bind (wpS_get ?_)));have:=fin r st2 S R;have e0:(failedOf st2).isNone=true:=by rw[S.f,f1];rfl
  refine wpS_pure ?_;show Q (failedOf st2).isNone _;rw[e0];exact this
end BX.Tim
end
section
namespace BX.Tim
open PySem
open PyProof.Rows (SortSt SortKind Keyed kindOf arrOf pendingOf gallopOf failedOf setArr setPending keyLt' lt' elem' ltAt' lt'_eq elem'_eq ltAt'_eq mergeAt' reverseSlice' moveDown' reverseSlice'_eq moveDown'_eq mirror bubble mirror_size mirror_perm bubble_size bubble_perm getElem?_mirror_all getElem?_bubble wpS wpS_pure wpS_bind wpS_mono wpS_get wpS_modify wpS_forRange wpS_lift)
noncomputable def aqL:Nat->Nat->StateT SortSt Sem (Option Nat):=sortPriv% PySem.Builtin.countRun
noncomputable def aqM:Nat->Nat->Nat->StateT SortSt Sem Bool:=sortPriv% PySem.Builtin.binarySort
variable {prog:Program}{w:World}{A:Around}{E:Value->SP0}{s:Shared}{κ:SortKind}{it:Keyed->Prop}{rk:Keyed->Int}
noncomputable def QF(V:Nat->Int)(m:Nat):Prop:=∀i j,i<=j->j<m->V i<=V j
noncomputable def ac6(V:Nat->Int)(m:Nat):Prop:=∀i j,i<=j->j<m->V j<=V i
noncomputable def EqV(V:Nat->Int)(m q:Nat):Prop:=∀i,m-(q+1)<=i->i<m->V i=V (m-1)
theorem QF.grow{V:Nat->Int}{m:Nat}(h:QF V m)(h1:1<=m)(hl:V (m-1)<=V m):QF V (m+1):=fun i j hij hj=>by
 by_cases hjm:j<m
 ·exact h i j hij hjm
 ·obtain rfl:j=m:=by omega
  by_cases him:i<j
  ·exact Int.le_trans (h i (j-1) (by omega) (by omega)) hl
  ·rw[show i=j by omega];exact Int.le_refl _
theorem ac6.grow{V:Nat->Int}{m:Nat}(h:ac6 V m)(h1:1<=m)(hl:V m<=V (m-1)):ac6 V (m+1):=fun i j hij hj=>by
 by_cases hjm:j<m
 ·exact h i j hij hjm
 ·obtain rfl:j=m:=by omega
  by_cases him:i<j
  ·exact Int.le_trans hl (h i (j-1) (by omega) (by omega))
  ·rw[show i=j by omega];exact Int.le_refl _
theorem QF.one(V:Nat->Int):QF V 1:=fun i j hij hj=>by rw[show i=j by omega];exact Int.le_refl _
noncomputable abbrev vw(rk:Keyed->Int)(lo:Nat)(st:SortSt)(j:Nat):Int:=rk (at' (arrOf st) (lo+j))
structure Wn(κ:SortKind)(a0:Array Keyed)(pd:Array (Nat×Nat×Nat))(lo:Nat)(st:SortSt):Prop where
 k:kindOf st=κ
 f:failedOf st=none
 p:pendingOf st=pd
 pm:(arrOf st).Perm a0
 lw:∀j,j<lo->at' (arrOf st) j=at' a0 j
section
variable {a0:Array Keyed}{pd:Array (Nat×Nat×Nat)}{lo:Nat}{st:SortSt}
theorem Wn.sz(h:Wn κ a0 pd lo st):(arrOf st).size=a0.size:=h.pm.size_eq
theorem acx{a b:Array Keyed}{i j:Nat}(h:a[i]?=b[j]?):at' a i=at' b j:=by
 unfold at';rw[Array.getD_eq_getD_getElem?,Array.getD_eq_getD_getElem?,h]
theorem Wn.rev(h:Wn κ a0 pd lo st){i j:Nat}(h1:lo<=i)(h2:j<=a0.size):Wn κ a0 pd lo (setArr st (mirror (arrOf st) i j ((j-i) / 2))):=
 ⟨h.k,h.f,h.p,(mirror_perm _ _ _ _).trans h.pm,fun k hk=>(acx (by
  show (mirror (arrOf st) i j ((j - i) / 2))[k]?=(arrOf st)[k]?;rw [getElem?_mirror_all (by rw [h.sz]; exact h2),if_neg (by omega)])).trans (h.lw k hk)⟩
theorem Wn.rev_at(h:Wn κ a0 pd lo st){i j:Nat}(h2:lo+j<=a0.size)(k:Nat):vw rk lo (setArr st (mirror (arrOf st) (lo+i) (lo+j) ((lo+j-(lo+i)) / 2))) k=if i<=k/\k<j then vw rk lo st (i+j-1-k) else vw rk lo st k:=by
 have:(mirror (arrOf st) (lo+i) (lo+j) ((lo+j-(lo+i)) / 2))[lo+k]?=if i<=k/\k<j then (arrOf st)[lo+(i+j-1-k)]? else (arrOf st)[lo+k]?:=by
  rw[getElem?_mirror_all (by rw[h.sz];exact h2)];by_cases c:i<=k/\k<j
  ·rw[if_pos c,if_pos (by omega)];congr 1;omega
  ·rw[if_neg c,if_neg (by omega)]
 by_cases c:i<=k/\k<j
 ·rw[if_pos c]at this ⊢
  exact congrArg rk (acx this)
 ·rw[if_neg c]at this ⊢
  exact congrArg rk (acx this)
theorem aex{M:Model}{i j:Nat}{Q:Unit->SortSt->Prop}(h:Q () (setArr st (mirror (arrOf st) i j ((j-i) / 2)))):wpS M A E s (reverseSlice' i j) Q st:=by
 rw[reverseSlice'_eq];exact wpS_modify h
theorem aaE(hc:Cmp prog w A s κ it rk)(hit:∀x∈a0.toList,it x)(h:Wn κ a0 pd lo st){i j:Nat}(hi:i<a0.size)(hj:j<a0.size){Q:Option Bool->SortSt->Prop}(q:Q (some (decide (rk (at' (arrOf st) i)<rk (at' (arrOf st) j)))) st):wpS (model prog w) A E s (ltAt' i j) Q st:=by
 rw[ltAt'_eq];refine wpS_bind (wpS_get ?_);have z:=h.sz
 have mem:∀k,k<a0.size->it (at' (arrOf st) k):=fun k hk=>hit _ (by
  have:=acw (a:=arrOf st) (j:=k) (by omega);exact h.pm.toList.mem_iff.mp this)
 refine wpS_bind (jW (jX (by omega)) (wpS_bind (jW (jX (by omega)) ?_)));exact afQ hc h.k (mem i hi) (mem j hj) q
noncomputable abbrev CS:=Option (Option Nat)×Nat
theorem afS{M:Model}{V:Nat->Int}{a nrem:Nat}{F:Nat->CS->StateT SortSt Sem (ForInStep CS)}(h1:1<=a)(h2:a<=nrem)
  (hF:∀i n (Q:ForInStep CS->SortSt->Prop),1<=n->n<nrem->(V n<V (n-1)->Q (.done (none,n)) st)->(V (n-1)<=V n->Q (.yield (none,n+1)) st)->wpS M A E s (F i (none,n)) Q st) (hs:QF V a) {Q:CS->SortSt->Prop}
  (hq:∀m,a<=m->m<=nrem->QF V m->(m=nrem∨V m<V (m-1))->Q (none,m) st):wpS M A E s (forIn [a:nrem] ((none,a):CS) F) Q st:=by
 refine wpS_forRange (I:=fun i (c:CS) st'=>st'=st/\c=(none,i)/\QF V i) ?_ ?_ ⟨rfl,rfl,hs⟩
 ·rintro i c st' ha hi ⟨rfl,rfl,hs'⟩
  exact hF _ _ _ (by omega) hi (fun l=>hq i ha (by omega) hs' (.inr l)) fun l=>⟨rfl,rfl,hs'.grow (by omega) l⟩
 ·rintro c st' ⟨rfl,rfl,hs'⟩
  rw[show max a nrem=nrem by omega]at hs' ⊢;exact hq _ h2 (Nat.le_refl _) hs' (.inl rfl)
end
theorem Wn.rev_eq{a0:Array Keyed}{pd:Array (Nat×Nat×Nat)}{lo:Nat}{st:SortSt}(h:Wn κ a0 pd lo st){m q:Nat}(h1:q+1<=m)(h2:lo+m<=a0.size)(he:EqV (vw rk lo st) m q)(k:Nat):vw rk lo (setArr st (mirror (arrOf st) (lo+m-(q+1)) (lo+m) ((lo+m-(lo+m-(q+1))) / 2))) k=vw rk lo st k:=by
 have:=h.rev_at (rk:=rk) (i:=m-(q+1)) h2 k;rw[show lo+(m-(q+1))=lo+m-(q+1) by omega]at this;rw[this];by_cases c:m-(q+1)<=k/\k<m
 ·rw[if_pos c,he _ (by omega) (by omega),he k c.1 c.2]
 ·rw[if_neg c]
theorem nd{p:Prop}[Decidable p](h:¬ decide p=true):¬ p:=fun z=>h (decide_eq_true z)
noncomputable abbrev DS:=Option (Option Nat)×Nat×Nat
theorem apq(hc:Cmp prog w A s κ it rk){a0:Array Keyed}{pd:Array (Nat×Nat×Nat)}{st:SortSt}{lo nrem:Nat}(hit:∀x∈a0.toList,it x)(hw:Wn κ a0 pd lo st)(hn:1<=nrem)(hz:lo+nrem<=a0.size){Q:Option Nat->SortSt->Prop}
  (hq:∀m st',Wn κ a0 pd lo st'->1<=m->m<=nrem->QF (vw rk lo st') m->Q (some m) st'):wpS (model prog w) A E s (aqL lo nrem) Q st:=by
 unfold aqL;refine wpS_bind (afS (V:=vw rk lo st) (Nat.le_refl _) hn (fun i n Q' n1 n2 q1 q2=>?_) (QF.one _) fun m m1 m2 ms mc=>?_)
 ·refine wpS_bind (aaE hc hit hw (by simp only;omega) (by simp only;omega) ?_)
  simp only;by_cases l:vw rk lo st n<vw rk lo st (n-1)
  ·have l':rk (at' (arrOf st) (lo+n))<rk (at' (arrOf st) (lo+n-1)):=by rw[show lo+n-1=lo+(n-1) by omega];exact l
   rw[decide_eq_true l',if_pos rfl];exact wpS_pure (q1 l)
  ·have l':¬ rk (at' (arrOf st) (lo+n))<rk (at' (arrOf st) (lo+n-1)):=by rw[show lo+n-1=lo+(n-1) by omega];exact l
   rw[decide_eq_false l',if_neg Bool.false_ne_true];exact wpS_pure (q2 (Int.not_lt.mp l))
 simp only;refine jE (fun e=>wpS_pure (hq m st hw m1 m2 ms)) fun e=>?_;have e':m≠nrem:=by simpa using e
 have ml:vw rk lo st m<vw rk lo st (m-1):=mc.resolve_left e'
 have NA:¬ rk (at' (arrOf st) lo)<rk (at' (arrOf st) (lo+m-1))->ac6 (vw rk lo (setArr st (mirror (arrOf st) lo (lo+m) ((lo+m-lo) / 2)))) (m+1):=fun r=>by
  have r':¬ vw rk lo st 0<vw rk lo st (m-1):=by
   rw[show lo+m-1=lo+(m-1) by omega]at r;exact r
  have alleq:∀i,i<m->vw rk lo st i=vw rk lo st (m-1):=fun i hi=>by
   have b1:=ms i (m-1) (by omega) (by omega);have b2:=ms 0 i (Nat.zero_le _) hi;omega
  have hv:∀k,vw rk lo (setArr st (mirror (arrOf st) lo (lo+m) ((lo+m-lo) / 2))) k=vw rk lo st k:=fun k=>by
   have:=hw.rev_at (rk:=rk) (i:=0) (j:=m) (by omega) k;rw[show(vw rk lo (setArr st (mirror (arrOf st) lo (lo+m) ((lo+m-lo) / 2))) k)=_ from this];by_cases c:0<=k/\k<m
   ·rw[if_pos c,alleq _ (by omega),alleq k c.2]
   ·rw[if_neg c]
  have n0:ac6 (vw rk lo st) m:=fun i j hij hj=>by rw[alleq i (by omega),alleq j hj];exact Int.le_refl _
  have n1:=n0.grow m1 (Int.le_of_lt ml);exact fun i j hij hj=>by rw[hv,hv];exact n1 i j hij hj
 have NB:¬ m>1->ac6 (vw rk lo st) (m+1):=fun c=>by
  obtain rfl:m=1:=by omega
  have n0:ac6 (vw rk lo st) 1:=fun i j hij hj=>by rw[show i=j by omega];exact Int.le_refl _
  exact n0.grow m1 (Int.le_of_lt ml)
 refine jE (fun c=>wpS_bind (aaE hc hit hw (by omega) (by omega) (jE (fun r=>wpS_pure (hq m st hw m1 m2 ms)) fun r=>wpS_bind (aex (have W:=hw.rev (i:=lo) (j:=lo+m) (Nat.le_refl _) (by omega);have N:=NA (by simpa using r);?_))))) fun c=>(have W:=hw;have N:=NB c;?_)
 all_goals
  refine wpS_bind (wpS_lift (wpAny_rule ⟨rfl,?_⟩))
  refine wpS_bind (wpS_mono (Q:=fun (c:DS) st'=>∃m' q,c=(none,m',q)/\Wn κ a0 pd lo st'/\1<=m'/\m'<=nrem/\q+1<=m'/\ac6 (vw rk lo st') m'/\EqV (vw rk lo st') m' q)
   (wpS_forRange (I:=fun i (c:DS) st'=>∃ q,c=(none,i,q)/\Wn κ a0 pd lo st'/\q+1<=i/\ac6 (vw rk lo st') i/\EqV (vw rk lo st') i q) ?_ ?_ ⟨0,rfl,W,by omega,N,fun i i1 i2=>by rw [show i=m+1 - 1 by omega]⟩) ?_)
  ·rintro i c st2 i1 i2 ⟨q,rfl,W2,q1,N2,E2⟩
   refine wpS_bind (aaE hc hit W2 (by simp only;omega) (by simp only;omega) ?_);simp only;have ei:lo+i-1=lo+(i-1):=by omega
   refine jE (fun l=>?_) fun l=>?_
   ·have l':vw rk lo st2 i<vw rk lo st2 (i-1):=by
     have:=of_decide_eq_true l;rw[ei]at this;exact this
    have G:=N2.grow (by omega) (Int.le_of_lt l');refine jE (fun z=>wpS_bind (aex (wpS_pure ⟨0,rfl,W2.rev (by omega) (by omega),by omega,fun p r h1 h2=>?_,fun p p1 p2=>by rw[show p=i+1-1 by omega]⟩))) fun z=>wpS_pure ⟨0,rfl,W2,by omega,G,fun p p1 p2=>by rw[show p=i+1-1 by omega]⟩;rw[W2.rev_eq q1 (by omega) E2,W2.rev_eq q1 (by omega) E2];exact G p r h1 h2
   ·have l':vw rk lo st2 (i-1)<=vw rk lo st2 i:=by
     have:¬ rk (at' (arrOf st2) (lo+i))<rk (at' (arrOf st2) (lo+i-1)):=by simpa using l
     rw[ei]at this;exact Int.not_lt.mp this
    refine wpS_bind (aaE hc hit W2 (by omega) (by omega) ?_);simp only;refine jE (fun g=>wpS_pure ⟨_,_,rfl,W2,by omega,by omega,q1,N2,E2⟩) fun g=>wpS_pure ?_
    have g':vw rk lo st2 i<=vw rk lo st2 (i-1):=by
     have:¬ rk (at' (arrOf st2) (lo+i-1))<rk (at' (arrOf st2) (lo+i)):=by simpa using g
     rw[ei]at this;exact Int.not_lt.mp this
    refine⟨q+1,rfl,W2,by omega,N2.grow (by omega) g',fun p p1 p2=>?_⟩;rw[show i+1-1=i by omega];by_cases c:p=i
    ·rw[c]
    ·rw[E2 p (by omega) (by omega)];omega
  ·rintro c st2 ⟨q,rfl,W2,q1,N2,E2⟩
   exact⟨_,_,rfl,W2,by omega,by omega,q1,N2,E2⟩
  ·rintro c st2 ⟨m',q,rfl,W2,m3,m4,q1,N2,E2⟩
   have N3:ac6 (vw rk lo (setArr st2 (mirror (arrOf st2) (lo+m'-(q+1)) (lo+m') ((lo+m'-(lo+m'-(q+1))) / 2)))) m':=fun i j hij hj=>by
    rw[W2.rev_eq q1 (by omega) E2,W2.rev_eq q1 (by omega) E2];exact N2 i j hij hj
   simp only;refine jE (fun c=>wpS_bind (aex (have W3:=W2.rev (i:=lo+m'-(q+1)) (j:=lo+m') (by omega) (by omega);have N4:=N3;?_))) fun c=>(have W3:=W2;have N4:=N2;?_)
   all_goals
    refine wpS_bind (aex ?_);have W4:=W3.rev (i:=lo) (j:=lo+m') (Nat.le_refl _) (by omega);refine wpS_bind (afS (V:=vw rk lo _) m3 m4 (fun i n Q' n1 n2 q1 q2=>?_) (fun i j hij hj=>?_) fun m5 m6 m7 ms5 _=>wpS_pure (hq m5 _ W4 (by omega) m7 ms5))
    ·refine wpS_bind (aaE hc hit W4 (by simp only;omega) (by simp only;omega) ?_)
     simp only;refine jE (fun l=>wpS_pure (q1 ?_)) fun l=>wpS_pure (q2 ?_)
     ·have:=of_decide_eq_true l
      rw[show lo+n-1=lo+(n-1) by omega]at this;exact this
     ·have:=nd l
      rw[show lo+n-1=lo+(n-1) by omega]at this;exact Int.not_lt.mp this
    ·have v:=fun k=>W3.rev_at (rk:=rk) (i:=0) (j:=m') (by omega) k
     rw[show(vw rk lo (setArr _ (mirror (arrOf _) lo (lo+m') ((lo+m'-lo) / 2))) i)=_ from v i,show(vw rk lo (setArr _ (mirror (arrOf _) lo (lo+m') ((lo+m'-lo) / 2))) j)=_ from v j,if_pos (by omega),if_pos (by omega)];exact N4 _ _ (by omega) (by omega)
noncomputable abbrev BS:=Option Bool×Nat×Nat
theorem aei(hc:Cmp prog w A s κ it rk){a0:Array Keyed}{pd:Array (Nat×Nat×Nat)}{st:SortSt}{lo n ok:Nat}(hit:∀x∈a0.toList,it x)(hw:Wn κ a0 pd lo st)(h1:1<=ok)(h2:ok<=n)(hz:lo+n<=a0.size)(hs:QF (vw rk lo st) ok){Q:Bool->SortSt->Prop}
  (hq:∀st',Wn κ a0 pd lo st'->QF (vw rk lo st') n->Q true st'):wpS (model prog w) A E s (aqM lo n ok) Q st:=by
 unfold aqM;refine wpS_bind (wpS_forRange (I:=fun k (c:Option Bool×Unit) st'=>c=(none,())/\Wn κ a0 pd lo st'/\QF (vw rk lo st') k) ?_ ?_ ⟨rfl,hw,by rw[show max ok 1=ok by omega];exact hs⟩)
 ·rintro k c st1 k1 k2 ⟨rfl,W,S⟩
  refine wpS_bind (wpS_mono (Q:=fun (c:BS) st'=>st'=st1/\∃l,c=(none,l,l)/\l<=k/\(∀i,i<l->vw rk lo st1 i<=vw rk lo st1 k)/\∀i,l<=i->i<k->vw rk lo st1 k<vw rk lo st1 i)
   (wpS_forRange (I:=fun i (c:BS) st'=>st'=st1/\∃ l r,c=(none,l,r)/\l<=r/\r<=k/\r - l<=k - i/\(∀ i,i<l->vw rk lo st1 i<=vw rk lo st1 k)/\∀ i,r<=i->i<k->vw rk lo st1 k<vw rk lo st1 i) ?_ ?_ ⟨rfl,_,_,rfl,Nat.zero_le _,Nat.le_refl _,Nat.le_refl _,fun i h=>absurd h (Nat.not_lt_zero _),fun i h h'=>absurd h' (by omega)⟩) ?_)
  ·rintro i c st2 _ _ ⟨rfl,l,r,rfl,a1,a2,a3,a4,a5⟩
   simp only;refine jE (fun z=>wpS_pure ⟨rfl,l,by rw[show r=l by omega],by omega,a4,by rw[show l=r by omega];exact a5⟩) fun z=>?_;refine wpS_bind (aaE hc hit W (by omega) (by omega) ?_);simp only;refine jE (fun q=>wpS_pure ⟨rfl,_,_,rfl,by omega,by omega,by omega,a4,fun j j1 j2=>Int.lt_of_lt_of_le (of_decide_eq_true q) (S _ _ j1 j2)⟩) fun q=>wpS_pure ⟨rfl,_,_,rfl,by omega,by omega,by omega,fun j j1=>Int.le_trans (S j ((l+r) / 2) (by omega) (by omega)) (Int.not_lt.mp (nd q)),a5⟩
  ·rintro c st2 ⟨rfl,l,r,rfl,a1,a2,a3,a4,a5⟩
   obtain rfl:l=r:=by omega
   exact⟨rfl,l,rfl,a2,a4,a5⟩
  ·rintro c st2 ⟨rfl,l,rfl,l1,a,b⟩
   simp only;have hsz:=W.sz
   have mv:wpS (model prog w) A E s (moveDown' (lo+k) (lo+l)) (fun _ st'=>Wn κ a0 pd lo st'/\QF (vw rk lo st') (k+1)) st2:=by
    rw[moveDown'_eq];refine wpS_modify ⟨⟨W.k,W.f,W.p,(bubble_perm _ _ _).trans W.pm,fun j hj=>(acx ?_).trans (W.lw j hj)⟩,?_⟩
    ·show(bubble (arrOf st2) (lo+k) (lo+k-(lo+l)))[j]?=(arrOf st2)[j]?
     rw[getElem?_bubble (by omega) _ (by omega),if_neg (by omega),if_neg (by omega)]
    ·have v:∀j,vw rk lo (setArr st2 (bubble (arrOf st2) (lo+k) (lo+k-(lo+l)))) j=if j=l then vw rk lo st2 k else if l<j/\j<=k then vw rk lo st2 (j-1) else vw rk lo st2 j:=fun j=>by
      have e:(bubble (arrOf st2) (lo+k) (lo+k-(lo+l)))[lo+j]?=if j=l then (arrOf st2)[lo+k]? else if l<j/\j<=k then (arrOf st2)[lo+(j-1)]? else (arrOf st2)[lo+j]?:=by
       rw[getElem?_bubble (by omega) _ (by omega)];by_cases c1:j=l
       ·rw[if_pos c1,if_pos (by omega)]
       ·rw[if_neg c1,if_neg (by omega)]
        by_cases c2:l<j/\j<=k
        ·rw[if_pos c2,if_pos (by omega)];congr 1;omega
        ·rw[if_neg c2,if_neg (by omega)]
      by_cases c1:j=l
      ·rw[if_pos c1]at e ⊢;exact congrArg rk (acx e)
      ·rw[if_neg c1]at e ⊢
       by_cases c2:l<j/\j<=k
       ·rw[if_pos c2]at e ⊢;exact congrArg rk (acx e)
       ·rw[if_neg c2]at e ⊢;exact congrArg rk (acx e)
     intro i j hij hj;rw[v,v];by_cases hi1:i=l
     ·rw[if_pos hi1]
      by_cases hj1:j=l
      ·rw[if_pos hj1];exact Int.le_refl _
      ·rw[if_neg hj1,if_pos ⟨by omega,by omega⟩]
       exact Int.le_of_lt (b _ (by omega) (by omega))
     ·rw[if_neg hi1]
      by_cases hi2:l<i/\i<=k
      ·rw[if_pos hi2,if_neg (by omega),if_pos ⟨by omega,by omega⟩]
       exact S _ _ (by omega) (by omega)
      ·rw[if_neg hi2]
       by_cases hj1:j=l
       ·rw[if_pos hj1];exact a i (by omega)
       ·rw[if_neg hj1]
        by_cases hj2:l<j/\j<=k
        ·rw[if_pos hj2];exact S _ _ (by omega) (by omega)
        ·rw[if_neg hj2];exact S _ _ hij (by omega)
   exact wpS_bind (wpS_mono mv fun _ st' h=>wpS_pure ⟨rfl,h.1,h.2⟩)
 ·rintro c st1 ⟨rfl,W,S⟩
  rw[show max (max ok 1) n=n by omega]at S;exact wpS_pure (hq st1 W S)
end BX.Tim
end
section
namespace BX.Tim
open PySem
open PyProof.Rows (SortSt SortKind Keyed kindOf arrOf pendingOf gallopOf failedOf setArr setPending mergeAt' sortRuns' minRun' power' wpS wpS_pure wpS_bind wpS_mono wpS_get wpS_modify wpS_forRange wpS_lift)
variable {prog:Program}{w:World}{A:Around}{E:Value->SP0}{s:Shared}{κ:SortKind}{it:Keyed->Prop}{rk:Keyed->Int}
noncomputable def ZX:Nat->List (List Keyed)->List (Nat×Nat)
 |_,[]=>[]
 |o,L::Ls=>(o,L.length)::ZX (o+L.length) Ls
theorem ZY:∀(o:Nat) (Ls:List (List Keyed)),(ZX o Ls).length=Ls.length
 |_,[]=>rfl
 |o,L::Ls=>by simp[ZX,ZY (o+L.length) Ls]
theorem ZZ:∀(o:Nat) (Ls Ms:List (List Keyed)),ZX o (Ls++Ms)=ZX o Ls++ZX (o+Ls.flatten.length) Ms
 |o,[],Ms=>by simp[ZX]
 | o,L::Ls,Ms=>by
  have:=ZZ (o+L.length) Ls Ms;simp only[List.cons_append,ZX,this,List.flatten_cons,List.length_append,Nat.add_assoc]
noncomputable abbrev two(x:Nat×Nat×Nat):Nat×Nat:=(x.1,x.2.1)
structure RI(rk:Keyed->Int)(κ:SortKind)(a0:Array Keyed)(T:List Keyed)(lo:Nat)(st:SortSt):Prop where
 k:kindOf st=κ
 f:failedOf st=none
 pm:(arrOf st).toList.Perm a0.toList
 ex:∃Ls:List (List Keyed),(arrOf st).toList=Ls.flatten++T/\Ls.flatten.length=lo/\(pendingOf st).toList.map two=ZX 0 Ls/\∀L∈Ls,1<=L.length/\Zw rk L
theorem arv{α:Type}(Ls:List α){i:Nat}(h:i+1<Ls.length):∃A x y B,Ls=A++x::y::B/\A.length=i:=by
 refine⟨Ls.take i,Ls[i],Ls[i+1],Ls.drop (i+2),?_,by rw[List.length_take];omega⟩;rw[List.getElem_cons_drop,List.getElem_cons_drop,List.take_append_drop]
theorem adE{α β:Type}(g:α->β):∀(l:List α) (j:Nat),(l.eraseIdx j).map g=(l.map g).eraseIdx j
 | [],_=>rfl
 |_::_,0=>rfl
 |a::l,j+1=>by simp only[List.eraseIdx_cons_succ,List.map_cons,adE g l j]
theorem ac7{α β:Type}(g:α->β):∀(l:List α) (i j:Nat) (x:α),((l.set i x).eraseIdx j).map g=((l.map g).set i (g x)).eraseIdx j:=by
 intro l i j x;rw[adE,List.map_set]
theorem adF{α:Type}:∀(A:List α) (x y z:α) (B:List α),((A++x::y::B).set A.length z).eraseIdx (A.length+1)=A++z::B
 | [],x,y,z,B=>rfl
 | a::A,x,y,z,B=>by
  have:=adF A x y z B;simp only[List.cons_append,List.length_cons,zzF,List.eraseIdx_cons_succ,this]
section
variable {a0:Array Keyed}{T:List Keyed}{lo:Nat}{st:SortSt}
theorem RI.psz(h:RI rk κ a0 T lo st):∃Ls:List (List Keyed),(pendingOf st).size=Ls.length/\Ls.flatten.length=lo/\(arrOf st).toList=Ls.flatten++T/\∀L∈Ls,1<=L.length/\Zw rk L:=by
 obtain⟨Ls,e1,e2,e3,e4⟩:=h.ex;refine⟨Ls,?_,e2,e1,e4⟩;have:=congrArg List.length e3;rw[List.length_map,ZY]at this;simpa using this
theorem alk(hc:Cmp prog w A s κ it rk)(hit:∀x∈a0.toList,it x)(h:RI rk κ a0 T lo st){i:Nat}(hi:i+1<(pendingOf st).size){Q:Bool->SortSt->Prop}(hq:∀st',RI rk κ a0 T lo st'->(pendingOf st').size+1=(pendingOf st).size->Q true st'):wpS (model prog w) A E s (mergeAt' i) Q st:=by
 obtain⟨Ls,e1,e2,e3,e4⟩:=h.ex
 have hl:(pendingOf st).size=Ls.length:=by
  have:=congrArg List.length e3;rw[List.length_map,ZY]at this;simpa using this
 obtain⟨Ls1,L1,L2,Ls2,rfl,hA⟩:=arv Ls (i:=i) (by omega);rw[ZZ,Nat.zero_add]at e3;simp only[ZX]at e3;have ol:=ZY 0 Ls1
 have g1:∃pw,(pendingOf st)[i]?=some (Ls1.flatten.length,L1.length,pw):=by
  have:=congrArg (fun l=>l[i]?) e3;simp only[List.getElem?_map]at this;rw[List.getElem?_append_right (by omega),show i-(ZX 0 Ls1).length=0 by omega,zzA,Array.getElem?_toList]at this;cases e:(pendingOf st)[i]? with
  |none=>rw[e]at this;cases this
  | some x=>
   rw[e]at this;obtain⟨x1,x2,x3⟩:=x;simp only[zzE,Option.some.injEq,two,Prod.mk.injEq]at this;exact⟨x3,by rw[this.1,this.2]⟩
 have g2:∃pw,(pendingOf st)[i+1]?=some (Ls1.flatten.length+L1.length,L2.length,pw):=by
  have:=congrArg (fun l=>l[i+1]?) e3;simp only[List.getElem?_map]at this;rw[List.getElem?_append_right (by omega),show i+1-(ZX 0 Ls1).length=1 by omega,zzB,zzA,Array.getElem?_toList]at this;cases e:(pendingOf st)[i+1]? with
  |none=>rw[e]at this;cases this
  | some x=>
   rw[e]at this;obtain⟨x1,x2,x3⟩:=x;simp only[zzE,Option.some.injEq,two,Prod.mk.injEq]at this;exact⟨x3,by rw[this.1,this.2]⟩
 obtain⟨pw,g1⟩:=g1;obtain⟨pw',g2⟩:=g2;have m1:=e4 L1 (by simp);have m2:=e4 L2 (by simp);refine apo hc h.k h.f (P:=Ls1.flatten) (L1:=L1) (L2:=L2) (R:=Ls2.flatten++T) (by rw[e1];simp) (fun x hx=>hit x (h.pm.mem_iff.mp hx)) g1 g2 m1.2 m2.2 m1.1 m2.1 fun L st' p1 p2 p3 p4 p5 p6=>?_;have lL:L.length=L1.length+L2.length:=by rw[p1.length_eq,List.length_append]
 refine hq st' ⟨p4,p5,?_,Ls1++L::Ls2,by rw[p3];simp,?_,?_,fun M hM=>?_⟩ ?_
 ·rw[p3]
  refine List.Perm.trans ?_ h.pm;rw[e1];simp only[List.flatten_append,List.flatten_cons,List.append_assoc];refine List.Perm.append_left _ ?_;have:=p1.append_right (Ls2.flatten++T);simpa[List.append_assoc]using this
 ·rw[←e2]
  simp only[List.flatten_append,List.flatten_cons,List.length_append,lL];omega
 ·rw[p6,Array.toList_eraseIdxIfInBounds,Array.toList_setIfInBounds,ac7,e3,ZZ,Nat.zero_add]
  simp only[ZX];rw[show i=(ZX 0 Ls1).length by omega,adF,lL,Nat.add_assoc]
 ·simp only[List.mem_append,List.mem_cons]at hM
  rcases hM with hM|rfl | hM
  ·exact e4 M (by simp[hM])
  ·exact⟨by omega,p2⟩
  ·exact e4 M (by simp[hM])
 ·rw[p6,←Array.length_toList,Array.toList_eraseIdxIfInBounds,Array.toList_setIfInBounds,List.length_eraseIdx_of_lt (by rw[List.length_set,Array.length_toList];exact hi),List.length_set,Array.length_toList]
  omega
theorem Wn.cut{pd:Array (Nat×Nat×Nat)}{st0:SortSt}(W:Wn κ (arrOf st0) pd lo st){n:Nat}(hn:lo+n<=(arrOf st0).size)(hs:QF (vw rk lo st) n):∃L T2,(arrOf st).toList=(arrOf st0).toList.take lo++(L++T2)/\L.length=n/\Zw rk L:=by
 have hz:=W.sz;refine⟨((arrOf st).toList.drop lo).take n,((arrOf st).toList.drop lo).drop n,?_,?_,?_⟩
 ·rw[List.take_append_drop]
  have e:(arrOf st).toList.take lo=(arrOf st0).toList.take lo:=by
   apply List.ext_getElem?;intro k;by_cases c:k<lo
   ·rw[List.getElem?_take_of_lt c,List.getElem?_take_of_lt c,qg (by omega),qg (by omega),W.lw k c]
   ·rw[List.getElem?_eq_none (by simp;omega),List.getElem?_eq_none (by simp;omega)]
  rw[←e,List.take_append_drop]
 ·rw[List.length_take,List.length_drop,Array.length_toList];omega
 ·show List.Pairwise (LeR rk) _
  rw[List.pairwise_iff_getElem];intro p q hp hq hpq
  have hq':q<n/\lo+q<(arrOf st).size:=by
   rw[List.length_take,List.length_drop,Array.length_toList]at hq;omega
  have e1:=qg (a:=arrOf st) (j:=lo+p) (by omega);have e2:=qg hq'.2;rw[List.getElem?_eq_getElem (by simp;omega),Option.some.injEq]at e1;rw[List.getElem?_eq_getElem (by simpa using hq'.2),Option.some.injEq]at e2;rw[List.getElem_take,List.getElem_take,List.getElem_drop,List.getElem_drop,e1,e2];exact hs p q (by omega) hq'.1
theorem RI.wn(h:RI rk κ a0 T lo st):Wn κ (arrOf st) (pendingOf st) lo st:=⟨h.k,h.f,rfl,Array.Perm.refl _,fun _ _=>rfl⟩
theorem RI.ran(h:RI rk κ a0 T lo st){st2:SortSt}(W:Wn κ (arrOf st) (pendingOf st) lo st2){n:Nat}(hn:lo+n<=(arrOf st).size)(hs:QF (vw rk lo st2) n):∃L T2,RI rk κ a0 (L++T2) lo st2/\L.length=n/\Zw rk L:=by
 obtain⟨L,T2,e,hl,so⟩:=W.cut hn hs;obtain⟨Ls,e1,e2,e3,e4⟩:=h.ex;refine⟨L,T2,⟨W.k,W.f,W.pm.toList.trans h.pm,Ls,?_,e2,by rw[W.p];exact e3,e4⟩,hl,so⟩;rw[e,e1,←e2,List.take_left]
theorem acy{α β:Type}(g:α->β)(f:α->α)(h:∀x,g (f x)=g x):∀(l:List α) (i:Nat),(l.modify i f).map g=l.map g
 | [],i=>by simp
 |a::l,0=>by simp[h]
 |a::l,i+1=>by simp[acy g f h l i]
theorem RI.push{L T2:List Keyed}{pd:Array (Nat×Nat×Nat)}{st2:SortSt}(h:RI rk κ a0 (L++T2) lo st)(hL:1<=L.length)(so:Zw rk L)(k:kindOf st2=kindOf st)(f:failedOf st2=failedOf st)(a:arrOf st2=arrOf st)(p:pendingOf st2=(pendingOf st).push (lo,L.length,0)):RI rk κ a0 T2 (lo+L.length) st2:=by
 obtain⟨Ls,e1,e2,e3,e4⟩:=h.ex;refine⟨k.trans h.k,f.trans h.f,by rw[a];exact h.pm,Ls++[L],by rw[a,e1];simp,by simp[e2],?_,fun M hM=>?_⟩
 ·rw[p,Array.toList_push,List.map_append,e3,ZZ,Nat.zero_add,e2];rfl
 ·simp only[List.mem_append,List.mem_singleton]at hM
  rcases hM with hM|rfl
  ·exact e4 M hM
  ·exact⟨hL,so⟩
theorem RI.same{st2:SortSt}(h:RI rk κ a0 T lo st)(k:kindOf st2=kindOf st)(f:failedOf st2=failedOf st)(a:arrOf st2=arrOf st)(p:(pendingOf st2).toList.map two=(pendingOf st).toList.map two):RI rk κ a0 T lo st2:=by
 obtain⟨Ls,e1,e2,e3,e4⟩:=h.ex;exact⟨k.trans h.k,f.trans h.f,by rw[a];exact h.pm,Ls,by rw[a];exact e1,e2,p.trans e3,e4⟩
theorem aih:∀(Ls:List (List Keyed)),(∀L∈Ls,1<=L.length/\Zw rk L)->Ls.length<=Ls.flatten.length
 | [],_=>Nat.le_refl _
 | L::Ls,h=>by
  have h1:=(h L List.mem_cons_self).1;have h2:=aih Ls fun M hM=>h M (List.mem_cons_of_mem _ hM);simp only[List.length_cons,List.flatten_cons,List.length_append];omega
end
theorem apr{M:Model}{f:SortSt->SortSt}{st:SortSt}{Q:PUnit->SortSt->Prop}(h:∀st',st'=f st->Q ⟨⟩ st'):wpS M A E s (modify f:StateT SortSt Sem PUnit) Q st:=wpS_modify (h _ rfl)
theorem aps{c:Prop}[Decidable c]{a b m:Nat}(ha:a<=m)(hb:b<=m):(if c then a else b)<=m:=by split<;>assumption
noncomputable abbrev RS:=Option Unit×Nat
noncomputable abbrev US:=Option Unit×Unit
theorem anl(hc:Cmp prog w A s κ it rk){st:SortSt}(hk:kindOf st=κ)(hf:failedOf st=none)(hp:pendingOf st=#[])(hit:∀x∈(arrOf st).toList,it x){Q:Unit->SortSt->Prop}
  (hq:∀st',(arrOf st').toList.Perm (arrOf st).toList->Zw rk (arrOf st').toList->failedOf st'=none->Q () st'):wpS (model prog w) A E s sortRuns' Q st:=by
 unfold sortRuns';refine wpS_bind (wpS_get ?_);simp only;generalize hsz0:((sortPriv% PySem.Builtin.SortState.a) st).size=size;have hsz:(arrOf st).size=size:=hsz0
 have zs:∀{T lo st'},RI rk κ (arrOf st) T lo st'->(arrOf st').size=size/\lo+T.length=size:=fun {T lo st'} h=>by
  have h1:=h.pm.length_eq;obtain⟨Ls,e1,e2,_⟩:=h.ex;have h2:=congrArg List.length e1;rw[List.length_append,e2]at h2;simp only[Array.length_toList]at h1 h2;omega
 refine wpS_bind (wpS_mono (Q:=fun (c:RS) st'=>c=(none,size)/\RI rk κ (arrOf st) [] size st')
  (wpS_forRange (I:=fun i (c:RS) st'=>∃ T lo,c=(none,lo)/\RI rk κ (arrOf st) T lo st'/\i<=lo) ?_ ?_ ⟨(arrOf st).toList,0,rfl,⟨hk,hf,List.Perm.refl _,[],rfl,rfl,by rw [hp]; rfl,fun _ h=>nomatch h⟩,Nat.le_refl _⟩) ?_)
 ·rintro i c st1 _ hi ⟨T,lo,rfl,R,il⟩
  obtain⟨z1,z2⟩:=zs R;simp only;refine jE (fun c=>wpS_pure ⟨by rw[show lo=size by omega],?_⟩) fun c=>?_
  ·obtain rfl:T=[]:=List.eq_nil_of_length_eq_zero (by omega)
   rw[show lo=size by omega]at R;exact R
  have lz:lo<size:=by omega
  have hit1:∀x∈(arrOf st1).toList,it x:=fun x hx=>hit x (R.pm.mem_iff.mp hx);refine wpS_bind (apq hc hit1 R.wn (show 1<=size-lo by omega) (by omega) fun m st2 W2 m1 m2 ms=>?_);simp only;have j8:∀(n:Nat) (st3:SortSt),Wn κ (arrOf st1) (pendingOf st1) lo st3->1<=n->lo+n<=size->QF (vw rk lo st3) n->∃L T2,RI rk κ (arrOf st) (L++T2) lo st3/\L.length=n/\Zw rk L:=fun n st3 W n1 n2 so=>R.ran W (by omega) so;refine jE (fun c=>wpS_bind (wpS_lift (wpAny_rule ⟨rfl,wpS_bind (aei hc hit1 W2 m1 (by omega) (by omega) ms fun st3 W3 s3=>jE (fun z=>absurd z (by simp)) fun _=>(have H:=j8 _ st3 W3 (by omega) (by omega) s3;?_))⟩))) fun c=>(have H:=j8 m st2 W2 m1 (by omega) ms;?_)
  all_goals
   obtain⟨L,T2,R3,lL,so⟩:=H;refine wpS_bind (wpS_get ?_)
   rename SortSt=>st3
   cases hb:(pendingOf st3).back? with
   | none=>
    exact wpS_bind (wpS_modify (wpS_pure ⟨T2,lo+L.length,by rw[lL],R3.push (pd:=#[]) (by omega) so rfl rfl rfl (by rw[lL]<;>rfl),by omega⟩))
   | some x=>
    obtain⟨x1,x2,x3⟩:=x;refine wpS_bind (wpS_mono (Q:=fun (c:US) st'=>c=(none,())/\RI rk κ (arrOf st) (L++T2) lo st') (wpS_forRange (I:=fun _ (c:US) st'=>c=(none,())/\RI rk κ (arrOf st) (L++T2) lo st') ?_ ?_ ⟨rfl,R3⟩) ?_)
    ·rintro _ c st4 _ _ ⟨rfl,R4⟩
     refine wpS_bind (wpS_get ?_);by_cases z:(pendingOf st4).size>1
     ·rw[if_pos z]
      have hx:(pendingOf st4)[(pendingOf st4).size-2]?=some ((pendingOf st4)[(pendingOf st4).size-2]'(by omega)):=Array.getElem?_eq_getElem _;rw[hx];exact jE (fun _=>wpS_pure ⟨rfl,R4⟩) fun _=>wpS_bind (alk (i:=(pendingOf st4).size-2) hc hit R4 (by omega) fun st5 R5 _=>jE (fun z=>absurd z (by simp)) fun _=>wpS_pure ⟨rfl,R5⟩)
     ·rw[if_neg z]
      exact wpS_pure ⟨rfl,R4⟩
    ·rintro c st4 ⟨rfl,R4⟩
     exact⟨rfl,R4⟩
    ·rintro c st4 ⟨rfl,R4⟩
     refine wpS_bind (apr fun st5 e5=>?_)
     have R5:RI rk κ (arrOf st) (L++T2) lo st5:=by
      subst e5;exact RI.same R4 rfl rfl rfl ((congrArg (List.map two) Array.toList_modify).trans (acy two _ (by intro x;rfl) _ _))
     exact wpS_bind (wpS_modify (wpS_pure ⟨T2,lo+L.length,by rw[lL],R5.push (pd:=#[]) (by omega) so rfl rfl rfl (by rw[lL]),by omega⟩))
 ·rintro c st1 ⟨T,lo,rfl,R,il⟩
  obtain⟨z1,z2⟩:=zs R;have e:lo=size:=by omega
  subst e;obtain rfl:T=[]:=List.eq_nil_of_length_eq_zero (by omega);exact⟨rfl,R⟩
 ·rintro c st1 ⟨rfl,R⟩
  simp only
  refine wpS_bind (wpS_mono (Q:=fun (c:US) st'=>c=(none,())/\RI rk κ (arrOf st) [] size st'/\(pendingOf st').size<=1)
   (wpS_forRange (I:=fun i (c:US) st'=>c=(none,())/\RI rk κ (arrOf st) [] size st'/\(pendingOf st').size+i<=size) ?_ ?_ ⟨rfl,R,?_⟩) ?_)
  ·rintro i c st2 _ hi ⟨rfl,R2,hb⟩
   refine wpS_bind (wpS_get ?_);refine jE (fun c=>wpS_pure ⟨rfl,R2,c⟩) fun c=>?_;have c':¬ (pendingOf st2).size<=1:=c;refine wpS_bind (alk hc hit R2 (Nat.lt_of_le_of_lt (Nat.add_le_add_right (aps (m:=(pendingOf st2).size-2) (Nat.sub_le _ _) (Nat.le_refl _)) 1) (by omega)) fun st3 R3 hb3=>?_);exact jE (fun z=>absurd z (by simp)) fun _=>wpS_pure ⟨rfl,R3,by omega⟩
  ·rintro c st2 ⟨rfl,R2,hb⟩
   exact⟨rfl,R2,by omega⟩
  ·obtain⟨Ls,a1,a2,a3,a4⟩:=R.psz
   have:=aih Ls a4;omega
  ·rintro c st2 ⟨rfl,R2,hb⟩
   refine wpS_pure (hq st2 R2.pm ?_ R2.f);obtain⟨Ls,a1,a2,a3,a4⟩:=R2.psz;rw[a3,List.append_nil]
   match Ls,a1,a4 with
   | [],_,_=>exact .nil
   | [L],_,a4=>simpa using (a4 L (by simp)).2
   |_::_::_,a1,_=>simp only[List.length_cons]at a1;omega
end BX.Tim
end
section
namespace BX.Tim
open PySem PySem.W PySem.Calls
open PyProof.Rows
variable {prog:Program}{w:World}{A:Around}{E:Value->SP0}{s:Shared}{h₀:Heap}{L a:Addr}{m:SV}{news:List (Addr×Obj)}{vs:List Value}
noncomputable def Ends(vs:List Value)(rk:Keyed->Int)(C:List Value->Prop):Prop:=∀ps:List Keyed,ps.Perm (vs.map fun v=>(v,v))->Zw rk ps->C (ps.map (·.2))
noncomputable def alm(prog:Program)(w:World)(A:Around)(vs:List Value)(C:List Value->SP0)(κ:SortKind)(s:Shared):Prop:=
 ∃(it:Keyed->Prop) (rk:Keyed->Int),Cmp prog w A s κ it rk/\(∀v∈vs,it (v,v))/\Ends vs rk fun out=>C out s
theorem afT:∀vs:List Value,(vs.toArray.zip vs.toArray).toList=vs.map fun v=>(v,v):=fun vs=>by
 rw[Array.toList_zip]
 induction vs with
 |nil=>rfl
 |cons v vs ih=>simpa using ih
theorem ajr{n:Nat}{P:PySem.Fin->SP0}(F:Fr h₀ L s.heap m)(N:News h₀ L s.heap news)(ho:s.heap.get? a=some (seqObj "list" vs.toArray n))(haL:a≠L)(ha0:h₀.get? a=none)(hna:∀p∈news,p.1≠a)(h2:2<=vs.length)(hz:vs.length<=sizeLine)
  (h:∀e1 h',Fr h₀ L h' m->News h₀ L h' ((a,seqObj "list" #[] e1)::news)->wpAny (model prog w) A (keyKind' vs.toArray) (alm prog w A vs fun out s'=>KasFin h₀ L m a e1 out (fun s3=>P (.done (.ret .none)) s3) s') (fun _ _=>False) { s with heap:=h' }):
  wpAny (model prog w) A (Builtin.«list.sort» ⟨[.ref a],[]⟩) P E s:=by
 have s1:=Heap.SameBut.update s.heap a (Obj.mapSeq fun _=>(#[]:Array Value));obtain⟨e1,ho1⟩:∃k,(s.heap.update a (Obj.mapSeq fun _=>(#[]:Array Value))).get? a=some (seqObj "list" #[] k):=⟨_,get?_update_seq ho fun _=>#[]⟩;have up:∀b x,(s.heap.update a (Obj.mapSeq fun _=>(#[]:Array Value))).get? b=some x->(((s.heap.update a (Obj.mapSeq fun _=>(#[]:Array Value))).push (seqObj "tuple" vs.toArray 0)).push (seqObj "list" #[] 0)).get? b=some x:=fun b x e=>Heap.get?_push_of_some _ (Heap.get?_push_of_some _ e);have F3:=(((kas_fr F s1 haL ha0).push (seqObj "tuple" vs.toArray 0)).push (seqObj "list" #[] 0));have N2:=(kas_news N s1 hna).grown up;have ask:=h e1 _ F3 fun p hp=>(List.mem_cons.mp hp).elim (fun e=>e▸⟨up _ _ ho1,haL,ha0⟩) fun q=>N2 p q;rw[list_sort_plain];refine wpAny_bind (listItems_at ho rfl ?_);refine wpAny_bind (listUpdate_at ho rfl ?_ hz (Nat.zero_le _));refine wpAny_bind (seqEpoch_at ho1 rfl ?_);refine wpAny_bind (wpAny_newTuple ?_ hz);refine wpAny_bind (wpAny_newList ?_ (Nat.zero_le _));refine wpAny_holding ?_;dsimp only;have big:¬ vs.toArray.size<2:=by rw[List.size_toArray];omega
 rw[if_neg big,if_neg big];refine wpAny_bind (wpAny_mono ask (fun κ s0 hk=>?_) fun _ _ x=>x.elim);obtain⟨it,rk,hc,hit,fin⟩:=hk;refine wpAny_bind (wpAny_mono (anl hc (st:=SortSt.mk' κ (vs.toArray.zip vs.toArray) #[] 7 none) rfl rfl rfl (fun x hx=>?_) (Q:=fun _ st'=>(arrOf st').toList.Perm (vs.map fun v=>(v,v))/\Zw rk (arrOf st').toList/\failedOf st'=none) fun st' p so f=>⟨?_,so,f⟩) ?_ fun _ _ e=>e)
 ·rw[show(arrOf (SortSt.mk' κ (vs.toArray.zip vs.toArray) #[] 7 none)).toList=_ from afT vs]at hx
  obtain⟨v,hv,rfl⟩:=List.mem_map.mp hx;exact hit v hv
 ·rw[←afT];exact p
 rintro⟨⟨⟩,st'⟩ s' ⟨rfl,pm,so,hf⟩
 obtain⟨news',g,F',N',U,k⟩:=fin _ pm so;dsimp only at pm so hf k ⊢;obtain⟨pre,post,e0,hg,x1,x2⟩:=U.split;rw[e0]at N';have na:=N' (a,seqObj "list" #[] e1) (List.mem_append_right _ (.head _))
 have hout:(arrOf st').map (·.2)=List.toArray ((arrOf st').toList.map (·.2)):=by
  apply Array.toList_inj.mp;rw[Array.toList_map]
 have hsz:(List.toArray ((arrOf st').toList.map (·.2))).size=vs.length:=by rw[List.size_toArray,List.length_map,pm.length_eq,List.length_map]
 rw[hout];generalize (arrOf st').toList.map (·.2)=out at*;have s2:=Heap.SameBut.update s'.heap a (Obj.mapSeq fun _=>List.toArray out);obtain⟨c2,hc2⟩:∃k,(s'.heap.update a (Obj.mapSeq fun _=>List.toArray out)).get? a=some (seqObj "list" (List.toArray out) k):=⟨_,get?_update_seq na.1 fun _=>List.toArray out⟩;refine wpAny_bind (seqEpoch_at na.1 rfl ?_);refine wpAny_bind (listUpdate_at na.1 rfl ?_ (Nat.zero_le _) (by rw[hsz];omega));rw[hf];simp only[bne_self_eq_false,zzL,zzN];refine wpAny_pure (k _ c2 (kas_fr F' s2 na.2.1 na.2.2) ?_);rw[hg];exact news_set N' x1 x2 s2 hc2
theorem sorted_any{l:Addr}{Q:Value->SP0}(F:Fr h₀ L s.heap m)(N:News h₀ L s.heap news)(hl:s.heap.IsList l vs.toArray)(h2:2<=vs.length)(hz:vs.length<=sizeLine)
  (h:∀D e1 h',Fr h₀ L h' m->News h₀ L h' ((D,seqObj "list" #[] e1)::news)->(∀q∈news,q.1<D)->wpAny (model prog w) A.in1.in1 (keyKind' vs.toArray) (alm prog w A.in1.in1 vs fun out s'=>KasFin h₀ L m D e1 out (fun s3=>Q (.ref D) s3) s') (fun _ _=>False) { s with heap:=h' }):
  wpAny (model prog w) A (call (.builtin "sorted") [.ref l]) Q E s:=by
 have hz':vs.toArray.size<=sizeLine:=by rw[List.size_toArray];exact hz
 refine Calls.call_function_entry kind_sorted plain_sorted entry_sorted (args_sorted1 _) ?_;unfold Builtin.«sorted»;refine wpAny_bind (m:=checkCount "sorted" 1 1 _) (wpAny_pure ?_);refine wpAny_bind (collect_list hl ?_ hz');refine wpAny_bind (wpAny_newList ?_ hz');generalize hH:(s.heap.push (seqObj "list" #[] 0)).update s.heap.objs.size (Obj.mapSeq (·++vs.toArray))=H1;have hsz:H1.objs.size=s.heap.objs.size+1:=by rw[←hH,Heap.size_update,size_push']
 have hoL:(H1.push (seqObj "list" vs.toArray 0)).get? (s.heap.objs.size+1)=some (seqObj "list" vs.toArray 0):=by
  rw[←hsz];exact Heap.get?_push_size _ rfl
 have keep:∀b o,s.heap.get? b=some o->(H1.push (seqObj "list" vs.toArray 0)).get? b=some o:=fun b o q=>by
  have hlt:b<s.heap.objs.size:=Heap.lt_size q;rw[Heap.get?_push_ne _ _ _ (by rw[hsz];exact Nat.ne_of_lt (Nat.lt_succ_of_lt hlt)),←hH,Heap.get?_update_ne _ _ _ _ (Nat.ne_of_lt hlt),Heap.get?_push_ne _ _ _ (Nat.ne_of_lt hlt)];exact q
 have hL:L<s.heap.objs.size:=F.ns.lt;rw[hsz];refine wpAny_bind (wpAny_holding (wpAny_call_entry slot_list_sort ⟨_,hoL,rfl⟩ entry_list_sort ?body (args_list_sort _)))
 case body=>
  refine ajr (s:={ s with heap:=H1.push (seqObj "list" vs.toArray 0) }) (F.kept keep) (N.grown keep) hoL (Nat.ne_of_gt (Nat.lt_succ_of_lt hL)) (Heap.get?_none_of_le (Nat.le_trans F.above (Nat.le_succ_of_le (Nat.le_of_lt hL)))) (fun p hp=>Nat.ne_of_lt (Nat.lt_succ_of_lt (Heap.lt_size (N p hp).1))) h2 hz fun e1 h' F' N'=>?_;refine wpAny_mono (h _ e1 h' F' N' fun q hq=>Nat.lt_succ_of_lt (Heap.lt_size (N q hq).1)) (fun κ s' hk=>?_) fun _ _ x=>x;obtain⟨it,rk,hc,hit,fin⟩:=hk;exact⟨it,rk,hc,hit,fun ps p1 p2=>(fin ps p1 p2).mono fun s3 hq=>⟨_,rfl,wpAny_pure ⟨_,rfl,hq⟩⟩⟩
end BX.Tim
end
section
namespace BX
open PySem PySem.Spec L2
open PyProof.Rows hiding St
theorem aey{α β:Type}{g:α->β}{l l':List β}(h:l.Perm l'):∀q:List α,l'=q.map g->∃q':List α,q'.Perm q/\l=q'.map g:=by
 induction h with
 |nil=>intro q e;exact⟨q,List.Perm.refl _,e⟩
 | cons x _ ih=>
  intro q e;cases q with
  |nil=>cases e
  | cons a q=>
   have e1:=(List.cons.inj e).1;obtain⟨q',p,e2⟩:=ih q (List.cons.inj e).2;exact⟨a::q',p.cons a,by rw[e1,e2];rfl⟩
 | swap x y l=>
  intro q e
  match q,e with
  | a::b::q,e=>
   have e1:=(List.cons.inj e).1;have e2:=List.cons.inj (List.cons.inj e).2;exact⟨b::a::q,List.Perm.swap _ _ _,by rw[e1,e2.1,e2.2];rfl⟩
 | trans _ _ ih1 ih2=>
  intro q e;obtain⟨q',p,e'⟩:=ih2 q e;obtain⟨q2,p2,e2⟩:=ih1 q' e';exact⟨q2,p2.trans p,e2⟩
theorem acz{α:Type}(us:List α)(d:α):(List.range us.length).map (fun i=>us.getD i d)=us:=by
 apply List.ext_getElem?;intro i;rw[List.getElem?_map];by_cases hi:i<us.length
 ·rw[List.getElem?_range hi,List.getElem?_eq_getElem hi]
  show some (us.getD i d)=_;rw[getD_some (List.getElem?_eq_getElem hi)]
 ·rw[List.getElem?_eq_none_iff.mpr (show(List.range us.length).length<=i by rw[List.length_range];omega),List.getElem?_eq_none_iff.mpr (show us.length<=i by omega)]
  rfl
noncomputable def ahd{α:Type}(K:Fg)(enc:α->PyData)(rk:α->Int)(ok:α->Prop):List V->Hp->VK->Prop:=fun vs H Q=>∃a xs ps,vs=[.ref a]/\H a=some (.lst xs)/\Reps K H (ps.map enc) xs/\(∀p∈ps,ok p)/\
 ∀qs:List α,qs.Perm ps->qs.Pairwise (fun a b=>rk a<=rk b)->∀l ys,H l=none->Reps K H (qs.map enc) ys->Q (.ref l) (upd H l (.lst ys))
open Classical in
theorem ahe{X:Cx}{α:Type}(z0:α)(enc:α->PyData)(rk:α->Int)(T:Value)(ok:α->Prop)(At:Heap->Value->α->Prop)
  (hat:∀{Kp:List (Addr×Obj)} {σ:St} {H:Hp} {s:Shared} {v:V} {x:α} {u:Value} {h':Heap},Inv X Kp σ H s->ok x->Rep X.K H (enc x) v->jK v u->(∀b o,b≠X.env.locals->s.heap.get? b=some o->h'.get? b=some o)->At h' u x)
  (hfn:∀{h:Heap} {u:Value} {x y:α},At h u x->At h u y->x=y)
  (hfirst:∀{h:Heap} {u:Value} {x:α},ok x->At h u x->∃a o xs n f,u= .ref a/\h.get? a=some o/\o.cls= .type "tuple"/\o.data= .seq xs n/\xs[0]?=some f/\∀M,PySem.W.Looks M h (typeOf f) T)
  (hT:(T==T)=true)
  (hlt:∀{s:Shared} {u v:Value} {x y:α} {Q:Bool->SP0} {E:Value->SP0},ok x->ok y->At s.heap u x->At s.heap v y->Q (decide (rk x<rk y)) s->wpAny (model X.prog X.w) X.A.in1.in1 (keyLt' (tuples' (T != Value.type "tuple")) u v) Q E s):
  zu X (.builtin "sorted") (ahd X.K enc rk ok):=by
 intro Kp s σ H vs us0 Q I r ⟨a,xs,ps,e,hl,hR,hB,q⟩;subst e;obtain⟨u,rfl,rx⟩:=abP r;cases rx;obtain⟨us,rv,pl,hz⟩:=I.list (SqL.of (K:=X.K) hl);have l1:=hR.length;have l2:=rv.length;rw[List.length_map]at l1;by_cases h2:us.length<2
 ·refine agU pl.isList h2 fun h' D c kp ho hD=>?_
  have hps:ps.Pairwise (fun a b=>rk a<=rk b):=aej (by omega);refine⟨.ref D,upd H D (.lst xs),I.laid (t':=s.toks) kp hD ⟨hz,us,c,rv,ho⟩,rfl,q ps (List.Perm.refl _) hps D xs (I.hok.fresh hD) hR⟩
 ·obtain⟨m,F⟩:=I.fr
  refine Tim.sorted_any (h₀:=X.base) (L:=X.env.locals) (m:=m) (news:=Jo X.base s.heap X.env.locals) (vs:=us) (l:=a) F aj5 pl.isList (by omega) (by omega) ?_;intro D e1 h' F' N' hlt';have nD:=N' (D,seqObj "list" #[] e1) List.mem_cons_self
  have kpb:∀{h2:Heap},Fr X.base X.env.locals h2 m->(∀p∈Jo X.base s.heap X.env.locals,h2.get? p.1=some p.2)->∀b o,b≠X.env.locals->s.heap.get? b=some o->h2.get? b=some o:=fun {h2} F2 N2 b o hb e=>by
   cases e3:X.base.get? b with
   |some u=>have:=F.keep b u e3;rw[e]at this;cases this;exact F2.keep b _ e3
   |none=>exact N2 (b,o) (aaY hb e3 e)
  have kp1:=kpb F' fun p hp=>(N' p (List.mem_cons_of_mem _ hp)).1
  have freshD:s.heap.get? D=none:=by
   cases e3:s.heap.get? D with
   |none=>rfl
   |some o=>exact absurd (hlt' (D,o) (aaY nD.2.1 nD.2.2 e3)) (Nat.lt_irrefl _)
  have pr:∀i (hi:i<ps.length),At h' (us.getD i Value.none) ps[i]:=fun i hi=>by
   obtain⟨x,ex,er⟩:=hR.get (show(ps.map enc)[i]?=some (enc ps[i]) by simp[hi]);obtain⟨v,ev,rv2⟩:=rv.get ex;rw[getD_some ev];exact hat I (hB _ (List.getElem_mem _)) er rv2 kp1
  have hu:us.length=ps.length:=by omega
  have kt:∃fs:List Value,PySem.W.KatTups h' us fs/\fs.length=us.length/\∀v∈fs,∀M,PySem.W.Looks M h' (typeOf v) T:=by
   have go:∀(n:Nat) (ws:List Value),us.drop n=ws->∃fs:List Value,PySem.W.KatTups h' ws fs/\fs.length=ws.length/\∀v∈fs,∀M,PySem.W.Looks M h' (typeOf v) T:=by
    intro n ws
    induction ws generalizing n with
    |nil=>intro _;exact⟨[],trivial,rfl,fun v hv=>nomatch hv⟩
    | cons w ws ih=>
     intro hd
     have hn:us[n]?=some w:=by
      have:(us.drop n)[0]?=some w:=by rw[hd];rfl
      simpa using this
     have hd':us.drop (n+1)=ws:=by
      have:(us.drop n).drop 1=ws:=by rw[hd];rfl
      simpa[List.drop_drop,Nat.add_comm]using this
     obtain⟨fs,t1,t2,t3⟩:=ih (n+1) hd'
     have hlt2:n<ps.length:=by
      have:=(List.getElem?_eq_some_iff.mp hn).1;omega
     obtain⟨a2,o,ys,k,f,e1,e2,e3,e4,e5,e6⟩:=hfirst (hB _ (List.getElem_mem _)) (pr n hlt2);rw[getD_some hn]at e1;subst e1;refine⟨f::fs,PySem.W.KatTups.cons e2 e3 e4 e5 t1,by simp[t2],fun v hv=>?_⟩;rcases List.mem_cons.mp hv with rfl | hv
     ·exact e6
     ·exact t3 v hv
   exact go 0 us rfl
  obtain⟨fs,t1,t2,t3⟩:=kt;refine PySem.W.kat_kind (s:={ s with heap:=h' }) (T:=T) t1 (by omega) (fun v hv=>t3 v hv _) hT ?_
  have ch:∀x:Keyed,∃n:Int,∀y,At h' x.1 y->n=rk y:=fun x=>by
   by_cases c:∃y,At h' x.1 y
   ·obtain⟨y,hy⟩:=c
    exact⟨rk y,fun z hz=>by rw[hfn hy hz]⟩
   ·exact⟨0,fun z hz=>absurd ⟨z,hz⟩ c⟩
  obtain⟨R,hR2⟩:=Classical.axiomOfChoice ch;refine⟨fun x=>∃y,ok y/\At h' x.1 y,R,?_,?_,?_⟩
  ·rintro x y ⟨x',o1,a1⟩ ⟨y',o2,a2⟩ E' Q' hq
   rw[hR2 x x' a1,hR2 y y' a2]at hq;exact hlt (s:={ s with heap:=h' }) o1 o2 a1 a2 hq
  ·intro v hv
   obtain⟨i,hi,rfl⟩:=List.mem_iff_getElem.mp hv;have:=pr i (by omega);rw[getD_some (List.getElem?_eq_getElem hi)]at this;exact⟨_,hB _ (List.getElem_mem _),this⟩
  ·intro zs hp hs
   have e0:us.map (fun v=>(v,v))=(List.range us.length).map fun i=>(us.getD i Value.none,us.getD i Value.none):=by
    conv=>lhs;rw[←acz us Value.none,List.map_map]
    rfl
   obtain⟨p,permN,rfl⟩:=aey hp _ e0;have mem:∀i∈p,i<us.length:=fun i hi=>List.mem_range.mp (permN.mem_iff.mp hi);rw[List.map_map];show PySem.W.KasFin _ _ _ _ _ (p.map fun i=>us.getD i Value.none) _ _;refine PySem.W.KasFin.intro (news:=(D,seqObj "list" #[] e1)::Jo X.base s.heap X.env.locals) (g:=fun o'=>(D,o')::Jo X.base s.heap X.env.locals) F' N' (.head fun z hz=>Nat.ne_of_lt (hlt' z hz)) fun h2 c F2 N2=>?_;have kp2:=kpb F2 fun z hz=>(N2 z (List.mem_cons_of_mem _ hz)).1;have hD2:=(N2 (D,PySem.W.listOf (List.toArray (p.map fun i=>us.getD i Value.none)) c) List.mem_cons_self).1
   have hln:(p.map fun i=>xs.getD i V.non).length<=sizeLine:=by
    rw[List.length_map,permN.length_eq,List.length_range];omega
   have I2:=Inv.grownL (ys:=p.map fun i=>xs.getD i V.non) I F.ns F2.ns kp2 freshD hD2 (ajd rv _ mem) hln
   have nH:H D=none:=by
    cases e3:H D with
    |none=>rfl
    |some o=>obtain⟨u,z⟩:=qw.there (I.hok D o e3);rw[freshD]at z;cases z
   have gd:∀i,i<us.length->∃hi:i<ps.length,ps.getD i z0=ps[i]:=fun i hi=>⟨by omega,getD_some (List.getElem?_eq_getElem _)⟩
   have eqs:(p.map fun i=>(ps.map enc).getD i PyData.none)=(p.map fun i=>ps.getD i z0).map enc:=by
    rw[List.map_map];refine List.map_congr_left fun i hi=>?_;obtain⟨hi',g1⟩:=gd i (mem i hi);show(ps.map enc).getD i PyData.none=enc (ps.getD i z0);rw[g1];refine getD_some ?_;rw[List.getElem?_map,List.getElem?_eq_getElem hi'];rfl
   have rp:=aje hR p fun i hi=>by rw[List.length_map];have:=mem i hi;omega
   rw[eqs]at rp;refine⟨.ref D,_,I2,rfl,q _ ?_ ?_ D _ nH rp⟩
   ·have:=permN.map (fun i=>ps.getD i z0)
    rw[hu,acz]at this;exact this
   ·rw[List.pairwise_map]
    have hs:=List.pairwise_map.mp hs;refine hs.imp_of_mem fun {i j} hi hj hij=>?_;obtain⟨i1,g1⟩:=gd i (mem i hi);obtain⟨j1,g2⟩:=gd j (mem j hj);rw[g1,g2,←hR2 (us.getD i Value.none,us.getD i Value.none) _ (pr i i1),←hR2 (us.getD j Value.none,us.getD j Value.none) _ (pr j j1)];exact hij
theorem PairAt.fn{h:Heap}{u:Value}{p q:Int×Int}(x:PairAt h u p)(y:PairAt h u q):p=q:=by
 obtain⟨a,o,k,t,t',e1,e2,e3,e4⟩:=x.ex;obtain⟨b,o',k',z,z',f1,f2,f3,f4⟩:=y.ex;rw[e1]at f1;cases f1;rw[e2]at f2;cases f2;rw[e4]at f4;have:=(Data.seq.inj f4).1;simp only[Array.mk.injEq,List.cons.injEq,Value.int.injEq]at this;obtain⟨p1,p2⟩:=p;obtain⟨q1,q2⟩:=q;simp only at this;rw[this.1.1,this.2.1.1]
theorem zr.fn{h:Heap}:∀{vs:List Value}{ps qs:List (Int×Int)},zr h vs ps->zr h vs qs->ps=qs
 | [],ps,qs,e,f=>by cases (show ps=[] from e);cases (show qs=[] from f);rfl
 | v::vs,ps,qs,⟨p,r,a,e1,e2,e3,e4⟩,⟨q,r',b,f1,f2,f3,f4⟩=>by
  rw[e2]at f2;cases f2;rw[e1,f1,e3.fn f3,e4.fn f4]
theorem SetAt.fn{h:Heap}{u:Value}{p q:List (Int×Int)}(x:SetAt h u p)(y:SetAt h u q):p=q:=by
 obtain⟨a,o,k,vs,e1,e2,e3,e4,e5⟩:=x.ex;obtain⟨b,o',k',ws,f1,f2,f3,f4,f5⟩:=y.ex;rw[e1]at f1;cases f1;rw[e2]at f2;cases f2;rw[e4]at f4;have:=(Data.seq.inj f4).1;have:vs=ws:=by simpa using this
 subst this;exact e5.fn f5
section
variable {X:Cx}
theorem afU(hu:X.A.in1.in1.units+8<cLine)(n:Nat):zu X (.builtin "sorted") (ahd X.K QE jU (fun t=>inS n t=true)):=
 ahe [] QE jU (.type "tuple") _ SetAt (fun I _ r rv kp=>ald I r rv kp) (fun x y=>x.fn y) (fun {h u x} hx sx=>by
  obtain ⟨a,o,k,vs,e1,e2,e3,e4,pa⟩:=sx.ex;simp only [inS,Bool.and_eq_true,decide_eq_true_eq] at hx;cases vs with
  | nil=>
   cases (show x=[] from pa);simp at hx;omega
  | cons v vs=>
   obtain ⟨p,r,b,rfl,rfl,pp,_⟩:=pa;obtain ⟨b',ob,k',t,t',f1,f2,f3,f4⟩:=pp.ex;cases f1;exact ⟨a,o,_,k,.ref b,e1,e2,e3,e4,rfl,fun M A Q E s kp q=>wpAny_typeOf (⟨ob,kp _ _ f2,f3⟩:s.TypeIs (.ref b) "tuple") q⟩) rfl fun hx hy xu xv h=>apk hu hx hy xu xv h
end
noncomputable def aln(ss:List (List (Int×Int))):Bool:=ss.all (inS ((ss.head?.getD []).length))
noncomputable def aez(ds:LP):OP:=match ds with
 | [.list xs]=>(Jh xs).bind fun ts=>if aln ts=true then some (.list ((aa6 jU ts).map QE)) else none
 |_=>none
theorem alo{X:Cx}(hu:X.A.in1.in1.units+8<cLine):Zo X (.builtin "sorted") aez:=by
 refine⟨fun vs H Q=>∃n,ahd X.K QE jU (fun t=>inS n t=true) vs H Q,fun Kp s σ H vs us Q I r ⟨n,h⟩=>afU hu n Kp s σ H vs us Q I r h,fun ds d xs H Q h r k=>?_⟩;unfold aez at h;split at h
 ·rename_i ys
  cases hp:Jh ys with
  |none=>simp[hp]at h
  | some ps=>
   by_cases hc:aln ps=true
   ·have:PyData.list ((aa6 jU ps).map QE)=d:=by simpa[hp,hc]using h
    subst this;obtain⟨x,q,e1,e2,e3⟩:=r;cases (show q=[] from e3);obtain⟨a,us,g1,g2,g3⟩:=e2;subst g1;rw[acs hp]at g3;simp only[aln,List.all_eq_true]at hc;refine⟨_,a,us,ps,e1,g2,g3,hc,fun qs p1 p2 l zs hl hz=>?_⟩
    have:qs=aa6 jU ps:=aa8 p2 (ZU jU ps) (p1.trans (Qi jU ps).symm) fun p hp q hq e=>by
     have i1:=hc p (p1.mem_iff.mp hp);have i2:=hc q (p1.mem_iff.mp hq);simp only[inS,Bool.and_eq_true,decide_eq_true_eq]at i1 i2;exact ady (by omega) i1.2 i2.2 e
    subst this;exact k _ _ (jI hl) ⟨l,zs,rfl,jr,Reps.mono (jI hl) _ _ hz⟩
   ·simp[hp,hc]at h
 ·cases h
end BX
end
local macro_rules
  | `(tactic| dsimp? [$xs,*])=>`(tactic| simp only [BX.jF,BX.ifS,BX.ifD,BX.ifX,BX.ac0,BX.orB,BX.J9,BX.tst,BX.op2,BX.chn,BX.jJ,BX.Qu,BX.JB,BX.jq,BX.jC,BX.lkp,BX.cst,BX.qz,BX.Zk,BX.qF,BX.jG,BX.qp,BX.nxX,BX.orX,BX.ag8,BX.amV,BX.asB,zzA,zzB,zzC,zzD,zzH,zzE,zzI,zzF,zzG,zzJ,zzK,zzL,zzM,zzN,$(⟨xs.elemsAndSeps⟩),*])
section
namespace Rods
open PySem L2 BX
open PyProof.Rows hiding St
noncomputable def top(i:Nat):Stmt:=PySem.Challenge.pw_beadrods_k14_whole_numbers.main.body.getD i (.Pass ⟨0,0,0,0⟩)
structure Bare(mg:SV):Prop where
 isi:mg "isinstance"=none
 bool:mg "bool"=none
 int:mg "int"=none
 tuple:mg "tuple"=none
 zip:mg "zip"=none
 range:mg "range"=none
 all:mg "all"=none
 len:mg "len"=none
 max:mg "max"=none
 min:mg "min"=none
 sum:mg "sum"=none
 sorted:mg "sorted"=none
 abs:mg "abs"=none
 list:mg "list"=none
 enum:mg "enumerate"=none
 vale:mg "ValueError"=none
 str:mg "str"=none
 set:mg "set"=none
 dict:mg "dict"=none
theorem anm:bootBuiltins "bool"=some (.type "bool"):=by decide +kernel
theorem apt:bootBuiltins "int"=some (.type "int"):=by decide +kernel
theorem Z0:bootBuiltins "tuple"=some (.type "tuple"):=by decide +kernel
theorem alp:bootBuiltins "all"=some (.builtin "all"):=by decide +kernel
theorem zI:bootBuiltins "len"=some (.builtin "len"):=by decide +kernel
theorem akK:bootBuiltins "max"=some (.builtin "max"):=by decide +kernel
theorem ab7:bootBuiltins "min"=some (.builtin "min"):=by decide +kernel
theorem apu:bootBuiltins "sum"=some (.builtin "sum"):=by decide +kernel
theorem ajs:bootBuiltins "sorted"=some (.builtin "sorted"):=by decide +kernel
noncomputable abbrev Z1:Stmt:=top 7
noncomputable abbrev QS:Stmt:=top 16
noncomputable abbrev Z2:Stmt:=top 15
noncomputable abbrev aeA:Stmt:=top 18
noncomputable abbrev qG(C:Program->World->Fg->(SV)->Heap->Prop)(qual:Str)(st:Stmt)(N:List Str)(k:Nat)(B:RO):Prop:=
 ∀(P:Program) (w:World) (K:Fg) (mg:SV) (base:Heap) (f:Addr) (Kc:Value) (A:Around) (Ko:List Env) (s:Shared) (H:Hp) (E:XK),C P w K mg base->Room k (A.deeper (envOfC qual (jh st) s.heap.objs.size f Kc))->
  ZE (Jy CX0 P w K mg base N qual (jh st) f Kc A Ko s H E).nox (jM st) B
theorem ahf:FnScope ["thing","least","most"] ["thing","least","most"] (jh Z1):=⟨rfl,rfl,rfl,by decide +kernel,rfl,by decide +kernel,by decide +kernel⟩
noncomputable def acA:{ B:RO // qG (fun _ _ _ mg _=>Bare mg) "is_whole" Z1 ["thing","least","most"] 0 B }:=
 ⟨_,fun P w K mg base f Kc A Ko s H E T hr=>
  jd (qj (zw (ab0 (qJ (ab5 (.inl rfl) T.isi T.bool anm (jb 0))) (ZF (qK (qJ (ab5 (.inr (.inl rfl)) T.isi T.int apt (jb 0))))))) (jd (ju zK) jg) jg)
  (jd (ju (aky aaw aaw (jb 1) (jb 0) (jb 2))) jg)⟩
noncomputable def j7:LP->OP:=jw ["thing","least","most"] 3 acA.1
theorem afV:FnScope ["manner","rod"] ["manner","rod"] (jh QS):=⟨rfl,rfl,rfl,by decide +kernel,rfl,by decide +kernel,by decide +kernel⟩
noncomputable def aaF:{ B:RO // qG (fun _ _ _ _ _=>True) "rod_worth" QS ["manner","rod"] 0 B }:=
 ⟨_,fun P w K mg base f Kc A Ko s H E T hr=>
  jd (ju (jo jv (jo qv (j0 (jb 1) ji) (j0 (jb 0) ji)) (j0 (jb 1) ji))) jg⟩
noncomputable def qC:LP->OP:=jw ["manner","rod"] 2 aaF.1
theorem alq:FnScope ["rod"] ["rod"] (jh aeA):=⟨rfl,rfl,rfl,by decide +kernel,rfl,by decide +kernel,by decide +kernel⟩
noncomputable def ahg:{ B:RO // qG (fun _ _ _ _ _=>True) "beads" aeA ["rod"] 0 B }:=
 ⟨_,fun P w K mg base f Kc A Ko s H E T hr=>jd (ju (jo jv (j0 (jb 0) ji) (j0 (jb 0) ji))) jg⟩
noncomputable def qN:LP->OP:=jw ["rod"] 1 ahg.1
noncomputable def Ji(i:Nat)(m:Nat):LP:=(List.range m).map fun (j:Nat)=>PyData.tuple [.int (i:Int),.int (j:Int)]
noncomputable def Js(n m:Nat):LP:=(List.range n).flatMap fun (i:Nat)=>Ji i m
theorem afW(i m:Nat):Ji i (m+1)=Ji i m++[PyData.tuple [.int (i:Int),.int (m:Int)]]:=by simp[Ji,List.range_succ]
theorem Zx(n m:Nat):Js (n+1) m=Js n m++Ji n m:=by simp[Js,List.range_succ]
theorem afX(i m:Nat):noLs (Ji i m)=true:=afx fun d hd=>by
 obtain⟨j,_,rfl⟩:=List.mem_map.mp hd;simp[noL,noLs]
theorem ajt(n m:Nat):noLs (Js n m)=true:=by
 induction n with
 |zero=>simp[Js,noLs]
 |succ n ih=>rw[Zx,Qw,ih,afX];rfl
theorem aii(i m:Nat):(Ji i m).length=m:=by simp[Ji]
theorem acB(n m:Nat):(Js n m).length=n*m:=by
 induction n with
 |zero=>simp[Js]
 |succ n ih=>rw[Zx,List.length_append,ih,aii,Nat.succ_mul]
noncomputable def zi(ds:LP):OP:=match ds with
 | [.tuple [.int u,.int _,.int l,.int _]]=>if 0<=u/\u<1000/\0<=l/\l<1000 then some (.list (Js (u+1).toNat (l+1).toNat)) else none
 |_=>none
theorem Qj:FnScope ["manner","rods","upper","lower"] ["manner"] (jh Z2):=⟨rfl,rfl,rfl,by decide +kernel,rfl,by decide +kernel,by decide +kernel⟩
section
variable {P:Program}{w:World}{K:Fg}{mg:SV}{base:Heap}
theorem ahh{f:Addr}{fd:FuncData}(F:Fun K "all_rods" "all_rods" Z2 f fd)(T:Bare mg):FnOk P w K mg base CX0 1 f fd ["manner"] (Pur K 1 zi):=by
 with_unfolding_all
  refine F.ok Qj (fun vs H Q E h=>?_) (fun Kc A Ko s H vs Q E hr h=>?_)
  ·obtain⟨ds,d,h1,h2,_⟩:=h
   rw[h2.length];exact h1
  ·obtain⟨ds,d,h1,h2,h3,k⟩:=h
   unfold zi at h3;split at h3
   ·rename_i u e l b
    split at h3
    ·rename_i hb
     obtain⟨hu0,hu1,hl0,hl1⟩:=hb;cases h3
     refine⟨_,Qr (ad7 (i:=1) Qj.nd rfl (Or.inl rfl) (agF J1))
      (Qr (ad8 PassesOwn.never rfl (aao rfl T.range (ja (jo jv (j0 (jb 0) ji) ji) je)) (ZB (i:=2) Qj.nd rfl (Or.inl rfl))
       (ad5 (ad8 PassesOwn.never rfl (aao rfl T.range (ja (jo jv (j0 (jb 0) ji) ji) je)) (ZB (i:=3) Qj.nd rfl (Or.inl rfl))
        (ad5 (ad6 (akm PySem.F.plainAttrs_list PySem.F.slot_list_append PySem.F.type_list_append adf (pv 1) (zd (akg (zd (pv 2) (zd (pv 3) J1))) J1)))))))
      (ad5 (agA (pv 1)))),?_⟩
     obtain⟨mv,rr,e1,em,e2⟩:=h2;cases (show rr=[] from e2);subst e1;have nm:noL (PyData.tuple [.int u,.int e,.int l,.int b])=true:=by simp[noL,noLs]
     refine⟨Nat.zero_le _,fun p hp=>?_⟩
     have envr:∀{H2:Hp} {x2 x3:Option V} {y:Option V},jm H H2->EnvR K H2 [some (PyData.tuple [.int u,.int e,.int l,.int b]),none,none,none] [some mv,y,x2,x3]:=fun {H2 x2 x3 y} s2=>
      ⟨rfl,fun i d q=>by
       cases i with
       | zero=>cases q; exact ⟨mv,rfl,Rep.mono s2 _ _ em⟩
       | succ i=>
        match i,q with
        | 0,q=>cases q
        | 1,q=>cases q
        | 2,q=>cases q
        | j+3,q=>simp at q⟩
     refine⟨_,[.int (u+1)],envr (jI hp),by simp[jq,jC,op2,lkp,dIx,atI,ixN,cst,ze],fun vs1 H1 s1 r1=>?_⟩;obtain⟨y1,q1,f1,f2,f3⟩:=r1;cases (show y1=V.int (u+1) from f2);cases (show q1=[] from f3);subst f1
     refine⟨u+1,rfl,by omega,by omega,ac9 (n:=(u+1).toNat) (fun i σ H2=>∃x2 x3 xs,σ=[some mv,some (.ref p),x2,x3]/\jm H H2/\H2 p=some (.lst xs)/\Reps K H2 (Js i (l+1).toNat) xs)
      ⟨none,none,[],rfl,(jI hp).trans s1,s1 _ _ jr,rfl⟩ ?_ ?_⟩
     ·rintro i σ H2 hi ⟨x2,x3,xs,rfl,s2,hp2,r2⟩
      refine⟨_,[.int (l+1)],envr s2,by simp[jq,jC,op2,lkp,dIx,atI,ixN,cst,ze],fun vs2 H3 s3 r3=>?_⟩;obtain⟨y2,q2,g1,g2,g3⟩:=r3;cases (show y2=V.int (l+1) from g2);cases (show q2=[] from g3);subst g1
      refine⟨l+1,rfl,by omega,by omega,ac9 (n:=(l+1).toNat) (fun j σ H4=>∃x3 ys,σ=[some mv,some (.ref p),some (.int (0+i)),x3]/\jm H H4/\H4 p=some (.lst ys)/\Reps K H4 (Js i (l+1).toNat++Ji i j) ys)
       ⟨x3,xs,rfl,s2.trans s3,s3 _ _ hp2,by simpa [Ji] using Reps.mono s3 _ _ r2⟩ ?_ ?_⟩
      ·rintro j σ H4 hj ⟨x3',ys,rfl,s4,hp4,r4⟩
       have hlen:ys.length<sizeLine:=by
        rw[r4.length,List.length_append,acB,aii,sizeLine_eq];have h1:i*(l+1).toNat<=1000*1001:=Nat.mul_le_mul (by omega) (by omega);omega
       refine⟨_,rfl,.inl ⟨rfl,ys,SqL.of hp4⟩,_,rfl,_,rfl,by show 2<=sizeLine;rw[sizeLine_eq];decide,fun q hq=>?_⟩;have npq:p≠q:=qA hp4 hq;refine⟨p,ys,.ref q,rfl,rfl,by rw[jn npq];exact hp4,hlen,?_⟩
       have t1:zn H4 (upd (upd H4 q (.tup [.int (0+(i:Int)),.int (0+(j:Int))])) p (.lst (ys++[.ref q]))):=
        (jm.n (jI hq)).trans (zn.upd (xs:=ys) (by rw[jn npq];exact hp4))
       refine⟨_,ys++[.ref q],rfl,fun c o hc=>?_,jr,?_⟩
       ·have hc4:=s4 c o hc
        rw[jn (qA hc hp),jn (qA hc4 hq)];exact hc4
       ·rw[afW,←List.append_assoc]
        refine(Reps.monoN t1 _ _ (by rw[Qw,ajt,afX];rfl) r4).append ⟨.ref q,[],rfl,⟨q,_,rfl,SqT.of (by rw[jn (Ne.symm npq)];exact jr),?_⟩,rfl⟩;exact⟨_,_,rfl,by show _=V.int _;rw[Int.zero_add],_,_,rfl,by show _=V.int _;rw[Int.zero_add],rfl⟩
      ·rintro σ H4 ⟨x3',ys,rfl,s4,hp4,r4⟩
       exact⟨_,x3',ys,rfl,s4,hp4,by rw[Zx];exact r4⟩
     ·rintro σ H2 ⟨x2,x3,xs,rfl,s2,hp2,r2⟩
      exact⟨_,rfl,k _ _ s2 ⟨p,xs,rfl,hp2,r2⟩⟩
    ·cases h3
   ·cases h3
end
noncomputable abbrev QT:Stmt:=top 12
noncomputable abbrev QU:Stmt:=top 11
noncomputable abbrev CC:=Program->World->Fg->(SV)->Heap->Prop
structure CHasAll(P:Program)(w:World)(K:Fg)(mg:SV)(base:Heap):Prop where
 t:Bare mg
 allRods:jj P w K mg base "all_rods" ["manner"] 1 1 zi
 rodWorth:jj P w K mg base "rod_worth" ["manner","rod"] 1 2 qC
theorem adG:FnScope ["manner","worths"] ["manner"] (jh QT):=⟨rfl,rfl,rfl,by decide +kernel,rfl,by decide +kernel,by decide +kernel⟩
theorem nd2:(["rod","manner"]:List Str).Nodup:=by decide +kernel
theorem nd3:(["digit","worths"]:List Str).Nodup:=by decide +kernel
noncomputable def aeB:{ B:RO // qG CHasAll "has_all_digits" QT ["manner","worths"] 1 B }:=
 ⟨_,fun P w K mg base f Kc A Ko s H E C hr=>
  jd (jx 1 adG.nd (zM ["rod","manner"] [none,some 0] rfl (Jd (jf C.allRods hr (Nat.le_refl _) (ja (jb 0) je) (jc jk))) (zN (jh QT) ["manner","worths"] (by decide +kernel))
   fun cl C' s0 H0 fp pn=>⟨jP 0 nd2,Jf,jf C.rodWorth hr (Nat.le_refl _) (ja (jb 1) (ja (jb 0) je)) (jc (jc jk))⟩))
  (jd (ju (jT (akA rfl) C.t.all alp (ja (zM ["digit","worths"] [none,some 1] rfl (ab3 rfl C.t.range (ja (j0 (jb 0) ji) je)) (zN (jh QT) ["manner","worths"] (by decide +kernel))
   fun cl C' s0 H0 fp pn=>⟨jP 0 nd3,Jf,agM (ao6 hr.units) (jb 0) (jb 1)⟩) je))) jg)⟩
noncomputable abbrev acC:Stmt:=top 13
noncomputable abbrev JO:Stmt:=top 17
noncomputable abbrev abp:Stmt:=top 19
noncomputable def GC(K:Fg)(mg:SV)(x:Str)(d:PyData):Prop:=∃v u,mg x=some u/\jK v u/\∀H,Rep K H d v
theorem abb{X:Cx}{pos:Pos}{x:Str}{d:PyData}(c:GC X.K X.mg x d)(hg:Gl X x:=by rfl)(hd:(x==("__debug__":Str))=false:=by decide):PD X (.Name x pos) (cst d):=by
 with_unfolding_all
  obtain⟨v,u,h1,h2,h3⟩:=c;exact amT hg h1 h2 h3 hd
noncomputable def Z3:LP->OP:=jw ["manner","worths"] 1 aeB.1
structure CIsManner(P:Program)(w:World)(K:Fg)(mg:SV)(base:Heap):Prop where
 t:Bare mg
 least:GC K mg "LEAST_PARTS" (.tuple [.int 0,.int 1,.int 0,.int 2])
 most:GC K mg "MOST_PARTS" (.tuple [.int 3,.int 16,.int 12,.int 16])
 isWhole:jj P w K mg base "is_whole" ["thing","least","most"] 1 3 j7
 hasAll:jj P w K mg base "has_all_digits" ["manner"] 2 1 Z3
theorem Jt:FnScope ["thing","part","least","most"] ["thing"] (jh QU):=⟨rfl,rfl,rfl,by decide +kernel,rfl,by decide +kernel,by decide +kernel⟩
noncomputable def aaG:{ B:RO // qG CIsManner "is_manner" QU ["thing","part","least","most"] 2 B }:=
 ⟨_,fun P w K mg base f Kc A Ko s H E C hr=>
  jd (qj (zw (ab0 (qK (qJ (ab5 (.inr (.inr rfl)) C.t.isi C.t.tuple Z0 (jb 0)))) (ZF (jQ (Jg hr.units) (jT zH C.t.len zI (ja (jb 0) je)) (jT zH C.t.len zI (ja (abb C.most) je)))))) (jd (ju zK) jg) jg)
  (jd (Jp PassesOwn.never rfl (akE C.t.zip (ja (jb 0) (ja (abb C.least) (ja (abb C.most) je)))) (aed (n:=3) rfl (zo (jP 1 Jt.nd) (zo (jP 2 Jt.nd) (zo (jP 3 Jt.nd) ab2))))
   (jd (qj (qK (qJ (jf C.isWhole hr (by decide) (ja (jb 1) (ja (jb 2) (ja (jb 3) je))) (jc (jc (jc jk)))))) (jd (ju zK) jg) jg) jg))
  (jd (ju (jf C.hasAll hr (Nat.le_refl _) (ja (jb 0) je) (jc jk))) jg))⟩
noncomputable def qW:LP->OP:=jw ["thing","part","least","most"] 1 aaG.1
structure CCheck(P:Program)(w:World)(K:Fg)(mg:SV)(base:Heap):Prop where
 isManner:jj P w K mg base "is_manner" ["thing"] 3 1 qW
theorem afY:FnScope ["thing"] ["thing"] (jh acC):=⟨rfl,rfl,rfl,by decide +kernel,rfl,by decide +kernel,by decide +kernel⟩
noncomputable def ahi:{ B:RO // qG CCheck "check_manner" acC ["thing"] 3 B }:=
 ⟨_,fun P w K mg base f Kc A Ko s H E C hr=>
  jd (qj (qK (qJ (jf C.isManner hr (Nat.le_refl _) (ja (jb 0) je) (jc jk)))) Jc jg) jg⟩
noncomputable def Zy:LP->OP:=jw ["thing"] 1 ahi.1
structure CRodsWith(P:Program)(w:World)(K:Fg)(mg:SV)(base:Heap):Prop where
 allRods:jj P w K mg base "all_rods" ["manner"] 1 1 zi
 rodWorth:jj P w K mg base "rod_worth" ["manner","rod"] 1 2 qC
theorem afZ:FnScope ["manner","worth"] ["manner","worth"] (jh JO):=⟨rfl,rfl,rfl,by decide +kernel,rfl,by decide +kernel,by decide +kernel⟩
theorem nd4:(["rod","manner","worth"]:List Str).Nodup:=by decide +kernel
noncomputable def aaH:{ B:RO // qG CRodsWith "rods_with" JO ["manner","worth"] 1 B }:=
 ⟨_,fun P w K mg base f Kc A Ko s H E C hr=>
  jd (ju (zM ["rod","manner","worth"] [none,some 0,some 1] rfl (Jd (jf C.allRods hr (Nat.le_refl _) (ja (jb 0) je) (jc jk))) (zN (jh JO) ["manner","worth"] (by decide +kernel))
   fun cl C' s0 H0 fp pn=>⟨jP 0 nd4,afv (jQ (aav hr.units) (jf C.rodWorth hr (Nat.le_refl _) (ja (jb 1) (ja (jb 0) je)) (jc (jc jk))) (jb 2)),jb 0⟩)) jg⟩
noncomputable def QV:LP->OP:=jw ["manner","worth"] 2 aaH.1
structure CFewest(P:Program)(w:World)(K:Fg)(mg:SV)(base:Heap):Prop where
 t:Bare mg
 rodsWith:jj P w K mg base "rods_with" ["manner","worth"] 2 2 QV
 beads:jj P w K mg base "beads" ["rod"] 1 1 qN
theorem aju:FnScope ["manner","worth"] ["manner","worth"] (jh abp):=⟨rfl,rfl,rfl,by decide +kernel,rfl,by decide +kernel,by decide +kernel⟩
noncomputable def aeC:{ B:RO // qG CFewest "fewest_beads" abp ["manner","worth"] 2 B }:=
 ⟨_,fun P w K mg base f Kc A Ko s H E C hr=>
  jd (ju (akL rfl C.beads hr (Nat.le_refl _) C.t.min (jf C.rodsWith hr (by decide) (ja (jb 0) (ja (jb 1) je)) (jc (jc jk))))) jg⟩
noncomputable def QW:LP->OP:=jw ["manner","worth"] 2 aeC.1
noncomputable abbrev Jj:Stmt:=top 25
noncomputable abbrev zj:Stmt:=top 26
noncomputable abbrev zB:Stmt:=top 27
noncomputable abbrev zU:Stmt:=top 29
noncomputable abbrev QX:Stmt:=top 31
noncomputable abbrev zV:Stmt:=top 32
noncomputable abbrev acD(C:CC)(qual:Str)(st:Stmt)(N:List Str)(k:Nat)(sts:List Stmt)(B:RO):Prop:=
 ∀(P:Program) (w:World) (K:Fg) (mg:SV) (base:Heap) (f:Addr) (Kc:Value) (A:Around) (Ko:List Env) (s:Shared) (H:Hp) (E:XK),C P w K mg base->Room k (A.deeper (envOfC qual (jh st) s.heap.objs.size f Kc))->
  ZE (Jy CX0 P w K mg base N qual (jh st) f Kc A Ko s H E).nox sts B
noncomputable abbrev abc(own:Nat)(C:CC)(qual:Str)(st:Stmt)(N:List Str)(k:Nat)(sts:List Stmt)(B:RO):Prop:=
 ∀(P:Program) (w:World) (K:Fg) (mg:SV) (base:Heap) (f:Addr) (Kc:Value) (A:Around) (Ko:List Env) (s:Shared) (H:Hp) (E:XK),C P w K mg base->Room k (A.deeper (envOfC qual (jh st) s.heap.objs.size f Kc))->
  acd (Jy CX0 P w K mg base N qual (jh st) f Kc A Ko s H E).nox (some own) sts B
noncomputable def qo:Stmt->List Stmt
 |.For _ _ b _ _=>b
 |_=>[]
noncomputable def Qk(l:List Stmt)(i:Nat):Stmt:=l.getD i (.Pass ⟨0,0,0,0⟩)
structure CNum(P:Program)(w:World)(K:Fg)(mg:SV)(base:Heap):Prop where
 rodWorth:jj P w K mg base "rod_worth" ["manner","rod"] 1 2 qC
noncomputable abbrev ann:List Str:=["manner","setting","number","rod"]
theorem aeD:FnScope ann ["manner","setting"] (jh zU):=⟨rfl,rfl,rfl,by decide +kernel,rfl,by decide +kernel,by decide +kernel⟩
noncomputable def aeE:{ B:RO // acD CNum "number_on" zU ann 1 (qo (Qk (jM zU) 1)) B }:=
 ⟨_,fun P w K mg base f Kc A Ko s H E C hr=>
  jd (jx 2 aeD.nd (jo jv (jo qv (jb 2) (j0 (jb 0) ji)) (jf C.rodWorth hr (Nat.le_refl _) (ja (jb 0) (ja (jb 3) je)) (jc (jc jk))))) jg⟩
noncomputable def ano:{ B:RO // qG CNum "number_on" zU ann 1 B }:=
 ⟨_,fun P w K mg base f Kc A Ko s H E C hr=>
  jd (jx 2 aeD.nd ji) (jd (Jp PassesOwn.never rfl (abk (jb 1)) (jP 3 aeD.nd) (aeE.2 P w K mg base f Kc A Ko s H E C hr)) (jd (ju (jb 2)) jg))⟩
noncomputable def ajv:LP->OP:=jw ann 2 ano.1
theorem anp:FnScope ["manner","rods"] ["manner","rods"] (jh QX):=⟨rfl,rfl,rfl,by decide +kernel,rfl,by decide +kernel,by decide +kernel⟩
noncomputable def aij:{ B:RO // qG (fun _ _ _ _ _=>True) "full_rods" QX ["manner","rods"] 0 B }:=
 ⟨_,fun P w K mg base f Kc A Ko s H E C hr=>
  jd (ju (jo afG (qE (ja (qE (ja (j0 (jb 0) ji) (ja (j0 (jb 0) ji) je))) je)) (jb 1))) jg⟩
noncomputable def aik:LP->OP:=jw ["manner","rods"] 2 aij.1
structure CLast(P:Program)(w:World)(K:Fg)(mg:SV)(base:Heap):Prop where
 allRods:jj P w K mg base "all_rods" ["manner"] 1 1 zi
 rodWorth:jj P w K mg base "rod_worth" ["manner","rod"] 1 2 qC
 num:jj P w K mg base "number_on" ["manner","setting"] 2 2 ajv
 full:jj P w K mg base "full_rods" ["manner","rods"] 1 2 aik
noncomputable abbrev ail:List Str:=["manner","ahead","number","base","most","told","rod","left"]
theorem QY:FnScope ail ["manner","ahead","number"] (jh zV):=⟨rfl,rfl,rfl,by decide +kernel,rfl,by decide +kernel,by decide +kernel⟩
noncomputable def QZ:{ B:RO // abc 5 CLast "last_rods" zV ail 2 (qo (Qk (jM zV) 3)) B }:=
 ⟨_,fun P w K mg base f Kc A Ko s H E C hr=>
  jA (abo 7 QY.nd (jo Qa (jb 2) (jf C.rodWorth hr (by decide) (ja (jb 0) (ja (jb 6) je)) (jc (jc jk)))))
  (jA (ape (zw (aec (jQ (aav hr.units) (jo Jq (jb 7) (jb 3)) ji) (abZ (adn aaw aaw ji (jb 7) (jo qv (jb 3) (jb 4))))))
   (jA (ah6 (aji 5 (qE (ja (jb 6) (ja (jo JJ (jb 7) (jb 3)) je))))) ql) ql) ql)⟩
noncomputable def aim:{ B:RO // qG CLast "last_rods" zV ail 2 B }:=
 ⟨_,fun P w K mg base f Kc A Ko s H E C hr=>
  Qy (jA (adv (jx 3 QY.nd (j0 (jb 0) ji)))
  (jA (adv (jx 4 QY.nd (jf C.num hr (Nat.le_refl _) (ja (jb 0) (ja (jf C.full hr (by decide) (ja (jb 0) (ja (jb 1) je)) (jc (jc jk))) je)) (jc (jc jk)))))
  (Qz 5 QY.nd (akT je)
  (jA (Qe PassesOwn.never rfl (Jd (jf C.allRods hr (by decide) (ja (jb 0) je) (jc jk))) (ZO 6 QY.nd) (QZ.2 P w K mg base f Kc A Ko s H E C hr))
  (jA (ZN (jb 5)) ql)))))⟩
noncomputable def adH:LP->OP:=jw ail 3 aim.1
structure CChkRods(P:Program)(w:World)(K:Fg)(mg:SV)(base:Heap):Prop where
 isWhole:jj P w K mg base "is_whole" ["thing","least","most"] 1 3 j7
 most:GC K mg "MOST_RODS" (.int 4)
theorem acE:FnScope ["rods"] ["rods"] (jh Jj):=⟨rfl,rfl,rfl,by decide +kernel,rfl,by decide +kernel,by decide +kernel⟩
noncomputable def Z4:{ B:RO // qG CChkRods "check_rods" Jj ["rods"] 1 B }:=
 ⟨_,fun P w K mg base f Kc A Ko s H E C hr=>
  jd (qj (qK (qJ (jf C.isWhole hr (Nat.le_refl _) (ja (jb 0) (ja ji (ja (abb C.most) je))) (jc (jc (jc jk)))))) Jc jg) jg⟩
noncomputable def qH:LP->OP:=jw ["rods"] 1 Z4.1
structure CChkNum(P:Program)(w:World)(K:Fg)(mg:SV)(base:Heap):Prop where
 isWhole:jj P w K mg base "is_whole" ["thing","least","most"] 1 3 j7
 most:GC K mg "MOST_NUMBER" (.int 99999)
theorem adI:FnScope ["number"] ["number"] (jh zj):=⟨rfl,rfl,rfl,by decide +kernel,rfl,by decide +kernel,by decide +kernel⟩
noncomputable def abq:{ B:RO // qG CChkNum "check_number" zj ["number"] 1 B }:=
 ⟨_,fun P w K mg base f Kc A Ko s H E C hr=>
  jd (qj (qK (qJ (jf C.isWhole hr (Nat.le_refl _) (ja (jb 0) (ja ji (ja (abb C.most) je))) (jc (jc (jc jk)))))) Jc jg) jg⟩
noncomputable def Ju:LP->OP:=jw ["number"] 1 abq.1
structure CAsked(P:Program)(w:World)(K:Fg)(mg:SV)(base:Heap):Prop where
 check:jj P w K mg base "check_manner" ["thing"] 4 1 Zy
 rods:jj P w K mg base "check_rods" ["rods"] 2 1 qH
 num:jj P w K mg base "check_number" ["number"] 2 1 Ju
theorem af0:FnScope ["manner","rods","number"] ["manner","rods","number"] (jh zB):=⟨rfl,rfl,rfl,by decide +kernel,rfl,by decide +kernel,by decide +kernel⟩
noncomputable def aeF:{ B:RO // qG CAsked "check_asked" zB ["manner","rods","number"] 4 B }:=
 ⟨_,fun P w K mg base f Kc A Ko s H E C hr=>
  jd (qk (jf C.check hr (Nat.le_refl _) (ja (jb 0) je) (jc jk)))
  (jd (qk (jf C.rods hr (by decide) (ja (jb 1) je) (jc jk)))
  (jd (qk (jf C.num hr (by decide) (ja (jb 2) je) (jc jk))) jg))⟩
noncomputable def zJ:LP->OP:=jw ["manner","rods","number"] 3 aeF.1
noncomputable abbrev aeG:Stmt:=top 14
noncomputable abbrev Jk:Stmt:=top 23
noncomputable abbrev zt:Stmt:=top 24
noncomputable abbrev aaI:Stmt:=top 37
noncomputable abbrev QG:Stmt:=top 38
noncomputable abbrev Z5:Stmt:=top 39
noncomputable abbrev Q0:Stmt:=top 40
noncomputable abbrev Q1:Stmt:=top 41
noncomputable abbrev JP:Stmt:=top 42
structure CLongF(P:Program)(w:World)(K:Fg)(mg:SV)(base:Heap):Prop where
 t:Bare mg
 last:jj P w K mg base "last_rods" ["manner","ahead","number"] 3 3 adH
 beads:jj P w K mg base "beads" ["rod"] 1 1 qN
noncomputable abbrev acF:List Str:=["manner","ahead","fewest","longer","number","rod","left","several"]
theorem JQ:FnScope acF ["manner","ahead","fewest"] (jh QG):=⟨rfl,rfl,rfl,by decide +kernel,rfl,by decide +kernel,by decide +kernel⟩
noncomputable def Z6:{ B:RO // abc 3 CLongF "longer_fewest" QG acF 3 (qo (Qk (qo (Qk (jM QG) 1)) 0)) B }:=
 ⟨_,fun P w K mg base f Kc A Ko s H E C hr=>
  jA (abo 7 JQ.nd (jo jv (ag1 (aaZ hr) (jb 2) (jb 4)) (jf C.beads hr (by decide) (ja (jb 5) je) (jc jk))))
  (jA (aen 3 (aaZ hr) (jb 6) (jT (ahY rfl) C.t.min ab7 (ja (jb 7) (ja (QB (aaZ hr) (jb 3) (jb 6) (jb 7)) je)))) ql)⟩
noncomputable def zW:{ B:RO // abc 3 CLongF "longer_fewest" QG acF 3 (qo (Qk (jM QG) 1)) B }:=
 ⟨_,fun P w K mg base f Kc A Ko s H E C hr=>
  jA (Qe PassesOwn.never rfl (Jd (jf C.last hr (Nat.le_refl _) (ja (jb 0) (ja (jb 1) (ja (jb 4) je))) (jc (jc (jc jk))))) (ael (n:=2) rfl (zT 5 JQ.nd (zT 6 JQ.nd ace))) (Z6.2 P w K mg base f Kc A Ko s H E C hr)) ql⟩
noncomputable def aeH:{ B:RO // qG CLongF "longer_fewest" QG acF 3 B }:=
 ⟨_,fun P w K mg base f Kc A Ko s H E C hr=>
  Qy (Qz 3 JQ.nd acf
  (jA (Qe PassesOwn.never rfl (aci (jb 2)) (ZO 4 JQ.nd) (zW.2 P w K mg base f Kc A Ko s H E C hr))
  (jA (ZN (jb 3)) ql)))⟩
noncomputable def aeI:LP->OP:=jw acF 3 aeH.1
structure CLeast(P:Program)(w:World)(K:Fg)(mg:SV)(base:Heap):Prop where
 t:Bare mg
 asked:jj P w K mg base "check_asked" ["manner","rods","number"] 5 3 zJ
 longer:jj P w K mg base "longer_fewest" ["manner","ahead","fewest"] 4 3 aeI
noncomputable abbrev aeJ:List Str:=["manner","rods","number","fewest","ahead"]
theorem Z7:FnScope aeJ ["manner","rods","number"] (jh aaI):=⟨rfl,rfl,rfl,by decide +kernel,rfl,by decide +kernel,by decide +kernel⟩
noncomputable def Z8:{ B:RO // acD CLeast "least_beads" aaI aeJ 5 (qo (Qk (jM aaI) 2)) B }:=
 ⟨_,fun P w K mg base f Kc A Ko s H E C hr=>
  jd (jx 3 Z7.nd (jf C.longer hr (by decide) (ja (jb 0) (ja (jb 4) (ja (jb 3) je))) (jc (jc (jc jk))))) jg⟩
noncomputable def aeK:{ B:RO // qG CLeast "least_beads" aaI aeJ 5 B }:=
 ⟨_,fun P w K mg base f Kc A Ko s H E C hr=>
  jd (qk (jf C.asked hr (Nat.le_refl _) (ja (jb 0) (ja (jb 1) (ja (jb 2) je))) (jc (jc (jc jk)))))
  (jd (jx 3 Z7.nd (acj (jb 2) ji))
  (jd (Jp PassesOwn.never rfl (Qf rfl C.t.range (ja (jo Qa (jb 1) ji) (ja (JD ji) (ja (JD ji) je)))) (jP 4 Z7.nd) (Z8.2 P w K mg base f Kc A Ko s H E C hr))
  (jd (ju (akW (aaZ hr) (jb 3) ji)) jg)))⟩
noncomputable def aaJ:LP->OP:=jw aeJ 3 aeK.1
noncomputable abbrev anq:List Str:=["base","rods","number","digits","left"]
noncomputable def ajw:Stmt->List Stmt
 |.While _ b _ _=>b
 |_=>[]
theorem aeL:FnScope anq ["base","rods","number"] (jh Q1):=⟨rfl,rfl,rfl,by decide +kernel,rfl,by decide +kernel,by decide +kernel⟩
noncomputable def Zz:{ B:RO // abc 3 (fun _ _ _ mg _=>Bare mg) "digits_by_rods" Q1 anq 0 (ajw (Qk (jM Q1) 2)) B }:=
 ⟨_,fun P w K mg base f Kc A Ko s H E C hr=>
  jA (ah6 (ag6 3 ji (jo Jq (jb 4) (jb 0))))
  (jA (abo 4 aeL.nd (jo JJ (jb 4) (jb 0))) ql)⟩
noncomputable def anr:{ B:RO // qG (fun _ _ _ mg _=>Bare mg) "digits_by_rods" Q1 anq 0 B }:=
 ⟨_,fun P w K mg base f Kc A Ko s H E C hr=>
  Qy (Qz 3 aeL.nd (akT je)
  (jA (abo 4 aeL.nd (jb 2))
  (jA (ajg 10 PassesOwn.never (jQ agP (jT zH C.len zI (ja (jb 3) je)) (jo Qa (jb 1) ji)) (Zz.2 P w K mg base f Kc A Ko s H E C hr))
  (jA (ZN (jo jv (aar (ja (jb 4) je)) (jb 3))) ql))))⟩
noncomputable def alr:LP->OP:=jw anq 3 anr.1
structure CPlainR(P:Program)(w:World)(K:Fg)(mg:SV)(base:Heap):Prop where
 t:Bare mg
 dig:jj P w K mg base "digits_by_rods" ["base","rods","number"] 1 3 alr
 fewest:jj P w K mg base "fewest_beads" ["manner","worth"] 3 2 QW
noncomputable abbrev Q4:List Str:=["manner","rods","number","digits"]
theorem Q5:FnScope Q4 ["manner","rods","number"] (jh Q0):=⟨rfl,rfl,rfl,by decide +kernel,rfl,by decide +kernel,by decide +kernel⟩
theorem ndd:(["digit","manner"]:List Str).Nodup:=by decide +kernel
noncomputable def Q6:{ B:RO // qG CPlainR "plain_rods" Q0 Q4 3 B }:=
 ⟨_,fun P w K mg base f Kc A Ko s H E C hr=>
  jd (jx 3 Q5.nd (jf C.dig hr (by decide) (ja (j0 (jb 0) ji) (ja (jb 1) (ja (jb 2) je))) (jc (jc (jc jk)))))
  (jd (qj (jQ akx (j0 (jb 3) ji) (j0 (jb 0) ji)) Jc jg)
  (jd (ju (ai3 ak3 C.t.tuple Z0 (ja (zM ["digit","manner"] [none,some 0] rfl (Jd (jb 3)) (zN (jh Q0) Q4 (by decide +kernel))
   fun cl C' s0 H0 fp pn=>⟨jP 0 ndd,Jf,jf C.fewest hr (Nat.le_refl _) (ja (jb 1) (ja (jb 0) je)) (jc (jc jk))⟩) je))) jg))⟩
noncomputable def abr:LP->OP:=jw Q4 3 Q6.1
structure CPlainS(P:Program)(w:World)(K:Fg)(mg:SV)(base:Heap):Prop where
 asked:jj P w K mg base "check_asked" ["manner","rods","number"] 5 3 zJ
 rods:jj P w K mg base "plain_rods" ["manner","rods","number"] 4 3 abr
theorem adJ:FnScope ["manner","rods","number"] ["manner","rods","number"] (jh Z5):=⟨rfl,rfl,rfl,by decide +kernel,rfl,by decide +kernel,by decide +kernel⟩
noncomputable def Z9:{ B:RO // qG CPlainS "plain_setting" Z5 ["manner","rods","number"] 5 B }:=
 ⟨_,fun P w K mg base f Kc A Ko s H E C hr=>
  jd (qk (jf C.asked hr (Nat.le_refl _) (ja (jb 0) (ja (jb 1) (ja (jb 2) je))) (jc (jc (jc jk)))))
  (jd (ju (jf C.rods hr (by decide) (ja (jb 0) (ja (jb 1) (ja (jb 2) je))) (jc (jc (jc jk))))) jg)⟩
noncomputable def Ql:LP->OP:=jw ["manner","rods","number"] 3 Z9.1
structure CIsRod(P:Program)(w:World)(K:Fg)(mg:SV)(base:Heap):Prop where
 t:Bare mg
 isWhole:jj P w K mg base "is_whole" ["thing","least","most"] 1 3 j7
theorem als:FnScope ["manner","thing"] ["manner","thing"] (jh aeG):=⟨rfl,rfl,rfl,by decide +kernel,rfl,by decide +kernel,by decide +kernel⟩
noncomputable def ahj:{ B:RO // qG CIsRod "is_rod" aeG ["manner","thing"] 1 B }:=
 ⟨_,fun P w K mg base f Kc A Ko s H E C hr=>
  jd (qj (zw (ab0 (qK (qJ (ab5 (.inr (.inr rfl)) C.t.isi C.t.tuple Z0 (jb 1)))) (ZF (jQ (Jg hr.units) (jT zH C.t.len zI (ja (jb 1) je)) ji)))) (jd (ju zK) jg) jg)
  (jd (ju (akZ (jf C.isWhole hr (Nat.le_refl _) (ja (j0 (jb 1) ji) (ja ji (ja (j0 (jb 0) ji) je))) (jc (jc (jc jk)))) (akY (jf C.isWhole hr (Nat.le_refl _) (ja (j0 (jb 1) ji) (ja ji (ja (j0 (jb 0) ji) je))) (jc (jc (jc jk))))))) jg)⟩
noncomputable def aeM:LP->OP:=jw ["manner","thing"] 2 ahj.1
structure CIsSet(P:Program)(w:World)(K:Fg)(mg:SV)(base:Heap):Prop where
 t:Bare mg
 check:jj P w K mg base "check_manner" ["thing"] 4 1 Zy
 isRod:jj P w K mg base "is_rod" ["manner","thing"] 2 2 aeM
 most:GC K mg "MOST_RODS" (.int 4)
theorem alu:FnScope ["manner","thing"] ["manner","thing"] (jh Jk):=⟨rfl,rfl,rfl,by decide +kernel,rfl,by decide +kernel,by decide +kernel⟩
theorem ndp:(["part","manner"]:List Str).Nodup:=by decide +kernel
noncomputable def aeN:{ B:RO // qG CIsSet "is_setting" Jk ["manner","thing"] 4 B }:=
 ⟨_,fun P w K mg base f Kc A Ko s H E C hr=>
  jd (qk (jf C.check hr (Nat.le_refl _) (ja (jb 0) je) (jc jk)))
  (jd (qj (zw (ab0 (qK (qJ (ab5 (.inr (.inr rfl)) C.t.isi C.t.tuple Z0 (jb 1)))) (ZF (qK (adn aaw aaw ji (jT zH C.t.len zI (ja (jb 1) je)) (abb C.most)))))) (jd (ju zK) jg) jg)
  (jd (ju (jT (akA rfl) C.t.all alp (ja (zM ["part","manner"] [none,some 0] rfl (abk (jb 1)) (zN (jh Jk) ["manner","thing"] (by decide +kernel))
   fun cl C' s0 H0 fp pn=>⟨jP 0 ndp,Jf,jf C.isRod hr (by decide) (ja (jb 1) (ja (jb 0) je)) (jc (jc jk))⟩) je))) jg))⟩
noncomputable def ahk:LP->OP:=jw ["manner","thing"] 2 aeN.1
structure CChkSet(P:Program)(w:World)(K:Fg)(mg:SV)(base:Heap):Prop where
 isSet:jj P w K mg base "is_setting" ["manner","thing"] 5 2 ahk
theorem ajx:FnScope ["manner","thing"] ["manner","thing"] (jh zt):=⟨rfl,rfl,rfl,by decide +kernel,rfl,by decide +kernel,by decide +kernel⟩
noncomputable def aeO:{ B:RO // qG CChkSet "check_setting" zt ["manner","thing"] 5 B }:=
 ⟨_,fun P w K mg base f Kc A Ko s H E C hr=>
  jd (qj (qK (qJ (jf C.isSet hr (Nat.le_refl _) (ja (jb 0) (ja (jb 1) je)) (jc (jc jk))))) Jc jg) jg⟩
noncomputable def aaa:LP->OP:=jw ["manner","thing"] 2 aeO.1
structure CAllBeads(P:Program)(w:World)(K:Fg)(mg:SV)(base:Heap):Prop where
 t:Bare mg
 check:jj P w K mg base "check_setting" ["manner","thing"] 6 2 aaa
 beads:jj P w K mg base "beads" ["rod"] 1 1 qN
theorem af1:FnScope ["manner","setting"] ["manner","setting"] (jh JP):=⟨rfl,rfl,rfl,by decide +kernel,rfl,by decide +kernel,by decide +kernel⟩
theorem ndo:(["rod"]:List Str).Nodup:=by decide +kernel
noncomputable def Q7:{ B:RO // qG CAllBeads "all_beads" JP ["manner","setting"] 6 B }:=
 ⟨_,fun P w K mg base f Kc A Ko s H E C hr=>
  jd (qk (jf C.check hr (Nat.le_refl _) (ja (jb 0) (ja (jb 1) je)) (jc (jc jk))))
  (jd (ju (jT (ao8 rfl) C.t.sum apu (ja (zM ["rod"] [none] rfl (abk (jb 1)) (zN (jh JP) ["manner","setting"] (by decide +kernel))
   fun cl C' s0 H0 fp pn=>⟨jP 0 ndo,Jf,jf C.beads hr (by decide) (ja (jb 0) je) (jc jk)⟩) je))) jg)⟩
noncomputable def qx:LP->OP:=jw ["manner","setting"] 2 Q7.1
noncomputable abbrev JR:Stmt:=top 35
noncomputable abbrev Jv:Stmt:=top 36
noncomputable abbrev aeP:Stmt:=top 28
noncomputable abbrev ain:Stmt:=top 44
noncomputable abbrev aeQ:Stmt:=top 45
noncomputable abbrev abt:Stmt:=top 46
noncomputable abbrev JS:Stmt:=top 47
structure CLonger(P:Program)(w:World)(K:Fg)(mg:SV)(base:Heap):Prop where
 last:jj P w K mg base "last_rods" ["manner","ahead","number"] 3 3 adH
noncomputable abbrev aab:List Str:=["manner","ahead","ways","longer","number","rod","left"]
theorem JT:FnScope aab ["manner","ahead","ways"] (jh Jv):=⟨rfl,rfl,rfl,by decide +kernel,rfl,by decide +kernel,by decide +kernel⟩
noncomputable def abu:{ B:RO // abc 3 CLonger "longer_ways" Jv aab 3 (qo (Qk (qo (Qk (jM Jv) 1)) 0)) B }:=
 ⟨_,fun P w K mg base f Kc A Ko s H E C hr=>
  jA (aen 3 (aaZ hr) (jb 6) (jo jv (QB (aaZ hr) (jb 3) (jb 6) ji) (ag1 (aaZ hr) (jb 2) (jb 4)))) ql⟩
noncomputable def Jl:{ B:RO // abc 3 CLonger "longer_ways" Jv aab 3 (qo (Qk (jM Jv) 1)) B }:=
 ⟨_,fun P w K mg base f Kc A Ko s H E C hr=>
  jA (Qe PassesOwn.never rfl (Jd (jf C.last hr (Nat.le_refl _) (ja (jb 0) (ja (jb 1) (ja (jb 4) je))) (jc (jc (jc jk))))) (ael (n:=2) rfl (zT 5 JT.nd (zT 6 JT.nd ace))) (abu.2 P w K mg base f Kc A Ko s H E C hr)) ql⟩
noncomputable def abv:{ B:RO // qG CLonger "longer_ways" Jv aab 3 B }:=
 ⟨_,fun P w K mg base f Kc A Ko s H E C hr=>
  Qy (Qz 3 JT.nd acf
  (jA (Qe PassesOwn.never rfl (aci (jb 2)) (ZO 4 JT.nd) (Jl.2 P w K mg base f Kc A Ko s H E C hr))
  (jA (ZN (jb 3)) ql)))⟩
noncomputable def abw:LP->OP:=jw aab 3 abv.1
structure CHow(P:Program)(w:World)(K:Fg)(mg:SV)(base:Heap):Prop where
 t:Bare mg
 asked:jj P w K mg base "check_asked" ["manner","rods","number"] 5 3 zJ
 longer:jj P w K mg base "longer_ways" ["manner","ahead","ways"] 4 3 abw
noncomputable abbrev ans:List Str:=["manner","rods","number","ways","ahead"]
theorem aeR:FnScope ans ["manner","rods","number"] (jh JR):=⟨rfl,rfl,rfl,by decide +kernel,rfl,by decide +kernel,by decide +kernel⟩
noncomputable def acG:{ B:RO // acD CHow "how_many" JR ans 5 (qo (Qk (jM JR) 2)) B }:=
 ⟨_,fun P w K mg base f Kc A Ko s H E C hr=>
  jd (jx 3 aeR.nd (jf C.longer hr (by decide) (ja (jb 0) (ja (jb 4) (ja (jb 3) je))) (jc (jc (jc jk))))) jg⟩
noncomputable def ant:{ B:RO // qG CHow "how_many" JR ans 5 B }:=
 ⟨_,fun P w K mg base f Kc A Ko s H E C hr=>
  jd (qk (jf C.asked hr (Nat.le_refl _) (ja (jb 0) (ja (jb 1) (ja (jb 2) je))) (jc (jc (jc jk)))))
  (jd (jx 3 aeR.nd (acj (jb 2) ji))
  (jd (Jp PassesOwn.never rfl (Qf rfl C.t.range (ja (jo Qa (jb 1) ji) (ja (JD ji) (ja (JD ji) je)))) (jP 4 aeR.nd) (acG.2 P w K mg base f Kc A Ko s H E C hr))
  (jd (ju (QB (aaZ hr) (jb 3) ji ji)) jg)))⟩
noncomputable def ajy:LP->OP:=jw ans 3 ant.1
noncomputable abbrev nMS:List Str:=["manner","setting"]
structure CValue(P:Program)(w:World)(K:Fg)(mg:SV)(base:Heap):Prop where
 check:jj P w K mg base "check_setting" ["manner","thing"] 6 2 aaa
 num:jj P w K mg base "number_on" ["manner","setting"] 2 2 ajv
theorem alv:FnScope nMS nMS (jh aeP):=⟨rfl,rfl,rfl,by decide +kernel,rfl,by decide +kernel,by decide +kernel⟩
noncomputable def ahl:{ B:RO // qG CValue "value" aeP nMS 6 B }:=
 ⟨_,fun P w K mg base f Kc A Ko s H E C hr=>
  jd (qk (jf C.check hr (by decide) (ja (jb 0) (ja (jb 1) je)) (jc (jc jk)))) (jd (ju (jf C.num hr (by decide) (ja (jb 0) (ja (jb 1) je)) (jc (jc jk)))) jg)⟩
noncomputable def qU:LP->OP:=jw nMS 2 ahl.1
theorem anu:FnScope ["_law_script","_law_k"] ["_law_script","_law_k"] (jh ain):=⟨rfl,rfl,rfl,by decide +kernel,rfl,by decide +kernel,by decide +kernel⟩
noncomputable def aio:{ B:RO // qG (fun _ _ _ mg _=>Bare mg) "_law_cell" ain ["_law_script","_law_k"] 0 B }:=
 ⟨_,fun P w K mg base f Kc A Ko s H E C hr=>
  jd (qj (jQ (aav hr.units) (jb 0) (aar je)) (jd (ju (jo qv ji (jb 1))) jg) jg)
  (jd (ju (jo jv (j0 (jb 0) (jo Jq (jb 1) (jT zH C.len zI (ja (jb 0) je)))) (jo qv ji (jo JJ (jb 1) (jT zH C.len zI (ja (jb 0) je)))))) jg)⟩
noncomputable def af2:LP->OP:=jw ["_law_script","_law_k"] 2 aio.1
structure CDrawn(P:Program)(w:World)(K:Fg)(mg:SV)(base:Heap):Prop where
 cell:jj P w K mg base "_law_cell" ["_law_script","_law_k"] 1 2 af2
theorem acH:FnScope ["_law_script","_law_k","_law_many","_law_cell_here"] ["_law_script","_law_k","_law_many"] (jh aeQ):=⟨rfl,rfl,rfl,by decide +kernel,rfl,by decide +kernel,by decide +kernel⟩
noncomputable def ahm:{ B:RO // qG CDrawn "_law_drawn" aeQ ["_law_script","_law_k","_law_many","_law_cell_here"] 1 B }:=
 ⟨_,fun P w K mg base f Kc A Ko s H E C hr=>
  jd (jx 3 acH.nd (jo Jq (jo jv (jo qv (jo Jq (jf C.cell hr (Nat.le_refl _) (ja (jb 0) (ja (jb 1) je)) (jc (jc jk))) ji) ji) (jo qv ji (jo jv (jb 1) ji))) ji))
  (jd (jx 3 acH.nd (jo Jq (jo jv (jo qv (jb 3) (jb 3)) (jo JJ (jb 3) ji)) ji))
  (jd (ju (jo Jq (jo JJ (jo Jq (jo jv (jo qv (jb 3) (jb 3)) (jo JJ (jb 3) ji)) ji) ji) (jb 2))) jg))⟩
noncomputable def acI:LP->OP:=jw ["_law_script","_law_k","_law_many","_law_cell_here"] 3 ahm.1
noncomputable abbrev aeS:List Str:=["_law_script","_law_at","_law_known","_law_way","_law_each","_law_upper","_law_lower"]
structure CManner(P:Program)(w:World)(K:Fg)(mg:SV)(base:Heap):Prop where
 t:Bare mg
 drawn:jj P w K mg base "_law_drawn" ["_law_script","_law_k","_law_many"] 2 3 acI
theorem zp:FnScope aeS ["_law_script","_law_at"] (jh abt):=⟨rfl,rfl,rfl,by decide +kernel,rfl,by decide +kernel,by decide +kernel⟩
noncomputable def jl(a b c d:Int):PyData:= .tuple [.int a,.int b,.int c,.int d]
noncomputable def aaK:LP:=[jl 1 5 4 10,jl 2 5 5 10,jl 0 1 9 10,jl 1 5 5 10,jl 0 1 10 10,jl 1 2 1 4,jl 0 1 1 2]
noncomputable def aaL:LP:=[jl 1 4 3 8,jl 1 3 2 5,jl 3 4 3 16,jl 2 3 2 7,jl 1 1 1 3]
noncomputable def abx:{ B:RO // qG CManner "_law_manner" abt aeS 2 B }:=
 ⟨_,fun P w K mg base f Kc A Ko s H E C hr=>
  jd (jx 2 zp.nd (acb 3 (.list aaK) (by kernel_rfl)))
  (jd (jx 2 zp.nd (jo jv (jb 2) (acb 3 (.list aaL) (by kernel_rfl))))
  (jd (jx 3 zp.nd (jf C.drawn hr (Nat.le_refl _) (ja (jb 0) (ja (jb 1) (ja (jo qv ji (jT zH C.t.len zI (ja (jb 2) je))) je))) (jc (jc (jc jk)))))
  (jd (qj (jQ agP (jb 3) (jT zH C.t.len zI (ja (jb 2) je))) (jd (ju (j0 (jb 2) (jb 3))) jg) jg)
  (jd (jx 4 zp.nd (jo jv ji (jf C.drawn hr (Nat.le_refl _) (ja (jb 0) (ja (jo jv (jb 1) ji) (ja ji je))) (jc (jc (jc jk))))))
  (jd (jx 5 zp.nd (jf C.drawn hr (Nat.le_refl _) (ja (jb 0) (ja (jo jv (jb 1) ji) (ja ji je))) (jc (jc (jc jk)))))
  (jd (jx 6 zp.nd (jo jv (jT (am1 rfl) C.t.max akK (ja (jo Qa (jb 4) ji) (ja ji je))) (jf C.drawn hr (Nat.le_refl _) (ja (jb 0) (ja (jo jv (jb 1) ji) (ja ji je))) (jc (jc (jc jk))))))
  (jd (ju (qE (ja (jb 5) (ja (jb 4) (ja (jb 6) (ja (jo jv ji (jf C.drawn hr (Nat.le_refl _) (ja (jb 0) (ja (jo jv (jb 1) ji) (ja (jT (ahY rfl) C.t.min ab7 (ja ji (ja (jo jv (jo qv (jb 5) (jb 4)) (jb 6)) je))) je))) (jc (jc (jc jk))))) je)))))) jg)))))))⟩
noncomputable def Q8:LP->OP:=jw aeS 2 abx.1
structure CSetting(P:Program)(w:World)(K:Fg)(mg:SV)(base:Heap):Prop where
 t:Bare mg
 drawn:jj P w K mg base "_law_drawn" ["_law_script","_law_k","_law_many"] 2 3 acI
noncomputable abbrev anv:List Str:=["_law_script","_law_at","_law_manner_here","_law_most","_law_rods","_law_found","_law_k","_law_rod"]
theorem aaM:FnScope anv ["_law_script","_law_at","_law_manner_here","_law_most"] (jh JS):=⟨rfl,rfl,rfl,by decide +kernel,rfl,by decide +kernel,by decide +kernel⟩
noncomputable def aeT:{ B:RO // acD CSetting "_law_setting" JS anv 2 (qo (Qk (jM JS) 2)) B }:=
 ⟨_,fun P w K mg base f Kc A Ko s H E C hr=>
  (jd (jx 7 aaM.nd (qE (ja (jf C.drawn hr (by decide) (ja (jb 0) (ja (jo jv (jo jv (jb 1) ji) (jo qv ji (jb 6))) (ja (jo jv (j0 (jb 2) ji) ji) je))) (jc (jc (jc jk)))) (ja (jf C.drawn hr (by decide) (ja (jb 0) (ja (jo jv (jo jv (jb 1) ji) (jo qv ji (jb 6))) (ja (jo jv (j0 (jb 2) ji) ji) je))) (jc (jc (jc jk)))) je))))
  (jd (jx 5 aaM.nd (jo jv (jb 5) (qE (ja (jb 7) je))))
  jg))⟩
noncomputable def anw:{ B:RO // qG CSetting "_law_setting" JS anv 2 B }:=
 ⟨_,fun P w K mg base f Kc A Ko s H E C hr=>
  (jd (jx 4 aaM.nd (jo jv ji (jf C.drawn hr (by decide) (ja (jb 0) (ja (jb 1) (ja (jb 3) je))) (jc (jc (jc jk))))))
  (jd (jx 5 aaM.nd (qE je))
  (jd (Jp PassesOwn.never rfl (ab3 rfl C.t.range (ja (jb 4) je)) (jP 6 aaM.nd) (aeT.2 P w K mg base f Kc A Ko s H E C hr))
  (jd (ju (jb 5))
  jg))))⟩
noncomputable def anx:LP->OP:=jw anv 4 anw.1
noncomputable abbrev adK(C:CC)(qual:Str)(st:Stmt)(N:List Str)(k:Nat)(Fx:Rho->Option Str):Prop:=
 ∀(P:Program) (w:World) (K:Fg) (mg:SV) (base:Heap) (f:Addr) (Kc:Value) (A:Around) (Ko:List Env) (s:Shared) (H:Hp) (E:XK),C P w K mg base->Room k (A.deeper (envOfC qual (jh st) s.heap.objs.size f Kc))->
  abi (Jy (CXt P w) P w K mg base N qual (jh st) f Kc A Ko s H E) (jM st) Fx
noncomputable abbrev alw:List Str:=["NoManner","NoSetting","NoNumber","TooGreat"]
noncomputable abbrev Q9:Stmt:=top 30
structure CGreatest(P:Program)(w:World)(K:Fg)(mg:SV)(base:Heap):Prop where
 c_check:jj P w K mg base "check_manner" ["thing"] 4 1 Zy
 c_chkRods:jj P w K mg base "check_rods" ["rods"] 2 1 qH
 c_num:jj P w K mg base "number_on" ["manner","setting"] 2 2 ajv
 c_full:jj P w K mg base "full_rods" ["manner","rods"] 1 2 aik
noncomputable abbrev aaN:List Str:=["manner","rods"]
theorem af3:FnScope aaN ["manner","rods"] (jh Q9):=⟨rfl,rfl,rfl,by decide +kernel,rfl,by decide +kernel,by decide +kernel⟩
noncomputable def Za:{ B:RO // qG CGreatest "greatest" Q9 aaN 4 B }:=
 ⟨_,fun P w K mg base f Kc A Ko s H E C hr=>
  (jd (qk (jf C.c_check hr (by decide) (ja (jb 0) je) (jc jk)))
  (jd (qk (jf C.c_chkRods hr (by decide) (ja (jb 1) je) (jc jk)))
  (jd (ju (jf C.c_num hr (by decide) (ja (jb 0) (ja (jf C.c_full hr (by decide) (ja (jb 0) (ja (jb 1) je)) (jc (jc jk))) je)) (jc (jc jk))))
  jg)))⟩
noncomputable def zX:LP->OP:=jw aaN 2 Za.1
noncomputable abbrev qr:Stmt:=top 34
structure CLongerEnds(P:Program)(w:World)(K:Fg)(mg:SV)(base:Heap):Prop where
 c_last:jj P w K mg base "last_rods" ["manner","ahead","number"] 3 3 adH
noncomputable abbrev qX:List Str:=["manner","ahead","ends","longer","number","rod","left"]
theorem qR:FnScope qX ["manner","ahead","ends"] (jh qr):=⟨rfl,rfl,rfl,by decide +kernel,rfl,by decide +kernel,by decide +kernel⟩
theorem alx:(["end","rod"]:List Str).Nodup:=by decide +kernel
noncomputable def zO:{ B:RO // abc 3 CLongerEnds "longer_ends" qr qX 3 (qo (Qk (qo (Qk (jM qr) 1)) 0)) B }:=
 ⟨_,fun P w K mg base f Kc A Ko s H E C hr=>
  (jA (aen 3 hr.units1 (jb 6) (jo jv (QB hr.units1 (jb 3) (jb 6) (aar je)) (zM ["end","rod"] [none,some 5] rfl (ZV (ag1 hr.units1 (jb 2) (jb 4))) (zN (jh qr) qX (by decide +kernel))
   fun cl C' s0 H0 fp pn=>⟨(jP 0 alx),Jf,(jo jv (qE (ja (jb 1) je)) (jb 0))⟩)))
  ql)⟩
noncomputable def zk:{ B:RO // abc 3 CLongerEnds "longer_ends" qr qX 3 (qo (Qk (jM qr) 1)) B }:=
 ⟨_,fun P w K mg base f Kc A Ko s H E C hr=>
  (jA (Qe PassesOwn.never rfl (ZV (jf C.c_last hr (by decide) (ja (jb 0) (ja (jb 1) (ja (jb 4) je))) (jc (jc (jc jk))))) (ael (n:=2) rfl (zT 5 qR.nd (zT 6 qR.nd ace))) (zO.2 P w K mg base f Kc A Ko s H E C hr))
  ql)⟩
noncomputable def Jw:{ B:RO // qG CLongerEnds "longer_ends" qr qX 3 B }:=
 ⟨_,fun P w K mg base f Kc A Ko s H E C hr=>
  (Qy (Qz 3 qR.nd acf
  (jA (Qe PassesOwn.never rfl (aci (jb 2)) (ZO 4 qR.nd) (zk.2 P w K mg base f Kc A Ko s H E C hr))
  (jA (ZN (jb 3))
  ql))))⟩
noncomputable def zC:LP->OP:=jw qX 3 Jw.1
noncomputable abbrev qL:Stmt:=top 33
structure CAllSettings(P:Program)(w:World)(K:Fg)(mg:SV)(base:Heap):Prop where
 t:Bare mg
 c_asked:jj P w K mg base "check_asked" ["manner","rods","number"] 5 3 zJ
 c_LongerEnds:jj P w K mg base "longer_ends" ["manner","ahead","ends"] 4 3 zC
noncomputable abbrev zP:List Str:=["manner","rods","number","ends","ahead"]
theorem zl:FnScope zP ["manner","rods","number"] (jh qL):=⟨rfl,rfl,rfl,by decide +kernel,rfl,by decide +kernel,by decide +kernel⟩
noncomputable def qS:{ B:RO // acD CAllSettings "all_settings" qL zP 5 (qo (Qk (jM qL) 2)) B }:=
 ⟨_,fun P w K mg base f Kc A Ko s H E C hr=>
  (jd (jx 3 zl.nd (jf C.c_LongerEnds hr (by decide) (ja (jb 0) (ja (jb 4) (ja (jb 3) je))) (jc (jc (jc jk)))))
  jg)⟩
noncomputable def zQ:{ B:RO // qG CAllSettings "all_settings" qL zP 5 B }:=
 ⟨_,fun P w K mg base f Kc A Ko s H E C hr=>
  (jd (qk (jf C.c_asked hr (by decide) (ja (jb 0) (ja (jb 1) (ja (jb 2) je))) (jc (jc (jc jk)))))
  (jd (jx 3 zl.nd (acj (jb 2) (acb 2 (.list [.tuple []]) (by kernel_rfl))))
  (jd (Jp PassesOwn.never rfl (Qf rfl C.t.range (ja (jo Qa (jb 1) ji) (ja (JD ji) (ja (JD ji) je)))) (jP 4 zl.nd) (qS.2 P w K mg base f Kc A Ko s H E C hr))
  (jd (ju (jT (alo hr.sort) C.t.sorted ajs (ja (QB hr.units1 (jb 3) ji (aar je)) je)))
  jg))))⟩
noncomputable def qt:LP->OP:=jw zP 3 zQ.1
structure XCheck(P:Program)(w:World)(K:Fg)(mg:SV)(base:Heap):Prop where
 c_isManner:jj P w K mg base "is_manner" ["thing"] 3 1 qW
 e_NoManner:afK K mg "NoManner"
noncomputable def aeU:{ F:Rho->Option Str // adK XCheck "check_manner" acC ["thing"] 3 F }:=
 ⟨_,fun P w K mg base f Kc A Ko s H E C hr=>
  (qd (aer (qK (qJ (jf C.c_isManner hr (by decide) (ja (jb 0) je) (jc jk)))) (qd (QR rfl C.e_NoManner rfl)) Qg))⟩
noncomputable def ahn:LP->Option Str:=QD ["thing"] 1 aeU.1
structure XChkRods(P:Program)(w:World)(K:Fg)(mg:SV)(base:Heap):Prop where
 c_isWhole:jj P w K mg base "is_whole" ["thing","least","most"] 1 3 j7
 k_MOST_RODS:GC K mg "MOST_RODS" (.int 4)
 e_NoNumber:afK K mg "NoNumber"
noncomputable def aac:{ F:Rho->Option Str // adK XChkRods "check_rods" Jj ["rods"] 1 F }:=
 ⟨_,fun P w K mg base f Kc A Ko s H E C hr=>
  (qd (aer (qK (qJ (jf C.c_isWhole hr (by decide) (ja (jb 0) (ja ji (ja (abb C.k_MOST_RODS) je))) (jc (jc (jc jk)))))) (qd (QR rfl C.e_NoNumber rfl)) Qg))⟩
noncomputable def acJ:LP->Option Str:=QD ["rods"] 1 aac.1
structure XChkNum(P:Program)(w:World)(K:Fg)(mg:SV)(base:Heap):Prop where
 c_isWhole:jj P w K mg base "is_whole" ["thing","least","most"] 1 3 j7
 k_MOST_NUMBER:GC K mg "MOST_NUMBER" (.int 99999)
 e_NoNumber:afK K mg "NoNumber"
noncomputable def aby:{ F:Rho->Option Str // adK XChkNum "check_number" zj ["number"] 1 F }:=
 ⟨_,fun P w K mg base f Kc A Ko s H E C hr=>
  (qd (aer (qK (qJ (jf C.c_isWhole hr (by decide) (ja (jb 0) (ja ji (ja (abb C.k_MOST_NUMBER) je))) (jc (jc (jc jk)))))) (qd (QR rfl C.e_NoNumber rfl)) Qg))⟩
noncomputable def aeV:LP->Option Str:=QD ["number"] 1 aby.1
structure XAsked(P:Program)(w:World)(K:Fg)(mg:SV)(base:Heap):Prop where
 c_chkRods:jj P w K mg base "check_rods" ["rods"] 2 1 qH
 c_check:jj P w K mg base "check_manner" ["thing"] 4 1 Zy
 x_check:ZR P w K mg base "check_manner" ["thing"] 4 1 ahn
 x_chkRods:ZR P w K mg base "check_rods" ["rods"] 2 1 acJ
 x_chkNum:ZR P w K mg base "check_number" ["number"] 2 1 aeV
noncomputable def aeW:{ F:Rho->Option Str // adK XAsked "check_asked" zB ["manner","rods","number"] 4 F }:=
 ⟨_,fun P w K mg base f Kc A Ko s H E C hr=>
  (aes (qd (ZQ (JN rfl C.x_check hr (by decide) (ja (jb 0) je) (jc jk)))) (QQ (qk (jf C.c_check hr (by decide) (ja (jb 0) je) (jc jk)))
  (aes (qd (ZQ (JN rfl C.x_chkRods hr (by decide) (ja (jb 1) je) (jc jk)))) (QQ (qk (jf C.c_chkRods hr (by decide) (ja (jb 1) je) (jc jk)))
  (qd (ZQ (JN rfl C.x_chkNum hr (by decide) (ja (jb 2) je) (jc jk))))))))⟩
noncomputable def aho:LP->Option Str:=QD ["manner","rods","number"] 3 aeW.1
structure XPlainR(P:Program)(w:World)(K:Fg)(mg:SV)(base:Heap):Prop where
 c_digits:jj P w K mg base "digits_by_rods" ["base","rods","number"] 1 3 alr
 e_TooGreat:afK K mg "TooGreat"
noncomputable def abz:{ F:Rho->Option Str // adK XPlainR "plain_rods" Q0 Q4 3 F }:=
 ⟨_,fun P w K mg base f Kc A Ko s H E C hr=>
  (QQ (jx 3 Q5.nd (jf C.c_digits hr (by decide) (ja (j0 (jb 0) ji) (ja (jb 1) (ja (jb 2) je))) (jc (jc (jc jk)))))
  (qd (aer (jQ akx (j0 (jb 3) ji) (j0 (jb 0) ji)) (qd (QR rfl C.e_TooGreat rfl)) Qg)))⟩
noncomputable def aeX:LP->Option Str:=QD Q4 3 abz.1
structure XPlainS(P:Program)(w:World)(K:Fg)(mg:SV)(base:Heap):Prop where
 c_asked:jj P w K mg base "check_asked" ["manner","rods","number"] 5 3 zJ
 x_asked:ZR P w K mg base "check_asked" ["manner","rods","number"] 5 3 aho
 x_plainR:ZR P w K mg base "plain_rods" ["manner","rods","number"] 4 3 aeX
noncomputable def abA:{ F:Rho->Option Str // adK XPlainS "plain_setting" Z5 ["manner","rods","number"] 5 F }:=
 ⟨_,fun P w K mg base f Kc A Ko s H E C hr=>
  (aes (qd (ZQ (JN rfl C.x_asked hr (by decide) (ja (jb 0) (ja (jb 1) (ja (jb 2) je))) (jc (jc (jc jk)))))) (QQ (qk (jf C.c_asked hr (by decide) (ja (jb 0) (ja (jb 1) (ja (jb 2) je))) (jc (jc (jc jk)))))
  (qd (aib (JN rfl C.x_plainR hr (by decide) (ja (jb 0) (ja (jb 1) (ja (jb 2) je))) (jc (jc (jc jk))))))))⟩
noncomputable def abB:LP->Option Str:=QD ["manner","rods","number"] 3 abA.1
noncomputable abbrev zY:Stmt:=top 48
structure CLPlainOf(P:Program)(w:World)(K:Fg)(mg:SV)(base:Heap):Prop where
 c_plainS:jj P w K mg base "plain_setting" ["manner","rods","number"] 6 3 Ql
 x_plainS:ZR P w K mg base "plain_setting" ["manner","rods","number"] 6 3 abB
 e_TooGreat:afK K mg "TooGreat"
noncomputable abbrev aaO:List Str:=["_law_manner_here","_law_rods","_law_number"]
theorem af4:FnScope aaO ["_law_manner_here","_law_rods","_law_number"] (jh zY):=⟨rfl,rfl,rfl,by decide +kernel,rfl,by decide +kernel,by decide +kernel⟩
noncomputable def zZ:{ B:RO // ∀(P:Program) (w:World) (K:Fg) (mg:SV) (base:Heap) (f:Addr) (Kc:Value) (A:Around) (Ko:List Env) (s:Shared) (H:Hp) (E:XK),CLPlainOf P w K mg base->Room 6 (A.deeper (envOfC "_law_plain_of" (jh zY) s.heap.objs.size f Kc))->
  ak7 (Jy CX0 P w K mg base aaO "_law_plain_of" (jh zY) f Kc A Ko s H E) (jM zY) B }:=
 ⟨_,fun P w K mg base f Kc A Ko s H E C hr=>
  (ajn (ani (n:=3) ak6 rfl C.e_TooGreat
   (fun E'=>(jd (ju (jf C.c_plainS hr (by decide) (ja (jb 0) (ja (jb 1) (ja (jb 2) je))) (jc (jc (jc jk)))))
  jg))
   (fun E'=>(qd (aib (JN rfl C.x_plainS hr (by decide) (ja (jb 0) (ja (jb 1) (ja (jb 2) je))) (jc (jc (jc jk)))))))
   (fun e=>(jd (ju agL)
  jg))) (anh jg))⟩
noncomputable def Ja:LP->OP:=jw aaO 3 zZ.1
noncomputable abbrev zD:Stmt:=top 49
structure CLIsMore(P:Program)(w:World)(K:Fg)(mg:SV)(base:Heap):Prop where
 t:Bare mg
 c_value:jj P w K mg base "value" ["manner","setting"] 7 2 qU
 c_allBeads:jj P w K mg base "all_beads" ["manner","setting"] 7 2 qx
 c_AllSettings:jj P w K mg base "all_settings" ["manner","rods","number"] 6 3 qt
 c_how:jj P w K mg base "how_many" ["manner","rods","number"] 6 3 ajy
 c_Greatest:jj P w K mg base "greatest" ["manner","rods"] 5 2 zX
noncomputable abbrev QH:List Str:=["_law_manner_here","_law_setting_here","_law_number","_law_base","_law_many","_law_place","_law_rod","_law_upper","_law_lower","_law_side","_law_worth","_law_more","_law_new"]
theorem qe:FnScope QH ["_law_manner_here","_law_setting_here","_law_number"] (jh zD):=⟨rfl,rfl,rfl,by decide +kernel,rfl,by decide +kernel,by decide +kernel⟩
noncomputable def qY:{ B:RO // acD CLIsMore "_law_is_more" zD QH 7 (qo (Qk (qo (Qk (jM zD) 3)) 1)) B }:=
 ⟨_,fun P w K mg base f Kc A Ko s H E C hr=>
  (jd (qj (jQ agP (j0 (j0 (jb 1) (jb 6)) (jb 9)) (j0 (qE (ja (j0 (jb 0) ji) (ja (j0 (jb 0) ji) je))) (jb 9))) (jd (jx 11 qe.nd (aqo (jQ (aav hr.units) (jb 9) ji) (qE (ja (jo jv (jb 7) ji) (ja (jb 8) je))) (qE (ja (jb 7) (ja (jo jv (jb 8) ji) je)))))
  (jd (jx 12 qe.nd (jo jv (jo jv (afM (jb 1) (jb 6)) (qE (ja (jb 11) je))) (acn (jb 1) (jo jv (jb 6) ji))))
  (jd (qj (jQ (Jg hr.units) (jf C.c_value hr (by decide) (ja (jb 0) (ja (jb 12) je)) (jc (jc jk))) (jo jv (jb 2) (jo qv (jb 10) (jb 5)))) (jd (ju zK)
  jg) jg)
  (jd (qj (jQ (Jg hr.units) (jf C.c_allBeads hr (by decide) (ja (jb 0) (ja (jb 12) je)) (jc (jc jk))) (jo jv (jf C.c_allBeads hr (by decide) (ja (jb 0) (ja (jb 1) je)) (jc (jc jk))) ji)) (jd (ju zK)
  jg) jg)
  jg)))) jg)
  jg)⟩
noncomputable def JU:{ B:RO // acD CLIsMore "_law_is_more" zD QH 7 (qo (Qk (jM zD) 3)) B }:=
 ⟨_,fun P w K mg base f Kc A Ko s H E C hr=>
  (jd (amX (j0 (jb 1) (jb 6)) (aed (n:=2) rfl (zo (jP 7 qe.nd) (zo (jP 8 qe.nd) ab2))))
  (jd (Jp PassesOwn.never rfl (ZV (qE (ja (qE (ja ji (ja (j0 (jb 0) ji) je))) (ja (acb 2 (.tuple [.int 1,.int 1]) (by kernel_rfl)) je)))) (aed (n:=2) rfl (zo (jP 9 qe.nd) (zo (jP 10 qe.nd) ab2))) (qY.2 P w K mg base f Kc A Ko s H E C hr))
  (jd (jx 5 qe.nd (jo qv (jb 5) (jb 3)))
  jg)))⟩
noncomputable def aad:{ B:RO // qG CLIsMore "_law_is_more" zD QH 7 B }:=
 ⟨_,fun P w K mg base f Kc A Ko s H E C hr=>
  (jd (jx 3 qe.nd (j0 (jb 0) ji))
  (jd (jx 4 qe.nd (jT zH C.t.len zI (ja (jb 1) je)))
  (jd (jx 5 qe.nd ji)
  (jd (Jp PassesOwn.never rfl (Qf rfl C.t.range (ja (jo Qa (jb 4) ji) (ja (JD ji) (ja (JD ji) je)))) (jP 6 qe.nd) (JU.2 P w K mg base f Kc A Ko s H E C hr))
  (jd (ju (akZ (agM (aav hr.units) (jf C.c_how hr (by decide) (ja (jb 0) (ja (jb 4) (ja (jf C.c_Greatest hr (by decide) (ja (jb 0) (ja (jb 4) je)) (jc (jc jk))) je))) (jc (jc (jc jk)))) ji) (akY (agM (aav hr.units) (jf C.c_AllSettings hr (by decide) (ja (jb 0) (ja ji (ja ji je))) (jc (jc (jc jk)))) (acb 4 (.list [.tuple [.tuple [.int 0,.int 0]]]) (by kernel_rfl))))))
  jg)))))⟩
noncomputable def QI:LP->OP:=jw QH 3 aad.1
noncomputable abbrev ajz:Stmt:=top 50
structure CLaw(P:Program)(w:World)(K:Fg)(mg:SV)(base:Heap):Prop where
 t:Bare mg
 c_manner:jj P w K mg base "_law_manner" ["_law_script","_law_at"] 3 2 Q8
 c_setting:jj P w K mg base "_law_setting" ["_law_script","_law_at","_law_manner_here","_law_most"] 3 4 anx
 c_value:jj P w K mg base "value" ["manner","setting"] 7 2 qU
 c_Greatest:jj P w K mg base "greatest" ["manner","rods"] 5 2 zX
 c_AllSettings:jj P w K mg base "all_settings" ["manner","rods","number"] 6 3 qt
 c_how:jj P w K mg base "how_many" ["manner","rods","number"] 6 3 ajy
 c_least:jj P w K mg base "least_beads" ["manner","rods","number"] 6 3 aaJ
 c_allBeads:jj P w K mg base "all_beads" ["manner","setting"] 7 2 qx
 c_LPlainOf:jj P w K mg base "_law_plain_of" ["_law_manner_here","_law_rods","_law_number"] 7 3 Ja
 c_LIsMore:jj P w K mg base "_law_is_more" ["_law_manner_here","_law_setting_here","_law_number"] 8 3 QI
noncomputable abbrev aly:List Str:=["_law_script","_law_manner_here","_law_base","_law_setting_here","_law_many","_law_number","_law_last","_law_some","_law_plain"]
theorem Qm:FnScope aly ["_law_script"] (jh ajz):=⟨rfl,rfl,rfl,by decide +kernel,rfl,by decide +kernel,by decide +kernel⟩
theorem alz:(["_law_one","_law_number","_law_manner_here"]:List Str).Nodup:=by decide +kernel
theorem alA:(["_law_one","_law_manner_here"]:List Str).Nodup:=by decide +kernel
noncomputable def anz:{ B:RO // qG CLaw "law" ajz aly 8 B }:=
 ⟨_,fun P w K mg base f Kc A Ko s H E C hr=>
  (jd (jx 1 Qm.nd (jf C.c_manner hr (by decide) (ja (jb 0) (ja ji je)) (jc (jc jk))))
  (jd (jx 2 Qm.nd (j0 (jb 1) ji))
  (jd (jx 3 Qm.nd (jf C.c_setting hr (by decide) (ja (jb 0) (ja ji (ja (jb 1) (ja ji je)))) (jc (jc (jc (jc jk))))))
  (jd (jx 4 Qm.nd (jT zH C.t.len zI (ja (jb 3) je)))
  (jd (jx 5 Qm.nd (jf C.c_value hr (by decide) (ja (jb 1) (ja (jb 3) je)) (jc (jc jk))))
  (jd (jx 6 Qm.nd (jf C.c_value hr (by decide) (ja (jb 1) (ja (acn (jb 3) (JD ji)) je)) (jc (jc jk))))
  (jd (qj (zw (aec (jQ akw (jb 4) ji) (abZ (jQ (Jg hr.units) (jb 5) (jo jv (jo qv (jb 2) (jf C.c_value hr (by decide) (ja (jb 1) (ja (afM (jb 3) (JD ji)) je)) (jc (jc jk)))) (jb 6)))))) (jd (ju zK)
  jg) jg)
  (jd (qj (jQ akw (jb 5) (jf C.c_Greatest hr (by decide) (ja (jb 1) (ja (jb 4) je)) (jc (jc jk)))) (jd (ju zK)
  jg) jg)
  (jd (qj (jQ (Jg hr.units) (jf C.c_value hr (by decide) (ja (jb 1) (ja (jo afG (qE (ja (qE (ja (j0 (jb 1) ji) (ja (j0 (jb 1) ji) je))) je)) (jb 4)) je)) (jc (jc jk))) (jf C.c_Greatest hr (by decide) (ja (jb 1) (ja (jb 4) je)) (jc (jc jk)))) (jd (ju zK)
  jg) jg)
  (jd (jx 7 Qm.nd (jf C.c_AllSettings hr (by decide) (ja (jb 1) (ja (jb 4) (ja (jb 5) je))) (jc (jc (jc jk)))))
  (jd (qj (jQ (adm hr.units) (jb 3) (jb 7)) (jd (ju zK)
  jg) jg)
  (jd (qj (jQ (Jg hr.units) (zM ["_law_one","_law_number","_law_manner_here"] [none,some 5,some 1] rfl (ZV (jb 7)) (zN (jh ajz) aly (by decide +kernel))
   fun cl C' s0 H0 fp pn=>⟨(jP 0 alz),(afv (jQ (Jg hr.units) (jf C.c_value hr (by decide) (ja (jb 2) (ja (jb 0) je)) (jc (jc jk))) (jb 1))),(jb 0)⟩) (aar je)) (jd (ju zK)
  jg) jg)
  (jd (qj (jQ (Jg hr.units) (jT zH C.t.len zI (ja (jb 7) je)) (jf C.c_how hr (by decide) (ja (jb 1) (ja (jb 4) (ja (jb 5) je))) (jc (jc (jc jk))))) (jd (ju zK)
  jg) jg)
  (jd (qj (jQ (Jg hr.units) (jf C.c_least hr (by decide) (ja (jb 1) (ja (jb 4) (ja (jb 5) je))) (jc (jc (jc jk)))) (jT (am8 rfl) C.t.min ab7 (ja (zM ["_law_one","_law_manner_here"] [none,some 1] rfl (ZV (jb 7)) (zN (jh ajz) aly (by decide +kernel))
   fun cl C' s0 H0 fp pn=>⟨(jP 0 alA),Jf,(jf C.c_allBeads hr (by decide) (ja (jb 1) (ja (jb 0) je)) (jc (jc jk)))⟩) je))) (jd (ju zK)
  jg) jg)
  (jd (jx 8 Qm.nd (jf C.c_LPlainOf hr (by decide) (ja (jb 1) (ja (jb 4) (ja (jb 5) je))) (jc (jc (jc jk)))))
  (jd (qj (zw (aec (jQ ak1 (jb 8) agL) (abZ (zw (ab0 (jQ (adm hr.units) (jb 8) (jb 7)) (ZF (jQ (Jg hr.units) (jf C.c_value hr (by decide) (ja (jb 1) (ja (jb 8) je)) (jc (jc jk))) (jb 5)))))))) (jd (ju zK)
  jg) jg)
  (jd (ju (jf C.c_LIsMore hr (by decide) (ja (jb 1) (ja (jb 3) (ja (jb 5) je))) (jc (jc (jc jk)))))
  jg)))))))))))))))))⟩
noncomputable def alB:LP->OP:=jw aly 1 anz.1
theorem j4(i a b:Int):j7 [.int i,.int a,.int b]=some (.bool (decide (a<=i)&&decide (i<=b))):=by
 by_cases h:a<=i<;>simp[j7,jw,acA,jL,jF,ifS,orB,tst,lkp,aay,tyn,asB,J9,chn,zz,qz,qp,h]
theorem aae(u e l b x y:Int)(h:-18446744073709551616<x/\x<18446744073709551616):qC [.tuple [.int u,.int e,.int l,.int b],.tuple [.int x,.int y]]=some (.int (x*e+y)):=by
 simp[qC,jw,aaF,jL,jF,op2,lkp,dIx,atI,ixN,qz,qp,cst,JI,ze,h]
theorem aaP(x y:Int):qN [.tuple [.int x,.int y]]=some (.int (x+y)):=by
 simp[qN,jw,ahg,jL,jF,op2,lkp,dIx,atI,ixN,qz,qp,cst,ze]
theorem alC{n:Nat}{i:Int}(h0:0<=i)(h:i.toNat<n):ixN n i=some i.toNat:=by
 unfold ixN;rw[if_pos h0,if_pos (by omega)]
noncomputable def okN(u e l b:Int):Bool:=decide (0<=u)&&decide (u<=3)&&decide (1<=e)&&decide (e<=5)&&decide (e-1<=l)&&decide (1<=l)&&decide (l<=11)&&decide (2<=b)&&decide (b<=16)&&decide (b<=u*e+l+1)
noncomputable def jz(u l:Int):LP:=Js (u+1).toNat (l+1).toNat
noncomputable def jp(e:Int):PyData->Int
 |.tuple [.int x,.int y]=>x*e+y
 |_=>-1
noncomputable def fpr(m:PyData)(d:Int):Int×Int:=match QW [m,.int d]with
 |some (.tuple [.int x,.int y])=>(x,y)
 |_=>(0,0)
noncomputable def pr(p:Int×Int):PyData:= .tuple [.int p.1,.int p.2]
noncomputable def jy(ps:List (Int×Int)):PyData:= .tuple (ps.map pr)
noncomputable def unP:PyData->Option (Int×Int)
 |.tuple [.int x,.int y]=>some (x,y)
 |_=>none
noncomputable def okP(u l:Int)(p:Int×Int):Bool:=decide (0<=p.1)&&decide (p.1<=u)&&decide (0<=p.2)&&decide (p.2<=l)
noncomputable def okS(u l:Int)(ps:List (Int×Int)):Bool:=decide (1<=ps.length)&&decide (ps.length<=4)&&ps.all (okP u l)
noncomputable def wt(e:Int)(p:Int×Int):Int:=p.1*e+p.2
noncomputable def val(b e:Int)(ps:List (Int×Int)):Int:=ps.foldl (fun n p=>n*b+wt e p) 0
noncomputable def bds(ps:List (Int×Int)):Int:=(ps.map fun p=>p.1+p.2).sum
noncomputable def dgl(b:Int):Nat->Int->List Int
 |0,_=>[]
 |1,n=>[n]
 |k+2,n=>dgl b (k+1) (n / b)++[n % b]
noncomputable def pln(m:PyData)(b:Int)(r:Nat)(n:Int):List (Int×Int):=(dgl b r n).map (fpr m)
noncomputable def aqN(e:Int):List Int->LP->List Int
 |c,[]=>c
 |c,r::rs=>aqN e (c.set (jp e r).toNat (c.getD (jp e r).toNat 0+1)) rs
noncomputable def aqO(u e l:Int):List Int:=aqN e (List.replicate (u*e+l+1).toNat 0) (jz u l)
noncomputable def cnt(u e l n:Int):Int:=((jz u l).filter fun r=>jp e r==n).length
noncomputable def okM(u e l b:Int):Bool:=decide (0<=u)&&decide (u<=3)&&decide (1<=e)&&decide (e<=5)&&decide (e-1<=l)&&decide (1<=l)&&decide (l<=10)&&decide (2<=b)&&decide (b<=16)&&decide (b<=u*e+l+1)
theorem aaQ{n m:Nat}{d:PyData}(h:d∈Js n m):∃i j:Nat,i<n/\j<m/\d= .tuple [.int i,.int j]:=by
 obtain⟨i,hi,hd⟩:=List.mem_flatMap.mp h;obtain⟨j,hj,rfl⟩:=List.mem_map.mp hd;exact⟨i,j,List.mem_range.mp hi,List.mem_range.mp hj,rfl⟩
theorem Zb(i:Int):okD (.int i)=true:=by simp[okD,PyData.canLay0,PyData.depth]
theorem QJ{u e l b:Int}(hu:0<=u)(hu':u<100)(hl:0<=l)(hl':l<100):zi [jl u e l b]=some (.list (jz u l)):=by
 simp[zi,jl,jz,hu,hl,show u<1000 by omega,show l<1000 by omega]
theorem acK{u l:Int}(hu':u<100)(hl':l<100):few (jz u l)=true:=by
 simp only[few,jz,acB,decide_eq_true_eq];have:(u+1).toNat*(l+1).toNat<=100*100:=Nat.mul_le_mul (by omega) (by omega);omega
theorem aaR{u e l b:Int}(hu':u<100){d:PyData}(h:d∈jz u l):qC [jl u e l b,d]=some (.int (jp e d)):=by
 obtain⟨i,j,hi,hj,rfl⟩:=aaQ h;exact aae u e l b i j (by omega)
theorem ZA{α:Type}(f:α->Int):∀xs:List α,qD (xs.map fun d=>PyData.int (f d))=some (xs.map f)
 | []=>rfl
 |x::xs=>by simp[qD,Qb,ZA f xs]
theorem alD(ns:List Int):okD (.list (ns.map PyData.int))=true:=by
 have h1:∀ns:List Int,PyData.canLayAll0 (ns.map PyData.int)=true:=fun ns=>by
  induction ns with
  |nil=>rfl
  |cons n ns ih=>simp[PyData.canLayAll0,PyData.canLay0,ih]
 have h2:∀ns:List Int,PyData.depthAll (ns.map PyData.int)=0:=fun ns=>by
  induction ns with
  |nil=>rfl
  |cons n ns ih=>simp[PyData.depthAll,PyData.depth,ih]
 simp[okD,PyData.canLay0,h1,PyData.depth,h2]
theorem alE(ns:List Int)(d:Int):(ns.map PyData.int).any (fun z=>PyData.eqv z (.int d))=ns.any (fun z=>z==d):=by
 induction ns with
 |nil=>rfl
 |cons n ns ih=>simp only[List.map_cons,List.any_cons,ih];rfl
theorem aeY{α:Type}(f:α->Bool):∀xs:List α,bls (xs.map fun d=>PyData.bool (f d))=some (xs.map f)
 | []=>rfl
 |x::xs=>by simp[bls,asB,aeY f xs]
theorem ix0(u e l b:Int):dIx (jl u e l b) (.int 0)=some (.int u):=rfl
theorem ix2(u e l b:Int):dIx (jl u e l b) (.int 2)=some (.int l):=rfl
theorem ix3(u e l b:Int):dIx (jl u e l b) (.int 3)=some (.int b):=rfl
theorem aip{j:Int}(h:0<=j)(h':j<1000000):agN [.int j]=some (Zl 0 j.toNat):=by
 unfold agN;exact if_pos (by omega)
theorem abC(a b:Int):PyData.eqv (.int a) (.int b)=(a==b):=by unfold PyData.eqv;rfl
theorem acL{u e l b:Int}(hu:0<=u)(hu':u<100)(hl:0<=l)(hl':l<100)(hb:0<=b)(hb':b<100):Z3 [jl u e l b]=some (.bool ((List.range b.toNat).all fun d=>((jz u l).map (jp e)).any fun z=>z==(d:Int))):=by
 have h1:=QJ (e:=e) (b:=b) hu hu' hl hl';have h2:=acK hu' hl';have h4:few (Zl 0 b.toNat)=true:=by simp[few,Zl];omega
 simp only[Z3,jw,aeB,jL,jF,qz,JH,itL,jJ,jq,jC,lkp,JC,List.length_cons,List.length_nil,zzM,List.map_cons,List.map_nil,List.cons_append,List.nil_append,zzA,zzC,zzD,zzE,h1,h2,ZG,qF];rw[JK (fun d=> .int (jp e d))]
 ·simp only[jG,qp,op2,cst,lkp,zzD,zzE,zzF,zzG,List.replicate,List.length_cons,List.length_nil,zzA,zzB,zzC,ix3,aip hb (show b<1000000 by omega),h4,zzM]
  rw[JK (fun d=> .bool (((jz u l).map (jp e)).any fun z=>z==(Qb d).getD 0))]
  ·have:(Zl 0 b.toNat).map (fun d=>PyData.bool (((jz u l).map (jp e)).any fun z=>z==(Qb d).getD 0))=(List.range b.toNat).map fun (d:Nat)=>PyData.bool (((jz u l).map (jp e)).any fun z=>z==(d:Int)):=by
    simp[Zl,Qb,Function.comp_def]
   simp only[zzE,zzD,this,am2,aeY (fun (d:Nat)=>((jz u l).map (jp e)).any fun z=>z==(d:Int)),List.all_map,Function.comp_def,id]
  ·intro d hd
   obtain⟨k,_,rfl⟩:=List.mem_map.mp hd;have h5:(jz u l).map (fun d=>PyData.int (jp e d))=((jz u l).map (jp e)).map PyData.int:=by simp
   have h6:=alD ((jz u l).map (jp e));simp only[op2,lkp,zzG,zzA,zzB,zzC,zzD,dIn,Zb,h5,h6,alE];simp[Qb]
 ·intro d hd
  simp[jJ,jq,jC,lkp,aaR (b:=b) (e:=e) hu' hd]
theorem aeZ{u e l b:Int}(hu:0<=u)(hu':u<=3)(he:1<=e)(he':e<=16)(hl:0<=l)(hl':l<=12)(hb:2<=b)(hb':b<=16):qW [jl u e l b]=Z3 [jl u e l b]:=by
 have g:=acL (e:=e) hu (by omega) hl (by omega) (show 0<=b by omega) (by omega);have w1:j7 [.int u,.int 0,.int 3]=some (.bool true):=by rw[j4];simp[hu,hu']
 have w2:j7 [.int e,.int 1,.int 16]=some (.bool true):=by rw[j4];simp[he,he']
 have w3:j7 [.int l,.int 0,.int 12]=some (.bool true):=by rw[j4];simp[hl,hl']
 have w4:j7 [.int b,.int 2,.int 16]=some (.bool true):=by rw[j4];simp[hb,hb']
 have z:ah0 [jl u e l b,.tuple [.int 0,.int 1,.int 0,.int 2],.tuple [.int 3,.int 16,.int 12,.int 16]]=some [.tuple [.int u,.int 0,.int 3],.tuple [.int e,.int 1,.int 16],.tuple [.int l,.int 0,.int 12],.tuple [.int b,.int 2,.int 16]]:=rfl;rw[g];rw[show jl u e l b= .tuple [.int u,.int e,.int l,.int b] from rfl]at g z ⊢;simp[qW,jw,aaG,jL,jF,ifS,orB,J9,tst,aay,tyn,asB,lkp,op2,jJ,jq,jC,ZH,cst,dNe,Zb,abC,qp,Je,z,jN,Qq,jV,zG,jG,w1,w2,w3,w4,qz,g]
theorem JV{m:PyData}(h:qW [m]=some (.bool true)):Zy [m]=some .none:=by
 simp[Zy,jw,ahi,jL,jF,ifS,J9,tst,asB,jJ,jq,jC,lkp,h,qp]
theorem aaf:few []=true:=by simp[few]
theorem add_int(i j:Int):ze (.int i) (.int j)=some (.int (i+j)):=rfl
theorem jY{i j:Int}(h:-1000000000000<i/\i<1000000000000):JI (.int i) (.int j)=some (.int (i*j)):=by
 unfold JI;exact if_pos (.inl ⟨by omega,by omega⟩)
theorem Zc{i j:Int}(h:0<j):ai4 (.int i) (.int j)=some (.int (i % j)):=by unfold ai4;exact if_pos h
theorem JW{i j:Int}(h:0<j)(h':j<1000000000):adl (.int i) (.int j)=some (.int (i / j)):=by unfold adl;exact if_pos ⟨h,by omega⟩
theorem alF(ns:List Int)(hn:ns.length<1000000)(k:Int)(hk:0<=k):∃c,af2 [scr ns,.int k]=some (.int c):=by
 cases ns with
 | nil=>
  refine⟨7*k,?_⟩;simp[af2,jw,aio,jL,jF,ifS,tst,op2,lkp,JB,jC,few,dEq,scr,zv,asB,qz,cst,jY,qp]
 | cons n ns=>
  have hl:0<(((n::ns).map fun n=>(PyData.int n,PyData.none)).length:Int):=by simp
  have hl':(((n::ns).map fun n=>(PyData.int n,PyData.none)).length:Int)<1000000:=by simp at hn ⊢;omega
  have hsc:=adk (n::ns)
  have e1:dEq (scr (n::ns)) (.list [])=some (.bool false):=by
   show(if zv ((n::ns).map fun n=>(PyData.int n,PyData.none))=true then some (PyData.bool ((n::ns).map fun n=>(PyData.int n,PyData.none)).isEmpty) else none)=_;rw[if_pos hsc];rfl
  have e2:ZH [scr (n::ns)]=some (.int (((n::ns).map fun n=>(PyData.int n,PyData.none)).length)):=by
   show(if zv ((n::ns).map fun n=>(PyData.int n,PyData.none))=true then some (PyData.int ((n::ns).map fun n=>(PyData.int n,PyData.none)).length) else none)=_;rw[if_pos hsc]
  generalize hL:(((n::ns).map fun n=>(PyData.int n,PyData.none)).length:Int)=L at*;have h0:0<=k % L:=Int.emod_nonneg _ (by omega);have h1:k % L<L:=Int.emod_lt_of_pos _ hl
  have e3:∃c,dIx (scr (n::ns)) (.int (k % L))=some (.int c):=by
   have hlen:((n::ns).map fun n=>(PyData.int n,PyData.none)).length<1000000:=by omega
   have hlt:(k % L).toNat<((n::ns).map fun n=>(PyData.int n,PyData.none)).length:=by omega
   have hx:ixN ((n::ns).map fun n=>(PyData.int n,PyData.none)).length (k % L)=some (k % L).toNat:=alC h0 hlt;refine⟨((n::ns)[(k % L).toNat]'(by simpa using hlt)),?_⟩;show(if ((n::ns).map fun n=>(PyData.int n,PyData.none)).length<1000000/\zv ((n::ns).map fun n=>(PyData.int n,PyData.none))=true then (atI ((n::ns).map fun n=>(PyData.int n,PyData.none)) (k % L)).map (·.1) else none)=_;rw[if_pos ⟨hlen,hsc⟩];unfold atI;rw[hx,zzD,List.getElem?_eq_getElem hlt,zzE,List.getElem_map]
  obtain⟨c,e3⟩:=e3;refine⟨c+6553*(k / L),?_⟩;simp[af2,jw,aio,jL,jF,ifS,tst,op2,lkp,JB,jC,few,asB,qz,cst,qp,jJ,jq,e1,e2,e3,Zc hl,JW hl (show L<1000000000 by omega),jY,add_int]
theorem qZ(ns:List Int)(hn:ns.length<1000000)(k m:Int)(hk:0<=k)(hm:0<m):∃r,acI [scr ns,.int k,.int m]=some (.int r)/\0<=r/\r<m:=by
 obtain⟨c,hc⟩:=alF ns hn k hk;generalize h1:(c % 2147483563*69069+104723*(k+1)) % 2147483563=a;generalize h2:(a*a+a / 3) % 2147483399=d;have ha:0<=a/\a<2147483563:=by rw[←h1];exact⟨Int.emod_nonneg _ (by omega),Int.emod_lt_of_pos _ (by omega)⟩
 have hd:0<=d/\d<2147483399:=by rw[←h2];exact⟨Int.emod_nonneg _ (by omega),Int.emod_lt_of_pos _ (by omega)⟩
 have hc':0<=c % 2147483563/\c % 2147483563<2147483563:=⟨Int.emod_nonneg _ (by omega),Int.emod_lt_of_pos _ (by omega)⟩;refine⟨(d*d+d / 7) % 2147483647 / 11 % m,?_,Int.emod_nonneg _ (by omega),Int.emod_lt_of_pos _ hm⟩;have m1:JI (.int (c % 2147483563)) (.int 69069)=some (.int (c % 2147483563*69069)):=jY (by omega);have m2:JI (.int 104723) (.int (k+1))=some (.int (104723*(k+1))):=jY (by omega);have m3:JI (.int a) (.int a)=some (.int (a*a)):=jY (by omega);have m4:JI (.int d) (.int d)=some (.int (d*d)):=jY (by omega);simp[acI,jw,ahm,jL,jF,qF,jG,op2,lkp,jC,qz,cst,qp,jJ,jq,hc,m1,m2,m3,m4,Zc,JW,add_int,h1,h2,hm]
theorem alG(w:Int)(h0:0<=w)(h:w<12):∃u e l b,dIx (.list (aaK++aaL)) (.int w)=some (jl u e l b)/\okM u e l b=true:=by
 obtain⟨n,rfl⟩:=Int.eq_ofNat_of_zero_le h0;have hn:n<12:=by omega
 have:∀n<12,∃u e l b,dIx (.list (aaK++aaL)) (.int (n:Nat))=some (jl u e l b)/\okM u e l b=true:=by
  intro n hn
  match n,hn with
  |0,_=>exact⟨_,_,_,_,rfl,by decide⟩
  |1,_=>exact⟨_,_,_,_,rfl,by decide⟩
  |2,_=>exact⟨_,_,_,_,rfl,by decide⟩
  |3,_=>exact⟨_,_,_,_,rfl,by decide⟩
  |4,_=>exact⟨_,_,_,_,rfl,by decide⟩
  |5,_=>exact⟨_,_,_,_,rfl,by decide⟩
  |6,_=>exact⟨_,_,_,_,rfl,by decide⟩
  |7,_=>exact⟨_,_,_,_,rfl,by decide⟩
  |8,_=>exact⟨_,_,_,_,rfl,by decide⟩
  |9,_=>exact⟨_,_,_,_,rfl,by decide⟩
  |10,_=>exact⟨_,_,_,_,rfl,by decide⟩
  |11,_=>exact⟨_,_,_,_,rfl,by decide⟩
  |k+12,h=>omega
 exact this n hn
theorem ahp(ns:List Int)(hn:ns.length<1000000)(k:Int)(hk:0<=k):∃u e l b,Q8 [scr ns,.int k]=some (jl u e l b)/\okM u e l b=true:=by
 obtain⟨w,hw,hw0,hw1⟩:=qZ ns hn k 24 hk (by omega);have a1:ze (.list aaK) (.list aaL)=some (.list (aaK++aaL)):=rfl;have a2:ZH [.list (aaK++aaL)]=some (.int 12):=rfl;have a3:JI (.int 2) (.int 12)=some (.int 24):=rfl;by_cases hlt:w<12
 ·obtain⟨u,e,l,b,h1,h2⟩:=alG w hw0 hlt
  refine⟨u,e,l,b,?_,h2⟩;simp[Q8,jw,abx,jL,jF,qF,jG,op2,lkp,jC,qz,cst,qp,jJ,jq,ifS,tst,asB,a1,a2,a3,hw,zz,hlt,h1]
 ·obtain⟨r1,e1,p1,q1⟩:=qZ ns hn (k+1) 5 (by omega) (by omega)
  obtain⟨r2,e2,p2,q2⟩:=qZ ns hn (k+2) 4 (by omega) (by omega);obtain⟨r3,e3,p3,q3⟩:=qZ ns hn (k+3) 4 (by omega) (by omega);generalize hlo:(if (1:Int)>1+r1-1 then 1 else 1+r1-1)+r3=lo
  have hlo1:1<=lo/\r1<=lo/\lo<=10:=by
   rw[←hlo];split<;>omega
  have hue:0<=r2*(1+r1)/\r2*(1+r1)<=3*5:=⟨Int.mul_nonneg p2 (by omega),Int.mul_le_mul (by omega) (by omega) (by omega) (by omega)⟩;generalize hmn:(if r2*(1+r1)+lo<15 then r2*(1+r1)+lo else 15)=mn
  have hmn1:0<mn/\mn<=15/\mn<=r2*(1+r1)+lo:=by
   rw[←hmn];split<;>omega
  obtain⟨r4,e4,p4,q4⟩:=qZ ns hn (k+4) mn (by omega) (by omega);refine⟨r2,1+r1,lo,2+r4,?_,?_⟩
  ·have m1:JI (.int r2) (.int (1+r1))=some (.int (r2*(1+r1))):=jY (by omega)
   have x1:akz [.int (1+r1-1),.int 1]=some (.int (if (1:Int)>1+r1-1 then 1 else 1+r1-1)):=rfl;have x2:ado [.int 15,.int (r2*(1+r1)+lo)]=some (.int (if r2*(1+r1)+lo<15 then r2*(1+r1)+lo else 15)):=rfl;have x3:aau (.int (1+r1)) (.int 1)=some (.int (1+r1-1)):=rfl;simp only[Q8,jw,abx,jL,jF,qF,jG,op2,lkp,jC,qz,cst,qp,jJ,jq,ifS,tst,asB,a1,a2,a3,hw,zz,hlt,zzD,zzE,zzF,zzG,List.replicate,List.length_cons,List.length_nil,zzM,List.map_cons,List.map_nil,List.cons_append,List.nil_append,zzA,zzB,zzC,add_int,e1,e2,e3,m1,x1,x2,x3,decide_false,hlo,hmn,e4];simp[e1,e2,e3,m1,x1,x2,x3,hlo,hmn,e4,add_int,lkp,Qu,jq,jC,few,jl];simp only[Qu,jq,jC,lkp,op2,jJ,cst,zzD,zzE,zzA,zzB,zzC,add_int,m1,x2,hmn,e4];simp
  ·have:=hue.1
   simp[okM];omega
noncomputable def isInt(t:Int):PyData->Bool
 |.int x=>x==t
 |_=>false
noncomputable def apv(u e l:Int):Bool:=
 isInt (u*e+l) (apb none ((jz u l).map (jp e))) &&
 ((List.range (u*e+l+1).toNat).all fun n=>(jz u l).any fun r=>jp e r==(n:Int)) &&
 ((jz u l).all fun r=>decide (0<=jp e r)&&decide (jp e r<=u*e+l)) &&
 decide (aqO u e l=(List.range (u*e+l+1).toNat).map fun (n:Nat)=>cnt u e l n)
noncomputable def qT:Bool:=(List.range 4).all fun (i:Nat)=>(List.range 5).all fun (j:Nat)=>(List.range 11).all fun (k:Nat)=>decide (k+1<j)||apv i (j+1) (k+1)
structure Chk(u e l:Int):Prop where
 most:apb none ((jz u l).map (jp e))= .int (u*e+l)
 dig:∀n:Nat,n<(u*e+l+1).toNat->((jz u l).any fun r=>jp e r==(n:Int))=true
 rng:∀r∈jz u l,0<=jp e r/\jp e r<=u*e+l
 lst:aqO u e l=(List.range (u*e+l+1).toNat).map fun (n:Nat)=>cnt u e l n
theorem apw{u e l:Int}(h:apv u e l=true):Chk u e l:=by
 simp only[apv,Bool.and_eq_true,List.all_eq_true,decide_eq_true_eq]at h;obtain⟨⟨⟨h1,h2⟩,h3⟩,h4⟩:=h;refine⟨?_,fun n hn=>h2 n (List.mem_range.mpr hn),fun r hr=>h3 r hr,h4⟩;generalize apb none ((jz u l).map (jp e))=x at h1;cases x<;>simp[isInt]at h1
 rw[h1]
theorem jH{u e l b:Int}(h:okN u e l b=true):0<=u/\u<=3/\1<=e/\e<=5/\e-1<=l/\1<=l/\l<=11/\2<=b/\b<=16/\b<=u*e+l+1:=by
 simp only[okN,Bool.and_eq_true,decide_eq_true_eq]at h;omega
theorem apx{u e l b:Int}(H:qT=true)(h:okN u e l b=true):Chk u e l:=by
 obtain⟨a1,a2,a3,a4,a5,a6,a7,_⟩:=jH h;simp only[qT,List.all_eq_true,Bool.or_eq_true,decide_eq_true_eq]at H;have:=H u.toNat (List.mem_range.mpr (by omega)) (e-1).toNat (List.mem_range.mpr (by omega)) (l-1).toNat (List.mem_range.mpr (by omega));rcases this with z | z
 ·exfalso;omega
 ·rw[show((u.toNat:Nat):Int)=u by omega,show(((e-1).toNat:Nat):Int)+1=e by omega,show(((l-1).toNat:Nat):Int)+1=l by omega]at z
  exact apw z
theorem anA{u e l b:Int}(h:okM u e l b=true):okN u e l b=true:=by
 simp only[okM,okN,Bool.and_eq_true,decide_eq_true_eq]at h ⊢;omega
theorem alH{u e l b:Int}(H:qT=true)(h:okN u e l b=true){n:Int}(h0:0<=n)(hn:n<b):((jz u l).any fun r=>jp e r==n)=true:=by
 obtain⟨a1,a2,a3,a4,a5,a6,a7,a8,a9,a10⟩:=jH h;have:=(apx H h).dig n.toNat (by omega);rw[show((n.toNat:Nat):Int)=n by omega]at this;exact this
noncomputable def QK(u e l w:Int):LP:=(jz u l).filter fun r=>jp e r==w
theorem ae0{u e l b w:Int}(hu:0<=u)(hu':u<100)(hl:0<=l)(hl':l<100):QV [jl u e l b,.int w]=some (.list (QK u e l w)):=by
 have h1:=QJ (e:=e) (b:=b) hu hu' hl hl';have h2:=acK hu' hl';simp only[QV,jw,aaH,jL,jF,qz,JH,itL,jJ,jq,jC,lkp,JC,List.length_cons,List.length_nil,zzM,List.map_cons,List.map_nil,List.cons_append,List.nil_append,zzA,zzC,zzD,zzE,h1,h2,ZG];rw[Qx (fun d=>jp e d==w) id]
 ·simp[QK]
 ·intro d hd
  simp[tst,op2,jJ,jq,jC,lkp,aaR (b:=b) (e:=e) hu' hd,dEq,Zb,PyData.eqv,asB]
 ·intro d hd _
  simp[lkp]
theorem aaS(kf:PyData->Int):∀(r:LP) (d:PyData),Zq kf d r=d∨Zq kf d r∈r
 | [],d=> .inl rfl
 | x::r,d=>by
  unfold Zq;split
  ·rcases aaS kf r x with z | z
   ·exact .inr (by rw[z];exact List.mem_cons_self)
   ·exact .inr (List.mem_cons_of_mem _ z)
  ·rcases aaS kf r d with z | z
   ·exact .inl z
   ·exact .inr (List.mem_cons_of_mem _ z)
noncomputable def aiq(m:PyData)(d:Int):PyData:=pr (fpr m d)
theorem Zd{u e l b:Int}(H:qT=true)(h:okN u e l b=true){d:Int}(h0:0<=d)(hd:d<b):
  QW [jl u e l b,.int d]=some (aiq (jl u e l b) d)/\wt e (fpr (jl u e l b) d)=d/\okP u l (fpr (jl u e l b) d)=true:=by
 obtain⟨a1,a2,a3,a4,a5,a6,a7,a8,a9,a10⟩:=jH h;have hw:=ae0 (e:=e) (b:=b) (w:=d) a1 (show u<100 by omega) (show 0<=l by omega) (show l<100 by omega);have any:=alH H h h0 hd
 have rods:∀r∈QK u e l d,∃i j:Nat,r= .tuple [.int i,.int j]/\(i:Int)*e+j=d/\(i:Int)<=u/\(j:Int)<=l:=fun r hr=>by
  obtain⟨h1,h2⟩:=List.mem_filter.mp hr;obtain⟨i,j,q1,q2,rfl⟩:=aaQ h1;exact⟨i,j,rfl,by simpa[jp]using h2,by omega,by omega⟩
 have kb:∀i j:Nat,qN [.tuple [.int i,.int j]]=some (.int (i+j)):=fun i j=>aaP i j
 have hk:ab6 qN (QK u e l d)=true:=List.all_eq_true.mpr fun r hr=>by
  obtain⟨i,j,rfl,_,_⟩:=rods r hr;rw[kb];rfl
 have mem:ac3 (ZL qN) none (QK u e l d)∈QK u e l d:=by
  cases hr:QK u e l d with
  | nil=>
   exfalso;obtain⟨r,h1,h2⟩:=List.any_eq_true.mp any;have:r∈QK u e l d:=List.mem_filter.mpr ⟨h1,h2⟩;rw[hr]at this;cases this
  | cons r rs=>
   show Zq (ZL qN) r rs∈r::rs;rcases aaS (ZL qN) rs r with z | z
   ·rw[z];exact List.mem_cons_self
   ·exact List.mem_cons_of_mem _ z
 obtain⟨i,j,e1,e2,e3,e4⟩:=rods _ mem
 have g:QW [jl u e l b,.int d]=some (.tuple [.int i,.int j]):=by
  have hm:aaz qN (.list (QK u e l d))=some (.tuple [.int i,.int j]):=by
   show(if ab6 qN (QK u e l d)=true then some (ac3 (ZL qN) none (QK u e l d)) else none)=_;rw[if_pos hk,e1]
  simp[QW,jw,aeC,jL,jF,jJ,jq,jC,lkp,qz,hw,hm]
 have f:fpr (jl u e l b) d=((i:Int),(j:Int)):=by unfold fpr;rw[g]
 unfold aiq;rw[f];refine⟨g,e2,?_⟩;simp only[okP,Bool.and_eq_true,decide_eq_true_eq];exact⟨⟨⟨by omega,e3⟩,by omega⟩,e4⟩
end Rods
theorem Rods.allN_true:Rods.qT=true:=by decide +kernel
namespace Rods
open PySem L2 BX
open PyProof.Rows hiding St
theorem Ze{tc:Rho->Option Bool}{F:RO}{n:Nat}{ρ ρ':Rho}(h:tc ρ=some true)(h':F ρ=some (.nx ρ')):zf tc F (n+1) ρ=zf tc F n ρ':=by
 show(tc ρ).bind _=_;rw[h,h'];rfl
theorem abD{tc:Rho->Option Bool}{F:RO}{n:Nat}{ρ:Rho}(h:tc ρ=some false):zf tc F (n+1) ρ=some (.nx ρ):=by
 show(tc ρ).bind _=_;rw[h];rfl
theorem jt{F G:RO}{ρ ρ1:Rho}(h:F ρ=some (.nx ρ1)):jF F G ρ=G ρ1:=by
 unfold jF;rw[h];rfl
theorem qh{N:List Str}{n:Nat}{B:RO}{ds:LP}{d:PyData}(hl:ds.length=n)(h:B (jL N ds)=some (.rt d)):jw N n B ds=some d:=by
 unfold jw;rw[if_pos hl,h]
noncomputable def tcD:Rho->Option Bool:=tst (op2 (zz fun i j=>decide (i<j)) (jJ ZH (jq (lkp 3) jC)) (op2 aau (lkp 1) (cst (.int 1))))
theorem adL{b k:Int}{r n:OP}{ds:LP}(hb:0<b)(hb':b<=16)(hl:ds.length<1000):
  Zz.1 [some (.int b),r,n,some (.list ds),some (.int k)]=some (.nx [some (.int b),r,n,some (.list (.int (k % b)::ds)),some (.int (k / b))]):=by
 have m1:∀i:Int,ai4 (.int i) (.int b)=some (.int (i % b)):=fun i=>Zc hb;have m2:∀i:Int,adl (.int i) (.int b)=some (.int (i / b)):=fun i=>JW hb (by omega);have hl':ds.length<1000000:=by omega
 simp[Zz,jF,ajh,aqE,anf,op2,lkp,cst,m1,m2,noL,hl',qF,jG,brw,hid,qp]
theorem JE{b:OP}{r:Int}{n k:OP}{ds:LP}:tcD [b,some (.int r),n,some (.list ds),k]=some (decide ((ds.length:Int)<r-1)):=by
 simp[tcD,tst,op2,jJ,jq,jC,lkp,cst,ZH,aau,zz,asB]
theorem ae1{b r n:Int}{ds:LP}{k:Int}(hl:zf tcD Zz.1 10 [some (.int b),some (.int r),some (.int n),some (.list []),some (.int n)]=some (.nx [some (.int b),some (.int r),some (.int n),some (.list ds),some (.int k)]))
  (hd:ds.length<100) (hn:noLs ds=true):alr [.int b,.int r,.int n]=some (.list (.int k::ds)):=by
 have f0:few []=true:=aaf;have f1:few [PyData.int k]=true:=by rw[few];exact decide_eq_true (by show 1<1000000;decide)
 have f2:few ([PyData.int k]++ds)=true:=by
  rw[few];refine decide_eq_true ?_;rw[List.length_append,List.length_singleton];omega
 have e:anr.1 [some (.int b),some (.int r),some (.int n),none,none]=some (.rt (.list (.int k::ds))):=by
  simp only[anr];show Zv 3 (JB jC) (jF (qF (brw (some 3) (lkp 2)) (jG 4)) (jF (zf tcD Zz.1 10) (jF (qz (op2 ze (JB (jq (lkp 4) jC)) (lkp 3))) qp))) _=_
  have h2:jF (zf tcD Zz.1 10) (jF (qz (op2 ze (JB (jq (lkp 4) jC)) (lkp 3))) qp) [some (.int b),some (.int r),some (.int n),some (.list []),some (.int n)]=some (.rt (.list (.int k::ds))):=by
   unfold jF;rw[hl];simp only[zzD,qz,op2,JB,jq,jC,lkp,zzA,zzB,zzC,zzE,f1,zzM,ze,f2];rfl
  have h1:qF (brw (some 3) (lkp 2)) (jG 4) [some (.int b),some (.int r),some (.int n),some (.list []),none]=some (.nx [some (.int b),some (.int r),some (.int n),some (.list []),some (.int n)]):=rfl
  have h3:jF (qF (brw (some 3) (lkp 2)) (jG 4)) (jF (zf tcD Zz.1 10) (jF (qz (op2 ze (JB (jq (lkp 4) jC)) (lkp 3))) qp)) [some (.int b),some (.int r),some (.int n),some (.list []),none]=some (.rt (.list (.int k::ds))):=by
   rw[←h2]
   conv=>lhs;unfold jF
   rw[h1];rfl
  unfold Zv;simp only[JB,jC,zzD,f0,zzM,List.length_cons,List.length_nil];rw[if_pos (by decide)];simp only[zzF,zzG,h3,zzD]
 exact qh rfl e
theorem ae2{b n:Int}(hb:0<b)(hb':b<=16){r:Nat}(h1:1<=r)(h4:r<=4):alr [.int b,.int (r:Int),.int n]=some (.list ((dgl b r n).map .int)):=by
 have:r=1∨r=2∨r=3∨r=4:=by omega
 rcases this with e | e | e | e<;>subst e
 ·refine ae1 (ds:=[]) (k:=n) ?_ (by simp) (by simp[noLs,noL])
  rw[abD (JE.trans (by rfl))]
 ·refine ae1 (ds:=[.int (n % b)]) (k:=n / b) ?_ (by simp) (by simp[noLs,noL])
  rw[Ze (JE.trans (by rfl)) (adL hb hb' (by simp)),abD (JE.trans (by rfl))]
 ·refine ae1 (ds:=[.int (n / b % b),.int (n % b)]) (k:=n / b / b) ?_ (by simp) (by simp[noLs,noL])
  rw[Ze (JE.trans (by rfl)) (adL hb hb' (by simp)),Ze (JE.trans (by rfl)) (adL hb hb' (by simp)),abD (JE.trans (by rfl))]
 ·refine ae1 (ds:=[.int (n / b / b % b),.int (n / b % b),.int (n % b)]) (k:=n / b / b / b) ?_ (by simp) (by simp[noLs,noL])
  rw[Ze (JE.trans (by rfl)) (adL hb hb' (by simp)),Ze (JE.trans (by rfl)) (adL hb hb' (by simp)),Ze (JE.trans (by rfl)) (adL hb hb' (by simp)),abD (JE.trans (by rfl))]
theorem pw1(b:Int):b ^ 1=b:=by rw[Int.pow_succ,Int.pow_zero,Int.one_mul]
theorem aaT{b:Int}(hb:0<b):∀r:Nat,0<b ^ r
 |0=>by simp
 |r+1=>by rw[Int.pow_succ];exact Int.mul_pos (aaT hb r) hb
theorem alI{b:Int}(h0:0<b)(h:b<=16):∀r:Nat,b ^ r<=16 ^ r
 |0=>by simp
 | r+1=>by
  rw[Int.pow_succ,Int.pow_succ];exact Int.mul_le_mul (alI h0 h r) h (by omega) (Int.le_of_lt (aaT (by decide) r))
theorem alJ{b:Int}(h0:0<b)(h:b<=16){r:Nat}(hr:r<=4):b ^ r<=65536:=by
 have:r=0∨r=1∨r=2∨r=3∨r=4:=by omega
 have:=alI h0 h r;rcases ‹r=0∨_› with e | e | e | e | e<;>subst e<;>first | (exact Int.le_trans this (by decide))
theorem aag(b:Int)(k:Nat)(n:Int):dgl b (k+2) n=dgl b (k+1) (n / b)++[n % b]:=rfl
theorem abE(b:Int):∀(r:Nat) (n:Int),(dgl b r n).length=r
 |0,_=>rfl
 |1,_=>rfl
 |k+2,n=>by rw[aag,List.length_append,abE b (k+1)];rfl
theorem aaU{b n:Int}(hb:0<b){k:Nat}(h:n<b ^ (k+1)):n / b<b ^ k:=
 Int.ediv_lt_of_lt_mul hb (by rw[←Int.pow_succ];exact h)
theorem ae3{b:Int}(hb:0<b):∀(r:Nat) (n:Int),0<=n->n<b ^ r->∀d∈dgl b r n,0<=d/\d<b
 |0,n,_,_,d,hd=>by cases hd
 | 1,n,h0,h1,d,hd=>by
  rw[show dgl b 1 n=[n] from rfl,List.mem_singleton]at hd;subst hd;exact⟨h0,by rw[pw1]at h1;exact h1⟩
 | k+2,n,h0,h1,d,hd=>by
  rw[aag]at hd;rcases List.mem_append.mp hd with q | q
  ·exact ae3 hb (k+1) (n / b) (Int.ediv_nonneg h0 (by omega)) (aaU hb h1) d q
  ·rw[List.mem_singleton]at q
   subst q;exact⟨Int.emod_nonneg _ (by omega),Int.emod_lt_of_pos _ hb⟩
theorem aah{b:Int}(hb:0<b):∀(k:Nat) (n:Int),0<=n->∃x r,dgl b (k+1) n=x::r/\(n<b ^ (k+1)->x<b)/\(b ^ (k+1)<=n->b<=x)
 |0,n,h0=>⟨n,[],rfl,fun h=>by rw[Nat.zero_add,pw1]at h;exact h,fun h=>by rw[Nat.zero_add,pw1]at h;exact h⟩
 | k+1,n,h0=>by
  obtain⟨x,r,e,h1,h2⟩:=aah hb k (n / b) (Int.ediv_nonneg h0 (by omega));refine⟨x,r++[n % b],?_,fun h=>h1 (aaU hb h),fun h=>h2 ?_⟩
  ·rw[aag,e];rfl
  ·refine Int.le_ediv_of_mul_le hb ?_
   rw[←Int.pow_succ];exact h
theorem aai(b e:Int)(ps:List (Int×Int))(p:Int×Int):val b e (ps++[p])=val b e ps*b+wt e p:=by simp[val]
section
variable {u e l b:Int}
theorem air(H:qT=true)(h:okN u e l b=true):∀(r:Nat) (n:Int),1<=r->0<=n->n<b ^ r->val b e (pln (jl u e l b) b r n)=n
 |0,n,h1,_,_=>by omega
 | 1,n,_,h0,hn=>by
  have:=(Zd H h h0 (show n<b by rw[pw1]at hn;exact hn)).2.1;show 0*b+wt e (fpr (jl u e l b) n)=n;rw[this];omega
 | k+2,n,_,h0,hn=>by
  obtain⟨a1,a2,a3,a4,a5,a6,a7,a8,a9,a10⟩:=jH h;have hb:0<b:=by omega
  have ih:=air H h (k+1) (n / b) (by omega) (Int.ediv_nonneg h0 (by omega)) (aaU hb hn);have hd:=(Zd H h (d:=n % b) (Int.emod_nonneg _ (by omega)) (Int.emod_lt_of_pos _ hb)).2.1;unfold pln at ih ⊢;rw[aag,List.map_append,List.map_singleton,aai,ih,hd,Int.mul_comm];exact Int.mul_ediv_add_emod n b
theorem ais(m:PyData)(b:Int)(r:Nat)(n:Int):(pln m b r n).length=r:=by rw[pln,List.length_map,abE]
theorem apy(H:qT=true)(h:okN u e l b=true){r:Nat}{n:Int}(h1:1<=r)(h4:r<=4)(h0:0<=n)(hn:n<b ^ r):okS u l (pln (jl u e l b) b r n)=true:=by
 obtain⟨a1,a2,a3,a4,a5,a6,a7,a8,a9,a10⟩:=jH h;simp only[okS,Bool.and_eq_true,decide_eq_true_eq,ais];refine⟨⟨h1,h4⟩,List.all_eq_true.mpr fun p hp=>?_⟩;obtain⟨d,hd,rfl⟩:=List.mem_map.mp hp;obtain⟨d0,d1⟩:=ae3 (show 0<b by omega) r n h0 hn d hd;exact(Zd H h d0 d1).2.2
theorem qq{u l:Int}{p:Int×Int}(h:okP u l p=true):0<=p.1/\p.1<=u/\0<=p.2/\p.2<=l:=by
 simp only[okP,Bool.and_eq_true,decide_eq_true_eq]at h;exact⟨h.1.1.1,h.1.1.2,h.1.2,h.2⟩
theorem adM{e u l:Int}(he:1<=e){p:Int×Int}(h:okP u l p=true):0<=wt e p:=by
 obtain⟨h1,h2,h3,h4⟩:=qq h;have:=Int.mul_nonneg h1 (show 0<=e by omega);unfold wt;omega
theorem alK{e u l:Int}(he:1<=e)(he5:e<=5)(hu:u<=3)(hl:l<=11){p:Int×Int}(h:okP u l p=true):wt e p<=26:=by
 obtain⟨h1,h2,h3,h4⟩:=qq h;have:p.1*e<=3*5:=Int.mul_le_mul (by omega) he5 (by omega) (by omega);unfold wt;omega
theorem ait{b e u l:Int}(h2:2<=b)(hb:b<=16)(he:1<=e)(he5:e<=5)(hu:u<=3)(hl:l<=11):∀(ps:List (Int×Int)) (acc:Int),ps.all (okP u l)=true->0<=acc->0<=ps.foldl (fun n p=>n*b+wt e p) acc/\ps.foldl (fun n p=>n*b+wt e p) acc+30<=(acc+30)*16 ^ ps.length
 | [],acc,_,h=>⟨h,by simp⟩
 | p::ps,acc,hp,h=>by
  rw[List.all_cons,Bool.and_eq_true]at hp;have w0:=adM he hp.1;have w1:=alK he he5 hu hl hp.1;have ha:0<=acc*b:=Int.mul_nonneg h (by omega);have hb2:acc*b<=acc*16:=Int.mul_le_mul_of_nonneg_left hb h;obtain⟨h1,h3⟩:=ait h2 hb he he5 hu hl ps (acc*b+wt e p) hp.2 (by omega);refine⟨h1,Int.le_trans h3 ?_⟩;rw[List.length_cons,Int.pow_succ,Int.mul_comm (16 ^ ps.length) 16,←Int.mul_assoc];refine Int.mul_le_mul_of_nonneg_right ?_ (Int.le_of_lt (aaT (by decide) _));omega
theorem ahq(h:okN u e l b=true){ps:List (Int×Int)}(hp:ps.all (okP u l)=true):0<=val b e ps:=by
 obtain⟨a1,a2,a3,a4,a5,a6,a7,a8,a9,a10⟩:=jH h;exact(ait a8 a9 a3 a4 a2 a7 ps 0 hp (by omega)).1
end
theorem zR{ds:LP}(h:ds.length<10000):few ds=true:=by
 rw[few];refine decide_eq_true ?_;omega
theorem alL{u e l b:Int}(H:qT=true)(h:okN u e l b=true):qW [jl u e l b]=some (.bool true):=by
 obtain⟨a1,a2,a3,a4,a5,a6,a7,a8,a9,a10⟩:=jH h;rw[aeZ a1 a2 a3 (by omega) (by omega) (by omega) a8 a9,acL a1 (by omega) (by omega) (by omega) (by omega) (by omega)]
 congr 2
 refine List.all_eq_true.mpr fun d hd=>?_;have:=alH H h (n:=(d:Int)) (by omega) (by have:=List.mem_range.mp hd;omega);simpa[List.any_map,Function.comp_def]using this
theorem za{u l:Int}{ps:List (Int×Int)}(h:okS u l ps=true):1<=ps.length/\ps.length<=4/\ps.all (okP u l)=true:=by
 simp only[okS,Bool.and_eq_true,decide_eq_true_eq]at h;exact⟨h.1.1,h.1.2,h.2⟩
theorem aaV{u l:Int}{ps:List (Int×Int)}(h1:1<=ps.length)(h2:ps.length<=4)(h3:ps.all (okP u l)=true):okS u l ps=true:=by
 simp only[okS,Bool.and_eq_true,decide_eq_true_eq];exact⟨⟨h1,h2⟩,h3⟩
section
variable {u e l b:Int}{ps qs:List (Int×Int)}
theorem af5(h:okN u e l b=true){S:PyData}:∀(qs:List (Int×Int)) (acc:Int) (x:OP),qs.all (okP u l)=true->0<=acc->(acc+30)*16 ^ qs.length<=1000000000->
  ∃y,jN (jG 3) aeE.1 (qs.map pr) [some (jl u e l b),some S,some (.int acc),x]=some (.nx [some (jl u e l b),some S,some (.int (qs.foldl (fun n p=>n*b+wt e p) acc)),y])
 | [],acc,x,_,_,_=>⟨x,rfl⟩
 | q::qs,acc,x,hq,h0,hB=>by
  obtain⟨a1,a2,a3,a4,a5,a6,a7,a8,a9,a10⟩:=jH h;rw[List.all_cons,Bool.and_eq_true]at hq;obtain⟨q1,q2,q3,q4⟩:=qq hq.1;have w0:=adM a3 hq.1;have w1:=alK a3 a4 a2 a7 hq.1;have hp:=aaT (b:=16) (by decide) qs.length;rw[List.length_cons,Int.pow_succ,Int.mul_comm (16 ^ qs.length) 16,←Int.mul_assoc]at hB;have ha:0<=acc*b:=Int.mul_nonneg h0 (by omega);have hb2:acc*b<=acc*16:=Int.mul_le_mul_of_nonneg_left a9 h0;have hB':(acc*b+wt e q+30)*16 ^ qs.length<=1000000000:=Int.le_trans (Int.mul_le_mul_of_nonneg_right (by omega) (Int.le_of_lt hp)) hB
  have hacc:acc<=1000000000:=by
   have h1:(acc+30)*16*1<=(acc+30)*16*16 ^ qs.length:=Int.mul_le_mul_of_nonneg_left (by omega) (by omega);omega
  have m1:JI (.int acc) (.int b)=some (.int (acc*b)):=jY ⟨by omega,by omega⟩;have w':qC [jl u e l b,pr q]=some (.int (wt e q)):=aae u e l b q.1 q.2 (by omega)
  have step:aeE.1 [some (jl u e l b),some S,some (.int acc),some (pr q)]=some (.nx [some (jl u e l b),some S,some (.int (acc*b+wt e q)),some (pr q)]):=by
   simp only[aeE,jF,qF,op2,jJ,jq,jC,lkp,cst,jG,zzA,zzB,zzC,zzD,zzE,ix3,m1,w',add_int,zzF,zzG,qp]
  obtain⟨y,hy⟩:=af5 h (S:=S) qs (acc*b+wt e q) (some (pr q)) hq.2 (by omega) hB';refine⟨y,?_⟩;rw[List.map_cons];simp only[jN,jG,zzD,zzF,zzG,step];exact hy
theorem ae4(h:okN u e l b=true)(h4:ps.length<=4)(hp:ps.all (okP u l)=true):ajv [jl u e l b,jy ps]=some (.int (val b e ps)):=by
 have hB:(0+30:Int)*16 ^ ps.length<=1000000000:=by
  have:=alJ (b:=16) (by decide) (by decide) h4;omega
 obtain⟨y,hy⟩:=af5 h (S:=jy ps) ps 0 none hp (by omega) hB;refine qh rfl ?_;show ano.1 [some (jl u e l b),some (jy ps),none,none]=_;simp only[ano];refine(jt (ρ1:=[some (jl u e l b),some (jy ps),some (.int 0),none]) ?_).trans ?_
 ·simp only[qF,cst,jG,zzD,zzE,zzF,zzG]
 refine(jt (ρ1:=[some (jl u e l b),some (jy ps),some (.int (val b e ps)),y]) ?_).trans ?_
 ·show(itT (lkp 1) _).bind _=_
  rw[show itT (lkp 1) [some (jl u e l b),some (jy ps),some (.int 0),none]=some (ps.map pr) from rfl];exact hy
 rfl
theorem ajA{p:Int×Int}(hp:okP u l p=true):aeM [jl u e l b,pr p]=some (.bool true):=by
 obtain⟨q1,q2,q3,q4⟩:=qq hp;have w1:j7 [.int p.1,.int 0,.int u]=some (.bool true):=by rw[j4];simp[q1,q2]
 have w2:j7 [.int p.2,.int 0,.int l]=some (.bool true):=by rw[j4];simp[q3,q4]
 simp[aeM,jw,ahj,jL,jF,ifS,orB,J9,tst,aay,tyn,asB,lkp,op2,jJ,jq,jC,ZH,cst,dNe,Zb,abC,qp,qz,ag4,pr,jl,dIx,atI,ixN,w1,w2]
theorem ajB(H:qT=true)(h:okN u e l b=true)(hs:okS u l ps=true):ahk [jl u e l b,jy ps]=some (.bool true):=by
 obtain⟨h1,h4,hp⟩:=za hs;have g0:=JV (alL H h);have hf:few (ps.map pr)=true:=zR (by rw[List.length_map];omega)
 have c1:zz (fun i j=>decide (i<=j)) (.int 1) (.int ((ps.map pr).length:Int))=some (.bool true):=by
  show some (PyData.bool (decide ((1:Int)<=((ps.map pr).length:Int))))=_;rw[decide_eq_true (by rw[List.length_map];omega)]
 have c2:zz (fun i j=>decide (i<=j)) (.int ((ps.map pr).length:Int)) (.int 4)=some (.bool true):=by
  show some (PyData.bool (decide (((ps.map pr).length:Int)<=4)))=_;rw[decide_eq_true (by rw[List.length_map];omega)]
 refine qh rfl ?_;show aeN.1 [some (jl u e l b),some (jy ps)]=_;simp only[aeN];refine(jt (ρ1:=[some (jl u e l b),some (jy ps)]) ?_).trans ?_
 ·simp only[Zk,jJ,jq,jC,lkp,zzA,zzB,zzC,zzD,zzE,g0]
 refine(jt (ρ1:=[some (jl u e l b),some (jy ps)]) ?_).trans ?_
 ·simp[ifS,orB,J9,tst,aay,tyn,asB,lkp,jy,chn,jJ,jq,jC,ZH,cst,qp]
  simp[List.length_map]at c1 c2;simp[c1,c2];rfl
 simp only[jF,qz,jJ,jq,jC,JH,itT,lkp,jy,aas,zzA,zzB,zzC,zzD,zzE,hf,zzM,ZG,List.map_cons,List.map_nil,zzH];rw[JK (fun _=> .bool true)]
 ·have:bls ((ps.map pr).map fun _=>PyData.bool true)=some ((ps.map pr).map fun _=>true):=aeY (fun _=>true) _
  simp only[zzE,zzD,am2,this];simp
 ·intro d hd
  obtain⟨p,hp',rfl⟩:=List.mem_map.mp hd;simp[jJ,jq,jC,lkp,ajA (e:=e) (b:=b) (List.all_eq_true.mp hp p hp')]
theorem af6(H:qT=true)(h:okN u e l b=true)(hs:okS u l ps=true):aaa [jl u e l b,jy ps]=some .none:=by
 have g:=ajB H h hs;simp[aaa,jw,aeO,jL,jF,ifS,J9,tst,asB,jJ,jq,jC,lkp,g,qp]
theorem zq(H:qT=true)(h:okN u e l b=true)(hs:okS u l ps=true):qU [jl u e l b,jy ps]=some (.int (val b e ps)):=by
 obtain⟨h1,h4,hp⟩:=za hs;have g:=af6 H h hs;have g2:=ae4 h h4 hp;simp[qU,jw,ahl,jL,jF,Zk,qz,jJ,jq,jC,lkp,g,g2,qp]
theorem ahr(ns:List Int):qD (ns.map PyData.int)=some ns:=by simpa using ZA (fun i:Int=>i) ns
theorem abF(H:qT=true)(h:okN u e l b=true)(hs:okS u l ps=true):qx [jl u e l b,jy ps]=some (.int (bds ps)):=by
 obtain⟨h1,h4,hp⟩:=za hs;have g:=af6 H h hs;have hf:few (ps.map pr)=true:=zR (by rw[List.length_map];omega);refine qh rfl ?_;show Q7.1 [some (jl u e l b),some (jy ps)]=_;simp only[Q7];refine(jt (ρ1:=[some (jl u e l b),some (jy ps)]) ?_).trans ?_
 ·simp only[Zk,jJ,jq,jC,lkp,zzA,zzB,zzC,zzD,zzE,g]
 simp only[jF,qz,jJ,jq,jC,JH,itT,lkp,jy,aas,zzA,zzB,zzC,zzD,zzE,hf,zzM,ZG,List.map_cons,List.map_nil,zzH];rw[JK (fun d=> .int (((unP d).map fun p=>p.1+p.2).getD 0))]
 ·have:(ps.map pr).map (fun d=>PyData.int (((unP d).map fun p=>p.1+p.2).getD 0))=(ps.map fun p=>p.1+p.2).map PyData.int:=by
   rw[List.map_map,List.map_map];refine List.map_congr_left fun p _=>?_;rfl
  simp only[zzE,zzD,this,ao7,ahr,bds]
 ·intro d hd
  obtain⟨p,hp',rfl⟩:=List.mem_map.mp hd;have:=aaP p.1 p.2;simp[jJ,jq,jC,lkp,pr,unP,this]
end
theorem af7{n:Int}(h0:0<=n)(h1:n<=99999):Ju [.int n]=some .none:=by
 have w:j7 [.int n,.int 0,.int 99999]=some (.bool true):=by rw[j4];simp[h0,h1]
 simp[Ju,jw,abq,jL,jF,ifS,J9,tst,asB,jJ,jq,jC,lkp,cst,w,qp]
theorem acM{n:Int}(h0:1<=n)(h1:n<=4):qH [.int n]=some .none:=by
 have w:j7 [.int n,.int 1,.int 4]=some (.bool true):=by rw[j4];simp[h0,h1]
 simp[qH,jw,Z4,jL,jF,ifS,J9,tst,asB,jJ,jq,jC,lkp,cst,w,qp]
section
variable {u e l b:Int}{ps qs:List (Int×Int)}
theorem abG(i j:Int):dEq (.int i) (.int j)=some (.bool (decide (i=j))):=by
 have:(i==j)=decide (i=j):=rfl;simp only[dEq,Zb,abC,and_self,zzM,this]
theorem alM{b:Int}{r:Nat}{n x:Int}{xs:List Int}(h4:r<=4)(hx:dgl b r n=x::xs):dIx (.list ((dgl b r n).map .int)) (.int 0)=some (.int x):=by
 have hl:=abE b r n;have hlt:((dgl b r n).map PyData.int).length<1000000:=by rw[List.length_map,hl];omega
 show(if ((dgl b r n).map PyData.int).length<1000000 then atI ((dgl b r n).map PyData.int) 0 else none)=_;rw[if_pos hlt,hx];simp[atI,ixN]
theorem ahs(H:qT=true)(h:okN u e l b=true){r:Nat}{n:Int}(h1:1<=r)(h4:r<=4)(h0:0<=n)(hn:n<b ^ r):abr [jl u e l b,.int (r:Int),.int n]=some (jy (pln (jl u e l b) b r n)):=by
 obtain⟨a1,a2,a3,a4,a5,a6,a7,a8,a9,a10⟩:=jH h;have hb:0<b:=by omega
 have hd:=ae2 (n:=n) hb a9 h1 h4;have hg:=ae3 hb r n h0 hn;have hl:=abE b r n;obtain⟨k,rfl⟩:∃k,r=k+1:=⟨r-1,by omega⟩;obtain⟨x,xs,hx,hx1,_⟩:=aah hb k n h0;have hi:=alM h4 hx
 have hc:zz (fun i j=>decide (j<=i)) (.int x) (.int b)=some (.bool false):=by
  show some (PyData.bool (decide (b<=x)))=_;rw[decide_eq_false (by have:=hx1 hn;omega)]
 have hf:few ((dgl b (k+1) n).map .int)=true:=zR (by rw[List.length_map,hl];omega);generalize hr:((k+1:Nat):Int)=rr at hd ⊢;refine qh rfl ?_;show Q6.1 [some (jl u e l b),some (.int rr),some (.int n),none]=_;simp only[Q6];refine(jt (ρ1:=[some (jl u e l b),some (.int rr),some (.int n),some (.list ((dgl b (k+1) n).map .int))]) ?_).trans ?_
 ·simp only[qF,jJ,jq,jC,op2,lkp,cst,jG,zzA,zzB,zzC,zzD,zzE,ix3,hd,zzF,zzG]
 refine(jt (ρ1:=[some (jl u e l b),some (.int rr),some (.int n),some (.list ((dgl b (k+1) n).map .int))]) ?_).trans ?_
 ·simp only[ifS,tst,op2,lkp,cst,zzA,zzB,zzC,zzD,hi,ix3,hc,asB,zzL,zzN,qp]
 simp only[jF,qz,jJ,jq,jC,JH,itL,lkp,JC,zzA,zzB,zzC,zzD,zzE,hf,zzM,ZG,List.map_cons,List.map_nil,zzH];rw[JK (fun d=>aiq (jl u e l b) ((Qb d).getD 0))]
 ·simp[ag7,jy,pln,aiq,Qb,Function.comp_def]
 ·intro d hd
  obtain⟨i,hi,rfl⟩:=List.mem_map.mp hd;simp[jJ,jq,jC,lkp,Qb,(Zd H h (hg i hi).1 (hg i hi).2).1]
theorem aht(H:qT=true)(h:okN u e l b=true){r:Nat}{n:Int}(h1:1<=r)(h4:r<=4)(h0:0<=n)(hn:n<b ^ r):Ql [jl u e l b,.int (r:Int),.int n]=some (jy (pln (jl u e l b) b r n)):=by
 obtain⟨a1,a2,a3,a4,a5,a6,a7,a8,a9,a10⟩:=jH h;have hle:=alJ (show 0<b by omega) a9 h4;have g1:=JV (alL H h);have g2:qH [.int (r:Int)]=some .none:=acM (by omega) (by omega);have g3:Ju [.int n]=some .none:=af7 h0 (by omega)
 have g4:zJ [jl u e l b,.int (r:Int),.int n]=some .none:=by
  simp[zJ,jw,aeF,jL,jF,Zk,jJ,jq,jC,lkp,g1,g2,g3,qp]
 have g5:=ahs H h h1 h4 h0 hn;simp[Ql,jw,Z9,jL,jF,Zk,qz,jJ,jq,jC,lkp,g4,g5,qp]
theorem af8(ps:List (Int×Int)):ZH [jy ps]=some (.int (ps.length:Int)):=by
 show some (PyData.int ((ps.map pr).length:Int))=_;rw[List.length_map]
theorem apz(p q:Int×Int):PyData.eqv (pr p) (pr q)=decide (p=q):=by
 obtain⟨a,b⟩:=p;obtain⟨c,d⟩:=q;simp only[pr,PyData.eqv,PyData.eqvAll,Prod.mk.injEq,Bool.and_true,Bool.decide_and];rfl
theorem adN:∀(ps qs:List (Int×Int)),PyData.eqvAll (ps.map pr) (qs.map pr)=decide (ps=qs)
 | [],[]=>by simp[PyData.eqvAll]
 | [],q::qs=>by simp[PyData.eqvAll]
 |p::ps,[]=>by simp[PyData.eqvAll]
 |p::ps,q::qs=>by simp[PyData.eqvAll,apz,adN ps qs]
theorem alN(ps qs:List (Int×Int)):PyData.eqv (jy ps) (jy qs)=decide (ps=qs):=by
 unfold jy PyData.eqv;exact adN ps qs
theorem alO(ps:List (Int×Int)):okD (jy ps)=true:=by
 have h1:∀ps:List (Int×Int),PyData.canLayAll0 (ps.map pr)=true:=fun ps=>by
  induction ps with
  |nil=>rfl
  |cons p ps ih=>simp[PyData.canLayAll0,PyData.canLay0,pr,ih]
 have h2:∀ps:List (Int×Int),PyData.depthAll (ps.map pr)<=1:=fun ps=>by
  induction ps with
  |nil=>simp[PyData.depthAll]
  |cons p ps ih=>simp[PyData.depthAll,PyData.depth,pr]at ih ⊢;omega
 have:=h2 ps;simp[okD,jy,PyData.canLay0,h1,PyData.depth];omega
end
theorem aok{α:Type}(x:α):∀n:Nat,(List.replicate n [x]).flatten=List.replicate n x
 |0=>rfl
 |n+1=>by rw[List.replicate_succ,List.flatten_cons,aok x n,List.replicate_succ];rfl
noncomputable def jO(u e l b:Int)(a:Nat):Int:=val b e (List.replicate a (u,l))
theorem QL{u e l b:Int}(h:okN u e l b=true)(a:Nat):(List.replicate a (u,l)).all (okP u l)=true:=by
 obtain⟨a1,a2,a3,a4,a5,a6,a7,a8,a9,a10⟩:=jH h;refine List.all_eq_true.mpr fun p hp=>?_;rw[(List.mem_replicate.mp hp).2];simp only[okP,Bool.and_eq_true,decide_eq_true_eq];exact⟨⟨⟨a1,Int.le_refl _⟩,by omega⟩,Int.le_refl _⟩
theorem af9{u e l b:Int}(a:Nat)(ha:a<4):aik [jl u e l b,.int (a:Int)]=some (jy (List.replicate a (u,l))):=by
 refine qh rfl ?_;have f1:few [pr (u,l)]=true:=zR (by simp);have f2:few [PyData.int u,.int l]=true:=zR (by simp)
 have rp:afF (.tuple [.tuple [.int u,.int l]]) (.int (a:Int))=some (jy (List.replicate a (u,l))):=by
  show(if 0<[pr (u,l)].length/\[pr (u,l)].length<1000/\-1000<(a:Int)/\(a:Int)<1000 then some (PyData.tuple (List.replicate (a:Int).toNat [pr (u,l)]).flatten) else none)=_;rw[if_pos ⟨by simp,by simp,by omega,by omega⟩,aok];simp[jy]
 have f1':few [PyData.tuple [.int u,.int l]]=true:=f1;generalize (a:Int)=aa at*;show aij.1 [some (jl u e l b),some (.int aa)]=_;simp only[aij,jF,qz,op2,Qu,jq,jC,lkp,cst,zzA,zzB,zzC,zzD,zzE,ix0,ix2,f1',f2,zzM,rp]
noncomputable def qO(e n:Int)(r:PyData):Int:=n-jp e r
noncomputable def okL(e b m n:Int)(r:PyData):Bool:=decide (qO e n r % b=0)&&(decide (0<=qO e n r)&&decide (qO e n r<=b*m))
noncomputable def abd(e b n:Int)(r:PyData):PyData:= .tuple [r,.int (qO e n r / b)]
theorem anB{u e l b m n:Int}(hu':u<100)(hb:0<b)(hb':b<100){A x7:OP}{ds:LP}(hds:ds.length<1000000){R:PyData}(nR:noL R=true){L:Int}:tst (op2 dEq (op2 ai4 (lkp 7) (lkp 3)) (cst (.int 0))) [some (jl u e l b),A,some (.int n),some (.int b),some (.int m),some (.list ds),some R,some (.int L)]=some (decide (L % b=0)):=by
 have mb:JI (.int b) (.int m)=some (.int (b*m)):=jY (by omega);have md:=fun x=>Zc (i:=x) hb;have fd:=fun x=>JW (i:=x) hb (by omega);have sb:∀x y:Int,aau (.int x) (.int y)=some (.int (x-y)):=fun _ _=>rfl;have le:∀x y:Int,zz (fun i j=>decide (i<=j)) (.int x) (.int y)=some (.bool (decide (x<=y))):=fun _ _=>rfl;simp only[tst,op2,lkp,cst,zzA,zzB,zzC,zzD,md,abG,asB]
theorem anC{u e l b m n:Int}(hu':u<100)(hb:0<b)(hb':b<100){A x7:OP}{ds:LP}(hds:ds.length<1000000){R:PyData}(nR:noL R=true){L:Int}:tst (chn (zz fun i j=>decide (i<=j)) (zz fun i j=>decide (i<=j)) (cst (.int 0)) (lkp 7) (op2 JI (lkp 3) (lkp 4))) [some (jl u e l b),A,some (.int n),some (.int b),some (.int m),some (.list ds),some R,some (.int L)]=some (decide (0<=L)&&decide (L<=b*m)):=by
 have mb:JI (.int b) (.int m)=some (.int (b*m)):=jY (by omega);have md:=fun x=>Zc (i:=x) hb;have fd:=fun x=>JW (i:=x) hb (by omega);have sb:∀x y:Int,aau (.int x) (.int y)=some (.int (x-y)):=fun _ _=>rfl;have le:∀x y:Int,zz (fun i j=>decide (i<=j)) (.int x) (.int y)=some (.bool (decide (x<=y))):=fun _ _=>rfl;simp only[tst,chn,op2,lkp,cst,zzA,zzB,zzC,zzD,le,mb,asB];by_cases c2:0<=L
 ·simp[c2,asB]
 ·simp[c2,asB]
theorem anD{u e l b m n:Int}(hu':u<100)(hb:0<b)(hb':b<100){A x7:OP}{ds:LP}(hds:ds.length<1000000){R:PyData}(nR:noL R=true){L:Int}:ajh 5 (apg 5 (Qu (jq (lkp 6) (jq (op2 adl (lkp 7) (lkp 3)) jC)))) [some (jl u e l b),A,some (.int n),some (.int b),some (.int m),some (.list ds),some R,some (.int L)]=some (.nx [some (jl u e l b),A,some (.int n),some (.int b),some (.int m),some (.list (ds++[.tuple [R,.int (L / b)]])),some R,some (.int L)]):=by
 have mb:JI (.int b) (.int m)=some (.int (b*m)):=jY (by omega);have md:=fun x=>Zc (i:=x) hb;have fd:=fun x=>JW (i:=x) hb (by omega);have sb:∀x y:Int,aau (.int x) (.int y)=some (.int (x-y)):=fun _ _=>rfl;have le:∀x y:Int,zz (fun i j=>decide (i<=j)) (.int x) (.int y)=some (.bool (decide (x<=y))):=fun _ _=>rfl;have hn:noL (.tuple [R,.int (L / b)])=true:=by simp[noL,noLs,nR]
 have hf2:few [R,PyData.int (L / b)]=true:=by simp[few]
 simp only[ajh,apg,Qu,jq,jC,op2,lkp,zzA,zzB,zzC,zzD,zzE,fd,hf2,zzM,anb,hn,hds,and_self,zzF,zzG]
theorem ahu{u e l b m n:Int}(hu':u<100)(hb:0<b)(hb':b<100){A x7:OP}{ds:LP}(hds:ds.length<1000000){R:PyData}(nR:noL R=true){L:Int}(hL':n-jp e R=L)(hw:qC [jl u e l b,R]=some (.int (jp e R))):
  QZ.1 [some (jl u e l b),A,some (.int n),some (.int b),some (.int m),some (.list ds),some R,x7]=
   some (.nx [some (jl u e l b),A,some (.int n),some (.int b),some (.int m),some (.list (ds++if (decide (L % b=0)&&(decide (0<=L)&&decide (L<=b*m)))=true then [.tuple [R,.int (L / b)]] else [])),some R,some (.int L)]):=by
 have sb:∀x y:Int,aau (.int x) (.int y)=some (.int (x-y)):=fun _ _=>rfl;simp only[QZ];refine(jt (ρ1:=[some (jl u e l b),A,some (.int n),some (.int b),some (.int m),some (.list ds),some R,some (.int L)]) ?_).trans ?_
 ·simp only[qF,brw,hid,op2,lkp,jJ,jq,jC,zzF,zzG,zzA,zzB,zzC,zzD,zzE,hw,sb,jG,hL']
 ·have q1:=anB (u:=u) (e:=e) (l:=l) (m:=m) (n:=n) hu' hb hb' (A:=A) (x7:=x7) hds nR (L:=L)
  have q2:=anC (u:=u) (e:=e) (l:=l) (m:=m) (n:=n) hu' hb hb' (A:=A) (x7:=x7) hds nR (L:=L);have q3:=anD (u:=u) (e:=e) (l:=l) (m:=m) (n:=n) hu' hb hb' (A:=A) (x7:=x7) hds nR (L:=L);cases c1:decide (L % b=0)with
  |false=>simp only[jF,ifS,ac0,q1,c1,zzD,zzL,zzN,qp,Bool.false_and,List.append_nil]
  | true=>
   cases c2:(decide (0<=L)&&decide (L<=b*m))with
   |false=>simp only[jF,ifS,ac0,q1,q2,c1,c2,zzD,zzM,zzL,zzN,qp,Bool.and_false,List.append_nil]
   |true=>simp only[jF,ifS,ac0,q1,q2,q3,c1,c2,zzD,zzM,qp,Bool.and_self]
theorem ajC{u e l b m n:Int}(hu':u<100)(hb:0<b)(hb':b<100){A x7:OP}{ds:LP}(hds:ds.length<1000000){r:PyData}(hr:r∈jz u l):
  QZ.1 [some (jl u e l b),A,some (.int n),some (.int b),some (.int m),some (.list ds),some r,x7]=
   some (.nx [some (jl u e l b),A,some (.int n),some (.int b),some (.int m),some (.list (ds++if okL e b m n r=true then [abd e b n r] else [])),some r,some (.int (qO e n r))]):=by
 have hw:=aaR (e:=e) (b:=b) hu' hr;have nR:noL r=true:=by obtain⟨i,j,_,_,rfl⟩:=aaQ hr;simp[noL,noLs]
 exact ahu hu' hb hb' hds nR rfl hw
theorem adO{u e l b m n:Int}(hu':u<100)(hb:0<b)(hb':b<100){A:OP}:∀(rs ds:LP) (x6 x7:OP),(∀r∈rs,r∈jz u l)->ds.length+rs.length<1000000->
  ∃y6 y7,jN (jG 6) QZ.1 rs [some (jl u e l b),A,some (.int n),some (.int b),some (.int m),some (.list ds),x6,x7]=
   some (.nx [some (jl u e l b),A,some (.int n),some (.int b),some (.int m),some (.list (ds++(rs.filter (okL e b m n)).map (abd e b n))),y6,y7])
 | [],ds,x6,x7,_,_=>⟨x6,x7,by simp[jN]⟩
 | r::rs,ds,x6,x7,h,hl=>by
  have hl':ds.length+(rs.length+1)<1000000:=hl;have s:=ajC (l:=l) (e:=e) (m:=m) (n:=n) hu' hb hb' (A:=A) (x7:=x7) (ds:=ds) (by omega) (h r List.mem_cons_self);obtain⟨y6,y7,ih⟩:=adO (l:=l) (e:=e) (m:=m) (n:=n) hu' hb hb' (A:=A) rs (ds++if okL e b m n r=true then [abd e b n r] else []) (some r) (some (.int (qO e n r))) (fun x hx=>h x (List.mem_cons_of_mem _ hx)) (by split<;>simp<;>omega);refine⟨y6,y7,?_⟩;rw[jN];simp only[jG,zzF,zzG,zzD,s,ih];by_cases c:okL e b m n r=true
  ·simp[c,List.filter_cons]
  ·simp[c,List.filter_cons]
theorem aga{u e l b n:Int}(h:okN u e l b=true)(a:Nat)(ha:a<4):
  adH [jl u e l b,.int (a:Int),.int n]=some (.list (((jz u l).filter (okL e b (jO u e l b a) n)).map (abd e b n))):=by
 obtain⟨a1,a2,a3,a4,a5,a6,a7,a8,a9,a10⟩:=jH h;have hu:0<=u:=a1;have hu':u<100:=by omega
 have hl:0<=l:=by omega
 have hl':l<100:=by omega
 have hb:0<b:=by omega
 have hb':b<100:=by omega
 refine qh rfl ?_;have h1:=af9 (u:=u) (e:=e) (l:=l) (b:=b) a ha;have h2:ajv [jl u e l b,jy (List.replicate a (u,l))]=some (.int (jO u e l b a)):=ae4 h (by rw[List.length_replicate];omega) (QL h a);have h3:=QJ (e:=e) (b:=b) hu hu' hl hl';have hf:=acK (u:=u) (l:=l) hu' hl';have hlen:(jz u l).length<1000000:=by simpa[few]using hf
 obtain⟨y6,y7,lp⟩:=adO (u:=u) (l:=l) (e:=e) (m:=jO u e l b a) (n:=n) hu' hb hb' (A:=some (.int (a:Int))) (jz u l) [] none none (fun _ h=>h) (by simpa using hlen);show aim.1 [some (jl u e l b),some (.int (a:Int)),some (.int n),none,none,none,none,none]=_;simp only[aim];refine(jt (ρ1:=[some (jl u e l b),some (.int (a:Int)),some (.int n),some (.int b),none,none,none,none]) ?_).trans ?_
 ·simp only[qF,op2,lkp,cst,jG,zzA,zzC,zzD,zzE,ix3,zzF,zzG]
 refine(jt (ρ1:=[some (jl u e l b),some (.int (a:Int)),some (.int n),some (.int b),some (.int (jO u e l b a)),none,none,none]) ?_).trans ?_
 ·simp only[qF,jJ,jq,jC,lkp,jG,zzA,zzB,zzC,zzD,zzE,h1,h2,zzF,zzG]
 have f0:few ([]:LP)=true:=aaf;simp only[Zv,JB,jC,f0,zzD,zzM,List.length_cons,List.length_nil,Nat.lt_add_one,zzF,zzG]
 have q:jF (Je (fun ρ=>itL (jJ zi (jq (lkp 0) jC)) (hid (some 5) ρ)) (jG 6) QZ.1) (jF (qz (lkp 5)) qp) [some (jl u e l b),some (.int (a:Int)),some (.int n),some (.int b),some (.int (jO u e l b a)),some (.list []),none,none]=
   some (.rt (.list (((jz u l).filter (okL e b (jO u e l b a) n)).map (abd e b n)))):=by
  refine(jt (ρ1:=[some (jl u e l b),some (.int (a:Int)),some (.int n),some (.int b),some (.int (jO u e l b a)),some (.list ([]++((jz u l).filter (okL e b (jO u e l b a) n)).map (abd e b n))),y6,y7]) ?_).trans ?_
  ·simp only[Je,itL,JC,jJ,jq,jC,lkp,hid,zzF,zzG,zzA,zzC,zzD,zzE,h3,lp]
  ·simp only[jF,qz,lkp,zzA,zzB,zzC,zzE,zzD,List.nil_append]
 rw[if_pos (by decide),q];rfl
noncomputable abbrev KI:=List (Int×Int)
noncomputable def enc(kv:KI):List (PyData×PyData):=kv.map fun p=>(.int p.1,.int p.2)
noncomputable def dI(kv:KI):PyData:= .dict ((.none,.none)::enc kv)
noncomputable def j5(kv:KI)(k:Int):Option Int:=(kv.find? fun p=>decide (p.1=k)).map (·.2)
noncomputable def qu(kv:KI)(k:Int):Int:=(j5 kv k).getD 0
noncomputable def aaj(kv:KI)(k v:Int):KI:=if kv.any (fun p=>decide (p.1=k))=true then kv.map (fun p=>if p.1=k then (p.1,v) else p) else kv++[(k,v)]
theorem QM(kv:KI)(k:Int):zg (enc kv) k=(j5 kv k).map .int:=by
 induction kv with
 |nil=>rfl
 | cons p kv ih=>
  by_cases h:p.1=k
  ·simp[zg,enc,j5,isI,h]
  ·have e1:zg (enc (p::kv)) k=zg (enc kv) k:=by simp[zg,enc,isI,h,List.find?_cons]
   have e2:j5 (p::kv) k=j5 kv k:=by simp[j5,h,List.find?_cons]
   rw[e1,e2,ih]
theorem agb(kv:KI)(k v:Int):ac5 (enc kv) k (.int v)=enc (aaj kv k v):=by
 have h1:(enc kv).any (fun p=>isI k p.1)=kv.any fun p=>decide (p.1=k):=by simp[enc,List.any_map,Function.comp_def,isI]
 unfold ac5 aaj;rw[h1];by_cases c:kv.any (fun p=>decide (p.1=k))=true
 ·rw[if_pos c,if_pos c]
  simp only[enc,List.map_map];apply List.map_congr_left;intro p _;by_cases h:p.1=k<;>simp[isI,h]
 ·rw[if_neg c,if_neg c]
  simp[enc]
theorem agc(kv:KI)(k v:Int):(aaj kv k v).length<=kv.length+1:=by
 unfold aaj;split<;>simp
theorem ae5{kv:KI}:∀{p:Int×Int},p∈kv->∃c,j5 kv p.1=some c:=by
 intro p hp
 have:(kv.find? fun q=>decide (q.1=p.1)).isSome=true:=by
  rw[List.find?_isSome];exact⟨p,hp,by simp⟩
 cases h:kv.find? fun q=>decide (q.1=p.1)with
 |none=>rw[h]at this;cases this
 |some q=>exact⟨q.2,by simp[j5,h]⟩
theorem zE(p:Int×Int)(kv:KI)(x:Int):j5 (p::kv) x=if p.1=x then some p.2 else j5 kv x:=by
 by_cases h:p.1=x<;>simp[j5,List.find?_cons,h]
theorem aiu(k v x:Int):∀kv:KI,j5 (kv.map fun p=>if p.1=k then (p.1,v) else p) x=if x=k then (if kv.any (fun p=>decide (p.1=k))=true then some v else none) else j5 kv x
 | []=>by simp[j5]
 | p::kv=>by
  rw[List.map_cons,zE,zE,aiu k v x kv];by_cases hp:p.1=k
  ·by_cases hx:x=k
   ·subst hx;simp[hp]
   ·have hkx:¬ k=x:=fun z=>hx z.symm
    simp[hp,hx,hkx]
  ·by_cases hx:x=k
   ·subst hx;rw[List.any_cons,decide_eq_false hp,Bool.false_or];simp[hp]
   ·by_cases hq:p.1=x<;>simp[hp,hx,hq]
theorem aiv(k v x:Int):∀kv:KI,j5 (kv++[(k,v)]) x=if kv.any (fun p=>decide (p.1=x))=true then j5 kv x else if k=x then some v else none
 | []=>by rw[List.nil_append,zE];simp[j5]
 | p::kv=>by
  rw[List.cons_append,zE,zE,aiv k v x kv];by_cases hp:p.1=x
  ·simp[hp]
  ·rw[List.any_cons,decide_eq_false hp,Bool.false_or,if_neg hp,if_neg hp]
theorem alP{kv:KI}{x:Int}(h:¬ kv.any (fun p=>decide (p.1=x))=true):j5 kv x=none:=by
 induction kv with
 |nil=>rfl
 | cons p kv ih=>
  rw[zE];by_cases hp:p.1=x
  ·exact absurd (by simp[hp]) h
  ·rw[if_neg hp];exact ih (by simpa[hp]using h)
theorem anE(kv:KI)(k v x:Int):j5 (aaj kv k v) x=if x=k then some v else j5 kv x:=by
 unfold aaj;by_cases c:kv.any (fun p=>decide (p.1=k))=true
 ·rw[if_pos c,aiu,if_pos c]
 ·rw[if_neg c,aiv]
  by_cases hx:x=k
  ·subst hx
   rw[if_neg c,if_pos rfl,if_pos rfl]
  ·have hkx:¬ k=x:=fun z=>hx z.symm
   rw[if_neg hx,if_neg hkx];by_cases d:kv.any (fun p=>decide (p.1=x))=true
   ·rw[if_pos d]
   ·rw[if_neg d,alP d]
noncomputable def rp(u l:Int):List (Int×Int):=(List.range (u+1).toNat).flatMap fun (i:Nat)=>(List.range (l+1).toNat).map fun (j:Nat)=>((i:Int),(j:Int))
theorem aak(u l:Int):jz u l=(rp u l).map pr:=by
 simp[jz,Js,Ji,rp,List.map_flatMap,List.map_map,Function.comp_def,pr]
theorem ahv{u l:Int}{p:Int×Int}(h:okP u l p=true):p∈rp u l:=by
 obtain⟨q1,q2,q3,q4⟩:=qq h;refine List.mem_flatMap.mpr ⟨p.1.toNat,List.mem_range.mpr (by omega),List.mem_map.mpr ⟨p.2.toNat,List.mem_range.mpr (by omega),?_⟩⟩;exact Prod.ext (by show((p.1.toNat:Nat):Int)=p.1;omega) (by show((p.2.toNat:Nat):Int)=p.2;omega)
theorem alQ{u l:Int}{p:Int×Int}(h:p∈rp u l):okP u l p=true:=by
 obtain⟨i,hi,h2⟩:=List.mem_flatMap.mp h;obtain⟨j,hj,rfl⟩:=List.mem_map.mp h2;have:=List.mem_range.mp hi;have:=List.mem_range.mp hj;simp only[okP,Bool.and_eq_true,decide_eq_true_eq];exact⟨⟨⟨by omega,by omega⟩,by omega⟩,by omega⟩
theorem ahw(u l:Int):(rp u l).length=(jz u l).length:=by rw[aak,List.length_map]
theorem ahx{u e l b:Int}(h:okN u e l b=true):(rp u l).length<=48:=by
 obtain⟨a1,a2,a3,a4,a5,a6,a7,a8,a9,a10⟩:=jH h;rw[ahw];show(Js (u+1).toNat (l+1).toNat).length<=48;rw[acB];exact Nat.le_trans (Nat.mul_le_mul (show(u+1).toNat<=4 by omega) (show(l+1).toNat<=12 by omega)) (by decide)
noncomputable def bd(p:Int×Int):Int:=p.1+p.2
noncomputable def okQ(e b M n:Int)(p:Int×Int):Bool:=decide ((n-wt e p) % b=0)&&(decide (0<=n-wt e p)&&decide (n-wt e p<=b*M))
noncomputable def lps(u e l b:Int)(a:Nat)(n:Int):List ((Int×Int)×Int):=((rp u l).filter (okQ e b (jO u e l b a) n)).map fun p=>(p,(n-wt e p) / b)
noncomputable def alR(q:(Int×Int)×Int):PyData:= .tuple [pr q.1,.int q.2]
theorem adP{u e l b n:Int}(h:okN u e l b=true)(a:Nat)(ha:a<4):adH [jl u e l b,.int (a:Int),.int n]=some (.list ((lps u e l b a n).map alR)):=by
 rw[aga h a ha,aak,List.filter_map,List.map_map];unfold lps;rw[List.map_map];rfl
theorem ae6(u e l b:Int)(a:Nat)(n:Int):(lps u e l b a n).length<=(rp u l).length:=by unfold lps;rw[List.length_map];exact List.length_filter_le _ _
noncomputable def zL(acc:KI)(q:Int×Int):KI:=aaj acc q.1 (if (j5 acc q.1).getD q.2<q.2 then (j5 acc q.1).getD q.2 else q.2)
theorem adQ(acc:KI)(q:Int×Int):(zL acc q).length<=acc.length+1:=agc _ _ _
theorem QN:∀(xs:List (Int×Int)) (acc:KI),(xs.foldl zL acc).length<=acc.length+xs.length
 | [],acc=>by simp
 | x::xs,acc=>by
  have h1:=QN xs (zL acc x);have h2:=adQ acc x;rw[List.foldl_cons,List.length_cons];omega
noncomputable def Jx(d:Option Int)(P:Int->Prop):Prop:=(∀v,d=some v->P v)/\∀v,P v->∃m,d=some m/\m<=v
theorem Jx.imp{d:Option Int}{P P':Int->Prop}(h:Jx d P)(h1:∀v,P v->P' v)(h2:∀v,P' v->∃w,P w/\w<=v):Jx d P':=
 ⟨fun v e=>h1 v (h.1 v e),fun v p=>by
  obtain ⟨w,hw,hl⟩:=h2 v p;obtain ⟨m,hm,hl2⟩:=h.2 w hw;exact ⟨m,hm,Int.le_trans hl2 hl⟩⟩
theorem Jx.uniq{d d':Option Int}{P:Int->Prop}(h:Jx d P)(h':Jx d' P):d=d':=by
 cases d with
 | none=>
  cases d' with
  |none=>rfl
  |some v=>obtain⟨m,hm,_⟩:=h.2 v (h'.1 v rfl);cases hm
 | some v=>
  obtain⟨m,hm,hl⟩:=h'.2 v (h.1 v rfl);obtain⟨m',hm',hl'⟩:=h.2 m (h'.1 m hm);cases hm';rw[hm]
  congr 1
  omega
theorem aal(k:Int):∀(xs:List (Int×Int)) (acc:KI),Jx (j5 (xs.foldl zL acc) k) fun v=>j5 acc k=some v∨(k,v)∈xs
 | [],acc=>⟨fun v e=> .inl e,fun v p=>by
   rcases p with q | q
   ·exact ⟨v,q,Int.le_refl _⟩
   ·cases q⟩
 | x::xs,acc=>by
  rw[List.foldl_cons];have ih:=aal k xs (zL acc x);have hf:j5 (zL acc x) k=if k=x.1 then some (if (j5 acc x.1).getD x.2<x.2 then (j5 acc x.1).getD x.2 else x.2) else j5 acc k:=anE _ _ _ _
  by_cases hk:k=x.1
  ·rw[if_pos hk]at hf
   subst hk;refine ih.imp (fun v p=>?_) fun v p=>?_
   ·rcases p with q | q
    ·rw[hf]at q
     have q:=Option.some.inj q;by_cases hlt:(j5 acc x.1).getD x.2<x.2
     ·rw[if_pos hlt]at q
      cases hc:j5 acc x.1 with
      |none=>rw[hc]at hlt;exact absurd hlt (Int.lt_irrefl _)
      |some c=>rw[hc]at q;exact .inl (by rw[←q];rfl)
     ·rw[if_neg hlt]at q
      exact .inr (by rw[←q];exact List.mem_cons_self)
    ·exact .inr (List.mem_cons_of_mem _ q)
   ·rcases p with q | q
    ·refine⟨_,.inl hf,?_⟩
     rw[q];show(if v<x.2 then v else x.2)<=v;split<;>omega
    ·rcases List.mem_cons.mp q with z | z
     ·refine⟨_,.inl hf,?_⟩
      have:v=x.2:=by rw[←z]
      rw[this];split<;>omega
     ·exact⟨v,.inr z,Int.le_refl _⟩
  ·rw[if_neg hk]at hf
   refine ih.imp (fun v p=>?_) fun v p=>?_
   ·rcases p with q | q
    ·exact .inl (by rw[←hf];exact q)
    ·exact .inr (List.mem_cons_of_mem _ q)
   ·rcases p with q | q
    ·exact⟨v,.inl (by rw[hf];exact q),Int.le_refl _⟩
    ·rcases List.mem_cons.mp q with z | z
     ·exact absurd (by rw[←z]) hk
     ·exact⟨v,.inr z,Int.le_refl _⟩
theorem alS(k:Int)(xs:List (Int×Int)):Jx (j5 (xs.foldl zL []) k) fun v=>(k,v)∈xs:=
 (aal k xs []).imp (fun v p=>by rcases p with q | q;cases q;exact q) fun v p=>⟨v,.inr p,Int.le_refl _⟩
theorem anF{kv:KI}{n c:Int}(h:j5 kv n=some c):∃p∈kv,p.1=n/\qu kv n=c:=by
 unfold j5 at h;cases hq:kv.find? fun p=>decide (p.1=n)with
 |none=>rw[hq]at h;cases h
 | some q=>
  refine⟨q,List.mem_of_find?_eq_some hq,by simpa using List.find?_some hq,?_⟩;unfold qu j5;rw[hq];rw[hq]at h;exact Option.some.inj h
theorem aiw(acc:KI)(k v:Int):aa5 (dI acc) (.int k) (.int v)=some (.int ((j5 acc k).getD v)):=by
 show some ((zg (enc acc) k).getD (.int v))=_;rw[QM];cases j5 acc k<;>rfl
theorem apA{acc:KI}{k v:Int}(hl:acc.length<1000000):agZ (some (dI acc)) (some (.int v)) (some (.int k))=some (dI (aaj acc k v)):=by
 have hle:(enc acc).length<1000000:=by simpa[enc]using hl
 show(if (enc acc).length<1000000 then some (PyData.dict ((.none,.none)::ac5 (enc acc) k (.int v))) else none)=_;rw[if_pos hle,agb];rfl
theorem anG{m A W n R:OP}{acc:KI}{k v:Int}(hl:acc.length<1000000):
  ag0 3 (lkp 6) (jJ ado (jq (lkp 7) (jq (JL (lkp 3) (lkp 6) (lkp 7)) jC))) [m,A,W,some (dI acc),n,R,some (.int k),some (.int v)]=some (.nx [m,A,W,some (dI (zL acc (k,v))),n,R,some (.int k),some (.int v)]):=by
 have g2:=aiw acc k v
 have fk:brw (some 3) (lkp 6) [m,A,W,some (dI acc),n,R,some (.int k),some (.int v)]=some (.int k):=by
  simp only[brw,hid,lkp,zzF,zzG,zzA,zzB,zzC]
 have mn:∀i j:Int,ado [.int i,.int j]=some (.int (if j<i then j else i)):=fun _ _=>rfl
 have fv:brw (some 3) (jJ ado (jq (lkp 7) (jq (JL (lkp 3) (lkp 6) (lkp 7)) jC))) [m,A,W,some (dI acc),n,R,some (.int k),some (.int v)]=some (.int (if (j5 acc k).getD v<v then (j5 acc k).getD v else v)):=by
  simp only[brw,hid,jJ,jq,jC,JL,lkp,zzF,zzG,zzA,zzB,zzC,Option.join_none,zzH,zzD,zzI,zzE,g2,mn];rfl
 have l3:lkp 3 [m,A,W,some (dI acc),n,R,some (.int k),some (.int v)]=some (dI acc):=rfl;simp only[ag0,l3,fk,fv,apA hl,zzE,zzF,zzG];rfl
theorem alT(p:Int×Int):qN [pr p]=some (.int (bd p)):=aaP p.1 p.2
theorem alU{m A:OP}{r:List (PyData×PyData)}{acc:KI}{n k c:Int}{p:Int×Int}{x7:OP}(hc:zg r n=some (.int c))(hl:acc.length<1000000):
  Z6.1 [m,A,some (.dict ((.none,.none)::r)),some (dI acc),some (.int n),some (pr p),some (.int k),x7]=some (.nx [m,A,some (.dict ((.none,.none)::r)),some (dI (zL acc (k,c+bd p))),some (.int n),some (pr p),some (.int k),some (.int (c+bd p))]):=by
 have g1:afB (.dict ((.none,.none)::r)) (.int n)=some (.int c):=hc
 have fs:brw (some 3) (op2 ze (op2 afB (lkp 2) (lkp 4)) (jJ qN (jq (lkp 5) jC))) [m,A,some (.dict ((.none,.none)::r)),some (dI acc),some (.int n),some (pr p),some (.int k),x7]=some (.int (c+bd p)):=by
  simp only[brw,hid,op2,jJ,jq,jC,lkp,zzF,zzG,zzA,zzB,zzC,zzD,zzE,g1,alT,add_int]
 simp only[Z6];refine(jt (ρ1:=[m,A,some (.dict ((.none,.none)::r)),some (dI acc),some (.int n),some (pr p),some (.int k),some (.int (c+bd p))]) ?_).trans ?_
 ·simp only[qF,fs,jG,zzD,zzE,zzF,zzG]
 refine(jt (anG hl)).trans rfl
theorem acN{m A:OP}{r:List (PyData×PyData)}{n c:Int}(hc:zg r n=some (.int c)):∀(qs:List ((Int×Int)×Int)) (acc:KI) (x5 x6 x7:OP),acc.length+qs.length<1000000->
  ∃y5 y6 y7,jN (Qq 2 (jV (jG 5) (jV (jG 6) zG))) Z6.1 (qs.map alR) [m,A,some (.dict ((.none,.none)::r)),some (dI acc),some (.int n),x5,x6,x7]=
   some (.nx [m,A,some (.dict ((.none,.none)::r)),some (dI ((qs.map fun q=>(q.2,c+bd q.1)).foldl zL acc)),some (.int n),y5,y6,y7])
 | [],acc,x5,x6,x7,_=>⟨x5,x6,x7,rfl⟩
 | q::qs,acc,x5,x6,x7,hl=>by
  have hl':acc.length+(qs.length+1)<1000000:=hl;have h2:=adQ acc (q.2,c+bd q.1);obtain⟨y5,y6,y7,ih⟩:=acN (m:=m) (A:=A) hc qs (zL acc (q.2,c+bd q.1)) (some (pr q.1)) (some (.int q.2)) (some (.int (c+bd q.1))) (by omega);refine⟨y5,y6,y7,?_⟩;have s:=alU (m:=m) (A:=A) (acc:=acc) (k:=q.2) (p:=q.1) (x7:=x7) hc (by omega);have ga:Qq 2 (jV (jG 5) (jV (jG 6) zG)) (alR q) [m,A,some (.dict ((.none,.none)::r)),some (dI acc),some (.int n),x5,x6,x7]=some [m,A,some (.dict ((.none,.none)::r)),some (dI acc),some (.int n),some (pr q.1),some (.int q.2),x7]:=rfl;rw[List.map_cons,jN,ga,zzD,s,zzD];exact ih
noncomputable def ctr(u e l b:Int)(a:Nat)(kv:KI)(p:Int×Int):List (Int×Int):=(lps u e l b a p.1).map fun q=>(q.2,qu kv p.1+bd q.1)
theorem aix(u e l b:Int)(a:Nat)(kv:KI)(p:Int×Int):(ctr u e l b a kv p).length<=(rp u l).length:=by unfold ctr;rw[List.length_map];exact ae6 ..
theorem ajD{u e l b:Int}(h:okN u e l b=true)(a:Nat)(ha:a<4){kv:KI}{n:Int}(hv:zg (enc kv) n=some (.int (qu kv n))){acc:KI}(hacc:acc.length+(rp u l).length<1000000){p:Int×Int}(hp:p.1=n){x5 x6 x7:OP}:
  ∃y5 y6 y7,zW.1 [some (jl u e l b),some (.int (a:Int)),some (dI kv),some (dI acc),some (.int n),x5,x6,x7]=
   some (.nx [some (jl u e l b),some (.int (a:Int)),some (dI kv),some (dI ((ctr u e l b a kv p).foldl zL acc)),some (.int n),y5,y6,y7]):=by
 have h1:=adP (n:=n) h a ha;have hq:=ae6 u e l b a n;obtain⟨y5,y6,y7,lp⟩:=acN (m:=some (jl u e l b)) (A:=some (.int (a:Int))) hv (lps u e l b a n) acc x5 x6 x7 (by omega);refine⟨y5,y6,y7,?_⟩;unfold ctr;rw[hp];simp only[zW];refine(jt (ρ1:=[some (jl u e l b),some (.int (a:Int)),some (dI kv),some (dI (((lps u e l b a n).map fun q=>(q.2,qu kv n+bd q.1)).foldl zL acc)),some (.int n),y5,y6,y7]) ?_).trans rfl;simp only[Je,itL,JC,jJ,jq,jC,lkp,hid,zzF,zzG,zzA,zzB,zzC,zzD,zzE,h1];exact lp
theorem anH{kv:KI}{p:Int×Int}(hp:p∈kv):zg (enc kv) p.1=some (.int (qu kv p.1)):=by
 obtain⟨c,hc⟩:=ae5 hp;rw[QM,hc];unfold qu;rw[hc];rfl
theorem acO{u e l b:Int}(h:okN u e l b=true)(a:Nat)(ha:a<4)(kv:KI):∀(ps:KI) (acc:KI) (x4 x5 x6 x7:OP),(∀p∈ps,p∈kv)->acc.length+(ps.length+1)*(rp u l).length<1000000->
  ∃y4 y5 y6 y7,jN (jG 4) zW.1 (ps.map fun p=> .int p.1) [some (jl u e l b),some (.int (a:Int)),some (dI kv),some (dI acc),x4,x5,x6,x7]=
   some (.nx [some (jl u e l b),some (.int (a:Int)),some (dI kv),some (dI ((ps.flatMap (ctr u e l b a kv)).foldl zL acc)),y4,y5,y6,y7])
 | [],acc,x4,x5,x6,x7,_,_=>⟨x4,x5,x6,x7,rfl⟩
 | p::ps,acc,x4,x5,x6,x7,hp,hl2=>by
  have e4:(ps.length+1+1)*(rp u l).length=(ps.length+1)*(rp u l).length+(rp u l).length:=by rw[Nat.succ_mul]
  have hl3:acc.length+(ps.length+1+1)*(rp u l).length<1000000:=hl2
  obtain⟨y5,y6,y7,s⟩:=ajD h a ha (kv:=kv) (n:=p.1) (anH (hp p List.mem_cons_self)) (acc:=acc) (x5:=x5) (x6:=x6) (x7:=x7) (by
   have:(rp u l).length<=(ps.length+1)*(rp u l).length:=Nat.le_mul_of_pos_left _ (by omega);omega) (p:=p) rfl
  have h2:=QN (ctr u e l b a kv p) acc;have h3:=aix u e l b a kv p;obtain⟨z4,z5,z6,z7,ih⟩:=acO h a ha kv ps ((ctr u e l b a kv p).foldl zL acc) (some (.int p.1)) y5 y6 y7 (fun q hq=>hp q (List.mem_cons_of_mem _ hq)) (by omega);refine⟨z4,z5,z6,z7,?_⟩;rw[List.map_cons,jN];simp only[jG,zzF,zzG,zzD];rw[s,zzD,List.flatMap_cons,List.foldl_append];exact ih
noncomputable def aaW(u e l b:Int)(a:Nat)(kv:KI):KI:=(kv.flatMap (ctr u e l b a kv)).foldl zL []
theorem agd{α β:Type}(f:α->List β)(k:Nat)(hf:∀x,(f x).length<=k):∀xs:List α,(xs.flatMap f).length<=xs.length*k
 | []=>by simp
 | x::xs=>by
  rw[List.flatMap_cons,List.length_append,List.length_cons,Nat.succ_mul];have:=agd f k hf xs;have:=hf x;omega
theorem ahy(u e l b:Int)(a:Nat)(kv:KI):(aaW u e l b a kv).length<=kv.length*(rp u l).length:=by
 have h1:=QN (kv.flatMap (ctr u e l b a kv)) [];have h2:=agd (ctr u e l b a kv) (rp u l).length (aix u e l b a kv) kv;rw[List.length_nil,Nat.zero_add]at h1;exact Nat.le_trans h1 h2
theorem anI(kv:KI):(BX.zh (dI kv)).map (fun r=>r.map (·.1))=some (kv.map fun p=>PyData.int p.1):=by
 show some ((enc kv).map (·.1))=_;simp[enc,List.map_map,Function.comp_def]
theorem ajE{u e l b:Int}(h:okN u e l b=true)(a:Nat)(ha:a<4)(kv:KI)(hk:(kv.length+1)*(rp u l).length<1000000):
  aeI [jl u e l b,.int (a:Int),dI kv]=some (dI (aaW u e l b a kv)):=by
 refine qh rfl ?_;obtain⟨y4,y5,y6,y7,lp⟩:=acO h a ha kv kv [] none none none none (fun _ h=>h) (by simpa using hk);show aeH.1 [some (jl u e l b),some (.int (a:Int)),some (dI kv),none,none,none,none,none]=_;have pr:=anI kv
 have q:jF (Je (fun ρ=>itD (lkp 2) (hid (some 3) ρ)) (jG 4) zW.1) (jF (qz (lkp 3)) qp) [some (jl u e l b),some (.int (a:Int)),some (dI kv),some (dI []),none,none,none,none]=some (.rt (dI (aaW u e l b a kv))):=by
  refine(jt (ρ1:=[some (jl u e l b),some (.int (a:Int)),some (dI kv),some (dI (aaW u e l b a kv)),y4,y5,y6,y7]) ?_).trans rfl;simp only[Je,itD,lkp,hid,zzF,zzG,zzA,zzB,zzC,zzD,pr];exact lp
 simp only[aeH,Zv,cst,zzD,List.length_cons,List.length_nil,zzF,zzG];rw[if_pos (by decide)];have q':jF (Je (fun ρ=>itD (lkp 2) (hid (some 3) ρ)) (jG 4) zW.1) (jF (qz (lkp 3)) qp) [some (jl u e l b),some (.int (a:Int)),some (dI kv),some (.dict [(.none,.none)]),none,none,none,none]=some (.rt (dI (aaW u e l b a kv))):=q;rw[q'];rfl
end Rods
namespace BX
open PySem PySem.Spec L2
open PyProof.Rows hiding St
theorem JX{ga:PyData->Rho->Option Rho}{F:RO}(Iv:Nat->Rho->Prop):∀(ds:LP) (i:Nat) (ρ:Rho),Iv i ρ->
  (∀j d ρ,ds[j]?=some d->Iv (i+j) ρ->∃ρ1 ρ2,ga d ρ=some ρ1/\F ρ1=some (.nx ρ2)/\Iv (i+j+1) ρ2)->∃ρ',jN ga F ds ρ=some (.nx ρ')/\Iv (i+ds.length) ρ'
 | [],i,ρ,h,_=>⟨ρ,rfl,h⟩
 | d::ds,i,ρ,h,hs=>by
  obtain⟨ρ1,ρ2,h1,h2,h3⟩:=hs 0 d ρ rfl h
  obtain⟨ρ',h4,h5⟩:=JX Iv ds (i+1) ρ2 h3 fun j d ρ hd hi=>by
   have:=hs (j+1) d ρ (by simpa using hd) (by rw[show i+(j+1)=i+1+j by omega];exact hi);rw[show i+1+j+1=i+(j+1)+1 by omega];exact this
  refine⟨ρ',?_,by rw[List.length_cons,show i+(ds.length+1)=i+1+ds.length by omega];exact h5⟩;simp[jN,h1,h2,h4]
theorem alV{n j:Nat}{d:PyData}(h:(Zl 0 n)[j]?=some d):j<n/\d= .int j:=by
 simp only[Zl,List.getElem?_map]at h;cases hj:(List.range n)[j]? with
 |none=>rw[hj]at h;cases h
 | some k=>
  rw[hj]at h;obtain⟨h1,h2⟩:=List.getElem?_eq_some_iff.mp hj;simp at h1 h2;subst h2;simp at h;exact⟨h1,h.symm⟩
theorem alW(n:Nat):(Zl 0 n).length=n:=by simp[Zl]
end BX
namespace Rods
open PySem L2 BX
open PyProof.Rows hiding St
section
variable {u e l b:Int}
theorem zF(b e:Int)(p:Int×Int)(t:List (Int×Int)):val b e (p::t)=wt e p*b ^ t.length+val b e t:=by
 have key:∀(t:List (Int×Int)) (acc:Int),t.foldl (fun n p=>n*b+wt e p) acc=acc*b ^ t.length+val b e t:=by
  intro t
  induction t with
  |nil=>intro acc;simp[val]
  | cons q t ih=>
   intro acc;rw[List.foldl_cons,ih];show _=acc*b ^ (q::t).length+(q::t).foldl (fun n p=>n*b+wt e p) 0;rw[List.foldl_cons,ih,List.length_cons,Int.pow_succ,Int.mul_comm (b ^ t.length) b,←Int.mul_assoc,Int.add_mul,Int.zero_mul,Int.zero_add,Int.add_assoc]
 show(p::t).foldl (fun n p=>n*b+wt e p) 0=_;rw[List.foldl_cons,key];simp
theorem Qn(a:Nat):jO u e l b (a+1)=jO u e l b a*b+wt e (u,l):=by
 unfold jO;rw[List.replicate_succ'];exact aai _ _ _ _
noncomputable def Sp(u e l b:Int)(r:Nat)(n v:Int):Prop:=∃t:List (Int×Int),t.length=r/\t.all (okP u l)=true/\val b e t=n/\bds t=v
theorem Jm(p:Int×Int)(t:List (Int×Int)):bds (p::t)=bd p+bds t:=by simp[bds,bd]
theorem aiy{a:Nat}{kv:KI}{k v:Int}(hb:0<b):(k,v)∈kv.flatMap (ctr u e l b a kv)↔∃p c,okP u l p=true/\j5 kv (k*b+wt e p)=some c/\0<=k/\k<=jO u e l b a/\v=c+bd p:=by
 constructor
 ·intro h
  obtain⟨q,hq,h2⟩:=List.mem_flatMap.mp h;obtain⟨x,hx,h3⟩:=List.mem_map.mp h2;obtain⟨p,hp,rfl⟩:=List.mem_map.mp hx;obtain⟨hp1,hp2⟩:=List.mem_filter.mp hp;simp only[okQ,Bool.and_eq_true,decide_eq_true_eq]at hp2;obtain⟨o1,o2,o3⟩:=hp2;obtain⟨c,hc⟩:=ae5 hq;have hk:(q.1-wt e p) / b=k:=congrArg Prod.fst h3;have hv:qu kv q.1+bd p=v:=congrArg Prod.snd h3;have hd:=Int.mul_ediv_add_emod (q.1-wt e p) b;rw[o1,hk,Int.mul_comm]at hd;have e1:k*b+wt e p=q.1:=by omega
  refine⟨p,c,alQ hp1,by rw[e1];exact hc,?_,?_,?_⟩
  ·rw[←hk];exact Int.ediv_nonneg o2 (by omega)
  ·rw[←hk]
   exact Int.le_of_lt_add_one (Int.ediv_lt_of_lt_mul hb (by
    have:(jO u e l b a+1)*b=b*jO u e l b a+b:=by rw [Int.add_mul,Int.mul_comm]; omega
    omega))
  ·rw[←hv];unfold qu;rw[hc];rfl
 ·rintro⟨p,c,hp,hc,h0,h1,rfl⟩
  obtain⟨q,hq,hq1,hq2⟩:=anF hc;refine List.mem_flatMap.mpr ⟨q,hq,List.mem_map.mpr ⟨(p,k),?_,?_⟩⟩
  ·refine List.mem_map.mpr ⟨p,List.mem_filter.mpr ⟨ahv hp,?_⟩,?_⟩
   ·simp only[okQ,Bool.and_eq_true,decide_eq_true_eq]
    have e1:q.1-wt e p=k*b:=by omega
    rw[e1];refine⟨Int.mul_emod_left _ _,Int.mul_nonneg h0 (by omega),?_⟩;rw[Int.mul_comm];exact Int.mul_le_mul_of_nonneg_left h1 (by omega)
   ·have e1:q.1-wt e p=k*b:=by omega
    rw[e1,Int.mul_ediv_cancel _ (by omega)]
  ·rw[hq1,hq2]
noncomputable def BkD(u e l b N:Int)(r j:Nat)(D:KI):Prop:=∀k,Jx (j5 D k) fun v=>(j=0∨(0<=k/\k<=jO u e l b (r-j)))/\∃t:List (Int×Int),t.length=j/\t.all (okP u l)=true/\k*b ^ j+val b e t=N/\bds t=v
theorem anJ(N:Int)(r:Nat):BkD u e l b N r 0 [(N,0)]:=fun k=>by
 rw[zE];refine⟨fun v hv=>?_,fun v ⟨_,t,h1,h2,h3,h4⟩=>?_⟩
 ·by_cases hk:N=k
  ·rw[if_pos hk]at hv
   cases hv;exact⟨.inl rfl,[],rfl,rfl,by subst hk;simp[val],rfl⟩
  ·rw[if_neg hk]at hv;cases hv
 ·have:t=[]:=List.eq_nil_of_length_eq_zero h1
  subst this;have:N=k:=by simp[val]at h3;omega
  exact⟨0,by rw[if_pos this],by rw[←h4];exact Int.le_refl _⟩
theorem anK(h:okN u e l b=true){N:Int}{r j:Nat}(hj:j<r){D:KI}(H:BkD u e l b N r j D):BkD u e l b N r (j+1) (aaW u e l b (r-(j+1)) D):=fun k=>by
 obtain⟨a1,a2,a3,a4,a5,a6,a7,a8,a9,a10⟩:=jH h;have hb:0<b:=by omega
 refine(alS k (D.flatMap (ctr u e l b (r-(j+1)) D))).imp (fun v pp=>?_) fun v pp=>?_
 ·obtain⟨p,c,hp,hc,h0,h1,rfl⟩:=(aiy hb).mp pp
  obtain⟨_,t,t1,t2,t3,t4⟩:=(H _).1 c hc;refine⟨.inr ⟨h0,h1⟩,p::t,by rw[List.length_cons,t1],by rw[List.all_cons,hp,t2];rfl,?_,by rw[Jm,t4];omega⟩;rw[zF,t1,←t3,Int.add_mul,Int.pow_succ,Int.mul_comm (b ^ j) b,←Int.mul_assoc];omega
 ·obtain⟨hk,t,t1,t2,t3,t4⟩:=pp
  obtain⟨h0,h1⟩:=hk.resolve_left (by omega);cases t with
  |nil=>cases t1
  | cons p t=>
   rw[List.all_cons,Bool.and_eq_true]at t2;have t1':t.length=j:=by simpa using t1
   have w0:=adM a3 t2.1;obtain⟨q1,q2,q3,q4⟩:=qq t2.1
   have w1:wt e p<=wt e (u,l):=by
    have:=Int.mul_le_mul_of_nonneg_right q2 (show 0<=e by omega);unfold wt;show p.1*e+p.2<=u*e+l;omega
   have hr:r-j=(r-(j+1))+1:=by omega
   have hm:=Qn (u:=u) (e:=e) (l:=l) (b:=b) (r-(j+1));have hkb:k*b<=jO u e l b (r-(j+1))*b:=Int.mul_le_mul_of_nonneg_right h1 (by omega);have hkb0:0<=k*b:=Int.mul_nonneg h0 (by omega)
   obtain⟨c,hc,hl⟩:=(H (k*b+wt e p)).2 (bds t) ⟨.inr ⟨by omega,by rw[hr,hm];omega⟩,t,t1',t2.2,by
    rw [zF,t1',Int.pow_succ,Int.mul_comm (b ^ j) b,←Int.mul_assoc] at t3;rw [Int.add_mul]; omega,rfl⟩
   refine⟨c+bd p,(aiy hb).mpr ⟨p,c,t2.1,hc,h0,h1,rfl⟩,?_⟩;rw[Jm]at t4;omega
theorem apB{N:Int}{r:Nat}(hr:1<=r){D:KI}(H:BkD u e l b N r r D):Jx (j5 D 0) (Sp u e l b r N):=
 (H 0).imp (fun v ⟨_,t,t1,t2,t3,t4⟩=>⟨t,t1,t2,by rw[Int.zero_mul]at t3;omega,t4⟩) fun v ⟨t,t1,t2,t3,t4⟩=>⟨v,⟨.inr ⟨Int.le_refl _,by rw[Nat.sub_self];exact Int.le_refl _⟩,t,t1,t2,by rw[Int.zero_mul];omega,t4⟩,Int.le_refl _⟩
end
noncomputable def ofO:Option Int->PyData
 |some v=> .int v
 |none=> .none
section
variable {u e l b:Int}
theorem alX{kv:KI}(h:okN u e l b=true){j:Nat}(hj:j<=2)(hk:kv.length<=48 ^ j):(kv.length+1)*(rp u l).length<1000000:=by
 have h1:=ahx h
 have h2:kv.length+1<=2305:=by
  have:j=0∨j=1∨j=2:=by omega
  rcases this with q | q | q<;>subst q<;>simp at hk<;>omega
 exact Nat.lt_of_le_of_lt (Nat.mul_le_mul h2 h1) (by decide)
theorem age{kv kv':KI}(h:okN u e l b=true){j:Nat}(hk:kv.length<=48 ^ j)(hk':kv'.length<=kv.length*(rp u l).length):kv'.length<=48 ^ (j+1):=by
 rw[Nat.pow_succ];exact Nat.le_trans hk' (Nat.mul_le_mul hk (ahx h))
theorem Zf(H:qT=true)(h:okN u e l b=true){r n:Int}(h1:1<=r)(h4:r<=4)(h0:0<=n)(hn:n<=99999):zJ [jl u e l b,.int r,.int n]=some .none:=by
 have g1:=JV (alL H h);have g2:qH [.int r]=some .none:=acM h1 h4;have g3:Ju [.int n]=some .none:=af7 h0 hn;simp[zJ,jw,aeF,jL,jF,Zk,jJ,jq,jC,lkp,g1,g2,g3,qp]
theorem anL(kv:KI)(k:Int):ah7 (dI kv) (.int k)=some (ofO (j5 kv k)):=by
 show some ((zg (enc kv) k).getD .none)=_;rw[QM];cases j5 kv k<;>rfl
theorem Zg{r:Nat}(h1:1<=r)(h3:r<=3):ag3 [.int ((r:Int)-1),.int (-1),.int (-1)]=some ((List.range r).map fun (j:Nat)=> .int (((r-(j+1):Nat):Int))):=by
 have:r=1∨r=2∨r=3:=by omega
 rcases this with q | q | q<;>subst q<;>rfl
theorem aam{r j:Nat}{d:PyData}(h:((List.range r).map fun (j:Nat)=>PyData.int (((r-(j+1):Nat):Int)))[j]?=some d):j<r/\d= .int (((r-(j+1):Nat):Int)):=by
 rw[List.getElem?_map]at h;cases hj:(List.range r)[j]? with
 |none=>rw[hj]at h;cases h
 | some k=>
  rw[hj]at h;obtain⟨h1,h2⟩:=List.getElem?_eq_some_iff.mp hj;simp at h1 h2;subst h2;simp at h;exact⟨h1,h.symm⟩
theorem alY{kv kv':KI}{a:Nat}{R N:OP}(g:aeI [jl u e l b,.int (a:Int),dI kv]=some (dI kv')):Z8.1 [some (jl u e l b),R,N,some (dI kv),some (.int (a:Int))]=some (.nx [some (jl u e l b),R,N,some (dI kv'),some (.int (a:Int))]):=by
 simp only[Z8,jF,qF,jJ,jq,jC,lkp,jG,zzA,zzB,zzC,zzD,zzE,g,zzF,zzG,qp]
theorem ajF(H:qT=true)(h:okN u e l b=true){r:Nat}(h1:1<=r)(h3:r<=3){n:Int}(h0:0<=n)(hn:n<=99999):∃d,aaJ [jl u e l b,.int (r:Int),.int n]=some (ofO d)/\Jx d (Sp u e l b r n):=by
 have ga:=Zf H h (r:=(r:Int)) (n:=n) (by omega) (by omega) h0 hn
 obtain⟨ρ',hl,hI⟩:=JX (ga:=jG 4) (F:=Z8.1) (fun i ρ=>∃D x4,ρ=[some (jl u e l b),some (.int (r:Int)),some (.int n),some (dI D),x4]/\BkD u e l b n r i D/\D.length<=48 ^ i) ((List.range r).map fun (j:Nat)=> .int (((r-(j+1):Nat):Int))) 0
  [some (jl u e l b),some (.int (r:Int)),some (.int n),some (dI [(n,0)]),none] ⟨_,_,rfl,anJ n r,by simp⟩ (fun j d ρ hd hi=>by
   obtain ⟨hj,rfl⟩:=aam hd;obtain ⟨D,x4,rfl,hD,hlen⟩:=hi;rw [Nat.zero_add] at hD hlen;have g:=ajE h (r - (j+1)) (by omega) D (alX h (j:=j) (by omega) hlen);exact ⟨_,_,rfl,alY g,_,_,rfl,by rw [Nat.zero_add]; exact anK h hj hD,by rw [Nat.zero_add]; exact age h hlen (ahy ..)⟩)
 obtain⟨D,x4,rfl,hD,hlen⟩:=hI;rw[List.length_map,List.length_range,Nat.zero_add]at hD;refine⟨j5 D 0,qh rfl ?_,apB h1 hD⟩;have s1:aau (.int (r:Int)) (.int 1)=some (.int ((r:Int)-1)):=rfl;have ng:agV (.int 1)=some (.int (-1)):=rfl;have rg:=Zg h1 h3;have g1:=anL D 0;show aeK.1 [some (jl u e l b),some (.int (r:Int)),some (.int n),none,none]=_;generalize ((List.range r).map fun (j:Nat)=>PyData.int (((r-(j+1):Nat):Int)))=R at*;generalize jl u e l b=m at*;generalize (r:Int)=rr at*;simp only[aeK];refine(jt (ρ1:=[some m,some (.int rr),some (.int n),none,none]) ?_).trans ?_
 ·simp only[Zk,jJ,jq,jC,lkp,zzA,zzB,zzC,zzD,zzE,ga]
 refine(jt (ρ1:=[some m,some (.int rr),some (.int n),some (dI [(n,0)]),none]) ?_).trans ?_
 ·rfl
 refine(jt (ρ1:=[some m,some (.int rr),some (.int n),some (dI D),x4]) ?_).trans ?_
 ·simp only[Je,jq,jC,op2,lkp,cst,zzA,zzB,zzC,zzD,zzE,s1,ng,rg]
  exact hl
 simp only[jF,qz,op2,lkp,cst,zzA,zzB,zzC,zzD,zzE,g1]
theorem acP(P:Int->Prop)(h0:∀v,P v->0<=v):∃d,Jx d P:=by
 by_cases hx:∃v,P v
 ·obtain⟨v,hv⟩:=hx
  have:∀(k:Nat) (v:Int),v=(k:Int)->P v->∃d,Jx d P:=by
   intro k
   induction k using Nat.strongRecOn with
   | _ k ih=>
    intro v hk hv;by_cases hs:∃w,P w/\w<v
    ·obtain⟨w,hw,hlt⟩:=hs
     have:=h0 w hw;exact ih w.toNat (by omega) w (by omega) hw
    ·exact⟨some v,fun w e=>by cases e;exact hv,fun w hw=>⟨v,rfl,Int.not_lt.mp fun z=>hs ⟨w,hw,z⟩⟩⟩
  exact this v.toNat v (by have:=h0 v hv;omega) hv
 ·exact⟨none,(fun v e=>by cases e),(fun v hv=>absurd ⟨v,hv⟩ hx)⟩
theorem aol{r:Nat}{n v:Int}(h:Sp u e l b r n v):0<=v:=by
 obtain⟨t,k1,h2,k2,h4⟩:=h;rw[←h4];clear h4 k1 k2;revert h2
 induction t with
 |nil=>intro _;simp[bds]
 | cons p t ih=>
  intro h2;rw[List.all_cons,Bool.and_eq_true]at h2;have:=ih h2.2;obtain⟨q1,q2,q3,q4⟩:=qq h2.1;rw[Jm];unfold bd;omega
noncomputable def LB(u e l b:Int)(r:Nat)(n:Int):Option Int:=Classical.choose (acP (Sp u e l b r n) fun _ h=>aol h)
theorem ae7(u e l b:Int)(r:Nat)(n:Int):Jx (LB u e l b r n) (Sp u e l b r n):=Classical.choose_spec (acP (Sp u e l b r n) fun _ h=>aol h)
theorem ajG(H:qT=true)(h:okN u e l b=true){r:Nat}(h1:1<=r)(h3:r<=3){n:Int}(h0:0<=n)(hn:n<=99999):aaJ [jl u e l b,.int (r:Int),.int n]=some (ofO (LB u e l b r n)):=by
 obtain⟨d,g,hd⟩:=ajF H h h1 h3 h0 hn;rw[g,hd.uniq (ae7 u e l b r n)]
end
noncomputable def qy(kv:KI)(k c:Int):KI:=aaj kv k (qu kv k+c)
noncomputable abbrev JY(m A W:OP)(acc:KI)(n:Int)(R:OP)(k:OP):Rho:=[m,A,W,some (dI acc),some (.int n),R,k]
theorem anM{m A R:OP}{r:List (PyData×PyData)}{acc:KI}{n k c:Int}(hc:zg r n=some (.int c))(hl:acc.length<1000000):
  abu.1 (JY m A (some (.dict ((.none,.none)::r))) acc n R (some (.int k)))=some (.nx (JY m A (some (.dict ((.none,.none)::r))) (qy acc k c) n R (some (.int k)))):=by
 have hle:(enc acc).length<1000000:=by simpa[enc]using hl
 have g2:aa5 (dI acc) (.int k) (.int 0)=some (.int (qu acc k)):=by
  show some ((zg (enc acc) k).getD (.int 0))=_;rw[QM];unfold qu;cases j5 acc k<;>rfl
 have g1:afB (.dict ((.none,.none)::r)) (.int n)=some (.int c):=hc
 have fv:brw (some 3) (op2 ze (JL (lkp 3) (lkp 6) (cst (.int 0))) (op2 afB (lkp 2) (lkp 4))) (JY m A (some (.dict ((.none,.none)::r))) acc n R (some (.int k)))=some (.int (qu acc k+c)):=by
  simp only[brw,hid,op2,JL,lkp,cst,zzF,zzG,zzA,zzB,zzC,Option.join_none,zzH,zzD,g1,g2,add_int];rfl
 have fk:brw (some 3) (lkp 6) (JY m A (some (.dict ((.none,.none)::r))) acc n R (some (.int k)))=some (.int k):=by
  simp only[brw,hid,lkp,zzF,zzG,zzA,zzB,zzC]
 have pt:agZ (some (dI acc)) (some (.int (qu acc k+c))) (some (.int k))=some (dI (qy acc k c)):=by
  show(if (enc acc).length<1000000 then some (PyData.dict ((.none,.none)::ac5 (enc acc) k (.int (qu acc k+c)))) else none)=_;rw[if_pos hle,agb];rfl
 have l3:lkp 3 (JY m A (some (.dict ((.none,.none)::r))) acc n R (some (.int k)))=some (dI acc):=rfl;simp only[abu,jF,ag0,l3,fv,fk,pt,zzE,zzD,qp,zzF,zzG]
theorem adR(kv:KI)(k c:Int):(qy kv k c).length<=kv.length+1:=agc _ _ _
theorem acQ(c:Int):∀(ks:List Int) (acc:KI),(ks.foldl (fun a k=>qy a k c) acc).length<=acc.length+ks.length
 | [],acc=>by simp
 | k::ks,acc=>by
  have h1:=acQ c ks (qy acc k c);have h2:=adR acc k c;rw[List.foldl_cons,List.length_cons];omega
theorem adS{m A:OP}{r:List (PyData×PyData)}{n c:Int}(hc:zg r n=some (.int c))(e b:Int)(nn:Int):∀(rs:LP) (acc:KI) (x5 x6:OP),acc.length+rs.length<1000000->
  ∃y5 y6,jN (Qq 2 (jV (jG 5) (jV (jG 6) zG))) abu.1 (rs.map (abd e b nn)) (JY m A (some (.dict ((.none,.none)::r))) acc n x5 x6)=
   some (.nx (JY m A (some (.dict ((.none,.none)::r))) ((rs.map fun x=>qO e nn x / b).foldl (fun a k=>qy a k c) acc) n y5 y6))
 | [],acc,x5,x6,_=>⟨x5,x6,rfl⟩
 | x::rs,acc,x5,x6,hl=>by
  have hl':acc.length+(rs.length+1)<1000000:=hl;have h2:=adR acc (qO e nn x / b) c;obtain⟨y5,y6,ih⟩:=adS (m:=m) (A:=A) hc e b nn rs (qy acc (qO e nn x / b) c) (some x) (some (.int (qO e nn x / b))) (by omega);refine⟨y5,y6,?_⟩;have s:=anM (m:=m) (A:=A) (R:=some x) (acc:=acc) (k:=qO e nn x / b) hc (by omega);have ga:Qq 2 (jV (jG 5) (jV (jG 6) zG)) (abd e b nn x) (JY m A (some (.dict ((.none,.none)::r))) acc n x5 x6)=some (JY m A (some (.dict ((.none,.none)::r))) acc n (some x) (some (.int (qO e nn x / b)))):=rfl;rw[List.map_cons,jN,ga,zzD,s,zzD];exact ih
noncomputable def qI(u e l b:Int)(a:Nat)(n:Int):List Int:=((jz u l).filter (okL e b (jO u e l b a) n)).map fun x=>qO e n x / b
noncomputable def longF(u e l b:Int)(a:Nat)(kv:KI):KI:=kv.foldl (fun acc p=>(qI u e l b a p.1).foldl (fun x k=>qy x k (qu kv p.1)) acc) []
theorem alZ{u e l b:Int}(h:okN u e l b=true)(a:Nat)(ha:a<4){r:List (PyData×PyData)}{n c:Int}(hc:zg r n=some (.int c)){acc:KI}(hacc:acc.length+(jz u l).length<1000000){x5 x6:OP}:
  ∃y5 y6,Jl.1 (JY (some (jl u e l b)) (some (.int (a:Int))) (some (.dict ((.none,.none)::r))) acc n x5 x6)=
   some (.nx (JY (some (jl u e l b)) (some (.int (a:Int))) (some (.dict ((.none,.none)::r))) ((qI u e l b a n).foldl (fun x k=>qy x k c) acc) n y5 y6)):=by
 have h1:=aga (e:=e) (n:=n) h a ha;have hfl:((jz u l).filter (okL e b (jO u e l b a) n)).length<=(jz u l).length:=List.length_filter_le _ _;obtain⟨y5,y6,lp⟩:=adS (m:=some (jl u e l b)) (A:=some (.int (a:Int))) hc e b n ((jz u l).filter (okL e b (jO u e l b a) n)) acc x5 x6 (by omega);refine⟨y5,y6,?_⟩;simp only[Jl];refine(jt (ρ1:=JY (some (jl u e l b)) (some (.int (a:Int))) (some (.dict ((.none,.none)::r))) ((qI u e l b a n).foldl (fun x k=>qy x k c) acc) n y5 y6) ?_).trans rfl;simp only[Je,itL,JC,jJ,jq,jC,lkp,hid,JY,zzF,zzG,zzA,zzB,zzC,zzD,zzE,h1];exact lp
theorem agf(u e l b:Int)(a:Nat)(kv:KI)(c:Int->Int):∀(ps:KI) (acc:KI),(ps.foldl (fun acc p=>(qI u e l b a p.1).foldl (fun x k=>qy x k (c p.1)) acc) acc).length<=acc.length+ps.length*(jz u l).length
 | [],acc=>by simp
 | p::ps,acc=>by
  rw[List.foldl_cons];have h1:=agf u e l b a kv c ps ((qI u e l b a p.1).foldl (fun x k=>qy x k (c p.1)) acc);have h2:=acQ (c p.1) (qI u e l b a p.1) acc;have h3:(qI u e l b a p.1).length<=(jz u l).length:=by unfold qI;rw[List.length_map];exact List.length_filter_le _ _
  have h4:(ps.length+1)*(jz u l).length=ps.length*(jz u l).length+(jz u l).length:=by rw[Nat.succ_mul]
  rw[List.length_cons,h4];omega
theorem abe{u e l b:Int}(h:okN u e l b=true)(a:Nat)(ha:a<4)(kv:KI):∀(ps:KI) (acc:KI) (x4 x5 x6:OP),(∀p∈ps,p∈kv)->acc.length+(ps.length+1)*(jz u l).length<1000000->
  ∃y4 y5 y6,jN (jG 4) Jl.1 (ps.map fun p=> .int p.1) [some (jl u e l b),some (.int (a:Int)),some (dI kv),some (dI acc),x4,x5,x6]=
   some (.nx [some (jl u e l b),some (.int (a:Int)),some (dI kv),some (dI (ps.foldl (fun acc p=>(qI u e l b a p.1).foldl (fun x k=>qy x k (qu kv p.1)) acc) acc)),y4,y5,y6])
 | [],acc,x4,x5,x6,_,_=>⟨x4,x5,x6,rfl⟩
 | p::ps,acc,x4,x5,x6,hp,hl2=>by
  have e4:(ps.length+1+1)*(jz u l).length=(ps.length+1)*(jz u l).length+(jz u l).length:=by rw[Nat.succ_mul]
  have hl3:acc.length+(ps.length+1+1)*(jz u l).length<1000000:=hl2;obtain⟨c,hc⟩:=ae5 (hp p List.mem_cons_self);have hv:zg (enc kv) p.1=some (.int (qu kv p.1)):=by rw[QM,hc];unfold qu;rw[hc];rfl
  obtain⟨y5,y6,s⟩:=alZ (e:=e) h a ha (r:=enc kv) (n:=p.1) hv (acc:=acc) (x5:=x5) (x6:=x6) (by
   have:(jz u l).length<=(ps.length+1)*(jz u l).length:=Nat.le_mul_of_pos_left _ (by omega);omega)
  have h2:=acQ (qu kv p.1) (qI u e l b a p.1) acc;have h3:(qI u e l b a p.1).length<=(jz u l).length:=by unfold qI;rw[List.length_map];exact List.length_filter_le _ _
  obtain⟨z4,z5,z6,ih⟩:=abe (e:=e) h a ha kv ps ((qI u e l b a p.1).foldl (fun x k=>qy x k (qu kv p.1)) acc) (some (.int p.1)) y5 y6 (fun q hq=>hp q (List.mem_cons_of_mem _ hq)) (by omega);refine⟨z4,z5,z6,?_⟩;rw[List.map_cons,jN];simp only[jG,zzF,zzG,zzD];have s':Jl.1 [some (jl u e l b),some (.int (a:Int)),some (dI kv),some (dI acc),some (.int p.1),x5,x6]=_:=s;rw[s',zzD];exact ih
theorem ahz{u e l b:Int}(h:okN u e l b=true)(a:Nat)(ha:a<4)(kv:KI)(hk:(kv.length+1)*(jz u l).length<1000000):
  abw [jl u e l b,.int (a:Int),dI kv]=some (dI (longF u e l b a kv)):=by
 refine qh rfl ?_;obtain⟨y4,y5,y6,lp⟩:=abe (e:=e) h a ha kv kv [] none none none (fun _ h=>h) (by simpa using hk);show abv.1 [some (jl u e l b),some (.int (a:Int)),some (dI kv),none,none,none,none]=_
 have pr:(BX.zh (dI kv)).map (fun r=>r.map (·.1))=some (kv.map fun p=>PyData.int p.1):=by
  show some ((enc kv).map (·.1))=_;simp[enc,List.map_map,Function.comp_def]
 have q:jF (Je (fun ρ=>itD (lkp 2) (hid (some 3) ρ)) (jG 4) Jl.1) (jF (qz (lkp 3)) qp) [some (jl u e l b),some (.int (a:Int)),some (dI kv),some (dI []),none,none,none]=some (.rt (dI (longF u e l b a kv))):=by
  refine(jt (ρ1:=[some (jl u e l b),some (.int (a:Int)),some (dI kv),some (dI (longF u e l b a kv)),y4,y5,y6]) ?_).trans rfl;simp only[Je,itD,lkp,hid,zzF,zzG,zzA,zzB,zzC,zzD,pr];exact lp
 simp only[abv,Zv,cst,zzD,List.length_cons,List.length_nil,zzF,zzG];rw[if_pos (by decide)];have q':jF (Je (fun ρ=>itD (lkp 2) (hid (some 3) ρ)) (jG 4) Jl.1) (jF (qz (lkp 3)) qp) [some (jl u e l b),some (.int (a:Int)),some (dI kv),some (.dict [(.none,.none)]),none,none,none]=some (.rt (dI (longF u e l b a kv))):=q;rw[q'];rfl
theorem Zh(p:Int×Int)(kv:KI)(x:Int):j5 (p::kv) x=if p.1=x then some p.2 else j5 kv x:=by
 by_cases h:p.1=x<;>simp[j5,h,List.find?_cons]
theorem adT{kv:KI}{k:Int}(h:¬ kv.any (fun p=>decide (p.1=k))=true):j5 kv k=none:=by
 have:kv.find? (fun p=>decide (p.1=k))=none:=by
  rw[List.find?_eq_none];intro p hp z;exact h (List.any_eq_true.mpr ⟨p,hp,z⟩)
 simp[j5,this]
noncomputable def ndK(kv:KI):Prop:=(kv.map (·.1)).Nodup
theorem ahA{kv:KI}{k v:Int}(h:ndK kv):ndK (aaj kv k v):=by
 unfold aaj;by_cases c:kv.any (fun p=>decide (p.1=k))=true
 ·rw[if_pos c]
  unfold ndK at h ⊢
  have:(kv.map fun p=>if p.1=k then (p.1,v) else p).map (·.1)=kv.map (·.1):=by
   rw[List.map_map];apply List.map_congr_left;intro p _;by_cases q:p.1=k<;>simp[q]
  rw[this];exact h
 ·rw[if_neg c]
  unfold ndK at h ⊢;rw[List.map_append,List.nodup_append];refine⟨h,by simp,?_⟩;intro x hx y hy;have hy':y=k:=by simpa using hy
  subst hy';intro z;subst z;obtain⟨p,hp,e⟩:=List.mem_map.mp hx;exact c (List.any_eq_true.mpr ⟨p,hp,by simpa using e⟩)
theorem aiz(c:Int):∀(ks:List Int) (acc:KI),ndK acc->ndK (ks.foldl (fun a k=>qy a k c) acc)
 | [],acc,h=>h
 |k::ks,acc,h=>aiz c ks _ (ahA h)
theorem agg:∀{kv:KI}{p:Int×Int},ndK kv->p∈kv->qu kv p.1=p.2
 | [],p,_,h=>by simp at h
 | q::kv,p,hn,h=>by
  unfold ndK at hn;rw[List.map_cons,List.nodup_cons]at hn;unfold qu;rw[Zh];rcases List.mem_cons.mp h with rfl | h
  ·simp
  ·have:¬ q.1=p.1:=fun z=>hn.1 (List.mem_map.mpr ⟨p,h,z.symm⟩)
   rw[if_neg this];exact agg hn.2 h
noncomputable def smK(kv:KI)(f:Int->Int):Int:=(kv.map fun p=>p.2*f p.1).sum
theorem aiA(k v:Int)(f:Int->Int):∀kv:KI,ndK kv->kv.any (fun p=>decide (p.1=k))=true->smK (kv.map fun p=>if p.1=k then (p.1,v) else p) f=smK kv f+(v-qu kv k)*f k
 | [],_,h=>by simp at h
 | p::kv,hn,h=>by
  unfold ndK at hn;rw[List.map_cons,List.nodup_cons]at hn;by_cases h1:p.1=k
  ·have hid:kv.map (fun p=>if p.1=k then (p.1,v) else p)=kv:=by
    conv=>rhs;rw[←List.map_id kv]
    apply List.map_congr_left;intro q hq;have:¬ q.1=k:=fun z=>hn.1 (List.mem_map.mpr ⟨q,hq,z.trans h1.symm⟩);simp[this]
   rw[List.map_cons,hid];have g:qu (p::kv) k=p.2:=by unfold qu;rw[Zh,if_pos h1];rfl
   rw[g];simp only[h1,zzM,smK,List.map_cons,List.sum_cons,Int.sub_mul];omega
  ·have c:kv.any (fun p=>decide (p.1=k))=true:=by simpa[h1]using h
   have ih:=aiA k v f kv hn.2 c;have g:qu (p::kv) k=qu kv k:=by unfold qu;rw[Zh,if_neg h1]
   rw[List.map_cons,if_neg h1,g];simp only[smK,List.map_cons,List.sum_cons]at ih ⊢;rw[ih];omega
theorem aiB{kv:KI}{k c:Int}{f:Int->Int}(h:ndK kv):smK (qy kv k c) f=smK kv f+c*f k:=by
 unfold qy aaj;by_cases q:kv.any (fun p=>decide (p.1=k))=true
 ·rw[if_pos q,aiA k _ f kv h q]
  have:qu kv k+c-qu kv k=c:=by omega
  rw[this]
 ·rw[if_neg q]
  have g:qu kv k=0:=by unfold qu;rw[adT q];rfl
  rw[g];simp[smK]
theorem agh(c:Int)(f:Int->Int):∀(ks:List Int) (acc:KI),ndK acc->smK (ks.foldl (fun a k=>qy a k c) acc) f=smK acc f+c*(ks.map f).sum
 | [],acc,_=>by simp
 | k::ks,acc,h=>by
  rw[List.foldl_cons,agh c f ks (qy acc k c) (ahA h),aiB h,List.map_cons,List.sum_cons,Int.mul_add];omega
theorem Jn:∀{xs:List Int},(∀x∈xs,0<=x)->0<=xs.sum
 | [],_=>by simp
 | x::xs,h=>by
  have:=Jn (xs:=xs) fun y hy=>h y (List.mem_cons_of_mem _ hy);have:=h x List.mem_cons_self;rw[List.sum_cons];omega
theorem ahB:∀{xs:List Int}{y:Int},(∀x∈xs,0<=x)->y∈xs->y<=xs.sum
 | [],y,_,h=>by simp at h
 | x::xs,y,h,hy=>by
  have h1:=Jn (xs:=xs) fun z hz=>h z (List.mem_cons_of_mem _ hz);rw[List.sum_cons];rcases List.mem_cons.mp hy with rfl | hy
  ·omega
  ·have h2:=ahB (xs:=xs) (fun z hz=>h z (List.mem_cons_of_mem _ hz)) hy
   have:=h x List.mem_cons_self;omega
theorem acR(p:PyData->Bool)(h:PyData->Int):∀rs:LP,((rs.filter p).map h).sum=(rs.map fun r=>if p r=true then h r else 0).sum
 | []=>rfl
 | r::rs=>by
  rw[List.map_cons,List.sum_cons,←acR p h rs];by_cases c:p r=true
  ·rw[List.filter_cons_of_pos c,if_pos c,List.map_cons,List.sum_cons]
  ·rw[List.filter_cons_of_neg c,if_neg c];omega
theorem aiC(f g:Nat->Int):∀ks:List Nat,(ks.map fun k=>f k+g k).sum=(ks.map f).sum+(ks.map g).sum
 | []=>rfl
 |k::ks=>by simp only[List.map_cons,List.sum_cons,aiC f g ks];omega
theorem acS(f:Nat->Int):∀ks:List Nat,(∀k∈ks,f k=0)->(ks.map f).sum=0
 | [],_=>rfl
 | k::ks,h=>by
  rw[List.map_cons,List.sum_cons,acS f ks fun x hx=>h x (List.mem_cons_of_mem _ hx),h k List.mem_cons_self];rfl
theorem ae8(f:Nat->Int)(k0:Nat):∀N:Nat,k0<N->(∀k,k<N->k≠k0->f k=0)->((List.range N).map f).sum=f k0
 |0,h,_=>by omega
 | N+1,h,hz=>by
  rw[List.range_succ,List.map_append,List.sum_append];by_cases c:k0=N
  ·subst c
   rw[acS f _ fun k hk=>hz k (by have:=List.mem_range.mp hk;omega) (by have:=List.mem_range.mp hk;omega)];simp
  ·rw[ae8 f k0 N (by omega) fun k hk=>hz k (by omega)]
   have:=hz N (by omega) (fun z=>c z.symm);simp[this]
theorem adU(w:PyData->Int)(g:Int->Int)(N:Nat):∀rs:LP,(∀r∈rs,0<=w r/\w r<N)->(rs.map fun r=>g (w r)).sum=((List.range N).map fun (k:Nat)=>(((rs.filter fun r=>w r==(k:Int)).length:Nat):Int)*g k).sum
 | [],_=>by
  rw[acS _ _ fun k _=>by simp];rfl
 | r::rs,h=>by
  have ih:=adU w g N rs fun x hx=>h x (List.mem_cons_of_mem _ hx);obtain⟨h0,h1⟩:=h r List.mem_cons_self
  have key:((List.range N).map fun (k:Nat)=>((((r::rs).filter fun r=>w r==(k:Int)).length:Nat):Int)*g k).sum=
    ((List.range N).map fun (k:Nat)=>(if k=(w r).toNat then g (w r) else 0)+(((rs.filter fun r=>w r==(k:Int)).length:Nat):Int)*g k).sum:=by
   congr 1
   apply List.map_congr_left;intro k _;by_cases c:w r=(k:Int)
   ·have c1:k=(w r).toNat:=by omega
    have c2:(w r==(k:Int))=true:=by simpa using c
    have fp:(r::rs).filter (fun r=>w r==(k:Int))=r::rs.filter (fun r=>w r==(k:Int)):=List.filter_cons_of_pos c2;rw[if_pos c1,fp,List.length_cons,c];rw[Int.natCast_add,Int.add_mul];simp;omega
   ·have c1:¬ k=(w r).toNat:=by omega
    have c2:¬ (w r==(k:Int))=true:=by simpa using c
    have fp:(r::rs).filter (fun r=>w r==(k:Int))=rs.filter (fun r=>w r==(k:Int)):=List.filter_cons_of_neg c2;rw[if_neg c1,fp];omega
  rw[List.map_cons,List.sum_cons,key,aiC,ih];rw[ae8 (fun k=>if k=(w r).toNat then g (w r) else 0) (w r).toNat N (by omega) fun k _ hk=>by simp[hk]];simp
section
variable {u e l b:Int}
noncomputable def CN(u e l b:Int):Nat->Int->Int
 |0,n=>if n=0 then 1 else 0
 |r+1,n=>((jz u l).map fun x=>if (n-jp e x) % b=0/\0<=n-jp e x then CN u e l b r ((n-jp e x) / b) else 0).sum
theorem adV(f:PyData->Int):∀ks:LP,(∀k∈ks,f k=0)->(ks.map f).sum=0
 | [],_=>rfl
 |k::ks,h=>by rw[List.map_cons,List.sum_cons,h k List.mem_cons_self,adV f ks fun x hx=>h x (List.mem_cons_of_mem _ hx)];rfl
theorem adW(h:okN u e l b=true){x:PyData}(hx:x∈jz u l):0<=jp e x/\jp e x<=u*e+l:=by
 obtain⟨a1,a2,a3,a4,a5,a6,a7,a8,a9,a10⟩:=jH h;rw[aak]at hx;obtain⟨p,hp,rfl⟩:=List.mem_map.mp hx;have ok:=alQ hp;obtain⟨q1,q2,q3,q4⟩:=qq ok;have w0:=adM a3 ok;refine⟨w0,?_⟩;have:=Int.mul_le_mul_of_nonneg_right q2 (show 0<=e by omega);show p.1*e+p.2<=u*e+l;omega
theorem abH(h:okN u e l b=true):∀(r:Nat) (k:Int),jO u e l b r<k->CN u e l b r k=0
 | 0,k,hk=>by
  have:jO u e l b 0=0:=rfl;show(if k=0 then (1:Int) else 0)=0;rw[if_neg (by omega)]
 | r+1,k,hk=>by
  obtain⟨a1,a2,a3,a4,a5,a6,a7,a8,a9,a10⟩:=jH h;refine adV _ _ fun x hx=>?_;obtain⟨w0,w1⟩:=adW h hx;by_cases hc:(k-jp e x) % b=0/\0<=k-jp e x
  ·rw[if_pos hc]
   refine abH h r _ ?_;rw[Qn]at hk;have e1:wt e (u,l)=u*e+l:=rfl;rw[e1]at hk;have hd:=Int.mul_ediv_add_emod (k-jp e x) b;rw[hc.1,Int.mul_comm]at hd;exact Int.lt_of_mul_lt_mul_right (show jO u e l b r*b<(k-jp e x) / b*b by omega) (by omega)
  ·rw[if_neg hc]
theorem ajH(h:okN u e l b=true)(a:Nat)(n:Int):((qI u e l b a n).map (CN u e l b a)).sum=CN u e l b (a+1) n:=by
 obtain⟨a1,a2,a3,a4,a5,a6,a7,a8,a9,a10⟩:=jH h;unfold qI;rw[List.map_map,acR];show _=((jz u l).map fun x=>if (n-jp e x) % b=0/\0<=n-jp e x then CN u e l b a ((n-jp e x) / b) else 0).sum
 congr 1
 refine List.map_congr_left fun x hx=>?_;by_cases hc:(n-jp e x) % b=0/\0<=n-jp e x
 ·rw[if_pos hc]
  by_cases hM:n-jp e x<=b*jO u e l b a
  ·have ok:okL e b (jO u e l b a) n x=true:=by
    simp only[okL,qO,Bool.and_eq_true];exact⟨decide_eq_true hc.1,decide_eq_true hc.2,decide_eq_true hM⟩
   rw[if_pos ok];rfl
  ·have ok:¬ okL e b (jO u e l b a) n x=true:=by
    simp only[okL,qO,Bool.and_eq_true];exact fun z=>hM (of_decide_eq_true z.2.2)
   rw[if_neg ok];refine(abH h a _ ?_).symm;have hd:=Int.mul_ediv_add_emod (n-jp e x) b;rw[hc.1]at hd;exact Int.lt_of_mul_lt_mul_left (show b*jO u e l b a<b*((n-jp e x) / b) by omega) (by omega)
 ·have ok:¬ okL e b (jO u e l b a) n x=true:=by
   simp only[okL,qO,Bool.and_eq_true];exact fun z=>hc ⟨of_decide_eq_true z.1,of_decide_eq_true z.2.1⟩
  rw[if_neg ok,if_neg hc]
theorem agi(a:Nat)(g f:Int->Int):∀(ps acc:KI),ndK acc->ndK (ps.foldl (fun acc p=>(qI u e l b a p.1).foldl (fun x k=>qy x k (g p.1)) acc) acc)/\smK (ps.foldl (fun acc p=>(qI u e l b a p.1).foldl (fun x k=>qy x k (g p.1)) acc) acc) f=smK acc f+(ps.map fun p=>g p.1*((qI u e l b a p.1).map f).sum).sum
 | [],acc,hn=>⟨hn,by simp⟩
 | p::ps,acc,hn=>by
  obtain⟨h1,h2⟩:=agi a g f ps ((qI u e l b a p.1).foldl (fun x k=>qy x k (g p.1)) acc) (aiz _ _ _ hn);refine⟨h1,?_⟩;rw[List.foldl_cons,h2,agh _ _ _ _ hn,List.map_cons,List.sum_cons];omega
theorem agj(h:okN u e l b=true)(a:Nat){kv:KI}(hn:ndK kv):ndK (longF u e l b a kv)/\smK (longF u e l b a kv) (CN u e l b a)=smK kv (CN u e l b (a+1)):=by
 obtain⟨h1,h2⟩:=agi (u:=u) (e:=e) (l:=l) (b:=b) a (qu kv) (CN u e l b a) kv [] (by simp[ndK]);refine⟨h1,?_⟩;show smK (kv.foldl _ []) _=_;rw[h2];have e0:smK [] (CN u e l b a)=0:=rfl;rw[e0,Int.zero_add];unfold smK
 congr 1
 refine List.map_congr_left fun p hp=>?_;rw[ajH h,agg hn hp]
theorem ae9:∀{kv:KI},ndK kv->smK kv (CN u e l b 0)=qu kv 0
 | [],_=>rfl
 | p::kv,hn=>by
  have hn':ndK kv:=by unfold ndK at hn ⊢;rw[List.map_cons]at hn;exact(List.nodup_cons.mp hn).2
  have hne:p.1∉kv.map (·.1):=by unfold ndK at hn;rw[List.map_cons]at hn;exact(List.nodup_cons.mp hn).1
  have ih:=ae9 hn'
  have e1:smK (p::kv) (CN u e l b 0)=p.2*(if p.1=0 then 1 else 0)+smK kv (CN u e l b 0):=by
   unfold smK;rw[List.map_cons,List.sum_cons];rfl
  rw[e1,ih];unfold qu;rw[Zh];by_cases h0:p.1=0
  ·rw[if_pos h0,if_pos h0]
   have:j5 kv 0=none:=adT fun z=>by
    obtain⟨q,hq,hq2⟩:=List.any_eq_true.mp z;exact hne (List.mem_map.mpr ⟨q,hq,by rw[h0];simpa using hq2⟩)
   rw[this];simp
  ·rw[if_neg h0,if_neg h0]
   simp
theorem apC{kv kv':KI}{a:Nat}{R N:OP}(g:abw [jl u e l b,.int (a:Int),dI kv]=some (dI kv')):acG.1 [some (jl u e l b),R,N,some (dI kv),some (.int (a:Int))]=some (.nx [some (jl u e l b),R,N,some (dI kv'),some (.int (a:Int))]):=by
 simp only[acG,jF,qF,jJ,jq,jC,lkp,jG,zzA,zzB,zzC,zzD,zzE,g,zzF,zzG,qp]
theorem al0{m:PyData}{rr n s:Int}{R:LP}{D:KI}{x4:OP}(ga:zJ [m,.int rr,.int n]=some .none)(s1:aau (.int rr) (.int 1)=some (.int s))(rg:ag3 [.int s,.int (-1),.int (-1)]=some R)(hl:jN (jG 4) acG.1 R [some m,some (.int rr),some (.int n),some (dI [(n,1)]),none]=some (.nx [some m,some (.int rr),some (.int n),some (dI D),x4])):
  ant.1 [some m,some (.int rr),some (.int n),none,none]=some (.rt (.int (qu D 0))):=by
 have ng:agV (.int 1)=some (.int (-1)):=rfl;have g2:=aiw D 0 0;simp only[ant];refine(jt (ρ1:=[some m,some (.int rr),some (.int n),none,none]) ?_).trans ?_
 ·simp only[Zk,jJ,jq,jC,lkp,zzA,zzB,zzC,zzD,zzE,ga]
 refine(jt (ρ1:=[some m,some (.int rr),some (.int n),some (dI [(n,1)]),none]) ?_).trans ?_
 ·rfl
 refine(jt (ρ1:=[some m,some (.int rr),some (.int n),some (dI D),x4]) ?_).trans ?_
 ·simp only[Je,jq,jC,op2,lkp,cst,zzA,zzB,zzC,zzD,zzE,s1,ng,rg]
  exact hl
 simp only[jF,qz,JL,lkp,cst,zzA,zzB,zzC,zzD,zzE,g2];rfl
theorem ajI(h:okN u e l b=true)(a:Nat)(kv:KI):(longF u e l b a kv).length<=kv.length*(rp u l).length:=by
 have:=agf u e l b a kv (qu kv) kv [];rw[List.length_nil,Nat.zero_add,←ahw]at this;exact this
theorem aiD(H:qT=true)(h:okN u e l b=true){r:Nat}(h1:1<=r)(h3:r<=3){n:Int}(h0:0<=n)(hn:n<=99999):ajy [jl u e l b,.int (r:Int),.int n]=some (.int (CN u e l b r n)):=by
 have ga:=Zf H h (r:=(r:Int)) (n:=n) (by omega) (by omega) h0 hn
 obtain⟨ρ',hl,hI⟩:=JX (ga:=jG 4) (F:=acG.1) (fun i ρ=>∃D x4,ρ=[some (jl u e l b),some (.int (r:Int)),some (.int n),some (dI D),x4]/\ndK D/\smK D (CN u e l b (r-i))=CN u e l b r n/\D.length<=48 ^ i) ((List.range r).map fun (j:Nat)=> .int (((r-(j+1):Nat):Int))) 0
  [some (jl u e l b),some (.int (r:Int)),some (.int n),some (dI [(n,1)]),none] ⟨_,_,rfl,by simp[ndK],by simp[smK],by simp⟩ (fun j d ρ hd hi=>by
   obtain ⟨hj,rfl⟩:=aam hd;obtain ⟨D,x4,rfl,hD,hS,hlen⟩:=hi;rw [Nat.zero_add] at hS hlen;have hk:=alX h (j:=j) (by omega) hlen;rw [ahw] at hk;have g:=ahz h (r - (j+1)) (by omega) D hk;obtain ⟨s1,s2⟩:=agj h (r - (j+1)) hD;exact ⟨_,_,rfl,apC g,_,_,rfl,s1,by rw [Nat.zero_add,s2,show r - (j+1)+1=r - j by omega]; exact hS,by rw [Nat.zero_add]; exact age h hlen (ajI h _ _)⟩)
 obtain⟨D,x4,rfl,hD,hS,hlen⟩:=hI;rw[List.length_map,List.length_range,Nat.zero_add,Nat.sub_self,ae9 hD]at hS;rw[←hS];exact qh rfl (al0 ga rfl (Zg h1 h3) hl)
end
theorem agk{u e l b:Int}(h:okN u e l b=true):0<=u*e+l/\u*e+l<=26:=by
 obtain⟨a1,a2,a3,a4,a5,a6,a7,a8,a9,a10⟩:=jH h;have h1:0<=u*e:=Int.mul_nonneg a1 (by omega);have h2:u*e<=3*5:=Int.mul_le_mul (by omega) (by omega) (by omega) (by omega);omega
theorem ahC(ns:List Int):qD (ns.map PyData.int)=some ns:=by
 have:=ZA (fun x:Int=>x) ns;simpa using this
section
variable {u e l b:Int}{ps qs:List (Int×Int)}
theorem abI{xs ys:LP}(hx:xs≠[]∨True)(hl:xs.length+ys.length<10000):ze (.tuple xs) (.tuple ys)=some (.tuple (xs++ys)):=by
 cases xs with
 |nil=>rfl
 | cons x xs=>
  have hf:few ((x::xs)++ys)=true:=zR (by rw[List.length_append];exact hl);show(if few ((x::xs)++ys)=true then some (PyData.tuple ((x::xs)++ys)) else none)=_;rw[if_pos hf]
theorem apD{ns:List Int}(hn:ns.length<1000000)(h:okN u e l b=true){at_:Int}(ha:0<=at_){j:Nat}(hj:j<4){x3 x4 x7:OP}(hq:qs.length<=4):
  ∃p,okP u l p=true/\aeT.1 [some (scr ns),some (.int at_),some (jl u e l b),x3,x4,some (jy qs),some (.int (j:Int)),x7]=some (.nx [some (scr ns),some (.int at_),some (jl u e l b),x3,x4,some (jy (qs++[p])),some (.int (j:Int)),some (pr p)]):=by
 obtain⟨a1,a2,a3,a4,a5,a6,a7,a8,a9,a10⟩:=jH h;obtain⟨x,d1,x0,x1⟩:=qZ ns hn (at_+1+2*(j:Int)) (u+1) (by omega) (by omega);obtain⟨y,d2,y0,y1⟩:=qZ ns hn (at_+2+2*(j:Int)) (l+1) (by omega) (by omega);have m1:JI (.int 2) (.int (j:Int))=some (.int (2*(j:Int))):=jY ⟨by omega,by omega⟩;have f2:few [PyData.int x,.int y]=true:=zR (by simp);have f1:few [PyData.tuple [.int x,.int y]]=true:=zR (by simp)
 have ad:ze (jy qs) (.tuple [.tuple [.int x,.int y]])=some (jy (qs++[(x,y)])):=by
  have:=abI (xs:=qs.map pr) (ys:=[pr (x,y)]) (.inr trivial) (by simp;omega);rw[show jy (qs++[(x,y)])= .tuple (qs.map pr++[pr (x,y)]) by simp[jy]];exact this
 generalize scr ns=S at*;refine⟨(x,y),?_,?_⟩
 ·simp only[okP,Bool.and_eq_true,decide_eq_true_eq]
  exact⟨⟨⟨x0,by omega⟩,y0⟩,by omega⟩
 ·simp only[aeT]
  refine(jt (ρ1:=[some S,some (.int at_),some (jl u e l b),x3,x4,some (jy qs),some (.int (j:Int)),some (.tuple [.int x,.int y])]) ?_).trans ?_
  ·simp only[qF,Qu,jJ,jq,jC,op2,lkp,cst,jG,zzA,zzB,zzC,zzD,zzE,ix0,ix2,m1,add_int,d1,d2,f2,zzM,zzF,zzG]
  simp only[jF,qF,Qu,jq,jC,op2,lkp,jG,zzA,zzB,zzC,zzD,zzE,f1,zzM,ad,zzF,zzG,qp];rfl
theorem al1{ns:List Int}(hn:ns.length<1000000)(h:okN u e l b=true){at_:Int}(ha:0<=at_){mo:Int}(hm1:1<=mo)(hm4:mo<=4):∃ps,anx [scr ns,.int at_,jl u e l b,.int mo]=some (jy ps)/\okS u l ps=true/\(ps.length:Int)<=mo:=by
 obtain⟨r,d0,r0,r1⟩:=qZ ns hn at_ mo ha (by omega);have hr:agN [.int (1+r)]=some (Zl 0 (1+r).toNat):=aip (by omega) (by omega)
 obtain⟨ρ',hl,hI⟩:=JX (ga:=jG 6) (F:=aeT.1) (fun i ρ=>∃qs x6 x7,ρ=[some (scr ns),some (.int at_),some (jl u e l b),some (.int mo),some (.int (1+r)),some (jy qs),x6,x7]/\qs.length=i/\qs.all (okP u l)=true) (Zl 0 (1+r).toNat) 0
  [some (scr ns),some (.int at_),some (jl u e l b),some (.int mo),some (.int (1+r)),some (jy []),none,none] ⟨[],none,none,rfl,rfl,rfl⟩ (fun j d ρ hd hi=>by
   obtain ⟨hj,rfl⟩:=alV hd;obtain ⟨qs,x6,x7,rfl,hlen,hall⟩:=hi;obtain ⟨p,hp,hb⟩:=apD hn h ha (j:=j) (by omega) (x3:=some (.int mo)) (x4:=some (.int (1+r))) (x7:=x7) (qs:=qs) (by omega);exact ⟨_,_,rfl,hb,qs++[p],_,_,rfl,by rw [List.length_append,hlen]; rfl,by rw [List.all_append,hall,List.all_cons,hp]; rfl⟩)
 obtain⟨qs,x6,x7,rfl,hlen,hall⟩:=hI;rw[alW,Nat.zero_add]at hlen;refine⟨qs,qh rfl ?_,aaV (by omega) (by omega) hall,by omega⟩;generalize scr ns=S at*;show anw.1 [some S,some (.int at_),some (jl u e l b),some (.int mo),none,none,none,none]=_;simp only[anw];refine(jt (ρ1:=[some S,some (.int at_),some (jl u e l b),some (.int mo),some (.int (1+r)),none,none,none]) ?_).trans ?_
 ·simp only[qF,jJ,jq,jC,op2,lkp,cst,jG,zzA,zzB,zzC,zzD,zzE,d0,add_int,zzF,zzG]
 refine(jt (ρ1:=[some S,some (.int at_),some (jl u e l b),some (.int mo),some (.int (1+r)),some (jy []),none,none]) rfl).trans ?_;refine(jt (ρ1:=[some S,some (.int at_),some (jl u e l b),some (.int mo),some (.int (1+r)),some (jy qs),x6,x7]) ?_).trans ?_
 ·show(Option.bind (Option.bind _ agN) _)=_
  simp only[jq,jC,lkp,zzA,zzB,zzC,zzD,zzE,hr];exact hl
 rfl
theorem afa(i j:Int):dNe (.int i) (.int j)=some (.bool (!decide (i=j))):=by
 have:(i==j)=decide (i=j):=rfl;simp only[dNe,Zb,abC,and_self,zzM,this]
theorem al2(h:okN u e l b=true)(hp:ps.all (okP u l)=true):val b e ps+2<=2*16 ^ ps.length:=by
 obtain⟨a1,a2,a3,a4,a5,a6,a7,a8,a9,a10⟩:=jH h
 have key:∀(ps:List (Int×Int)) (acc:Int),ps.all (okP u l)=true->0<=acc->ps.foldl (fun n p=>n*b+wt e p) acc+2<=(acc+2)*16 ^ ps.length:=by
  intro ps
  induction ps with
  |nil=>intro acc _ h;simp
  | cons p ps ih=>
   intro acc hp h0;rw[List.all_cons,Bool.and_eq_true]at hp;have w0:=adM a3 hp.1;have w1:=alK a3 a4 a2 a7 hp.1;have ha:0<=acc*b:=Int.mul_nonneg h0 (by omega);have hb2:acc*b<=acc*16:=Int.mul_le_mul_of_nonneg_left a9 h0;refine Int.le_trans (ih (acc*b+wt e p) hp.2 (by omega)) ?_;rw[List.length_cons,Int.pow_succ,Int.mul_comm (16 ^ ps.length) 16,←Int.mul_assoc];exact Int.mul_le_mul_of_nonneg_right (by omega) (Int.le_of_lt (aaT (by decide) _))
 have:=key ps 0 hp (by omega);simpa[val]using this
theorem acT{N:List Str}{n:Nat}{F:Rho->Option Str}{ds:LP}(hl:ds.length=n):QD N n F ds=F (jL N ds):=by
 unfold QD;rw[if_pos hl]
theorem ahD(h:okN u e l b=true){r:Nat}{n:Int}(h1:1<=r)(h4:r<=4)(h0:0<=n)(hn:b ^ r<=n):aeX [jl u e l b,.int (r:Int),.int n]=some ("TooGreat":Str):=by
 obtain⟨a1,a2,a3,a4,a5,a6,a7,a8,a9,a10⟩:=jH h;have hb:0<b:=by omega
 have hd:=ae2 (n:=n) hb a9 h1 h4;obtain⟨k,rfl⟩:∃k,r=k+1:=⟨r-1,by omega⟩;obtain⟨x,xs,hx,_,hx2⟩:=aah hb k n h0;have hi:=alM h4 hx
 have hc:zz (fun i j=>decide (j<=i)) (.int x) (.int b)=some (.bool true):=by
  show some (PyData.bool (decide (b<=x)))=_;rw[decide_eq_true (hx2 hn)]
 generalize hr:((k+1:Nat):Int)=rr at hd ⊢;refine(acT rfl).trans ?_;show abz.1 [some (jl u e l b),some (.int rr),some (.int n),none]=_;simp only[abz,nxX,qF,jJ,jq,jC,op2,lkp,cst,jG,zzA,zzB,zzC,zzD,zzE,ix3,hd,zzF,zzG,ifX,tst,hi,hc,asB,zzM]
end
theorem aqP(ds:LP)(k:Nat):aep ds none (some (k:Int))=ds.take k:=by
 unfold aep;rw[HT.sIx_none,HT.sIx_nat,List.drop_zero,Nat.sub_zero];by_cases h:k<=ds.length
 ·rw[Nat.min_eq_left h]
 ·rw[Nat.min_eq_right (by omega),List.take_of_length_le (by omega),List.take_of_length_le (by omega)]
theorem anN(ds:LP)(k:Nat):aep ds (some (k:Int)) none=ds.drop k:=by
 unfold aep;rw[HT.sIx_none,HT.sIx_nat];by_cases h:k<=ds.length
 ·rw[Nat.min_eq_left h,List.take_of_length_le (by rw[List.length_drop];omega)]
 ·rw[Nat.min_eq_right (by omega),List.drop_of_length_le (by omega),List.drop_of_length_le (by omega),List.take_nil]
theorem ajJ{d:PyData}(h:qW [d]=some (.bool true)):ahn [d]=none:=by
 refine(acT rfl).trans ?_;show aeU.1 [some d]=_;simp[aeU,ifX,J9,tst,asB,jJ,jq,jC,lkp,h,ag8]
theorem Zi{N:List Str}{n:Nat}{F:Rho->Option Str}{ds:LP}{c:Option Str}(hl:ds.length=n)(h:F (jL N ds)=c):QD N n F ds=c:=(acT hl).trans h
theorem aiE{N:List Str}{n:Nat}{B:RO}{ds:LP}(hl:ds.length=n)(h:B (jL N ds)=none):jw N n B ds=none:=by
 unfold jw;rw[if_pos hl,h]
section
variable {u e l b:Int}{ps qs:List (Int×Int)}
theorem ahE(h:okN u e l b=true){r:Nat}{n:Int}(h1:1<=r)(h4:r<=4)(h0:0<=n)(hn:b ^ r<=n):abr [jl u e l b,.int (r:Int),.int n]=none:=by
 obtain⟨a1,a2,a3,a4,a5,a6,a7,a8,a9,a10⟩:=jH h;have hb:0<b:=by omega
 have hd:=ae2 (n:=n) hb a9 h1 h4;obtain⟨k,rfl⟩:∃k,r=k+1:=⟨r-1,by omega⟩;obtain⟨x,xs,hx,_,hx2⟩:=aah hb k n h0;have hi:=alM h4 hx
 have hc:zz (fun i j=>decide (j<=i)) (.int x) (.int b)=some (.bool true):=by
  show some (PyData.bool (decide (b<=x)))=_;rw[decide_eq_true (hx2 hn)]
 generalize hr:((k+1:Nat):Int)=rr at hd ⊢;refine aiE rfl ?_;show Q6.1 [some (jl u e l b),some (.int rr),some (.int n),none]=none;dsimp? [Q6,ix3,hd,hi,hc]
end
theorem apE{i:Int}(h:0<=i/\i<=99999):Ju [.int i]=some .none/\aeV [.int i]=none:=by
 have gw:=j4 i 0 99999;rw[decide_eq_true h.1,decide_eq_true h.2]at gw;constructor
 ·simp[Ju,jw,abq,jL,jF,ifS,J9,tst,asB,cst,jJ,jq,jC,lkp,gw,qp]
 ·refine Zi rfl ?_
  show aby.1 [some (.int i)]=_;simp[aby,orX,ifX,J9,tst,asB,cst,jJ,jq,jC,lkp,gw,ag8]
theorem anO{i:Int}(h:1<=i/\i<=4):qH [.int i]=some .none/\acJ [.int i]=none:=by
 have gw:=j4 i 1 4;rw[decide_eq_true h.1,decide_eq_true h.2]at gw;constructor
 ·simp[qH,jw,Z4,jL,jF,ifS,J9,tst,asB,cst,jJ,jq,jC,lkp,gw,qp]
 ·refine Zi rfl ?_
  show aac.1 [some (.int i)]=_;simp[aac,orX,ifX,J9,tst,asB,cst,jJ,jq,jC,lkp,gw,ag8]
theorem aqQ{ds:LP}(h:ds.length<50):few ds=true:=zR (by omega)
theorem fw1{a:PyData}:few [a]=true:=aqQ (by simp)
theorem fw2{a b:PyData}:few [a,b]=true:=aqQ (by simp)
noncomputable def shl(n:Nat)(d:PyData):Prop:=d.canLay0=true/\d.depth<=n
theorem abJ{ds:LP}:PyData.canLayAll0 ds=true↔∀d∈ds,d.canLay0=true:=by
 induction ds with
 |nil=>simp[PyData.canLayAll0]
 |cons x xs ih=>simp[PyData.canLayAll0,ih]
theorem abK{ds:LP}{n:Nat}:PyData.depthAll ds<=n↔∀d∈ds,d.depth<=n:=by
 induction ds with
 |nil=>simp[PyData.depthAll]
 |cons x xs ih=>simp only[PyData.depthAll,List.mem_cons,forall_eq_or_imp,←ih];omega
theorem aiF{n:Nat}{ds:LP}:shl (n+1) (.tuple ds)↔∀d∈ds,shl n d:=by
 constructor
 ·rintro⟨h1,h2⟩ d hd
  refine⟨abJ.mp (by simpa[PyData.canLay0]using h1) d hd,abK.mp ?_ d hd⟩;simp only[PyData.depth]at h2;omega
 ·intro h
  refine⟨by simp only[PyData.canLay0];exact abJ.mpr fun d hd=>(h d hd).1,?_⟩;have:=abK.mpr fun d hd=>(h d hd).2;simp only[PyData.depth];omega
theorem anP{n:Nat}{ds:LP}:shl (n+1) (.list ds)↔∀d∈ds,shl n d:=by
 constructor
 ·rintro⟨h1,h2⟩ d hd
  refine⟨abJ.mp (by simpa[PyData.canLay0]using h1) d hd,abK.mp ?_ d hd⟩;simp only[PyData.depth]at h2;omega
 ·intro h
  refine⟨by simp only[PyData.canLay0];exact abJ.mpr fun d hd=>(h d hd).1,?_⟩;have:=abK.mpr fun d hd=>(h d hd).2;simp only[PyData.depth];omega
theorem apF{n:Nat}{d:PyData}(h:shl n d)(hn:n<30):okD d=true:=by
 unfold okD;rw[h.1,decide_eq_true (show d.depth<30 by have:=h.2;omega)];rfl
theorem anQ(i:Int):shl 1 (.int i):=⟨rfl,by simp[PyData.depth]⟩
theorem apG(p:Int×Int):shl 2 (pr p):=aiF.mpr fun d hd=>by
 simp only[List.mem_cons,List.not_mem_nil,or_false]at hd;rcases hd with rfl|rfl<;>exact anQ _
theorem anR(ps:List (Int×Int)):shl 3 (jy ps):=aiF.mpr fun d hd=>by
 obtain⟨p,_,rfl⟩:=List.mem_map.mp hd;exact apG p
section
variable {u e l b:Int}
theorem ajK(H:qT=true)(h:okN u e l b=true){r:Nat}{n:Int}(h1:1<=r)(h4:r<=4)(h0:0<=n)(h9:n<=99999)(hn:b ^ r<=n):Ql [jl u e l b,.int (r:Int),.int n]=none/\abB [jl u e l b,.int (r:Int),.int n]=some ("TooGreat":Str):=by
 have g:=ahE h h1 h4 h0 hn;have x:=ahD h h1 h4 h0 hn;have ga:=Zf H h (r:=(r:Int)) (n:=n) (by omega) (by omega) h0 h9;have hM:=alL H h
 have ta:aho [jl u e l b,.int (r:Int),.int n]=none:=by
  obtain⟨q1,q2⟩:=anO (i:=(r:Int)) (by omega);obtain⟨q3,q4⟩:=apE (i:=n) ⟨h0,h9⟩;have q5:=JV hM;have q6:=ajJ hM;generalize jl u e l b=M at*;generalize PyData.int (r:Int)=Rr at*;generalize PyData.int n=Nn at*;refine Zi rfl ?_;show aeW.1 [some M,some Rr,some Nn]=_;simp[aeW,orX,nxX,Zk,jJ,jq,jC,lkp,q1,q2,q3,q4,q5,q6]
 generalize jl u e l b=M at*;generalize PyData.int (r:Int)=Rr at*;generalize PyData.int n=Nn at*;constructor
 ·refine aiE rfl ?_
  show Z9.1 [some M,some Rr,some Nn]=none;dsimp? [Z9,ga,g]
 ·refine Zi rfl ?_
  show abA.1 [some M,some Rr,some Nn]=_;simp[abA,orX,nxX,Zk,jJ,jq,jC,lkp,ga,ta,x]
end
theorem adX{α:Type}:∀(ps:List α) (r:Nat) (q:α),r<ps.length->ps.set r q=ps.take r++[q]++ps.drop (r+1)
 | [],r,q,h=>by simp at h
 |p::ps,0,q,h=>rfl
 | p::ps,r+1,q,h=>by
  simp only[zzF,List.take_succ_cons,List.drop_succ_cons,List.cons_append];rw[adX ps r q (by simpa using h)]
section
variable {u e l b:Int}{ps:List (Int×Int)}
theorem aqR{r:Nat}(hr:r<ps.length)(h4:ps.length<=4)(q:Int×Int):∃A1 A2 A3,ZT (jy ps) none (some (r:Int))=some A1/\ze A1 (.tuple [pr q])=some A2/\ZT (jy ps) (some ((r:Int)+1)) none=some A3/\ze A2 A3=some (jy (ps.set r q)):=by
 refine⟨.tuple ((ps.map pr).take r),.tuple ((ps.map pr).take r++[pr q]),.tuple ((ps.map pr).drop (r+1)),?_,?_,?_,?_⟩
 ·show some (PyData.tuple (aep _ none (some (r:Int))))=_
  rw[aqP]
 ·exact abI (.inr trivial) (by rw[List.length_take,List.length_map];simp;omega)
 ·show some (PyData.tuple (aep _ (some ((r:Int)+1)) none))=_
  rw[show(r:Int)+1=((r+1:Nat):Int) by omega,anN]
 ·rw[abI (.inr trivial) (by rw[List.length_append,List.length_take,List.length_drop,List.length_map];simp only[List.length_cons,List.length_nil];omega),adX ps r q hr]
  show some (PyData.tuple _)=some (PyData.tuple (List.map pr _));rw[List.map_append,List.map_append,List.map_take,List.map_drop];rfl
theorem anS(hs:okS u l ps=true)(r:Nat){q:Int×Int}(hq:okP u l q=true):okS u l (ps.set r q)=true:=by
 obtain⟨h1,h4,hp⟩:=za hs;refine aaV (by rw[List.length_set];exact h1) (by rw[List.length_set];exact h4) (List.all_eq_true.mpr fun x hx=>?_);rcases List.mem_or_eq_of_mem_set hx with z|rfl
 ·exact List.all_eq_true.mp hp x z
 ·exact hq
end
section
variable {u e l b:Int}
theorem aiG(b e:Int):∀(ps:List (Int×Int)) (r:Nat) (p q:Int×Int),ps[r]?=some p->val b e (ps.set r q)=val b e ps+(wt e q-wt e p)*b ^ (ps.length-1-r)
 | [],r,p,q,h=>by simp at h
 | a::ps,0,p,q,h=>by
  have:a=p:=by simpa using h
  subst this;rw[zzG,zF,zF,List.length_cons,Int.sub_mul];simp only[Nat.add_sub_cancel,Nat.sub_zero];omega
 | a::ps,r+1,p,q,h=>by
  have h':ps[r]?=some p:=by simpa using h
  obtain⟨hr,_⟩:=List.getElem?_eq_some_iff.mp h';rw[zzF,zF,zF,aiG b e ps r p q h',List.length_set,List.length_cons,show ps.length+1-1-(r+1)=ps.length-1-r by omega];omega
end
noncomputable abbrev SL:=List (List (Int×Int))
noncomputable abbrev KL:=List (Int×SL)
noncomputable def eS(ss:SL):PyData:= .list (ss.map jy)
noncomputable def JF(kv:KL):List (PyData×PyData):=kv.map fun p=>(.int p.1,eS p.2)
noncomputable def dL(kv:KL):PyData:= .dict ((.none,.none)::JF kv)
noncomputable def zc(kv:KL)(k:Int):Option SL:=(kv.find? fun p=>decide (p.1=k)).map (·.2)
noncomputable def j9(kv:KL)(k:Int):SL:=(zc kv k).getD []
noncomputable def afb(kv:KL)(k:Int)(v:SL):KL:=if kv.any (fun p=>decide (p.1=k))=true then kv.map (fun p=>if p.1=k then (p.1,v) else p) else kv++[(k,v)]
theorem aaX(kv:KL)(k:Int):zg (JF kv) k=(zc kv k).map eS:=by
 induction kv with
 |nil=>rfl
 | cons p kv ih=>
  by_cases h:p.1=k
  ·simp[zg,JF,zc,isI,h]
  ·have e1:zg (JF (p::kv)) k=zg (JF kv) k:=by simp[zg,JF,isI,h,List.find?_cons]
   have e2:zc (p::kv) k=zc kv k:=by simp[zc,h,List.find?_cons]
   rw[e1,e2,ih]
theorem ajL(kv:KL)(k:Int)(v:SL):ac5 (JF kv) k (eS v)=JF (afb kv k v):=by
 have h1:(JF kv).any (fun p=>isI k p.1)=kv.any fun p=>decide (p.1=k):=by simp[JF,List.any_map,Function.comp_def,isI]
 unfold ac5 afb;rw[h1];by_cases c:kv.any (fun p=>decide (p.1=k))=true
 ·rw[if_pos c,if_pos c]
  simp only[JF,List.map_map];apply List.map_congr_left;intro p _;by_cases h:p.1=k<;>simp[isI,h]
 ·rw[if_neg c,if_neg c]
  simp[JF]
theorem zb(p:Int×SL)(kv:KL)(x:Int):zc (p::kv) x=if p.1=x then some p.2 else zc kv x:=by
 by_cases h:p.1=x<;>simp[zc,List.find?_cons,h]
theorem agl(k:Int)(v:SL)(x:Int):∀kv:KL,zc (kv.map fun p=>if p.1=k then (p.1,v) else p) x=if x=k then (if kv.any (fun p=>decide (p.1=k))=true then some v else none) else zc kv x
 | []=>by simp[zc]
 | p::kv=>by
  rw[List.map_cons,zb,zb,agl k v x kv];by_cases hp:p.1=k
  ·by_cases hx:x=k
   ·subst hx;simp[hp]
   ·have hkx:¬ k=x:=fun z=>hx z.symm
    simp[hp,hx,hkx]
  ·by_cases hx:x=k
   ·subst hx;rw[List.any_cons,decide_eq_false hp,Bool.false_or];simp[hp]
   ·by_cases hq:p.1=x<;>simp[hp,hx,hq]
theorem agm(k:Int)(v:SL)(x:Int):∀kv:KL,zc (kv++[(k,v)]) x=if kv.any (fun p=>decide (p.1=x))=true then zc kv x else if k=x then some v else none
 | []=>by rw[List.nil_append,zb];simp[zc]
 | p::kv=>by
  rw[List.cons_append,zb,zb,agm k v x kv];by_cases hp:p.1=x
  ·simp[hp]
  ·rw[List.any_cons,decide_eq_false hp,Bool.false_or,if_neg hp,if_neg hp]
theorem al3(kv:KL)(k:Int)(v:SL)(x:Int):zc (afb kv k v) x=if x=k then some v else zc kv x:=by
 unfold afb;by_cases c:kv.any (fun p=>decide (p.1=k))=true
 ·rw[if_pos c,agl,if_pos c]
 ·rw[if_neg c,agm]
  by_cases hx:x=k
  ·subst hx
   rw[if_neg c,if_pos rfl,if_pos rfl]
  ·have hkx:¬ k=x:=fun z=>hx z.symm
   rw[if_neg hx,if_neg hkx];by_cases c':kv.any (fun p=>decide (p.1=x))=true
   ·rw[if_pos c']
   ·rw[if_neg c']
    unfold zc
    rw[List.find?_eq_none.mpr fun p hp=>by
     have:=fun z=>c' (List.any_eq_true.mpr ⟨p,hp,z⟩);exact this]
    rfl
theorem al4(kv:KL)(k:Int)(v:SL)(x:Int):j9 (afb kv k v) x=if x=k then v else j9 kv x:=by
 unfold j9;rw[al3];by_cases h:x=k
 ·rw[if_pos h,if_pos h];rfl
 ·rw[if_neg h,if_neg h]
noncomputable def qf(kv:KL):KI:=kv.map fun p=>(p.1,(p.2.length:Int))
theorem al5(kv:KL)(k:Int):j5 (qf kv) k=(zc kv k).map fun s=>(s.length:Int):=by
 induction kv with
 |nil=>rfl
 | cons p kv ih=>
  have:j5 (qf (p::kv)) k=if p.1=k then some (p.2.length:Int) else j5 (qf kv) k:=zE (p.1,(p.2.length:Int)) (qf kv) k
  rw[this,zb,ih];by_cases h:p.1=k
  ·rw[if_pos h,if_pos h];rfl
  ·rw[if_neg h,if_neg h]
theorem acU(kv:KL)(k:Int):qu (qf kv) k=((j9 kv k).length:Int):=by
 unfold qu j9;rw[al5];cases zc kv k<;>rfl
theorem al6(kv:KL)(k:Int)(v:SL):qf (afb kv k v)=aaj (qf kv) k (v.length:Int):=by
 have h1:(qf kv).any (fun p=>decide (p.1=k))=kv.any fun p=>decide (p.1=k):=by simp[qf,List.any_map,Function.comp_def]
 unfold afb aaj;rw[h1];by_cases c:kv.any (fun p=>decide (p.1=k))=true
 ·rw[if_pos c,if_pos c]
  simp only[qf,List.map_map];apply List.map_congr_left;intro p _;by_cases h:p.1=k<;>simp[h]
 ·rw[if_neg c,if_neg c]
  simp[qf]
noncomputable def pls(acc:KL)(q:(Int×Int)×Int)(ts:SL):KL:=afb acc q.2 (j9 acc q.2++ts.map (q.1::·))
theorem agn(acc:KL)(q:(Int×Int)×Int)(ts:SL):qf (pls acc q ts)=qy (qf acc) q.2 (ts.length:Int):=by
 unfold pls qy;rw[al6,acU,List.length_append,List.length_map]
 congr 1
theorem al7(acc:KL)(q:(Int×Int)×Int)(ts:SL)(x:Int):j9 (pls acc q ts) x=if x=q.2 then j9 acc x++ts.map (q.1::·) else j9 acc x:=by
 unfold pls;rw[al4];by_cases h:x=q.2
 ·rw[if_pos h,if_pos h,h]
 ·rw[if_neg h,if_neg h]
noncomputable def TT(kv:KL):Int:=smK (qf kv) fun _=>1
theorem apH{acc:KL}(hn:ndK (qf acc))(q:(Int×Int)×Int)(ts:SL):ndK (qf (pls acc q ts))/\TT (pls acc q ts)=TT acc+(ts.length:Int):=by
 unfold TT;rw[agn];refine⟨ahA hn,?_⟩;rw[aiB hn];omega
theorem aiH(kv:KL)(k:Int):((j9 kv k).length:Int)<=TT kv:=by
 have nn:∀x∈(qf kv).map (fun p=>p.2*1),(0:Int)<=x:=fun x hx=>by
  obtain⟨p,hp,rfl⟩:=List.mem_map.mp hx;obtain⟨q,_,rfl⟩:=List.mem_map.mp hp;show(0:Int)<=(q.2.length:Int)*1;omega
 unfold j9 zc;cases hq:kv.find? fun p=>decide (p.1=k)with
 | none=>
  show((0:Nat):Int)<=_;exact Jn nn
 | some p=>
  have hp:=List.mem_of_find?_eq_some hq;show(p.2.length:Int)<=_;exact ahB nn (List.mem_map.mpr ⟨(p.1,(p.2.length:Int)),List.mem_map.mpr ⟨p,hp,rfl⟩,by simp⟩)
theorem ajM(s:List (Int×Int)):noD (jy s)=true:=by
 show noDs (s.map pr)=true
 induction s with
 |nil=>rfl
 |cons p s ih=>simp only[List.map_cons,noDs,ih,Bool.and_true];rfl
theorem al8{ds:LP}(h:ds.length<1000000):few ds=true:=decide_eq_true h
theorem apI(ss:SL):noD (eS ss)=true:=by
 show noDs (ss.map jy)=true
 induction ss with
 |nil=>rfl
 |cons s ss ih=>simp only[List.map_cons,noDs,ajM s,ih,Bool.and_self]
theorem adY(p:Int×Int):∀(ts:SL) (x:OP),(∀t∈ts,t.length<=4)->qM (jG 0) agO (op2 ze (Qu (jq (lkp 1) jC)) (lkp 0)) (ts.map jy) [x,some (pr p)]=some ((ts.map (p::·)).map jy)
 | [],x,_=>rfl
 | t::ts,x,h=>by
  have ih:=adY p ts (some (jy t)) fun c hc=>h c (List.mem_cons_of_mem _ hc);have ad:ze (.tuple [pr p]) (jy t)=some (jy (p::t)):=abI (.inr trivial) (by have:=h t List.mem_cons_self;rw[List.length_map];simp;omega);dsimp? [List.map_cons,qM,agO,fw1,ad]
  first|rw[ih] | (simp only[jF,ifS,ifD,ifX,ac0,orB,J9,tst,op2,chn,jJ,Qu,JB,jq,jC,lkp,cst,qz,Zk,qF,jG,qp,nxX,orX,ag8,amV,asB,zzA,zzB,zzC,zzD,zzH,zzE,zzI,zzF,zzG,zzJ,zzK,zzL,zzM,zzN]at ih;rw[ih])
  rfl
theorem anT{m A:OP}{D acc:KL}{n k:Int}{p:Int×Int}{ts:SL}(hD:zc D n=some ts)(ht:∀t∈ts,t.length<=4)(hl:acc.length<900000)(hs:ts.length+(j9 acc k).length<900000):zO.1 [m,A,some (dL D),some (dL acc),some (.int n),some (pr p),some (.int k)]=some (.nx [m,A,some (dL D),some (dL (pls acc (p,k) ts)),some (.int n),some (pr p),some (.int k)]):=by
 have g1:afB (dL D) (.int n)=some (eS ts):=by
  show zg (JF D) n=_;rw[aaX,hD];rfl
 have g2:aa5 (dL acc) (.int k) (.list [])=some (eS (j9 acc k)):=by
  show some ((zg (JF acc) k).getD (.list []))=_;rw[aaX];unfold j9;cases zc acc k<;>rfl
 have cp:=adY p ts none ht;have it:items (eS ts)=some (ts.map jy):=rfl;have fe:few (ts.map jy)=true:=decide_eq_true (by rw[List.length_map];omega)
 have ad:ze (eS (j9 acc k)) (.list ((ts.map (p::·)).map jy))=some (eS (j9 acc k++ts.map (p::·))):=by
  show(if few ((j9 acc k).map jy++(ts.map (p::·)).map jy)=true then some (PyData.list ((j9 acc k).map jy++(ts.map (p::·)).map jy)) else none)=_;rw[if_pos (al8 (by rw[List.length_append,List.length_map,List.length_map,List.length_map];omega)),←List.map_append];rfl
 have nd:=apI (j9 acc k++ts.map (p::·))
 have pt:agZ (some (dL acc)) (some (eS (j9 acc k++ts.map (p::·)))) (some (.int k))=some (dL (pls acc (p,k) ts)):=by
  have hle:(JF acc).length<1000000:=by simp only[JF,List.length_map];omega
  show(if (JF acc).length<1000000 then some (PyData.dict ((.none,.none)::ac5 (JF acc) k (eS (j9 acc k++ts.map (p::·))))) else none)=_;rw[if_pos hle,ajL];rfl
 have dd:∀d,okB (dL acc) d=noD d:=fun _=>rfl;generalize pls acc (p,k) ts=acc' at*;generalize eS (j9 acc k++ts.map (p::·))=V at*;generalize eS (j9 acc k)=V1 at*;generalize (ts.map (p::·)).map jy=V2 at*;generalize ts.map jy=V3 at*;generalize eS ts=V4 at*;generalize dL acc=DA at*;generalize dL D=DD at*;simp only[zO];refine(jt (ρ1:=[m,A,some DD,some (dL acc'),some (.int n),some (pr p),some (.int k)]) ?_).trans rfl
 try simp only[jF,ifS,ifD,ifX,ac0,orB,J9,tst,op2,chn,jJ,Qu,JB,jq,jC,lkp,cst,qz,Zk,qF,jG,qp,nxX,orX,ag8,amV,asB,zzA,zzB,zzC,zzD,zzH,zzE,zzI,zzF,zzG,zzJ,zzK,zzL,zzM,zzN]at cp
 dsimp? [ag0,brw,hid,JL,JH,itS,ZG,List.map_cons,List.map_nil,Option.join_none,g1,g2,it,fe,aaf,cp,ad,dd,nd,pt]
theorem anU(acc:KL)(q:(Int×Int)×Int)(ts:SL):(pls acc q ts).length<=acc.length+1:=by
 unfold pls afb;split<;>simp
noncomputable def plf(ts:SL)(qs:List ((Int×Int)×Int))(acc:KL):KL:=qs.foldl (fun a q=>pls a q ts) acc
theorem ajN{m A:OP}{D:KL}{n:Int}{ts:SL}(hD:zc D n=some ts)(ht:∀t∈ts,t.length<=4)(qs:List ((Int×Int)×Int)):∀(acc:KL) (x5 x6:OP),ndK (qf acc)->acc.length+qs.length<900000->TT acc+(qs.length+1:Nat)*(ts.length:Int)<900000->
  ∃y5 y6,jN (Qq 2 (jV (jG 5) (jV (jG 6) zG))) zO.1 (qs.map alR) [m,A,some (dL D),some (dL acc),some (.int n),x5,x6]=some (.nx [m,A,some (dL D),some (dL (plf ts qs acc)),some (.int n),y5,y6])/\ndK (qf (plf ts qs acc))/\TT (plf ts qs acc)=TT acc+qs.length*(ts.length:Int)/\(plf ts qs acc).length<=acc.length+qs.length:=by
 induction qs with
 |nil=>exact fun acc x5 x6 hn _ _=>⟨x5,x6,rfl,hn,by simp[plf],by simp[plf]⟩
 | cons q qs ih=>
  intro acc x5 x6 hn hl hT;rw[List.length_cons]at hl hT;obtain⟨n1,t1⟩:=apH hn q ts;have l1:=anU acc q ts;have gl:=aiH acc q.2
  have e1:((qs.length+1+1:Nat):Int)*(ts.length:Int)=((qs.length+1:Nat):Int)*(ts.length:Int)+(ts.length:Int):=by
   rw[show((qs.length+1+1:Nat):Int)=((qs.length+1:Nat):Int)+1 by omega,Int.add_mul,Int.one_mul]
  have e2:((qs.length+1:Nat):Int)*(ts.length:Int)=(qs.length:Int)*(ts.length:Int)+(ts.length:Int):=by
   rw[show((qs.length+1:Nat):Int)=(qs.length:Int)+1 by omega,Int.add_mul,Int.one_mul]
  have p0:0<=((qs.length+1:Nat):Int)*(ts.length:Int):=Int.mul_nonneg (by omega) (by omega);have s:=anT (m:=m) (A:=A) (D:=D) (n:=n) (k:=q.2) (p:=q.1) hD ht (acc:=acc) (by omega) (by omega);obtain⟨y5,y6,lp,a1,a2,a3⟩:=ih (pls acc q ts) (some (pr q.1)) (some (.int q.2)) n1 (by omega) (by rw[t1];omega);refine⟨y5,y6,?_,a1,?_,?_⟩
  ·rw[List.map_cons]
   have ga:Qq 2 (jV (jG 5) (jV (jG 6) zG)) (alR q) [m,A,some (dL D),some (dL acc),some (.int n),x5,x6]=some [m,A,some (dL D),some (dL acc),some (.int n),some (pr q.1),some (.int q.2)]:=rfl;rw[jN,ga,zzD,s,zzD];exact lp
  ·show TT (plf ts qs (pls acc q ts))=_
   rw[a2,t1,List.length_cons,e2];omega
  ·show(plf ts qs (pls acc q ts)).length<=_
   rw[List.length_cons];omega
section
variable {u e l b:Int}
theorem al9(h:okN u e l b=true)(a:Nat)(ha:a<4){D acc:KL}{n:Int}{ts:SL}(hD:zc D n=some ts)(ht:∀t∈ts,t.length<=4)(hn:ndK (qf acc))(hl:acc.length+48<900000)(hT:TT acc+49*(ts.length:Int)<900000){x5 x6:OP}:
  ∃y5 y6,zk.1 [some (jl u e l b),some (.int (a:Int)),some (dL D),some (dL acc),some (.int n),x5,x6]=some (.nx [some (jl u e l b),some (.int (a:Int)),some (dL D),some (dL (plf ts (lps u e l b a n) acc)),some (.int n),y5,y6])/\ndK (qf (plf ts (lps u e l b a n) acc))/\TT (plf ts (lps u e l b a n) acc)<=TT acc+48*(ts.length:Int)/\(plf ts (lps u e l b a n) acc).length<=acc.length+48:=by
 have h1:=adP (n:=n) h a ha;have hq:(lps u e l b a n).length<=48:=Nat.le_trans (ae6 u e l b a n) (ahx h);have m1:((lps u e l b a n).length:Int)*(ts.length:Int)<=48*(ts.length:Int):=Int.mul_le_mul_of_nonneg_right (by omega) (by omega)
 obtain⟨y5,y6,lp,b1,b2,b3⟩:=ajN (m:=some (jl u e l b)) (A:=some (.int (a:Int))) hD ht (lps u e l b a n) acc x5 x6 hn (by omega) (by
  rw [show (((lps u e l b a n).length+1:Nat):Int)=((lps u e l b a n).length:Int)+1 by omega,Int.add_mul,Int.one_mul]; omega)
 refine⟨y5,y6,?_,b1,by omega,by omega⟩;generalize plf ts (lps u e l b a n) acc=acc' at*;simp only[zk];refine(jt (ρ1:=[some (jl u e l b),some (.int (a:Int)),some (dL D),some (dL acc'),some (.int n),y5,y6]) ?_).trans rfl;generalize dL D=DD at*;dsimp? [Je,itS,hid,h1];exact lp
noncomputable def zm(u e l b:Int)(a:Nat)(D:KL)(ps acc:KL):KL:=ps.foldl (fun acc p=>plf (j9 D p.1) (lps u e l b a p.1) acc) acc
noncomputable def sz(ps:KL):Int:=(ps.map fun p=>(p.2.length:Int)).sum
theorem ajO(h:okN u e l b=true)(a:Nat)(ha:a<4)(D:KL)(ps:KL):∀(acc:KL) (x4 x5 x6:OP),(∀p∈ps,zc D p.1=some p.2/\∀t∈p.2,t.length<=4)->ndK (qf acc)->acc.length+48*(ps.length+1)<900000->TT acc+49*sz ps<900000->
  ∃y4 y5 y6,jN (jG 4) zk.1 (ps.map fun p=> .int p.1) [some (jl u e l b),some (.int (a:Int)),some (dL D),some (dL acc),x4,x5,x6]=some (.nx [some (jl u e l b),some (.int (a:Int)),some (dL D),some (dL (zm u e l b a D ps acc)),y4,y5,y6])/\ndK (qf (zm u e l b a D ps acc))/\TT (zm u e l b a D ps acc)<=TT acc+48*sz ps/\(zm u e l b a D ps acc).length<=acc.length+48*ps.length:=by
 induction ps with
 |nil=>exact fun acc x4 x5 x6 _ hn _ _=>⟨x4,x5,x6,rfl,hn,by simp[zm,sz],by simp[zm]⟩
 | cons p ps ih=>
  intro acc x4 x5 x6 hp hn hl hT;have s0:sz (p::ps)=(p.2.length:Int)+sz ps:=by simp[sz]
  have s1:0<=sz ps:=Jn fun x hx=>by obtain⟨q,_,rfl⟩:=List.mem_map.mp hx;omega
  rw[List.length_cons]at hl;rw[s0]at hT;obtain⟨f1,f2⟩:=hp p List.mem_cons_self;have gg:j9 D p.1=p.2:=by unfold j9;rw[f1];rfl
  obtain⟨y5,y6,st,c1,c2,c3⟩:=al9 h a ha f1 f2 hn (by omega) (by omega) (x5:=x5) (x6:=x6);obtain⟨z4,z5,z6,lp,d1,d2,d3⟩:=ih (plf p.2 (lps u e l b a p.1) acc) (some (.int p.1)) y5 y6 (fun q hq=>hp q (List.mem_cons_of_mem _ hq)) c1 (by omega) (by omega)
  have eL:zm u e l b a D (p::ps) acc=zm u e l b a D ps (plf p.2 (lps u e l b a p.1) acc):=by
   show zm u e l b a D ps (plf (j9 D p.1) (lps u e l b a p.1) acc)=_;rw[gg]
  rw[eL,s0,List.length_cons];refine⟨z4,z5,z6,?_,d1,by omega,by omega⟩;rw[List.map_cons,jN];simp only[jG,zzF,zzG,zzD];rw[st,zzD];exact lp
end
theorem anV{ts:SL}{x:Int}{t:List (Int×Int)}(qs:List ((Int×Int)×Int)):∀acc:KL,t∈j9 (plf ts qs acc) x↔t∈j9 acc x∨∃q∈qs,q.2=x/\∃t'∈ts,t=q.1::t':=by
 induction qs with
 |nil=>exact fun acc=>⟨.inl,fun h=>h.elim id fun⟨q,hq,_⟩=>nomatch hq⟩
 | cons q qs ih=>
  intro acc;show t∈j9 (plf ts qs (pls acc q ts)) x↔_;rw[ih,al7];constructor
  ·rintro (h | ⟨q',h1,h2⟩)
   ·by_cases hx:x=q.2
    ·rw[if_pos hx]at h
     rcases List.mem_append.mp h with z | z
     ·exact .inl z
     ·obtain⟨t',h3,rfl⟩:=List.mem_map.mp z
      exact .inr ⟨q,List.mem_cons_self,hx.symm,t',h3,rfl⟩
    ·rw[if_neg hx]at h;exact .inl h
   ·exact .inr ⟨q',List.mem_cons_of_mem _ h1,h2⟩
  ·rintro (h | ⟨q',h1,h2,t',h3,rfl⟩)
   ·left
    by_cases hx:x=q.2
    ·rw[if_pos hx];exact List.mem_append_left _ h
    ·rw[if_neg hx];exact h
   ·rcases List.mem_cons.mp h1 with rfl | z
    ·left
     rw[if_pos h2.symm];exact List.mem_append_right _ (List.mem_map.mpr ⟨t',h3,rfl⟩)
    ·exact .inr ⟨q',z,h2,t',h3,rfl⟩
section
variable {u e l b:Int}
theorem ajP{a:Nat}{D:KL}{x:Int}{t:List (Int×Int)}(ps:KL):∀acc:KL,t∈j9 (zm u e l b a D ps acc) x↔t∈j9 acc x∨∃p∈ps,∃q∈lps u e l b a p.1,q.2=x/\∃t'∈j9 D p.1,t=q.1::t':=by
 induction ps with
 |nil=>exact fun acc=>⟨.inl,fun h=>h.elim id fun⟨q,hq,_⟩=>nomatch hq⟩
 | cons p ps ih=>
  intro acc;show t∈j9 (zm u e l b a D ps (plf (j9 D p.1) (lps u e l b a p.1) acc)) x↔_;rw[ih,anV];constructor
  ·rintro ((h | h) | ⟨p',h1,h2⟩)
   ·exact .inl h
   ·exact .inr ⟨p,List.mem_cons_self,h⟩
   ·exact .inr ⟨p',List.mem_cons_of_mem _ h1,h2⟩
  ·rintro (h | ⟨p',h1,h2⟩)
   ·exact .inl (.inl h)
   ·rcases List.mem_cons.mp h1 with rfl | z
    ·exact .inl (.inr h2)
    ·exact .inr ⟨p',z,h2⟩
theorem ajQ(a:Nat)(n:Int):qI u e l b a n=(lps u e l b a n).map (·.2):=by
 unfold qI lps;rw[aak,List.filter_map,List.map_map,List.map_map];rfl
theorem ama(ts:SL)(qs:List ((Int×Int)×Int)):∀acc:KL,qf (plf ts qs acc)=(qs.map (·.2)).foldl (fun x k=>qy x k (ts.length:Int)) (qf acc):=by
 induction qs with
 |nil=>exact fun acc=>rfl
 | cons q qs ih=>
  intro acc;show qf (plf ts qs (pls acc q ts))=_;rw[ih,agn];rfl
theorem ahF(a:Nat)(D:KL)(ps:KL):∀acc:KL,qf (zm u e l b a D ps acc)=(qf ps).foldl (fun acc p=>(qI u e l b a p.1).foldl (fun x k=>qy x k (qu (qf D) p.1)) acc) (qf acc):=by
 induction ps with
 |nil=>exact fun acc=>rfl
 | cons p ps ih=>
  intro acc;show qf (zm u e l b a D ps (plf (j9 D p.1) (lps u e l b a p.1) acc))=_;rw[ih,ama];show _=(qf ps).foldl _ ((qI u e l b a p.1).foldl (fun x k=>qy x k (qu (qf D) p.1)) (qf acc));rw[ajQ,acU]
theorem ajR(a:Nat)(D:KL):qf (zm u e l b a D D [])=longF u e l b a (qf D):=ahF a D D []
theorem afc:∀{D:KL}{p:Int×SL},ndK (qf D)->p∈D->zc D p.1=some p.2
 | [],p,_,h=>nomatch h
 | q::D,p,hn,h=>by
  have hn':q.1∉(qf D).map (·.1)/\((qf D).map (·.1)).Nodup:=by
   have:((q.1,(q.2.length:Int))::qf D).map (·.1)=q.1::(qf D).map (·.1):=rfl;unfold ndK at hn;exact List.nodup_cons.mp hn
  rw[zb];rcases List.mem_cons.mp h with rfl | z
  ·rw[if_pos rfl]
  ·have:¬ q.1=p.1:=fun e=>hn'.1 (by
    rw [e];exact List.mem_map.mpr ⟨(p.1,(p.2.length:Int)),List.mem_map.mpr ⟨p,z,rfl⟩,rfl⟩)
   rw[if_neg this];exact afc hn'.2 z
theorem amb{D:KL}{k:Int}{t:List (Int×Int)}(h:t∈j9 D k):∃p∈D,p.1=k:=by
 unfold j9 zc at h;cases hq:D.find? fun p=>decide (p.1=k)with
 |none=>rw[hq]at h;exact absurd h (by simp)
 |some p=>exact⟨p,List.mem_of_find?_eq_some hq,by simpa using List.find?_some hq⟩
noncomputable def MkD(u e l b N:Int)(r j:Nat)(D:KL):Prop:=∀k t,t∈j9 D k↔(j=0∨(0<=k/\k<=jO u e l b (r-j)))/\t.length=j/\t.all (okP u l)=true/\k*b ^ j+val b e t=N
theorem anW(N:Int)(r:Nat):MkD u e l b N r 0 [(N,[[]])]:=fun k t=>by
 have:j9 [(N,[[]])] k=if N=k then [[]] else []:=by
  unfold j9;rw[zb];by_cases h:N=k
  ·rw[if_pos h,if_pos h];rfl
  ·rw[if_neg h,if_neg h];rfl
 rw[this];constructor
 ·intro h
  by_cases hk:N=k
  ·rw[if_pos hk]at h
   rw[List.mem_singleton.mp h];exact⟨.inl rfl,rfl,rfl,by subst hk;simp[val]⟩
  ·rw[if_neg hk]at h;exact absurd h (by simp)
 ·rintro⟨_,h1,h2,h3⟩
  have:t=[]:=List.eq_nil_of_length_eq_zero h1;subst this;have:N=k:=by simp[val]at h3;omega
  rw[if_pos this];exact List.mem_singleton.mpr rfl
theorem anX(h:okN u e l b=true){N:Int}{r j:Nat}(hj:j<r){D:KL}(H:MkD u e l b N r j D):MkD u e l b N r (j+1) (zm u e l b (r-(j+1)) D D []):=fun k t=>by
 obtain⟨a1,a2,a3,a4,a5,a6,a7,a8,a9,a10⟩:=jH h;have hb:0<b:=by omega
 rw[ajP];constructor
 ·rintro (z | ⟨q,hq,x,hx,hk,t',ht,rfl⟩)
  ·exact absurd z (by simp[j9,zc])
  ·obtain⟨p,hp,rfl⟩:=List.mem_map.mp hx
   obtain⟨hp1,hp2⟩:=List.mem_filter.mp hp;simp only[okQ,Bool.and_eq_true,decide_eq_true_eq]at hp2;obtain⟨o1,o2,o3⟩:=hp2;obtain⟨_,t1,t2,t3⟩:=(H _ _).mp ht;have hd:=Int.mul_ediv_add_emod (q.1-wt e p) b;have hk':(q.1-wt e p) / b=k:=hk;rw[o1,hk',Int.mul_comm]at hd;have e1:k*b+wt e p=q.1:=by omega
   refine⟨.inr ⟨?_,?_⟩,by rw[List.length_cons,t1],by rw[List.all_cons,alQ hp1,t2];rfl,?_⟩
   ·rw[←hk'];exact Int.ediv_nonneg o2 (by omega)
   ·rw[←hk']
    exact Int.le_of_lt_add_one (Int.ediv_lt_of_lt_mul hb (by
     have:(jO u e l b (r - (j+1))+1)*b=b*jO u e l b (r - (j+1))+b:=by rw [Int.add_mul,Int.mul_comm]; omega
     omega))
   ·show k*b ^ (j+1)+val b e (p::t')=N
    rw[zF,t1,←t3,←e1,Int.add_mul,Int.pow_succ,Int.mul_comm (b ^ j) b,←Int.mul_assoc];omega
 ·rintro⟨hk,t1,t2,t3⟩
  right
  obtain⟨h0,h1⟩:=hk.resolve_left (by omega);cases t with
  |nil=>cases t1
  | cons p t=>
   rw[List.all_cons,Bool.and_eq_true]at t2;have t1':t.length=j:=by simpa using t1
   have w0:=adM a3 t2.1;obtain⟨q1,q2,q3,q4⟩:=qq t2.1
   have w1:wt e p<=wt e (u,l):=by
    have:=Int.mul_le_mul_of_nonneg_right q2 (show 0<=e by omega);unfold wt;show p.1*e+p.2<=u*e+l;omega
   have hr:r-j=(r-(j+1))+1:=by omega
   have hm:=Qn (u:=u) (e:=e) (l:=l) (b:=b) (r-(j+1));have hkb:k*b<=jO u e l b (r-(j+1))*b:=Int.mul_le_mul_of_nonneg_right h1 (by omega);have hkb0:0<=k*b:=Int.mul_nonneg h0 (by omega)
   have ht:t∈j9 D (k*b+wt e p):=(H _ _).mpr ⟨.inr ⟨by omega,by rw[hr,hm];omega⟩,t1',t2.2,by
    rw [zF,t1',Int.pow_succ,Int.mul_comm (b ^ j) b,←Int.mul_assoc] at t3;rw [Int.add_mul]; omega⟩
   obtain⟨q,hq,hq1⟩:=amb ht;have e1:q.1-wt e p=k*b:=by omega
   refine⟨q,hq,(p,k),List.mem_map.mpr ⟨p,List.mem_filter.mpr ⟨ahv t2.1,?_⟩,?_⟩,rfl,t,by rw[hq1];exact ht,rfl⟩
   ·simp only[okQ,Bool.and_eq_true,decide_eq_true_eq]
    rw[e1];refine⟨Int.mul_emod_left _ _,Int.mul_nonneg h0 (by omega),?_⟩;rw[Int.mul_comm];exact Int.mul_le_mul_of_nonneg_left h1 (by omega)
   ·rw[e1,Int.mul_ediv_cancel _ (by omega)]
theorem aom(D:KL):TT D=sz D:=by
 unfold TT smK sz qf;rw[List.map_map]
 congr 1
 exact List.map_congr_left fun p _=>by simp
theorem anY(kv:KL):(BX.zh (dL kv)).map (fun r=>r.map (·.1))=some (kv.map fun p=>PyData.int p.1):=by
 show some ((JF kv).map (·.1))=_;simp[JF,List.map_map,Function.comp_def]
theorem ajS{M A DD D':PyData}{ks:LP}{y4 y5 y6:OP}(kk:(BX.zh DD).map (fun r=>r.map (·.1))=some ks)(lp:jN (jG 4) zk.1 ks [some M,some A,some DD,some (.dict [(.none,.none)]),none,none,none]=some (.nx [some M,some A,some DD,some D',y4,y5,y6])):zC [M,A,DD]=some D':=by
 refine qh rfl ?_;show Jw.1 [some M,some A,some DD,none,none,none,none]=_;simp only[Jw]
 have key:∀{Y:RO} {d:PyData},Y [some M,some A,some DD,some (.dict [(.none,.none)]),none,none,none]=some (.rt d)->Zv 3 (cst (.dict [(.none,.none)])) Y [some M,some A,some DD,none,none,none,none]=some (.rt d):=fun {Y d} hy=>by
  have l8:3<[some M,some A,some DD,none,none,none,none].length:=by simp
  dsimp? [Zv,hy];rw[if_pos l8]
 refine key ?_;refine(jt (ρ1:=[some M,some A,some DD,some D',y4,y5,y6]) ?_).trans ?_
 ·dsimp? [Je,itD,hid,kk]
  exact lp
 dsimp? [zzA]
theorem acV(h:okN u e l b=true)(a:Nat)(ha:a<4){D:KL}(hn:ndK (qf D))(ht:∀p∈D,∀t∈p.2,t.length<=4)(hl:48*(D.length+1)<900000)(hT:49*TT D<900000):
  zC [jl u e l b,.int (a:Int),dL D]=some (dL (zm u e l b a D D []))/\ndK (qf (zm u e l b a D D []))/\TT (zm u e l b a D D [])<=48*TT D/\(zm u e l b a D D []).length<=48*D.length:=by
 rw[aom D]at hT;have t0:TT []=0:=rfl;obtain⟨y4,y5,y6,lp,b1,b2,b3⟩:=ajO h a ha D D [] none none none (fun p hp=>⟨afc hn hp,ht p hp⟩) (by simp[ndK,qf]) (by simpa using hl) (by rw[t0];omega);refine⟨ajS (anY D) lp,b1,by rw[aom D];omega,by simpa using b3⟩
end
theorem anZ{M A R N DD D':PyData}(g:zC [M,A,DD]=some D'):qS.1 [some M,some R,some N,some DD,some A]=some (.nx [some M,some R,some N,some D',some A]):=by
 dsimp? [qS,g]
section
variable {u e l b:Int}
theorem apJ(h:okN u e l b=true){r:Nat}(h1:1<=r){t:List (Int×Int)}(hl:t.length=r)(hp:t.all (okP u l)=true):inS r t=true:=by
 obtain⟨a1,a2,a3,a4,a5,a6,a7,a8,a9,a10⟩:=jH h;simp only[inS,Bool.and_eq_true,decide_eq_true_eq];refine⟨⟨hl,h1⟩,List.all_eq_true.mpr fun p hpp=>?_⟩;obtain⟨q1,q2,q3,q4⟩:=qq (List.all_eq_true.mp hp p hpp);simp only[inP,Bool.and_eq_true,decide_eq_true_eq];omega
end
theorem aiI(f:Nat->Int){M:Nat}:∀N:Nat,M<=N->(∀k,M<=k->k<N->f k=0)->((List.range N).map f).sum=((List.range M).map f).sum
 |0,h,_=>by rw[show M=0 by omega]
 | N+1,h,hz=>by
  by_cases c:M=N+1
  ·rw[c]
  ·rw[List.range_succ,List.map_append,List.sum_append,aiI f N (by omega) fun k h1 h2=>hz k h1 (by omega)]
   simp[hz N (by omega) (by omega)]
section
variable {u e l b:Int}
noncomputable def gW(u e l b:Int)(r:Nat)(n:Int)(k:Nat):Int:=if (n-(k:Int)) % b=0 then cnt u e l (k:Int)*CN u e l b r ((n-(k:Int)) / b) else 0
theorem aqS(h:okN u e l b=true)(r:Nat){n:Int}(h0:0<=n){M:Nat}(hM:(M:Int)=(if n<u*e+l then n else u*e+l)+1):CN u e l b (r+1) n=((List.range M).map (gW u e l b r n)).sum:=by
 have bm:=agk h;show((jz u l).map fun x=>if (n-jp e x) % b=0/\0<=n-jp e x then CN u e l b r ((n-jp e x) / b) else 0).sum=_;rw[adU (jp e) (fun w=>if (n-w) % b=0/\0<=n-w then CN u e l b r ((n-w) / b) else 0) (u*e+l+1).toNat (jz u l) (fun x hx=>by have:=adW h hx;omega)];have hMN:M<=(u*e+l+1).toNat:=by split at hM<;>omega
 rw[aiI _ (M:=M) _ hMN fun k h1 h2=>by
  have:¬ ((n - (k:Int)) % b=0/\0<=n - (k:Int)):=fun z=>by split at hM <;> omega
  rw [if_neg this,Int.mul_zero]]
 congr 1
 refine List.map_congr_left fun k hk=>?_;have hk:=List.mem_range.mp hk;have hkn:0<=n-(k:Int):=by split at hM<;>omega
 unfold gW;show cnt u e l (k:Int)*_=_;by_cases c:(n-(k:Int)) % b=0
 ·rw[if_pos ⟨c,hkn⟩,if_pos c]
 ·rw[if_neg (fun z=>c z.1),if_neg c,Int.mul_zero]
theorem aon:∀(r:Nat) (n:Int),0<=CN u e l b r n
 | 0,n=>by
  show 0<=if n=0 then (1:Int) else 0
  split<;>omega
 | r+1,n=>by
  show 0<=((jz u l).map fun x=>if (n-jp e x) % b=0/\0<=n-jp e x then CN u e l b r ((n-jp e x) / b) else 0).sum;refine Jn fun y hy=>?_;obtain⟨x,_,rfl⟩:=List.mem_map.mp hy;by_cases c:(n-jp e x) % b=0/\0<=n-jp e x
  ·simp only[if_pos c];exact aon r _
  ·simp only[if_neg c];exact Int.le_refl _
theorem amc(h:okN u e l b=true):∀(r:Nat) (t:List (Int×Int)),t.length=r->t.all (okP u l)=true->1<=CN u e l b r (val b e t)
 | 0,t,h1,_=>by
  rw[List.eq_nil_of_length_eq_zero h1];show 1<=if val b e []=0 then (1:Int) else 0
  rw[if_pos (show val b e []=0 from rfl)];exact Int.le_refl _
 | r+1,t,h1,h2=>by
  obtain⟨a1,a2,a3,a4,a5,a6,a7,a8,a9,a10⟩:=jH h
  obtain⟨t',p,rfl⟩:∃t' p,t=t'++[p]:=by
   have hne:t≠[]:=fun z=>by rw[z]at h1;cases h1
   exact⟨t.dropLast,t.getLast hne,(List.dropLast_concat_getLast hne).symm⟩
  rw[List.all_append,Bool.and_eq_true]at h2;have hp:okP u l p=true:=by simpa using h2.2
  have hl:t'.length=r:=by rw[List.length_append]at h1;simpa using h1
  have ih:=amc h r t' hl h2.1;rw[aai];have v0:=ahq h h2.1;refine Int.le_trans ih ?_;show _<=((jz u l).map fun x=>if (val b e t'*b+wt e p-jp e x) % b=0/\0<=val b e t'*b+wt e p-jp e x then CN u e l b r ((val b e t'*b+wt e p-jp e x) / b) else 0).sum;refine ahB (fun y hy=>?_) (List.mem_map.mpr ⟨pr p,by rw[aak];exact List.mem_map.mpr ⟨p,ahv hp,rfl⟩,?_⟩)
  ·obtain⟨x,_,rfl⟩:=List.mem_map.mp hy
   by_cases c:(val b e t'*b+wt e p-jp e x) % b=0/\0<=val b e t'*b+wt e p-jp e x
   ·simp only[if_pos c];exact aon r _
   ·simp only[if_neg c];exact Int.le_refl _
  ·have e1:val b e t'*b+wt e p-jp e (pr p)=val b e t'*b:=by
    show val b e t'*b+wt e p-wt e p=_;omega
   rw[e1,if_pos ⟨Int.mul_emod_left _ _,Int.mul_nonneg v0 (by omega)⟩,Int.mul_ediv_cancel _ (by omega)]
theorem an0(h:okN u e l b=true){r:Nat}{t:List (Int×Int)}(h1:t.length=r)(h2:t.all (okP u l)=true):val b e t<=jO u e l b r:=by
 have:=amc h r t h1 h2;by_cases c:jO u e l b r<val b e t
 ·rw[abH h r _ c]at this;omega
 ·omega
noncomputable def amd:Bool:=(List.range 4).all fun u=>(List.range 6).all fun e=>(List.range 12).all fun l=>e==0||decide (cnt u e l ((u:Int)*e+l)=1)
theorem ago:amd=true:=by decide +kernel
theorem an1(h:okN u e l b=true):cnt u e l (u*e+l)=1:=by
 obtain⟨a1,a2,a3,a4,a5,a6,a7,a8,a9,a10⟩:=jH h;have k:=ago;unfold amd at k;have k1:=List.all_eq_true.mp (List.all_eq_true.mp (List.all_eq_true.mp k u.toNat (List.mem_range.mpr (by omega))) e.toNat (List.mem_range.mpr (by omega))) l.toNat (List.mem_range.mpr (by omega));rw[Bool.or_eq_true]at k1;rcases k1 with z | z
 ·have:e.toNat=0:=by simpa using z
  omega
 ·have z:=of_decide_eq_true z
  rw[show((u.toNat:Nat):Int)=u by omega,show((e.toNat:Nat):Int)=e by omega,show((l.toNat:Nat):Int)=l by omega]at z;exact z
theorem aiJ(h:okN u e l b=true)(r:Nat):0<=jO u e l b r:=ahq h (QL h r)
theorem ame(h:okN u e l b=true):∀r:Nat,CN u e l b r (jO u e l b r)=1
 |0=>rfl
 | r+1=>by
  obtain⟨a1,a2,a3,a4,a5,a6,a7,a8,a9,a10⟩:=jH h;have bm:=agk h;have m0:=aiJ h r;have hm:=Qn (u:=u) (e:=e) (l:=l) (b:=b) r;have hw:wt e (u,l)=u*e+l:=rfl;rw[hw]at hm;have mb:0<=jO u e l b r*b:=Int.mul_nonneg m0 (by omega);rw[aqS h r (n:=jO u e l b (r+1)) (by omega) (M:=(u*e+l).toNat+1) (by rw[if_neg (by omega)];omega)];have ih:=ame h r;rw[ae8 (gW u e l b r (jO u e l b (r+1))) (u*e+l).toNat ((u*e+l).toNat+1) (by omega) fun k hk hne=>?_]
  ·unfold gW
   have e1:jO u e l b (r+1)-(((u*e+l).toNat:Nat):Int)=jO u e l b r*b:=by omega
   rw[e1,if_pos (Int.mul_emod_left _ _),Int.mul_ediv_cancel _ (by omega),ih,show(((u*e+l).toNat:Nat):Int)=u*e+l by omega,an1 h];rfl
  ·unfold gW
   by_cases c:(jO u e l b (r+1)-(k:Int)) % b=0
   ·rw[if_pos c,abH h r _ ?_,Int.mul_zero]
    have hd:=Int.mul_ediv_add_emod (jO u e l b (r+1)-(k:Int)) b;rw[c,Int.add_zero]at hd;refine Int.lt_of_not_ge fun z=>?_;have:b*((jO u e l b (r+1)-(k:Int)) / b)<=b*jO u e l b r:=Int.mul_le_mul_of_nonneg_left z (by omega);rw[Int.mul_comm b (jO u e l b r)]at this;omega
   ·rw[if_neg c]
theorem aqT{r:Nat}{t:List (Int×Int)}(h1:t.length=r)(h2:t.all (okP u l)=true):∃v,LB u e l b r (val b e t)=some v/\v<=bds t:=(ae7 u e l b r (val b e t)).2 (bds t) ⟨t,h1,h2,rfl,rfl⟩
theorem aan(H:qT=true)(h:okN u e l b=true){r:Nat}(h1:1<=r)(h3:r<=3):zX [jl u e l b,.int (r:Int)]=some (.int (jO u e l b r)):=by
 have g1:=JV (alL H h);have g2:qH [.int (r:Int)]=some .none:=acM (by omega) (by omega);have g3:=af9 (u:=u) (e:=e) (l:=l) (b:=b) r (by omega);have g4:=ae4 (ps:=List.replicate r (u,l)) h (by rw[List.length_replicate];omega) (QL h r);have g5:val b e (List.replicate r (u,l))=jO u e l b r:=rfl;rw[g5]at g4;generalize (r:Int)=rr at*;refine qh rfl ?_;show Za.1 [some (jl u e l b),some (.int rr)]=_;dsimp? [Za,g1,g2,g3,g4]
end
theorem adZ:∀(ns:List Int) (a:Int),let m:=ns.foldl (fun a b=>if decide (b<a)=true then b else a) a;(m=a∨m∈ns)/\m<=a/\∀x∈ns,m<=x
 | [],a=>⟨.inl rfl,Int.le_refl _,fun _ h=>nomatch h⟩
 | n::ns,a=>by
  obtain⟨h1,h2,h3⟩:=adZ ns (if decide (n<a)=true then n else a);simp only[List.foldl_cons];by_cases c:n<a
  ·rw[if_pos (decide_eq_true c)]at h1 h2 h3 ⊢
   refine⟨.inr ?_,by omega,fun x hx=>?_⟩
   ·rcases h1 with z | z
    ·rw[z];exact List.mem_cons_self
    ·exact List.mem_cons_of_mem _ z
   ·rcases List.mem_cons.mp hx with rfl | z
    ·exact h2
    ·exact h3 x z
  ·rw[if_neg (by simpa using c)]at h1 h2 h3 ⊢
   refine⟨?_,h2,fun x hx=>?_⟩
   ·rcases h1 with z | z
    ·exact .inl z
    ·exact .inr (List.mem_cons_of_mem _ z)
   ·rcases List.mem_cons.mp hx with rfl | z
    ·omega
    ·exact h3 x z
theorem amf{ns:List Int}{v:Int}(h1:v∈ns)(h2:∀x∈ns,v<=x):adu (fun i j=>decide (i<j)) [.list (ns.map .int)]=some (.int v):=by
 show(qD (ns.map PyData.int)).bind _=_;rw[ahC,zzD];cases ns with
 |nil=>exact nomatch h1
 | cons n ns=>
  obtain⟨k1,k2,k3⟩:=adZ ns n;show(some (PyData.int (ns.foldl (fun a b=>if decide (b<a)=true then b else a) n)))=_;generalize ns.foldl (fun a b=>if decide (b<a)=true then b else a) n=m at*
  have a1:m<=v:=by
   rcases List.mem_cons.mp h1 with rfl | z
   ·exact k2
   ·exact k3 v z
  have a2:v<=m:=by
   rcases k1 with z | z
   ·rw[z];exact h2 n List.mem_cons_self
   ·exact h2 m (List.mem_cons_of_mem _ z)
  rw[show m=v by omega]
section
variable {u e l b:Int}
theorem aoo{ps:List (Int×Int)}{L:SL}(h:ps∈L):dIn true (jy ps) (eS L)=some (.bool false):=by
 have o1:okD (jy ps)=true:=alO ps;have o2:okD (eS L)=true:=apF (n:=4) (anP.mpr fun d hd=>by obtain⟨t,_,rfl⟩:=List.mem_map.mp hd;exact anR t) (by omega)
 have an:((L.map jy).any fun z=>PyData.eqv z (jy ps))=true:=by
  rw[List.any_map];exact List.any_eq_true.mpr ⟨ps,h,by show PyData.eqv (jy ps) (jy ps)=true;rw[alN];simp⟩
 show(if okD (jy ps)=true/\okD (eS L)=true then some (PyData.bool (if true=true then !((L.map jy).any fun z=>PyData.eqv z (jy ps)) else _)) else none)=_;rw[if_pos ⟨o1,o2⟩,an];rfl
theorem ajT(H:qT=true)(h:okN u e l b=true){n:Int}{L:SL}(hL:∀t∈L,okS u l t=true/\val b e t=n):qM (jG 0) (tst (op2 dNe (jJ qU (jq (lkp 2) (jq (lkp 0) jC))) (lkp 1))) (lkp 0) (L.map jy) [none,some (.int n),some (jl u e l b)]=some []:=by
 have nn:dNe (.int n) (.int n)=some (.bool false):=by rw[afa];simp
 have q:=Qx (ft:=tst (op2 dNe (jJ qU (jq (lkp 2) (jq (lkp 0) jC))) (lkp 1))) (fe:=lkp 0) (i:=0) (fun _=>false) id (L.map jy) [none,some (.int n),some (jl u e l b)] (fun d hd=>by
  obtain ⟨t,ht,rfl⟩:=List.mem_map.mp hd;have g:=zq H h (hL t ht).1;rw [(hL t ht).2] at g;generalize jy t=Z at*;dsimp? [g,nn]) (fun d hd z=>by cases z)
 rw[q];simp
noncomputable def hB(m d:PyData):PyData:=match qx [m,d]with
 |some x=>x
 |none=> .none
theorem ahG(H:qT=true)(h:okN u e l b=true){L:SL}(hL:∀t∈L,okS u l t=true):qM (jG 0) agO (jJ qx (jq (lkp 1) (jq (lkp 0) jC))) (L.map jy) [none,some (jl u e l b)]=some ((L.map bds).map .int):=by
 have q:=Qx (ft:=agO) (fe:=jJ qx (jq (lkp 1) (jq (lkp 0) jC))) (i:=0) (fun _=>true) (hB (jl u e l b)) (L.map jy) [none,some (jl u e l b)] (fun d hd=>rfl) (fun d hd _=>by
  obtain ⟨t,ht,rfl⟩:=List.mem_map.mp hd;have g:=abF H h (hL t ht);have hb:hB (jl u e l b) (jy t)= .int (bds t):=by unfold hB; rw [g]
  rw [hb];generalize jy t=Z at*;dsimp? [g])
 rw[q,List.filter_eq_self.mpr fun _ _=>rfl,List.map_map,List.map_map]
 congr 1
 refine List.map_congr_left fun t ht=>?_;show hB (jl u e l b) (jy t)= .int (bds t);unfold hB;rw[abF H h (hL t ht)]
end
theorem ajU{M R N D0 D' X Y:PyData}{RR:LP}{rr n:Int}{x4:OP}(hR:R= .int rr)(hN:N= .int n)(ga:zJ [M,R,N]=some .none)(d0:PyData.dict [(.none,.none),(.int n,.list [.tuple []])]=D0)(rg:ag3 [.int (rr-1),.int (-1),.int (-1)]=some RR)
  (lp:jN (jG 4) qS.1 RR [some M,some R,some N,some D0,none]=some (.nx [some M,some R,some N,some D',x4])) (g2:aa5 D' (.int 0) (.list [])=some X) (so:aez [X]=some Y):qt [M,R,N]=some Y:=by
 subst hR hN;have s1:aau (.int rr) (.int 1)=some (.int (rr-1)):=rfl;have ng:agV (.int 1)=some (.int (-1)):=rfl;refine qh rfl ?_;show zQ.1 [some M,some (.int rr),some (.int n),none,none]=_;simp only[zQ];refine(jt (ρ1:=[some M,some (.int rr),some (.int n),none,none]) ?_).trans ?_
 ·dsimp? [ga]
 refine(jt (ρ1:=[some M,some (.int rr),some (.int n),some D0,none]) ?_).trans ?_
 ·dsimp? [ajl,d0]
 refine(jt (ρ1:=[some M,some (.int rr),some (.int n),some D',x4]) ?_).trans ?_
 ·dsimp? [Je,s1,ng,rg]
  exact lp
 dsimp? [JL,aaf,g2,so]
section
variable {u e l b:Int}
theorem ah5{r:Nat}(L:SL)(hL:∀t∈L,inS r t=true):aez [eS L]=some (eS (aa6 jU L)):=by
 have e1:L.map jy=L.map QE:=rfl;show(Jh (L.map jy)).bind _=_;rw[e1,adz,zzD]
 have ok:aln L=true:=by
  unfold aln;refine List.all_eq_true.mpr fun t ht=>?_;cases L with
  |nil=>exact nomatch ht
  | cons x L=>
   have hx:=hL x List.mem_cons_self;have hxl:x.length=r:=by simp only[inS,Bool.and_eq_true,decide_eq_true_eq]at hx;exact hx.1.1
   show inS x.length t=true;rw[hxl];exact hL t ht
 rw[if_pos ok];rfl
theorem agp(H:qT=true)(h:okN u e l b=true){r:Nat}(h1:1<=r)(h3:r<=3){n:Int}(h0:0<=n)(hn:n<=99999):∃L:SL,qt [jl u e l b,.int (r:Int),.int n]=some (eS L)/\(∀t,t∈L↔t.length=r/\t.all (okP u l)=true/\val b e t=n)/\(L.length:Int)=CN u e l b r n/\L.length<=110592:=by
 have ga:=Zf H h (r:=(r:Int)) (n:=n) (by omega) (by omega) h0 hn
 have p48:∀j:Nat,j<=2->(48:Nat) ^ j<=2304:=fun j hj=>by
  rcases (show j=0∨j=1∨j=2 by omega)with rfl|rfl|rfl<;>decide
 obtain⟨ρ',hl,hI⟩:=JX (ga:=jG 4) (F:=qS.1) (fun i ρ=>∃D x4,ρ=[some (jl u e l b),some (.int (r:Int)),some (.int n),some (dL D),x4]/\ndK (qf D)/\MkD u e l b n r i D/\TT D<=((48 ^ i:Nat):Int)/\D.length<=48 ^ i/\smK (qf D) (CN u e l b (r-i))=CN u e l b r n) ((List.range r).map fun (j:Nat)=> .int (((r-(j+1):Nat):Int))) 0
  [some (jl u e l b),some (.int (r:Int)),some (.int n),some (dL [(n,[[]])]),none] ⟨_,_,rfl,by simp[ndK,qf],anW n r,by simp[TT,smK,qf],by simp,by simp[smK,qf]⟩ (fun j d ρ hd hi=>by
   obtain ⟨hj,rfl⟩:=aam hd;obtain ⟨D,x4,rfl,i1,i2,i3,i4,i5⟩:=hi;rw [Nat.zero_add] at i2 i3 i4 i5;have pj:=p48 j (by omega)
   have ht:∀ p ∈ D,∀ t ∈ p.2,t.length<=4:=fun p hp t htt=>by
    have:=afc i1 hp;have gg:j9 D p.1=p.2:=by unfold j9; rw [this]; rfl
    have:=(i2 p.1 t).mp (by rw [gg]; exact htt);omega
   obtain ⟨g,n1,t1,l1⟩:=acV h (r - (j+1)) (by omega) i1 ht (by omega) (by omega);have s2:=(agj h (r - (j+1)) i1).2;rw [←ajR] at s2;have ps:(48:Nat) ^ (j+1)=48*48 ^ j:=by rw [Nat.pow_succ,Nat.mul_comm]
   refine ⟨_,_,rfl,anZ g,_,_,rfl,n1,by rw [Nat.zero_add]; exact anX h hj i2,?_,?_,?_⟩
   ·rw [Nat.zero_add,ps]; omega
   ·rw [Nat.zero_add,ps]; omega
   ·rw [Nat.zero_add,s2,show r - (j+1)+1=r - j by omega]; exact i5)
 obtain⟨D,x4,rfl,i1,i2,i3,i4,i5⟩:=hI;rw[List.length_map,List.length_range,Nat.zero_add]at i2;rw[List.length_map,List.length_range,Nat.zero_add,Nat.sub_self,ae9 i1,acU]at i5
 have mem:∀t,t∈j9 D 0↔t.length=r/\t.all (okP u l)=true/\val b e t=n:=fun t=>by
  rw[i2 0 t];constructor
  ·rintro⟨_,k1,k2,k3⟩
   rw[Int.zero_mul]at k3;exact⟨k1,k2,by omega⟩
  ·rintro⟨k1,k2,k3⟩
   exact⟨.inr ⟨Int.le_refl _,by rw[Nat.sub_self];exact Int.le_refl _⟩,k1,k2,by rw[Int.zero_mul];omega⟩
 have so:=ah5 (r:=r) (j9 D 0) (fun t ht=>by obtain⟨k1,k2,_⟩:=(mem t).mp ht;exact apJ h h1 k1 k2)
 have g2:aa5 (dL D) (.int 0) (.list [])=some (eS (j9 D 0)):=by
  show some ((zg (JF D) 0).getD (.list []))=_;rw[aaX];unfold j9;cases zc D 0<;>rfl
 refine⟨aa6 jU (j9 D 0),ajU rfl rfl ga rfl (Zg h1 h3) hl g2 so,fun t=>?_,?_⟩
 ·rw[←mem t];exact(Qi jU (j9 D 0)).mem_iff
 ·rw[(Qi jU (j9 D 0)).length_eq]
  refine⟨i5,?_⟩;rw[List.length_map,List.length_range,Nat.zero_add]at i3;have:=aiH D 0
  have p3:(48:Nat) ^ r<=110592:=by
   rcases (show r=1∨r=2∨r=3 by omega)with rfl|rfl|rfl<;>decide
  omega
end
theorem arw{tt:Rho->Option Bool}{A B:RO}{ρ:Rho}(h:tt ρ=some true):ifS tt A B ρ=A ρ:=by
 show(tt ρ).bind _=_;rw[h];rfl
theorem ald{i:Nat}{f:RP}{ρ:Rho}{d:PyData}(h:f ρ=some d):qF f (jG i) ρ=some (.nx (ρ.set i (some d))):=by
 show(f ρ).bind _=_;rw[h];rfl
theorem amg{F G:RO}{ρ:Rho}{d:PyData}(h:F ρ=some (.rt d)):jF F G ρ=some (.rt d):=by
 unfold jF;rw[h];rfl
theorem amh{fi:Rho->Option (LP)}{ga:PyData->Rho->Option Rho}{F:RO}{ρ:Rho}{ds:LP}{o:Option Out}(h1:fi ρ=some ds)(h2:jN ga F ds ρ=o):Je fi ga F ρ=o:=by
 show(fi ρ).bind _=_;rw[h1,zzD];exact h2
theorem apK{M R N D:PyData}(g:Ql [M,R,N]=some D):Ja [M,R,N]=some D:=by
 refine qh rfl ?_;show zZ.1 [some M,some R,some N]=_;simp only[zZ];refine amg ?_;unfold ag9;dsimp? [g]
theorem apL{M R N:PyData}(g:Ql [M,R,N]=none)(t:abB [M,R,N]=some ("TooGreat":Str)):Ja [M,R,N]=some .none:=by
 refine qh rfl ?_;show zZ.1 [some M,some R,some N]=_;simp only[zZ];refine amg ?_;unfold ag9;dsimp? [g,t]
section
variable {u e l b:Int}
theorem apM(H:qT=true)(h:okN u e l b=true){r:Nat}(h1:1<=r)(h4:r<=4){n:Int}(h0:0<=n)(h9:n<=99999):Ja [jl u e l b,.int (r:Int),.int n]=some (if n<b ^ r then jy (pln (jl u e l b) b r n) else .none):=by
 by_cases c:n<b ^ r
 ·rw[if_pos c];exact apK (aht H h h1 h4 h0 c)
 ·rw[if_neg c]
  obtain⟨g,t⟩:=ajK H h h1 h4 h0 h9 (by omega);exact apL g t
theorem an2:∀{ps:List (Int×Int)},1<=ps.length->ps.length<=4->∃i p,ps=i++[p]/\ZT (jy ps) (some (-1)) none=some (jy [p])/\ZT (jy ps) none (some (-1))=some (jy i)
 | [],h,_=>by simp at h
 | [p],_,_=>⟨[],p,rfl,rfl,rfl⟩
 | [q,p],_,_=>⟨[q],p,rfl,rfl,rfl⟩
 | [q,r,p],_,_=>⟨[q,r],p,rfl,rfl,rfl⟩
 | [q,r,s,p],_,_=>⟨[q,r,s],p,rfl,rfl,rfl⟩
 |_::_::_::_::_::_,_,h=>by simp at h
theorem ami(a:Nat):a<=4->afF (.tuple [.tuple [.int u,.int l]]) (.int (a:Int))=some (jy (List.replicate a (u,l))):=fun h=>by
 rcases (show a=0∨a=1∨a=2∨a=3∨a=4 by omega)with rfl|rfl|rfl|rfl|rfl<;>rfl
theorem aiK:∀(ps:List (Int×Int)) (r:Nat) (p q:Int×Int),ps[r]?=some p->bds (ps.set r q)=bds ps+(bd q-bd p)
 | [],r,p,q,h=>by simp at h
 | x::ps,0,p,q,h=>by
  cases (show x=p by simpa using h);rw[zzG,Jm,Jm];omega
 | x::ps,r+1,p,q,h=>by
  have:=aiK ps r p q (by simpa using h);rw[zzF,Jm,Jm,this];omega
theorem amj{ps:List (Int×Int)}{r:Nat}{p:Int×Int}(h:ps[r]?=some p)(h4:ps.length<=4):dIx (jy ps) (.int (r:Int))=some (pr p):=by
 have hr:=(List.getElem?_eq_some_iff.mp h).1;show(if (ps.map pr).length<1000000 then atI (ps.map pr) (r:Int) else none)=_;rw[if_pos (by rw[List.length_map];omega)];unfold atI;rw[alC (by omega) (by rw[List.length_map];omega),zzD,List.getElem?_map,show((r:Int)).toNat=r by simp,h];rfl
theorem agq{M S X N BB MM RD SD WT Q A1 A2 A3 NW:PyData}{xi yi up lo rd n w pl g:Int}{sb:Bool}{x11 x12:OP}
  (hRD:RD= .int rd) (hN:N= .int n) (c1:dIx S RD=some X) (c2:dIx X SD=some (.int xi)) (m0:dIx M (.int 0)=some (.int up)) (m2:dIx M (.int 2)=some (.int lo)) (c3:dIx (.tuple [.int up,.int lo]) SD=some (.int yi)) (lt:xi<yi)
  (es:dEq SD (.int 0)=some (.bool sb)) {p1 p2:Int} (hQ:Q=if sb=true then .tuple [.int (p1+1),.int p2] else .tuple [.int p1,.int (p2+1)])
  (k1:ZT S none (some rd)=some A1) (k2:ze A1 (.tuple [Q])=some A2) (k3:ZT S (some (rd+1)) none=some A3) (k4:ze A2 A3=some NW)
  (hW:WT= .int w) (ml:JI (.int w) (.int pl)=some (.int (w*pl))) (gv:qU [M,NW]=some (.int (n+w*pl))) (ga:qx [M,NW]=some (.int (g+1))) (ga0:qx [M,S]=some (.int g)):
  qY.1 [some M,some S,some N,some BB,some MM,some (.int pl),some RD,some (.int p1),some (.int p2),some SD,some WT,x11,x12]=some (.nx [some M,some S,some N,some BB,some MM,some (.int pl),some RD,some (.int p1),some (.int p2),some SD,some WT,some Q,some NW]):=by
 subst hRD hN hW
 have cm:zz (fun i j=>decide (i<j)) (.int xi) (.int yi)=some (.bool true):=by
  show some (PyData.bool (decide (xi<yi)))=_;rw[decide_eq_true lt]
 have a1:ze (.int p1) (.int 1)=some (.int (p1+1)):=rfl;have a2:ze (.int p2) (.int 1)=some (.int (p2+1)):=rfl;have a3:ze (.int rd) (.int 1)=some (.int (rd+1)):=rfl;have a4:ze (.int n) (.int (w*pl))=some (.int (n+w*pl)):=rfl;have a5:ze (.int g) (.int 1)=some (.int (g+1)):=rfl;have i1:inI (.int rd)=some rd:=rfl;have i2:inI (.int (rd+1))=some (rd+1):=rfl;have n1:dNe (.int (n+w*pl)) (.int (n+w*pl))=some (.bool false):=by rw[afa];simp
 have n2:dNe (.int (g+1)) (.int (g+1))=some (.bool false):=by rw[afa];simp
 have z0:tst (op2 (zz fun i j=>decide (i<j)) (op2 dIx (op2 dIx (lkp 1) (lkp 6)) (lkp 9)) (op2 dIx (Qu (jq (op2 dIx (lkp 0) (cst (.int 0))) (jq (op2 dIx (lkp 0) (cst (.int 2))) jC))) (lkp 9))) [some M,some S,some (.int n),some BB,some MM,some (.int pl),some (.int rd),some (.int p1),some (.int p2),some SD,some (.int w),x11,x12]=some true:=by
  dsimp? [c1,c2,m0,m2,fw2,c3,cm]
 simp only[qY];refine(jt (ρ1:=[some M,some S,some (.int n),some BB,some MM,some (.int pl),some (.int rd),some (.int p1),some (.int p2),some SD,some (.int w),some Q,some NW]) ?_).trans rfl;refine(arw z0).trans ?_;refine(jt (ρ1:=[some M,some S,some (.int n),some BB,some MM,some (.int pl),some (.int rd),some (.int p1),some (.int p2),some SD,some (.int w),some Q,x12]) ?_).trans ?_
 ·cases sb with
  | true=>
   rw[if_pos rfl]at hQ;subst hQ;dsimp? [es,a1,fw2]
  | false=>
   rw[if_neg Bool.false_ne_true]at hQ;subst hQ;dsimp? [es,a2,fw2]
 refine(jt (ρ1:=[some M,some S,some (.int n),some BB,some MM,some (.int pl),some (.int rd),some (.int p1),some (.int p2),some SD,some (.int w),some Q,some NW]) ?_).trans ?_
 ·dsimp? [acm,Qh,i1,k1,fw1,k2,a3,i2,k3,k4]
 refine(jt (ρ1:=[some M,some S,some (.int n),some BB,some MM,some (.int pl),some (.int rd),some (.int p1),some (.int p2),some SD,some (.int w),some Q,some NW]) ?_).trans ?_
 ·dsimp? [gv,ml,a4,n1]
 refine(jt (ρ1:=[some M,some S,some (.int n),some BB,some MM,some (.int pl),some (.int rd),some (.int p1),some (.int p2),some SD,some (.int w),some Q,some NW]) ?_).trans rfl;dsimp? [ga,ga0,a5,n2]
theorem aiL{M S X N BB MM PL RD P1 P2 SD WT:PyData}{xi yi up lo:Int}{x11 x12:OP}
  (c1:dIx S RD=some X) (c2:dIx X SD=some (.int xi)) (m0:dIx M (.int 0)=some (.int up)) (m2:dIx M (.int 2)=some (.int lo)) (c3:dIx (.tuple [.int up,.int lo]) SD=some (.int yi)) (lt:¬ xi<yi):
  qY.1 [some M,some S,some N,some BB,some MM,some PL,some RD,some P1,some P2,some SD,some WT,x11,x12]=some (.nx [some M,some S,some N,some BB,some MM,some PL,some RD,some P1,some P2,some SD,some WT,x11,x12]):=by
 have cm:zz (fun i j=>decide (i<j)) (.int xi) (.int yi)=some (.bool false):=by
  show some (PyData.bool (decide (xi<yi)))=_;rw[decide_eq_false lt]
 dsimp? [qY,c1,c2,m0,m2,fw2,c3,cm]
end
section
variable {u e l b:Int}{ps:List (Int×Int)}
theorem aiM(H:qT=true)(h:okN u e l b=true)(hs:okS u l ps=true){r:Nat}{p:Int×Int}(hp:ps[r]?=some p)(k:Bool){BB MM:PyData}{x11 x12:OP}:
  ∃y11 y12,qY.1 [some (jl u e l b),some (jy ps),some (.int (val b e ps)),some BB,some MM,some (.int (b ^ (ps.length-1-r))),some (.int (r:Int)),some (.int p.1),some (.int p.2),some (.int (if k=true then 1 else 0)),some (.int (if k=true then 1 else e)),x11,x12]=
   some (.nx [some (jl u e l b),some (jy ps),some (.int (val b e ps)),some BB,some MM,some (.int (b ^ (ps.length-1-r))),some (.int (r:Int)),some (.int p.1),some (.int p.2),some (.int (if k=true then 1 else 0)),some (.int (if k=true then 1 else e)),y11,y12]):=by
 obtain⟨a1,a2,a3,a4,a5,a6,a7,a8,a9,a10⟩:=jH h;obtain⟨h1,h4,hall⟩:=za hs;have hr:=(List.getElem?_eq_some_iff.mp hp).1;have ix:=amj hp h4;have okp:okP u l p=true:=List.all_eq_true.mp hall p (List.mem_of_getElem? hp);obtain⟨q1,q2,q3,q4⟩:=qq okp;have m0:dIx (jl u e l b) (.int 0)=some (.int u):=rfl;have m2:dIx (jl u e l b) (.int 2)=some (.int l):=rfl;have ga:=abF H h hs
 have key:∀q:Int×Int,okP u l q=true->qU [jl u e l b,jy (ps.set r q)]=some (.int (val b e ps+(wt e q-wt e p)*b ^ (ps.length-1-r)))/\qx [jl u e l b,jy (ps.set r q)]=some (.int (bds ps+(bd q-bd p))):=fun q hq=>by
  have o:=anS hs r hq;have g1:=zq H h o;have g2:=abF H h o;rw[aiG b e ps r p q hp]at g1;rw[aiK ps r p q hp]at g2;exact⟨g1,g2⟩
 cases k with
 | false=>
  rw[if_neg Bool.false_ne_true,if_neg Bool.false_ne_true];by_cases c:p.1<u
  ·obtain⟨A1,A2,A3,k1,k2,k3,k4⟩:=aqR hr h4 (p.1+1,p.2)
   obtain⟨g1,g2⟩:=key (p.1+1,p.2) (by simp only[okP,Bool.and_eq_true,decide_eq_true_eq];omega)
   have w1:wt e (p.1+1,p.2)-wt e p=e:=by
    show(p.1+1)*e+p.2-(p.1*e+p.2)=e;rw[Int.add_mul];omega
   have w2:bd (p.1+1,p.2)-bd p=1:=by
    show p.1+1+p.2-(p.1+p.2)=1;omega
   rw[w1]at g1;rw[w2]at g2;exact⟨_,_,agq rfl rfl ix (show dIx (pr p) (.int 0)=some (.int p.1) from rfl) m0 m2 (show dIx (.tuple [.int u,.int l]) (.int 0)=some (.int u) from rfl) c (sb:=true) (abG 0 0) (Q:= .tuple [.int (p.1+1),.int p.2]) rfl k1 k2 k3 k4 rfl (jY (by omega)) g1 g2 ga⟩
  ·exact⟨_,_,aiL ix (show dIx (pr p) (.int 0)=some (.int p.1) from rfl) m0 m2 (show dIx (.tuple [.int u,.int l]) (.int 0)=some (.int u) from rfl) c⟩
 | true=>
  rw[if_pos rfl,if_pos rfl];by_cases c:p.2<l
  ·obtain⟨A1,A2,A3,k1,k2,k3,k4⟩:=aqR hr h4 (p.1,p.2+1)
   obtain⟨g1,g2⟩:=key (p.1,p.2+1) (by simp only[okP,Bool.and_eq_true,decide_eq_true_eq];omega)
   have w1:wt e (p.1,p.2+1)-wt e p=1:=by
    show p.1*e+(p.2+1)-(p.1*e+p.2)=1;omega
   have w2:bd (p.1,p.2+1)-bd p=1:=by
    show p.1+(p.2+1)-(p.1+p.2)=1;omega
   rw[w1]at g1;rw[w2]at g2;exact⟨_,_,agq rfl rfl ix (show dIx (pr p) (.int 1)=some (.int p.2) from rfl) m0 m2 (show dIx (.tuple [.int u,.int l]) (.int 1)=some (.int l) from rfl) c (sb:=false) (abG 1 0) (Q:= .tuple [.int p.1,.int (p.2+1)]) rfl k1 k2 k3 k4 rfl (jY (by omega)) g1 g2 ga⟩
  ·exact⟨_,_,aiL ix (show dIx (pr p) (.int 1)=some (.int p.2) from rfl) m0 m2 (show dIx (.tuple [.int u,.int l]) (.int 1)=some (.int l) from rfl) c⟩
theorem amk{M S N MM RD:PyData}{bb pl p1 p2 ee:Int}{x7 x8 x9 x10 x11 x12 y11 y12 z11 z12:OP}(ix:dIx S RD=some (.tuple [.int p1,.int p2]))(m1:dIx M (.int 1)=some (.int ee))(ml:JI (.int pl) (.int bb)=some (.int (pl*bb)))
  (s1:qY.1 [some M,some S,some N,some (.int bb),some MM,some (.int pl),some RD,some (.int p1),some (.int p2),some (.int 0),some (.int ee),x11,x12]=some (.nx [some M,some S,some N,some (.int bb),some MM,some (.int pl),some RD,some (.int p1),some (.int p2),some (.int 0),some (.int ee),y11,y12]))
  (s2:qY.1 [some M,some S,some N,some (.int bb),some MM,some (.int pl),some RD,some (.int p1),some (.int p2),some (.int 1),some (.int 1),y11,y12]=some (.nx [some M,some S,some N,some (.int bb),some MM,some (.int pl),some RD,some (.int p1),some (.int p2),some (.int 1),some (.int 1),z11,z12])):
  JU.1 [some M,some S,some N,some (.int bb),some MM,some (.int pl),some RD,x7,x8,x9,x10,x11,x12]=some (.nx [some M,some S,some N,some (.int bb),some MM,some (.int (pl*bb)),some RD,some (.int p1),some (.int p2),some (.int 1),some (.int 1),z11,z12]):=by
 simp only[JU];refine(jt (ρ1:=[some M,some S,some N,some (.int bb),some MM,some (.int pl),some RD,some (.int p1),some (.int p2),x9,x10,x11,x12]) ?_).trans ?_
 ·dsimp? [Qq,jV,zG,ix]
  rfl
 refine(jt (ρ1:=[some M,some S,some N,some (.int bb),some MM,some (.int pl),some RD,some (.int p1),some (.int p2),some (.int 1),some (.int 1),z11,z12]) ?_).trans ?_
 ·refine amh (ds:=[.tuple [.int 0,.int ee],.tuple [.int 1,.int 1]]) ?_ ?_
  ·dsimp? [itS,m1,fw2]
   rfl
  ·have g1:Qq 2 (jV (jG 9) (jV (jG 10) zG)) (.tuple [.int 0,.int ee]) [some M,some S,some N,some (.int bb),some MM,some (.int pl),some RD,some (.int p1),some (.int p2),x9,x10,x11,x12]=some [some M,some S,some N,some (.int bb),some MM,some (.int pl),some RD,some (.int p1),some (.int p2),some (.int 0),some (.int ee),x11,x12]:=rfl
   have g2:Qq 2 (jV (jG 9) (jV (jG 10) zG)) (.tuple [.int 1,.int 1]) [some M,some S,some N,some (.int bb),some MM,some (.int pl),some RD,some (.int p1),some (.int p2),some (.int 0),some (.int ee),y11,y12]=some [some M,some S,some N,some (.int bb),some MM,some (.int pl),some RD,some (.int p1),some (.int p2),some (.int 1),some (.int 1),y11,y12]:=rfl;simp only[jN,g1,g2,s1,s2,zzD]
 dsimp? [ml]
theorem ajV{M S N:PyData}{bb m tp:Int}{RR:LP}{q:Int}{y6 y7 y8 y9 y10 y11 y12:OP}(i3:dIx M (.int 3)=some (.int bb))(ln:ZH [S]=some (.int m))(rg:ag3 [.int (m-1),.int (-1),.int (-1)]=some RR)
  (lp:jN (jG 6) JU.1 RR [some M,some S,some N,some (.int bb),some (.int m),some (.int 1),none,none,none,none,none,none,none]=some (.nx [some M,some S,some N,some (.int bb),some (.int m),some (.int q),y6,y7,y8,y9,y10,y11,y12]))
  (gt:zX [M,.int m]=some (.int tp)) (hw:ajy [M,.int m,.int tp]=some (.int 1)) (al:qt [M,.int 1,.int 0]=some (.list [.tuple [.tuple [.int 0,.int 0]]])):QI [M,S,N]=some (.bool true):=by
 have s1:aau (.int m) (.int 1)=some (.int (m-1)):=rfl;have ng:agV (.int 1)=some (.int (-1)):=rfl;have e1:dEq (.int 1) (.int 1)=some (.bool true):=abG 1 1;have e2:dEq (.list [.tuple [.tuple [.int 0,.int 0]]]) (.list [.tuple [.tuple [.int 0,.int 0]]])=some (.bool true):=by kernel_rfl
 refine qh rfl ?_;show aad.1 [some M,some S,some N,none,none,none,none,none,none,none,none,none,none]=_;simp only[aad];refine(jt (ρ1:=[some M,some S,some N,some (.int bb),none,none,none,none,none,none,none,none,none]) ?_).trans ?_
 ·dsimp? [i3]
 refine(jt (ρ1:=[some M,some S,some N,some (.int bb),some (.int m),none,none,none,none,none,none,none,none]) ?_).trans ?_
 ·dsimp? [ln]
 refine(jt (ρ1:=[some M,some S,some N,some (.int bb),some (.int m),some (.int 1),none,none,none,none,none,none,none]) ?_).trans ?_
 ·dsimp? [zzA]
 refine(jt (ρ1:=[some M,some S,some N,some (.int bb),some (.int m),some (.int q),y6,y7,y8,y9,y10,y11,y12]) ?_).trans ?_
 ·refine amh ?_ lp
  dsimp? [s1,ng,rg]
 dsimp? [ag4,gt,hw,e1,al,e2]
noncomputable def aqU:Bool:=(List.range 4).all fun u=>(List.range 6).all fun e=>(List.range 12).all fun l=>(List.range 17).all fun b=>e==0||decide (b<2)||decide (CN u e l b 1 0=1)
theorem ajW:aqU=true:=by decide +kernel
theorem arx(h:okN u e l b=true):CN u e l b 1 0=1:=by
 obtain⟨a1,a2,a3,a4,a5,a6,a7,a8,a9,a10⟩:=jH h;have k:=ajW;unfold aqU at k;have k1:=List.all_eq_true.mp (List.all_eq_true.mp (List.all_eq_true.mp (List.all_eq_true.mp k u.toNat (List.mem_range.mpr (by omega))) e.toNat (List.mem_range.mpr (by omega))) l.toNat (List.mem_range.mpr (by omega))) b.toNat (List.mem_range.mpr (by omega));rw[Bool.or_eq_true,Bool.or_eq_true]at k1;rcases k1 with (z | z) | z
 ·have:e.toNat=0:=by simpa using z
  omega
 ·have:=of_decide_eq_true z
  omega
 ·have z:=of_decide_eq_true z
  rw[show((u.toNat:Nat):Int)=u by omega,show((e.toNat:Nat):Int)=e by omega,show((l.toNat:Nat):Int)=l by omega,show((b.toNat:Nat):Int)=b by omega]at z;exact z
theorem aml(H:qT=true)(h:okN u e l b=true):qt [jl u e l b,.int 1,.int 0]=some (.list [.tuple [.tuple [.int 0,.int 0]]]):=by
 obtain⟨a1,a2,a3,a4,a5,a6,a7,a8,a9,a10⟩:=jH h;obtain⟨L,g,mem,len,_⟩:=agp H h (r:=1) (by omega) (by omega) (n:=0) (by omega) (by omega);have m0:[(0,0)]∈L:=(mem [(0,0)]).mpr ⟨rfl,by simp[okP];omega,by simp[val,wt]⟩
 have only:∀t∈L,t=[(0,0)]:=fun t ht=>by
  obtain⟨t1,t2,t3⟩:=(mem t).mp ht
  match t,t1,t2,t3 with
  | [p],_,t2,t3=>
   have okp:okP u l p=true:=by simpa using t2
   obtain⟨q1,q2,q3,q4⟩:=qq okp;have:p.1*e+p.2=0:=by simpa[val,wt]using t3
   have p0:0<=p.1*e:=Int.mul_nonneg q1 (by omega);have p1:p.1*1<=p.1*e:=Int.mul_le_mul_of_nonneg_left (by omega) q1;obtain⟨x,y⟩:=p;simp only at*;rw[show x=0 by omega,show y=0 by omega]
 have cn:=arx h;have l1:L.length=1:=by omega
 match L,l1,m0 with
 | [x],_,m0=>
  have:[(0,0)]=x:=by simpa using m0
  subst this;exact g
end
section
variable {u e l b:Int}{ps:List (Int×Int)}
theorem agr(H:qT=true)(h:okN u e l b=true)(hs:okS u l ps=true)(h3:ps.length<=3):QI [jl u e l b,jy ps,.int (val b e ps)]=some (.bool true):=by
 obtain⟨a1,a2,a3,a4,a5,a6,a7,a8,a9,a10⟩:=jH h;obtain⟨h1,h4,hall⟩:=za hs
 have pb:∀k:Nat,k<=3->(16:Int) ^ k<=4096:=fun k hk=>by
  rcases (show k=0∨k=1∨k=2∨k=3 by omega)with rfl|rfl|rfl|rfl<;>decide
 have vb:=al2 (e:=e) h (QL h ps.length);rw[List.length_replicate]at vb;have p3:=pb ps.length h3;have m0:=aiJ h ps.length;have mm:val b e (List.replicate ps.length (u,l))=jO u e l b ps.length:=rfl;rw[mm]at vb
 obtain⟨ρ',lp,hI⟩:=JX (ga:=jG 6) (F:=JU.1) (fun i ρ=>∃x6 x7 x8 x9 x10 x11 x12,ρ=[some (jl u e l b),some (jy ps),some (.int (val b e ps)),some (.int b),some (.int (ps.length:Int)),some (.int (b ^ i)),x6,x7,x8,x9,x10,x11,x12]) ((List.range ps.length).map fun (j:Nat)=> .int (((ps.length-(j+1):Nat):Int))) 0
  [some (jl u e l b),some (jy ps),some (.int (val b e ps)),some (.int b),some (.int (ps.length:Int)),some (.int 1),none,none,none,none,none,none,none] ⟨none,none,none,none,none,none,none,by rw[Int.pow_zero]⟩ (fun j d ρ hd hi=>by
   obtain ⟨hj,rfl⟩:=aam hd;obtain ⟨x6,x7,x8,x9,x10,x11,x12,rfl⟩:=hi;rw [Nat.zero_add];have hk:ps.length - (j+1)<ps.length:=by omega
   have hp:ps[ps.length - (j+1)]?=some ps[ps.length - (j+1)]:=List.getElem?_eq_getElem hk;have ej:ps.length - 1 - (ps.length - (j+1))=j:=by omega
   obtain ⟨y11,y12,s1⟩:=aiM H h hs hp false (BB:= .int b) (MM:= .int (ps.length:Int)) (x11:=x11) (x12:=x12);obtain ⟨z11,z12,s2⟩:=aiM H h hs hp true (BB:= .int b) (MM:= .int (ps.length:Int)) (x11:=y11) (x12:=y12);rw [ej] at s1 s2;have pw0:=aaT (b:=b) (by omega) j;have pwl:=alI (b:=b) (by omega) a9 j;have pj:=pb j (by omega);refine ⟨_,_,rfl,amk (amj hp h4) (show dIx (jl u e l b) (.int 1)=some (.int e) from rfl) (jY (by omega)) s1 s2,?_⟩;exact ⟨_,_,_,_,_,_,_,by rw [←Int.pow_succ]⟩)
 obtain⟨x6,x7,x8,x9,x10,x11,x12,rfl⟩:=hI;exact ajV rfl (af8 ps) (Zg h1 h3) lp (aan H h h1 h3) (by rw[aiD H h h1 h3 m0 (by omega),ame h]) (aml H h)
end
theorem amm{S M T T1 F X PL:PyData}{xs zs:LP}{bb m n w tp c v up lo:Int}(d0:Q8 [S,.int 0]=some M)(i3:dIx M (.int 3)=some (.int bb))(d1:anx [S,.int 10,M,.int 3]=some T)(ln:ZH [T]=some (.int m))(gv:qU [M,T]=some (.int n))
  (s1:ZT T (some (-1)) none=some T1) (g1:qU [M,T1]=some (.int w)) (two:1<m->∃T0 n0,ZT T none (some (-1))=some T0/\qU [M,T0]=some (.int n0)/\JI (.int bb) (.int n0)=some (.int (bb*n0))/\n=bb*n0+w)
  (gt:zX [M,.int m]=some (.int tp)) (hle:n<=tp) (i0:dIx M (.int 0)=some (.int up)) (i2:dIx M (.int 2)=some (.int lo)) (rp:afF (.tuple [.tuple [.int up,.int lo]]) (.int m)=some F) (gF:qU [M,F]=some (.int tp))
  (al:qt [M,.int m,.int n]=some X) (inn:dIn true T X=some (.bool false)) (it:items X=some xs) (fx:few xs=true) (k1:qM (jG 0) (tst (op2 dNe (jJ qU (jq (lkp 2) (jq (lkp 0) jC))) (lkp 1))) (lkp 0) xs [none,some (.int n),some M]=some [])
  (lx:ZH [X]=some (.int c)) (hw:ajy [M,.int m,.int n]=some (.int c)) (ls:aaJ [M,.int m,.int n]=some (.int v)) (k2:qM (jG 0) agO (jJ qx (jq (lkp 1) (jq (lkp 0) jC))) xs [none,some M]=some zs) (bz:adu (fun i j=>decide (i<j)) [.list zs]=some (.int v))
  (po:Ja [M,.int m,.int n]=some PL) (hp:PL= .none∨(ah9 PL .none=some (.bool true)/\dIn true PL X=some (.bool false)/\qU [M,PL]=some (.int n))) (mo:QI [M,T,.int n]=some (.bool true)):alB [S]=some (.bool true):=by
 have ng:agV (.int 1)=some (.int (-1)):=rfl;have ii:inI (.int (-1))=some (-1):=rfl;have nn:∀i:Int,dNe (.int i) (.int i)=some (.bool false):=fun i=>by rw[afa];simp
 have ne0:dNe (.list []) (.list [])=some (.bool false):=by kernel_rfl
 have gtm:zz (fun i j=>decide (j<i)) (.int m) (.int 1)=some (.bool (decide (1<m))):=rfl
 have gtn:zz (fun i j=>decide (j<i)) (.int n) (.int tp)=some (.bool false):=by
  show some (PyData.bool (decide (tp<n)))=_;rw[decide_eq_false (by omega)]
 refine qh rfl ?_;show anz.1 [some S,none,none,none,none,none,none,none,none]=_;simp only[anz];refine(jt (ρ1:=[some S,some M,none,none,none,none,none,none,none]) ?_).trans ?_
 ·dsimp? [d0]
 refine(jt (ρ1:=[some S,some M,some (.int bb),none,none,none,none,none,none]) ?_).trans ?_
 ·dsimp? [i3]
 refine(jt (ρ1:=[some S,some M,some (.int bb),some T,none,none,none,none,none]) ?_).trans ?_
 ·dsimp? [d1]
 refine(jt (ρ1:=[some S,some M,some (.int bb),some T,some (.int m),none,none,none,none]) ?_).trans ?_
 ·dsimp? [ln]
 refine(jt (ρ1:=[some S,some M,some (.int bb),some T,some (.int m),some (.int n),none,none,none]) ?_).trans ?_
 ·dsimp? [gv]
 refine(jt (ρ1:=[some S,some M,some (.int bb),some T,some (.int m),some (.int n),some (.int w),none,none]) ?_).trans ?_
 ·dsimp? [Qh,ng,ii,s1,g1]
 refine(jt (ρ1:=[some S,some M,some (.int bb),some T,some (.int m),some (.int n),some (.int w),none,none]) ?_).trans ?_
 ·by_cases c1:1<m
  ·obtain⟨T0,n0,t1,t2,t3,rfl⟩:=two c1
   have ad:ze (.int (bb*n0)) (.int w)=some (.int (bb*n0+w)):=rfl;rw[decide_eq_true c1]at gtm;dsimp? [acm,gtm,ng,ii,t1,t2,t3,ad,nn]
  ·rw[decide_eq_false c1]at gtm
   dsimp? [gtm]
 refine(jt (ρ1:=[some S,some M,some (.int bb),some T,some (.int m),some (.int n),some (.int w),none,none]) ?_).trans ?_
 ·dsimp? [gt,gtn]
 refine(jt (ρ1:=[some S,some M,some (.int bb),some T,some (.int m),some (.int n),some (.int w),none,none]) ?_).trans ?_
 ·dsimp? [i0,i2,fw2,fw1,rp,gF,gt,nn]
 refine(jt (ρ1:=[some S,some M,some (.int bb),some T,some (.int m),some (.int n),some (.int w),some X,none]) ?_).trans ?_
 ·dsimp? [al]
 refine(jt (ρ1:=[some S,some M,some (.int bb),some T,some (.int m),some (.int n),some (.int w),some X,none]) ?_).trans ?_
 ·dsimp? [inn]
 refine(jt (ρ1:=[some S,some M,some (.int bb),some T,some (.int m),some (.int n),some (.int w),some X,none]) ?_).trans ?_
 ·dsimp? [JH,itS,ZG,List.map_cons,List.map_nil,it,fx,k1,aaf,ne0]
 refine(jt (ρ1:=[some S,some M,some (.int bb),some T,some (.int m),some (.int n),some (.int w),some X,none]) ?_).trans ?_
 ·dsimp? [lx,hw,nn]
 refine(jt (ρ1:=[some S,some M,some (.int bb),some T,some (.int m),some (.int n),some (.int w),some X,none]) ?_).trans ?_
 ·dsimp? [JH,itS,ZG,List.map_cons,List.map_nil,ls,it,fx,k2,bz,nn]
 refine(jt (ρ1:=[some S,some M,some (.int bb),some T,some (.int m),some (.int n),some (.int w),some X,some PL]) ?_).trans ?_
 ·dsimp? [po]
 refine(jt (ρ1:=[some S,some M,some (.int bb),some T,some (.int m),some (.int n),some (.int w),some X,some PL]) ?_).trans ?_
 ·rcases hp with rfl | ⟨h1,h2,h3⟩
  ·have z:ah9 .none .none=some (.bool false):=rfl
   dsimp? [z]
  ·dsimp? [h1,h2,h3,nn]
 dsimp? [mo]
section
variable {u e l b:Int}{ps:List (Int×Int)}
theorem ajX(H:qT=true)(ns:List Int)(hn:ns.length<1000000):alB [scr ns]=some (.bool true):=by
 obtain⟨u,e,l,b,d0,om⟩:=ahp ns hn 0 (by omega);have h:=anA om;obtain⟨a1,a2,a3,a4,a5,a6,a7,a8,a9,a10⟩:=jH h;obtain⟨ps,d1,hs,hr3⟩:=al1 hn h (at_:=10) (by omega) (mo:=3) (by omega) (by omega);obtain⟨h1,h4,hp⟩:=za hs;have h3:ps.length<=3:=by omega
 have pb:∀k:Nat,k<=3->(2:Int)*16 ^ k<=8192:=fun k hk=>by
  rcases (show k=0∨k=1∨k=2∨k=3 by omega)with rfl|rfl|rfl|rfl<;>decide
 have vb:=al2 (e:=e) h hp;have p1:=pb ps.length h3;have v0:=ahq (e:=e) h hp;obtain⟨v,hv,_⟩:=aqT (u:=u) (e:=e) (l:=l) (b:=b) rfl hp
 have ls:aaJ [jl u e l b,.int (ps.length:Int),.int (val b e ps)]=some (.int v):=by
  rw[ajG H h h1 h3 v0 (by omega),hv];rfl
 obtain⟨L,g,mem,len,few_⟩:=agp H h h1 h3 v0 (by omega)
 have hL:∀t∈L,okS u l t=true/\val b e t=val b e ps:=fun t ht=>by
  obtain⟨k1,k2,k3⟩:=(mem t).mp ht;exact⟨aaV (by omega) (by omega) k2,k3⟩
 have lx:ZH [eS L]=some (.int (CN u e l b ps.length (val b e ps))):=by
  show some (PyData.int ((L.map jy).length:Nat))=_;rw[List.length_map,len]
 have bz:adu (fun i j=>decide (i<j)) [.list ((L.map bds).map .int)]=some (.int v):=by
  obtain⟨t,t1,t2,t3,t4⟩:=(ae7 u e l b ps.length (val b e ps)).1 v hv;refine amf (List.mem_map.mpr ⟨t,(mem t).mpr ⟨t1,t2,t3⟩,t4⟩) fun x hx=>?_;obtain⟨s,hs,rfl⟩:=List.mem_map.mp hx;obtain⟨k1,k2,k3⟩:=(mem s).mp hs;obtain⟨m,hm,hle⟩:=(ae7 u e l b ps.length (val b e ps)).2 (bds s) ⟨s,k1,k2,k3,rfl⟩;rw[hv]at hm;cases hm;exact hle
 obtain⟨i,p,rfl,s1,s2⟩:=an2 h1 h4
 have okp:okP u l p=true:=by
  rw[List.all_append,Bool.and_eq_true]at hp;simpa using hp.2
 have oki:i.all (okP u l)=true:=by
  rw[List.all_append,Bool.and_eq_true]at hp;exact hp.1
 have g1:=zq H h (aaV (ps:=[p]) (by simp) (by simp) (by simpa using okp));have w1:val b e [p]=wt e p:=by simp[val]
 rw[w1]at g1;refine amm d0 rfl d1 (af8 _) (zq H h hs) s1 g1 (fun hm=>?_) (aan H h h1 h3) (an0 h rfl hp) rfl rfl (ami _ h4) (zq H h (aaV (by rw[List.length_replicate];exact h1) (by rw[List.length_replicate];exact h4) (QL h _))) g (aoo ((mem _).mpr ⟨rfl,hp,rfl⟩)) rfl (al8 (by rw[List.length_map];omega)) (ajT H h hL) lx (aiD H h h1 h3 v0 (by omega)) ls (ahG H h fun t ht=>(hL t ht).1) bz (apM H h h1 h4 v0 (by omega)) ?_ (agr H h hs h3)
 ·rw[List.length_append]at hm h1 h3 h4 p1 vb
  simp only[List.length_cons,List.length_nil]at hm h1 h3 h4 p1 vb;have gi:=zq H h (aaV (ps:=i) (by omega) (by omega) oki);exact⟨_,_,s2,gi,jY (by omega),by rw[aai,Int.mul_comm]⟩
 ·by_cases c:val b e (i++[p])<b ^ (i++[p]).length
  ·rw[if_pos c]
   have pok:=apy H h h1 h4 v0 c;have gvv:=zq H h pok;have vp:=air H h _ _ h1 v0 c;rw[vp]at gvv;refine .inr ⟨rfl,aoo ((mem _).mpr ⟨ais _ _ _ _,(za pok).2.2,vp⟩),gvv⟩
  ·rw[if_neg c];exact .inl rfl
end
end Rods
end
section
namespace BX
open PySem L2
open PyProof.Rows hiding St
theorem jS.thr{P:Program}{w:World}{K:Fg}{mg:SV}{base h:Heap}{x:Str}{st:Stmt}{ps:List Str}{k n:Nat}{g:LP->Option Str}(T:jS K x st)(X:K.In h)(G:h.Ns mainGlobals mg)
  (pa:js x st ps) (ok:∀f fd,Fun K x x st f fd->FnOk P w K mg base (CXt P w) k f fd ps (ak4 K mg n g)):ZR P w K mg base x ps k n g:=by
 obtain⟨f,oc,od,an,kV,doc,pm,Kc,ct,osl,a,l,c,kp⟩:=T;have F1:=agJ (st:=st) l c kp;exact⟨f,_,ok f _ F1,PySem.W.mg_of X G a,kp,F1.binds pa⟩
end BX
namespace Rods
open PySem L2 BX
open PyProof.Rows hiding St
structure Tops(K:Fg):Prop where
 isWhole:jS K "is_whole" Z1
 rodWorth:jS K "rod_worth" QS
 beads:jS K "beads" aeA
 allRods:jS K "all_rods" Z2
 hasAll:jS K "has_all_digits" QT
 isManner:jS K "is_manner" QU
 check:jS K "check_manner" acC
 rodsWith:jS K "rods_with" JO
 fewest:jS K "fewest_beads" abp
 chkRods:jS K "check_rods" Jj
 chkNum:jS K "check_number" zj
 asked:jS K "check_asked" zB
 num:jS K "number_on" zU
 full:jS K "full_rods" QX
 last:jS K "last_rods" zV
 digits:jS K "digits_by_rods" Q1
 plainR:jS K "plain_rods" Q0
 plainS:jS K "plain_setting" Z5
 isRod:jS K "is_rod" aeG
 isSet:jS K "is_setting" Jk
 chkSet:jS K "check_setting" zt
 allBeads:jS K "all_beads" JP
 longF:jS K "longer_fewest" QG
 least:jS K "least_beads" aaI
 cell:jS K "_law_cell" ain
 drawn:jS K "_law_drawn" aeQ
 manner:jS K "_law_manner" abt
 value:jS K "value" aeP
 longer:jS K "longer_ways" Jv
 how:jS K "how_many" JR
 setting:jS K "_law_setting" JS
 Greatest:jS K "greatest" Q9
 LongerEnds:jS K "longer_ends" qr
 AllSettings:jS K "all_settings" qL
 LPlainOf:jS K "_law_plain_of" zY
 LIsMore:jS K "_law_is_more" zD
 law:jS K "law" ajz
structure Consts(K:Fg)(mg:SV):Prop where
 b:Bare mg
 least:GC K mg "LEAST_PARTS" (.tuple [.int 0,.int 1,.int 0,.int 2])
 most:GC K mg "MOST_PARTS" (.tuple [.int 3,.int 16,.int 12,.int 16])
 mostRods:GC K mg "MOST_RODS" (.int 4)
 mostNumber:GC K mg "MOST_NUMBER" (.int 99999)
 errT:ErrT K mg "BeadError" alw
theorem ahH:js "is_whole" Z1 ["thing","least","most"]:=fun _ _ _ _ _ _ us hl=>by obtain⟨v0,v1,v2,rfl⟩:=Zj us hl;rfl
theorem ags:js "rod_worth" QS ["manner","rod"]:=fun _ _ _ _ _ _ us hl=>by obtain⟨v0,v1,rfl⟩:=ZC us hl;rfl
theorem amn:js "beads" aeA ["rod"]:=fun _ _ _ _ _ _ us hl=>by obtain⟨v0,rfl⟩:=afl us hl;rfl
theorem ahI:js "all_rods" Z2 ["manner"]:=fun _ _ _ _ _ _ us hl=>by obtain⟨v0,rfl⟩:=afl us hl;rfl
theorem ajY:js "has_all_digits" QT ["manner"]:=fun _ _ _ _ _ _ us hl=>by obtain⟨v0,rfl⟩:=afl us hl;rfl
theorem agt:js "is_manner" QU ["thing"]:=fun _ _ _ _ _ _ us hl=>by obtain⟨v0,rfl⟩:=afl us hl;rfl
theorem agu:js "check_manner" acC ["thing"]:=fun _ _ _ _ _ _ us hl=>by obtain⟨v0,rfl⟩:=afl us hl;rfl
theorem agv:js "rods_with" JO ["manner","worth"]:=fun _ _ _ _ _ _ us hl=>by obtain⟨v0,v1,rfl⟩:=ZC us hl;rfl
theorem ajZ:js "fewest_beads" abp ["manner","worth"]:=fun _ _ _ _ _ _ us hl=>by obtain⟨v0,v1,rfl⟩:=ZC us hl;rfl
theorem acW:js "check_rods" Jj ["rods"]:=fun _ _ _ _ _ _ us hl=>by obtain⟨v0,rfl⟩:=afl us hl;rfl
theorem ad0:js "check_number" zj ["number"]:=fun _ _ _ _ _ _ us hl=>by obtain⟨v0,rfl⟩:=afl us hl;rfl
theorem agw:js "check_asked" zB ["manner","rods","number"]:=fun _ _ _ _ _ _ us hl=>by obtain⟨v0,v1,v2,rfl⟩:=Zj us hl;rfl
theorem apN:js "number_on" zU ["manner","setting"]:=fun _ _ _ _ _ _ us hl=>by obtain⟨v0,v1,rfl⟩:=ZC us hl;rfl
theorem an3:js "full_rods" QX ["manner","rods"]:=fun _ _ _ _ _ _ us hl=>by obtain⟨v0,v1,rfl⟩:=ZC us hl;rfl
theorem an4:js "last_rods" zV ["manner","ahead","number"]:=fun _ _ _ _ _ _ us hl=>by obtain⟨v0,v1,v2,rfl⟩:=Zj us hl;rfl
theorem aj0:js "digits_by_rods" Q1 ["base","rods","number"]:=fun _ _ _ _ _ _ us hl=>by obtain⟨v0,v1,v2,rfl⟩:=Zj us hl;rfl
theorem ad1:js "plain_rods" Q0 ["manner","rods","number"]:=fun _ _ _ _ _ _ us hl=>by obtain⟨v0,v1,v2,rfl⟩:=Zj us hl;rfl
theorem ad2:js "plain_setting" Z5 ["manner","rods","number"]:=fun _ _ _ _ _ _ us hl=>by obtain⟨v0,v1,v2,rfl⟩:=Zj us hl;rfl
theorem amo:js "is_rod" aeG ["manner","thing"]:=fun _ _ _ _ _ _ us hl=>by obtain⟨v0,v1,rfl⟩:=ZC us hl;rfl
theorem amp:js "is_setting" Jk ["manner","thing"]:=fun _ _ _ _ _ _ us hl=>by obtain⟨v0,v1,rfl⟩:=ZC us hl;rfl
theorem aj1:js "check_setting" zt ["manner","thing"]:=fun _ _ _ _ _ _ us hl=>by obtain⟨v0,v1,rfl⟩:=ZC us hl;rfl
theorem agx:js "all_beads" JP ["manner","setting"]:=fun _ _ _ _ _ _ us hl=>by obtain⟨v0,v1,rfl⟩:=ZC us hl;rfl
theorem amq:js "longer_fewest" QG ["manner","ahead","fewest"]:=fun _ _ _ _ _ _ us hl=>by obtain⟨v0,v1,v2,rfl⟩:=Zj us hl;rfl
theorem amr:js "least_beads" aaI ["manner","rods","number"]:=fun _ _ _ _ _ _ us hl=>by obtain⟨v0,v1,v2,rfl⟩:=Zj us hl;rfl
theorem an5:js "_law_cell" ain ["_law_script","_law_k"]:=fun _ _ _ _ _ _ us hl=>by obtain⟨v0,v1,rfl⟩:=ZC us hl;rfl
theorem ams:js "_law_drawn" aeQ ["_law_script","_law_k","_law_many"]:=fun _ _ _ _ _ _ us hl=>by obtain⟨v0,v1,v2,rfl⟩:=Zj us hl;rfl
theorem aj2:js "_law_manner" abt ["_law_script","_law_at"]:=fun _ _ _ _ _ _ us hl=>by obtain⟨v0,v1,rfl⟩:=ZC us hl;rfl
theorem amt:js "value" aeP ["manner","setting"]:=fun _ _ _ _ _ _ us hl=>by obtain⟨v0,v1,rfl⟩:=ZC us hl;rfl
theorem aj3:js "longer_ways" Jv ["manner","ahead","ways"]:=fun _ _ _ _ _ _ us hl=>by obtain⟨v0,v1,v2,rfl⟩:=Zj us hl;rfl
theorem apO:js "how_many" JR ["manner","rods","number"]:=fun _ _ _ _ _ _ us hl=>by obtain⟨v0,v1,v2,rfl⟩:=Zj us hl;rfl
theorem ahJ:js "_law_setting" JS ["_law_script","_law_at","_law_manner_here","_law_most"]:=fun _ _ _ _ _ _ us hl=>by obtain⟨v0,v1,v2,v3,rfl⟩:=arb us hl;rfl
theorem agy:js "greatest" Q9 ["manner","rods"]:=fun _ _ _ _ _ _ us hl=>by obtain⟨v0,v1,rfl⟩:=ZC us hl;rfl
theorem ac8:js "longer_ends" qr ["manner","ahead","ends"]:=fun _ _ _ _ _ _ us hl=>by obtain⟨v0,v1,v2,rfl⟩:=Zj us hl;rfl
theorem acX:js "all_settings" qL ["manner","rods","number"]:=fun _ _ _ _ _ _ us hl=>by obtain⟨v0,v1,v2,rfl⟩:=Zj us hl;rfl
theorem agz:js "_law_plain_of" zY ["_law_manner_here","_law_rods","_law_number"]:=fun _ _ _ _ _ _ us hl=>by obtain⟨v0,v1,v2,rfl⟩:=Zj us hl;rfl
theorem ahK:js "_law_is_more" zD ["_law_manner_here","_law_setting_here","_law_number"]:=fun _ _ _ _ _ _ us hl=>by obtain⟨v0,v1,v2,rfl⟩:=Zj us hl;rfl
theorem ary(HT:qT=true){P:Program}{w:World}{K:Fg}{h:Heap}{mg:SV}{base:Heap}(X:K.In h)(G:h.Ns mainGlobals mg)(T:Tops K)(C:Consts K mg):CLaw P w K mg base:=by
 have c_isWhole:jj P w K mg base "is_whole" ["thing","least","most"] 1 3 j7:=T.isWhole.callee X G ahH fun f fd F=>jD F ahf fun Kc A Ko s H E hr=>acA.2 P w K mg base f Kc A Ko s H E C.b hr;have c_rodWorth:jj P w K mg base "rod_worth" ["manner","rod"] 1 2 qC:=T.rodWorth.callee X G ags fun f fd F=>jD F afV fun Kc A Ko s H E hr=>aaF.2 P w K mg base f Kc A Ko s H E trivial hr;have c_beads:jj P w K mg base "beads" ["rod"] 1 1 qN:=T.beads.callee X G amn fun f fd F=>jD F alq fun Kc A Ko s H E hr=>ahg.2 P w K mg base f Kc A Ko s H E trivial hr;have c_allRods:jj P w K mg base "all_rods" ["manner"] 1 1 zi:=T.allRods.callee X G ahI fun f fd F=>ahh F C.b;have c_hasAll:jj P w K mg base "has_all_digits" ["manner"] 2 1 Z3:=T.hasAll.callee X G ajY fun f fd F=>jD F adG fun Kc A Ko s H E hr=>aeB.2 P w K mg base f Kc A Ko s H E ⟨C.b,c_allRods,c_rodWorth⟩ hr;have c_isManner:jj P w K mg base "is_manner" ["thing"] 3 1 qW:=T.isManner.callee X G agt fun f fd F=>jD F Jt fun Kc A Ko s H E hr=>aaG.2 P w K mg base f Kc A Ko s H E ⟨C.b,C.least,C.most,c_isWhole,c_hasAll⟩ hr;have c_check:jj P w K mg base "check_manner" ["thing"] 4 1 Zy:=T.check.callee X G agu fun f fd F=>jD F afY fun Kc A Ko s H E hr=>ahi.2 P w K mg base f Kc A Ko s H E ⟨c_isManner⟩ hr;have c_rodsWith:jj P w K mg base "rods_with" ["manner","worth"] 2 2 QV:=T.rodsWith.callee X G agv fun f fd F=>jD F afZ fun Kc A Ko s H E hr=>aaH.2 P w K mg base f Kc A Ko s H E ⟨c_allRods,c_rodWorth⟩ hr;have c_fewest:jj P w K mg base "fewest_beads" ["manner","worth"] 3 2 QW:=T.fewest.callee X G ajZ fun f fd F=>jD F aju fun Kc A Ko s H E hr=>aeC.2 P w K mg base f Kc A Ko s H E ⟨C.b,c_rodsWith,c_beads⟩ hr;have c_chkRods:jj P w K mg base "check_rods" ["rods"] 2 1 qH:=T.chkRods.callee X G acW fun f fd F=>jD F acE fun Kc A Ko s H E hr=>Z4.2 P w K mg base f Kc A Ko s H E ⟨c_isWhole,C.mostRods⟩ hr;have c_chkNum:jj P w K mg base "check_number" ["number"] 2 1 Ju:=T.chkNum.callee X G ad0 fun f fd F=>jD F adI fun Kc A Ko s H E hr=>abq.2 P w K mg base f Kc A Ko s H E ⟨c_isWhole,C.mostNumber⟩ hr;have c_asked:jj P w K mg base "check_asked" ["manner","rods","number"] 5 3 zJ:=T.asked.callee X G agw fun f fd F=>jD F af0 fun Kc A Ko s H E hr=>aeF.2 P w K mg base f Kc A Ko s H E ⟨c_check,c_chkRods,c_chkNum⟩ hr
 have c_num:jj P w K mg base "number_on" ["manner","setting"] 2 2 ajv:=T.num.callee X G apN fun f fd F=>jD F aeD fun Kc A Ko s H E hr=>ano.2 P w K mg base f Kc A Ko s H E ⟨c_rodWorth⟩ hr;have c_full:jj P w K mg base "full_rods" ["manner","rods"] 1 2 aik:=T.full.callee X G an3 fun f fd F=>jD F anp fun Kc A Ko s H E hr=>aij.2 P w K mg base f Kc A Ko s H E trivial hr;have c_last:jj P w K mg base "last_rods" ["manner","ahead","number"] 3 3 adH:=T.last.callee X G an4 fun f fd F=>jD F QY fun Kc A Ko s H E hr=>aim.2 P w K mg base f Kc A Ko s H E ⟨c_allRods,c_rodWorth,c_num,c_full⟩ hr;have c_digits:jj P w K mg base "digits_by_rods" ["base","rods","number"] 1 3 alr:=T.digits.callee X G aj0 fun f fd F=>jD F aeL fun Kc A Ko s H E hr=>anr.2 P w K mg base f Kc A Ko s H E C.b hr;have c_plainR:jj P w K mg base "plain_rods" ["manner","rods","number"] 4 3 abr:=T.plainR.callee X G ad1 fun f fd F=>jD F Q5 fun Kc A Ko s H E hr=>Q6.2 P w K mg base f Kc A Ko s H E ⟨C.b,c_digits,c_fewest⟩ hr;have c_plainS:jj P w K mg base "plain_setting" ["manner","rods","number"] 6 3 Ql:=T.plainS.callee X G ad2 fun f fd F=>jD F adJ fun Kc A Ko s H E hr=>Z9.2 P w K mg base f Kc A Ko s H E ⟨c_asked,c_plainR⟩ hr;have c_isRod:jj P w K mg base "is_rod" ["manner","thing"] 2 2 aeM:=T.isRod.callee X G amo fun f fd F=>jD F als fun Kc A Ko s H E hr=>ahj.2 P w K mg base f Kc A Ko s H E ⟨C.b,c_isWhole⟩ hr;have c_isSet:jj P w K mg base "is_setting" ["manner","thing"] 5 2 ahk:=T.isSet.callee X G amp fun f fd F=>jD F alu fun Kc A Ko s H E hr=>aeN.2 P w K mg base f Kc A Ko s H E ⟨C.b,c_check,c_isRod,C.mostRods⟩ hr;have c_chkSet:jj P w K mg base "check_setting" ["manner","thing"] 6 2 aaa:=T.chkSet.callee X G aj1 fun f fd F=>jD F ajx fun Kc A Ko s H E hr=>aeO.2 P w K mg base f Kc A Ko s H E ⟨c_isSet⟩ hr;have c_allBeads:jj P w K mg base "all_beads" ["manner","setting"] 7 2 qx:=T.allBeads.callee X G agx fun f fd F=>jD F af1 fun Kc A Ko s H E hr=>Q7.2 P w K mg base f Kc A Ko s H E ⟨C.b,c_chkSet,c_beads⟩ hr;have c_longF:jj P w K mg base "longer_fewest" ["manner","ahead","fewest"] 4 3 aeI:=T.longF.callee X G amq fun f fd F=>jD F JQ fun Kc A Ko s H E hr=>aeH.2 P w K mg base f Kc A Ko s H E ⟨C.b,c_last,c_beads⟩ hr
 have c_least:jj P w K mg base "least_beads" ["manner","rods","number"] 6 3 aaJ:=T.least.callee X G amr fun f fd F=>jD F Z7 fun Kc A Ko s H E hr=>aeK.2 P w K mg base f Kc A Ko s H E ⟨C.b,c_asked,c_longF⟩ hr;have c_cell:jj P w K mg base "_law_cell" ["_law_script","_law_k"] 1 2 af2:=T.cell.callee X G an5 fun f fd F=>jD F anu fun Kc A Ko s H E hr=>aio.2 P w K mg base f Kc A Ko s H E C.b hr;have c_drawn:jj P w K mg base "_law_drawn" ["_law_script","_law_k","_law_many"] 2 3 acI:=T.drawn.callee X G ams fun f fd F=>jD F acH fun Kc A Ko s H E hr=>ahm.2 P w K mg base f Kc A Ko s H E ⟨c_cell⟩ hr;have c_manner:jj P w K mg base "_law_manner" ["_law_script","_law_at"] 3 2 Q8:=T.manner.callee X G aj2 fun f fd F=>jD F zp fun Kc A Ko s H E hr=>abx.2 P w K mg base f Kc A Ko s H E ⟨C.b,c_drawn⟩ hr;have c_value:jj P w K mg base "value" ["manner","setting"] 7 2 qU:=T.value.callee X G amt fun f fd F=>jD F alv fun Kc A Ko s H E hr=>ahl.2 P w K mg base f Kc A Ko s H E ⟨c_chkSet,c_num⟩ hr;have c_longer:jj P w K mg base "longer_ways" ["manner","ahead","ways"] 4 3 abw:=T.longer.callee X G aj3 fun f fd F=>jD F JT fun Kc A Ko s H E hr=>abv.2 P w K mg base f Kc A Ko s H E ⟨c_last⟩ hr;have c_how:jj P w K mg base "how_many" ["manner","rods","number"] 6 3 ajy:=T.how.callee X G apO fun f fd F=>jD F aeR fun Kc A Ko s H E hr=>ant.2 P w K mg base f Kc A Ko s H E ⟨C.b,c_asked,c_longer⟩ hr;have c_setting:jj P w K mg base "_law_setting" ["_law_script","_law_at","_law_manner_here","_law_most"] 3 4 anx:=T.setting.callee X G ahJ fun f fd F=>jD F aaM fun Kc A Ko s H E hr=>anw.2 P w K mg base f Kc A Ko s H E ⟨C.b,c_drawn⟩ hr;have x_check:ZR P w K mg base "check_manner" ["thing"] 4 1 ahn:=T.check.thr X G agu fun f fd F=>aaB F afY fun Kc A Ko s H E hr=>aeU.2 P w K mg base f Kc A Ko s H E ⟨c_isManner,(C.errT.err (by decide))⟩ hr;have x_chkRods:ZR P w K mg base "check_rods" ["rods"] 2 1 acJ:=T.chkRods.thr X G acW fun f fd F=>aaB F acE fun Kc A Ko s H E hr=>aac.2 P w K mg base f Kc A Ko s H E ⟨c_isWhole,C.mostRods,(C.errT.err (by decide))⟩ hr;have x_chkNum:ZR P w K mg base "check_number" ["number"] 2 1 aeV:=T.chkNum.thr X G ad0 fun f fd F=>aaB F adI fun Kc A Ko s H E hr=>aby.2 P w K mg base f Kc A Ko s H E ⟨c_isWhole,C.mostNumber,(C.errT.err (by decide))⟩ hr
 have x_asked:ZR P w K mg base "check_asked" ["manner","rods","number"] 5 3 aho:=T.asked.thr X G agw fun f fd F=>aaB F af0 fun Kc A Ko s H E hr=>aeW.2 P w K mg base f Kc A Ko s H E ⟨c_chkRods,c_check,x_check,x_chkRods,x_chkNum⟩ hr;have x_plainR:ZR P w K mg base "plain_rods" ["manner","rods","number"] 4 3 aeX:=T.plainR.thr X G ad1 fun f fd F=>aaB F Q5 fun Kc A Ko s H E hr=>abz.2 P w K mg base f Kc A Ko s H E ⟨c_digits,(C.errT.err (by decide))⟩ hr;have x_plainS:ZR P w K mg base "plain_setting" ["manner","rods","number"] 6 3 abB:=T.plainS.thr X G ad2 fun f fd F=>aaB F adJ fun Kc A Ko s H E hr=>abA.2 P w K mg base f Kc A Ko s H E ⟨c_asked,x_asked,x_plainR⟩ hr;have c_Greatest:jj P w K mg base "greatest" ["manner","rods"] 5 2 zX:=T.Greatest.callee X G agy fun f fd F=>jD F af3 fun Kc A Ko s H E hr=>Za.2 P w K mg base f Kc A Ko s H E ⟨c_check,c_chkRods,c_num,c_full⟩ hr;have c_LongerEnds:jj P w K mg base "longer_ends" ["manner","ahead","ends"] 4 3 zC:=T.LongerEnds.callee X G ac8 fun f fd F=>jD F qR fun Kc A Ko s H E hr=>Jw.2 P w K mg base f Kc A Ko s H E ⟨c_last⟩ hr;have c_AllSettings:jj P w K mg base "all_settings" ["manner","rods","number"] 6 3 qt:=T.AllSettings.callee X G acX fun f fd F=>jD F zl fun Kc A Ko s H E hr=>zQ.2 P w K mg base f Kc A Ko s H E ⟨C.b,c_asked,c_LongerEnds⟩ hr;have c_LPlainOf:jj P w K mg base "_law_plain_of" ["_law_manner_here","_law_rods","_law_number"] 7 3 Ja:=T.LPlainOf.callee X G agz fun f fd F=>ak8 F af4 fun Kc A Ko s H E hr=>zZ.2 P w K mg base f Kc A Ko s H E ⟨c_plainS,x_plainS,(C.errT.err (by decide))⟩ hr;have c_LIsMore:jj P w K mg base "_law_is_more" ["_law_manner_here","_law_setting_here","_law_number"] 8 3 QI:=T.LIsMore.callee X G ahK fun f fd F=>jD F qe fun Kc A Ko s H E hr=>aad.2 P w K mg base f Kc A Ko s H E ⟨C.b,c_value,c_allBeads,c_AllSettings,c_how,c_Greatest⟩ hr;exact⟨C.b,c_manner,c_setting,c_value,c_Greatest,c_AllSettings,c_how,c_least,c_allBeads,c_LPlainOf,c_LIsMore⟩
theorem apP(HT:qT=true){P:Program}{w:World}{K:Fg}{h:Heap}{mg:SV}{fa:Addr}(X:K.In h)(G:h.Ns mainGlobals mg)(hfa:mg "law"=some (.ref fa))(T:Tops K)(C:Consts K mg):
  ∃fd:FuncData,(∀(s:Shared) (v:Value),BindsTo s fd ⟨[v],[]⟩ [("_law_script",v)])/\∀base:Heap,K.In base->base.Ns mainGlobals mg->FnOk P w K mg base CX0 9 fa fd ["_law_script"] (Pur K 1 alB):=by
 have Q:∀base:Heap,CLaw P w K mg base:=fun base=>ary HT X G T C;obtain⟨f,oc,od,an,kV,doc,pm,Kc,ct,osl,a,l,c,kp⟩:=T.law;have e:=hfa.symm.trans (PySem.W.mg_of X G a);cases e;have F1:=agJ (st:=ajz) l c kp;exact⟨_,fun s v=> .of_eq rfl,fun base _ _=>jD F1 Qm fun Kc A Ko s H E hr=>anz.2 P w K mg base fa Kc A Ko s H E (Q base) hr⟩
theorem aqV(HT:qT=true)(K:Fg)(H:Hp)(a:Addr)(ns:List Int)(hl:ns.length<=63)(hS:SqL K H a (ns.map V.int)):Pur K 1 alB [.ref a] H (fun v _=>v= .bl true) fun _ _ _=>False:=
 ⟨[scr ns],.bool true,rfl,⟨_,_,rfl,⟨a,rfl,.inl ⟨ns,hS,rfl⟩⟩,rfl⟩,ajX HT ns (by omega),fun v H' _ r=>r⟩
theorem arz(HT:qT=true){l:PySem.W.OpenLaw}{q:Program}{loose:List Str}{XP:(SV)->Heap->Prop}{YP:World->Heap->Prop}{d:DefRec}{K:Params->Fg}(hn:l.most=some 63)(hdf:d.params.defaults=[])
  (hY:∀(w:World) (h:Heap),YP w h->(K w.params).In h) (hnm:d.name="law")
  (F:∀(w:World) (mg:SV) (h:Heap),(K w.params).In h->h.Ns mainGlobals mg->Tops (K w.params)/\Consts (K w.params) mg):
  PySem.W.WalkO q loose XP YP l.row.toRowW d [] (fun f vs=>PySem.call f vs):=
 L2.amK (n:=63) (k:=9) (x:="_law_script") (CX:=fun _=>CX0) (sp:=fun w=>Pur (K w.params) 1 alB) hn (by decide) hdf ⟨rfl,by decide,by decide⟩ hY (fun w mg fa h KX G hm=>by
  obtain ⟨T,C⟩:=F w mg h KX G;rw [hnm] at hm;exact apP HT KX G hm T C) (fun w H a ns hl _ hS=>aqV HT (K w.params) H a ns hl hS) fun _ _ _ _ _ z=>z
theorem an6{K:Fg}{mg:SV}{h:Heap}(X:K.In h)(G:h.Ns mainGlobals mg)(z1:PySem.W.nsIn K mainGlobals "isinstance"=some none)(z2:PySem.W.nsIn K mainGlobals "bool"=some none)(z3:PySem.W.nsIn K mainGlobals "int"=some none)(z4:PySem.W.nsIn K mainGlobals "tuple"=some none)(z5:PySem.W.nsIn K mainGlobals "zip"=some none)(z6:PySem.W.nsIn K mainGlobals "range"=some none)(z7:PySem.W.nsIn K mainGlobals "all"=some none)(z8:PySem.W.nsIn K mainGlobals "len"=some none)(z9:PySem.W.nsIn K mainGlobals "max"=some none)(z10:PySem.W.nsIn K mainGlobals "min"=some none)(z11:PySem.W.nsIn K mainGlobals "sum"=some none)(z12:PySem.W.nsIn K mainGlobals "sorted"=some none)(z13:PySem.W.nsIn K mainGlobals "abs"=some none)(z14:PySem.W.nsIn K mainGlobals "list"=some none)(z15:PySem.W.nsIn K mainGlobals "enumerate"=some none)(z16:PySem.W.nsIn K mainGlobals "ValueError"=some none)(z17:PySem.W.nsIn K mainGlobals "str"=some none)(z18:PySem.W.nsIn K mainGlobals "set"=some none)(z19:PySem.W.nsIn K mainGlobals "dict"=some none):Bare mg:=
 have f:∀{x:Str},PySem.W.nsIn K mainGlobals x=some none->mg x=none:=fun z=>PySem.W.mg_none_of X G z
 ⟨f z1,f z2,f z3,f z4,f z5,f z6,f z7,f z8,f z9,f z10,f z11,f z12,f z13,f z14,f z15,f z16,f z17,f z18,f z19⟩
theorem gc4{K:Fg}{mg:SV}{h:Heap}{x:Str}{a:Addr}{od:Option Addr}{n:Nat}{osl:Array (Option Value)}{i1 i2 i3 i4:Int}{t1 t2 t3 t4:Tok}(X:K.In h)(G:h.Ns mainGlobals mg)(e:PySem.W.nsIn K mainGlobals x=some (some (.ref a)))
  (l:K.lookup a=some ⟨.type "tuple",od,.seq #[.int i1 t1,.int i2 t2,.int i3 t3,.int i4 t4] n,osl⟩):GC K mg x (.tuple [.int i1,.int i2,.int i3,.int i4]):=
 akQ X G e l rfl ⟨_,_,[.int i1,.int i2,.int i3,.int i4],rfl,(by show 4<=sizeLine;rw[sizeLine_eq];decide),.cons ⟨_,rfl⟩ (.cons ⟨_,rfl⟩ (.cons ⟨_,rfl⟩ (.cons ⟨_,rfl⟩ .nil))),fun H=>⟨_,_,rfl,rfl,_,_,rfl,rfl,_,_,rfl,rfl,_,_,rfl,rfl,rfl⟩⟩
theorem gcI{K:Fg}{mg:SV}{h:Heap}{x:Str}{i:Int}{t:Tok}(X:K.In h)(G:h.Ns mainGlobals mg)(e:PySem.W.nsIn K mainGlobals x=some (some (.int i t))):GC K mg x (.int i):=
 ⟨.int i,_,PySem.W.mg_of X G e,⟨t,rfl⟩,fun H=>rfl⟩
theorem an7{K:Fg}{mg:SV}{h:Heap}{y:Str}{cs:List Str}(X:K.In h)(G:h.Ns mainGlobals mg)(q:aet K y cs=true):ErrT K mg y cs:=
 ⟨q,fun c C e=>PySem.W.mg_of X G (anj e)⟩
end Rods
def PySem.W.Fast.tw5276976414535120554:Unit:=()
def PySem.W.Fast.tw1076004933175955000:Unit:=()
def PySem.W.Fast.tw5519497039506183789:Unit:=()
def PySem.W.Fast.tw8939860813335010845:Unit:=()
def PySem.W.Fast.tw12034817897861439806:Unit:=()
def PySem.W.Fast.tw5624308037406319369:Unit:=()
def PySem.W.Fast.tw9277798122835686713:Unit:=()
def PySem.W.Fast.tw14174998321060471147:Unit:=()
def PySem.W.Fast.tw12774534721138554822:Unit:=()
def PySem.W.Fast.tw726409235936678704:Unit:=()
def PySem.W.Fast.tw16869681425221636355:Unit:=()
def PySem.W.Fast.tw11364600974329457567:Unit:=()
def PySem.W.Fast.tw8394610073981048257:Unit:=()
def PySem.W.Fast.tw10130767831127987566:Unit:=()
def PySem.W.Fast.tw17834663947693898508:Unit:=()
def PySem.W.Fast.tw17128906384726660245:Unit:=()
def PySem.W.Fast.tw6149094468336869236:Unit:=()
def PySem.W.Fast.tw13146795663167729333:Unit:=()
def PySem.W.Fast.tw6687461202007816832:Unit:=()
def PySem.W.Fast.tw6013649688364972224:Unit:=()
def PySem.W.Fast.tw10146401947236284348:Unit:=()
def PySem.W.Fast.tw10812933186376424895:Unit:=()
def PySem.W.Fast.tw17263969104117051778:Unit:=()
def PySem.W.Fast.tw731555601011375341:Unit:=()
def PySem.W.Fast.tw14337524152329671076:Unit:=()
def PySem.W.Fast.tw12821629797637441819:Unit:=()
def PySem.W.Fast.tw18133230108319407108:Unit:=()
def PySem.W.Fast.tw12704606142311028961:Unit:=()
def PySem.W.Fast.tw10272405968246485503:Unit:=()
def PySem.W.Fast.tw5600171460449182234:Unit:=()
def PySem.W.Fast.tw12204952949849746473:Unit:=()
def PySem.W.Fast.tw1803374825399050180:Unit:=()
def PySem.W.Fast.tw1688900284954353189:Unit:=()
def PySem.W.Fast.tw1627535240748969811:Unit:=()
def PySem.W.Fast.tw14940180176046994183:Unit:=()
def PySem.W.Fast.tw219844090476049363:Unit:=()
def PySem.W.Fast.tw9127904313535858294:Unit:=()
def PySem.W.Fast.tw2296797274097540587:Unit:=()
def PySem.W.Fast.tw13245095402367995820:Unit:=()
def PySem.W.Fast.tw2594854435311919199:Unit:=()
def PySem.W.Fast.tw11983821959071296024:Unit:=()
def PySem.W.Fast.tw15938271059008198753:Unit:=()
def PySem.W.Fast.tw1148480031907550067:Unit:=()
def PySem.W.Fast.tw17184668534188812434:Unit:=()
def PySem.W.Fast.tw16642716689125425808:Unit:=()
def PySem.W.Fast.tw17789304282635343137:Unit:=()
def PySem.W.Fast.tw180768827112742756:Unit:=()
def PySem.W.Fast.tw16741303493445250861:Unit:=()
def PySem.W.Fast.tw504667298050748966:Unit:=()
def PySem.W.Fast.tw2107096026019420283:Unit:=()
def PySem.W.Fast.tw3714222247426429665:Unit:=()
def PySem.W.Fast.tw11151712194227597488:Unit:=()
def PySem.W.Fast.tw12390424192485258405:Unit:=()
def PySem.W.Fast.tw12394735701255331646:Unit:=()
def PySem.W.Fast.tw18275142815746826177:Unit:=()
def PySem.W.Fast.tw12344274640998809787:Unit:=()
def PySem.W.Fast.tw16761384828497555643:Unit:=()
def PySem.W.Fast.tw8700200345341722723:Unit:=()
def PySem.W.Fast.tw11579571601919274548:Unit:=()
def PySem.W.Fast.tw17134423888907434470:Unit:=()
def PySem.W.Fast.tw15249456788030571437:Unit:=()
def PySem.W.Fast.tw10610755824758310666:Unit:=()
def PySem.W.Fast.tw2035453467546320955:Unit:=()
def PySem.W.Fast.tw17792780695153192968:Unit:=()
def PySem.W.Fast.tw15085806200307716082:Unit:=()
def PySem.W.Fast.tw5001053102902632803:Unit:=()
def PySem.W.Fast.tw5434270043747937392:Unit:=()
def PySem.W.Fast.tw10872289823409427634:Unit:=()
def PySem.W.Fast.tw3744783144838981183:Unit:=()
def PySem.W.Fast.tw10309654774316510396:Unit:=()
def PySem.W.Fast.tw9825582474978891433:Unit:=()
def PySem.W.Fast.tw4255603944160652769:Unit:=()
def PySem.W.Fast.tw9734871433295758539:Unit:=()
def PySem.W.Fast.tw1125067244250251725:Unit:=()
def PySem.W.Fast.tw17293255995154729405:Unit:=()
def PySem.W.Fast.tw18046932854232635674:Unit:=()
def PySem.W.Fast.tw2680072336975684655:Unit:=()
def PySem.W.Fast.tw18050577606144037398:Unit:=()
def PySem.W.Fast.tw8093414198215962998:Unit:=()
def PySem.W.Fast.tw18046920398370450250:Unit:=()
def PySem.W.Fast.tw12637385389240638995:Unit:=()
def PySem.W.Fast.tw10889276016721932554:Unit:=()
def PySem.W.Fast.tw1550914334296943749:Unit:=()
def PySem.W.Fast.tw7115938592319369891:Unit:=()
def PySem.W.Fast.tw10074448224049348325:Unit:=()
def PySem.W.Fast.tw5988373754469743212:Unit:=()
def PySem.W.Fast.tw14889135366516377063:Unit:=()
def PySem.W.Fast.tw3544478191100364631:Unit:=()
def PySem.W.Fast.tw17553152955345642013:Unit:=()
def PySem.W.Fast.tw4589294747811689398:Unit:=()
open PySem PySem.W PyProof.Rows
set_option maxRecDepth 100000 in
set_option maxHeartbeats 0 in
theorem PySem.Challenge.cw_beadrods_k14_whole_numbers_holds : PySem.Challenge.rw_beadrods_k14_whole_numbers.Holds := by
  w_on; o_law; k_head; (case hw => w_witness2)
  k_fill
  refine Rods.arz Rods.allN_true (l := PySem.Challenge.rw_beadrods_k14_whole_numbers) rfl rfl (fun w h Y => PySem.W.kIn_of Y) rfl ?F
  case F =>
    intro w mg h KX G
    refine ⟨⟨?f1, ?f2, ?f3, ?f4, ?f5, ?f6, ?f7, ?f8, ?f9, ?f10, ?f11, ?f12, ?f13, ?f14, ?f15, ?f16, ?f17, ?f18, ?f19, ?f20, ?f21, ?f22, ?f23, ?f24, ?f25, ?f26, ?f27, ?f28, ?f29, ?f30, ?f31, ?f32, ?f33, ?f34, ?f35, ?f36, ?f37⟩, ⟨?b, ?c1, ?c2, ?c3, ?c4, ?et⟩⟩
    case b => refine' Rods.an6 KX G ?_ ?_ ?_ ?_ ?_ ?_ ?_ ?_ ?_ ?_ ?_ ?_ ?_ ?_ ?_ ?_ ?_ ?_ ?_ <;> k_is
    case c1 =>
      refine' Rods.gc4 KX G ?a ?l
      (case a => k_is); (case l => k_is)
    case c2 =>
      refine' Rods.gc4 KX G ?a ?l
      (case a => k_is); (case l => k_is)
    case c3 =>
      refine' Rods.gcI KX G ?a
      (case a => k_is)
    case c4 =>
      refine' Rods.gcI KX G ?a
      (case a => k_is)
    case et => exact Rods.an7 KX G (by kernel_rfl)
    all_goals
      refine' BX.akP ?a ?l ?c ?k
      (case a => k_is); (case l => k_is); (case c => k_is); (case k => k_is)
#print axioms PySem.Challenge.cw_beadrods_k14_whole_numbers_holds
end
