import PyProof.Rows.All
import Wide.All
import OpenK.AllK
import Wide.FinOn
import Lean
import PyProof.EqAt
import PyProof.EqKinds
import PyProof.TupleCall
import PyProof.DictWalks
import PyProof.ListMulRoad
import PyProof.Rows.Range3
import PyProof.StationsW
import OpenK.KOwn
import PyProof.ExcBaseAll.ValueError
import PyProof.MaxThree
import KE.KIsAll
import KE.KIsNot
import PyProof.RulesAs
import PyProof.ExcArgsOwn
import PyProof.ExcAttrAll.ValueError
import KE.KRevSl
import PyProof.ListRange
import PyProof.StrBlock2
import PyProof.StrBlockH
import PyProof.StrBlockL
import PyProof.StrCalls2
import PyProof.SliceStr2
import PyProof.StrBlockI
import PyProof.StrLawsTight
import PyProof.StrLawsChain
import PyProof.Rows.StrItems
import PyProof.StrWalks
import PyProof.EnumMake
import PyProof.Draws
import KE.KSortAsk
import KE.KDictList
import KE.KDictSum
import KE.KDictOf
import PyProof.FString5
import PySem.Challenge.RW_beadrods_k51_whole_hands
set_option Elab.async false
set_option linter.all false
set_option maxRecDepth 100000
set_option maxHeartbeats 4000000
abbrev Fg:=PySem.W.Frag
abbrev SV:=PySem.Str->Option PySem.Value
abbrev OP:=Option PySem.PyData
abbrev LP:=List PySem.PyData
abbrev SP0:=PySem.Shared->Prop
theorem zzA{α : Type _}{a : α}{l : List α} : (a :: l)[0]? = some a := rfl
theorem zzB{α : Type _}{a : α}{i : Nat}{l : List α} : (a :: l)[i + 1]? = l[i]? := rfl
theorem zzC{α : Type _}{o : Option α} : (some o).join = o := rfl
theorem zzD{α β : Type _}(a : α)(f : α → Option β) : (some a).bind f = f a := rfl
theorem zzE{α β : Type _}(a : α)(f : α → β) : Option.map f (some a) = some (f a) := rfl
theorem zzF{α : Type _}{x : α}{xs : List α}{i : Nat}{a : α} : (x :: xs).set (i + 1) a = x :: xs.set i a := rfl
theorem zzG{α : Type _}{x : α}{xs : List α}{a : α} : (x :: xs).set 0 a = a :: xs := rfl
theorem zzH{α β : Type _}(f : α → Option β) : (none : Option α).bind f = none := rfl
theorem zzI{α β : Type _}(f : α → β) : Option.map f (none : Option α) = none := rfl
theorem zzJ : (!true) = false := rfl
theorem zzK : (!false) = true := rfl
theorem zzL : (false = true) = False := Bool.false_eq_true
theorem zzM{α : Sort _}{x : Decidable True}(a b : α) : ite True a b = a := if_true a b
theorem zzN{α : Sort _}{x : Decidable False}(a b : α) : ite False a b = b := if_false a b
section
namespace L2
open PySem PySem.Spec PyProof.Rows
noncomputable abbrev Key:=Sum Int Str
noncomputable def aow:Key->Value->Bool
 |.inl k,v=>Value.isInt k v
 |.inr x,v=>Value.isStrOf x v
noncomputable def arQ(w:World):Key->Int
 |.inl k=>hashInt k
 |.inr x=>hashStr w x
theorem qy:∀{k:Key}{v:Value},aow k v=true->(∃i t,k=Sum.inl i/\v=Value.int i t)∨(∃x t,k=Sum.inr x/\v=Value.str x t)
 | .inl i,v,h=>by
  obtain⟨t,e⟩:=Value.isInt_shape (k:=i) (v:=v) h;exact .inl ⟨i,t,rfl,e⟩
 | .inr x,v,h=>by
  obtain⟨t,e⟩:=Value.isStrOf_shape (x:=x) (v:=v) h;exact .inr ⟨x,t,rfl,e⟩
theorem aoU(a b:Int):decide ((Sum.inl a:Key)=Sum.inl b)=(a==b):=by
 by_cases e:a=b
 ·subst e;simp
 ·have h:¬ (Sum.inl a:Key)=Sum.inl b:=fun q=>e (Sum.inl.inj q)
  rw[decide_eq_false h];exact(beq_eq_false_iff_ne.mpr e).symm
theorem aoV(a b:Str):decide ((Sum.inr a:Key)=Sum.inr b)=decide (a=b):=by
 by_cases e:a=b
 ·subst e;simp
 ·have h:¬ (Sum.inr a:Key)=Sum.inr b:=fun q=>e (Sum.inr.inj q)
  rw[decide_eq_false h,decide_eq_false e]
theorem aoW(a:Int)(b:Str):decide ((Sum.inl a:Key)=Sum.inr b)=false:=decide_eq_false (fun q=>nomatch q)
theorem aoX(a:Str)(b:Int):decide ((Sum.inr a:Key)=Sum.inl b)=false:=decide_eq_false (fun q=>nomatch q)
noncomputable def aah(prog:Program)(w:World):PySem.KeyKind prog w Key where
 is:=aow
 hash:=arQ w
 inj:=fun v a b ha hb=>by
  rcases qy ha with ⟨i,t,rfl,rfl⟩ | ⟨x,t,rfl,rfl⟩
  ·rcases qy hb with ⟨j,u,rfl,e⟩ | ⟨y,u,rfl,e⟩
   ·injection e with e1 _;rw[e1]
   ·exact nomatch e
  ·rcases qy hb with ⟨j,u,rfl,e⟩ | ⟨y,u,rfl,e⟩
   ·exact nomatch e
   ·injection e with e1 _;rw[e1]
 byValue:=fun k v h=>by
  rcases qy h with ⟨i,t,rfl,rfl⟩ | ⟨x,t,rfl,rfl⟩<;>rfl
 pyHash:=fun hv h=>by
  rcases qy hv with ⟨i,t,rfl,rfl⟩ | ⟨x,t,rfl,rfl⟩
  ·exact wpAny_pyHash_int h
  ·exact wpAny_pyHash_str h
 eqBool:=fun hu hv h=>by
  rcases qy hu with ⟨i,t,rfl,rfl⟩ | ⟨x,t,rfl,rfl⟩
  ·rcases qy hv with ⟨j,u,rfl,rfl⟩ | ⟨y,u,rfl,rfl⟩
   ·rw[aoU]at h;exact wpAny_eqBool_int h
   ·rw[aoW]at h;exact SeqAt.EqAt.int_str i t y u _ _ _ _ h
  ·rcases qy hv with ⟨j,u,rfl,rfl⟩ | ⟨y,u,rfl,rfl⟩
   ·rw[aoX]at h;exact SeqAt.EqAt.str_int x t j u _ _ _ _ h
   ·rw[aoV]at h;exact wpAny_eqBool_str h
 «strs»:=fun k x t v h=>by
  rcases qy h with ⟨i,u,rfl,e⟩ | ⟨y,u,rfl,e⟩
  ·exact nomatch e
  ·injection e with e1 _
   subst e1;cases v<;>rfl
inductive V where
 |non | bl (b:Bool) | int (i:Int) | str (x:Str) | byt (b:Array UInt8) | flt (b:UInt64) | ref (a:Addr) | ty (n:String)
 deriving DecidableEq
noncomputable def jV:V->Value->Prop
 |.non,u=>u=Value.none
 |.bl b,u=>u=Value.bool b
 |.int i,u=>∃t,u=Value.int i t
 |.str x,u=>∃t,u=Value.str x t
 |.byt b,u=>∃t,u=Value.bytes b t
 |.flt b,u=>∃t,u=Value.float b t
 |.ref a,u=>u=Value.ref a
 |.ty n,u=>u=Value.type n
noncomputable abbrev jH:List V->List Value->Prop:=Paired jV
theorem jH.length{xs:List V}{us:List Value}(r:jH xs us):xs.length=us.length:=Paired.length r
theorem jH.get:∀{xs:List V}{us:List Value}{i:Nat}{x:V},jH xs us->xs[i]?=some x->∃u,us[i]?=some u/\jV x u
 |_,_,_,_,.nil,e=>by simp at e
 |_,_,0,_,.cons r _,e=>by simp at e;subst e;exact⟨_,rfl,r⟩
 | _,_,i+1,x,.cons _ t,e=>by
  obtain⟨u,h1,h2⟩:=jH.get (i:=i) (x:=x) t (by simpa using e);exact⟨u,by simpa using h1,h2⟩
theorem jH.set{x:V}{u:Value}(r:jV x u):∀{xs:List V}{us:List Value} (i:Nat),jH xs us->jH (xs.set i x) (us.set i u)
 |_,_,_,.nil=> .nil
 |_,_,0,.cons _ t=> .cons r t
 |_,_,i+1,.cons q t=> .cons q (jH.set r i t)
theorem jH.append:∀{xs ys:List V}{us ws:List Value},jH xs us->jH ys ws->jH (xs++ys) (us++ws)
 |_,_,_,_,.nil,s=>s
 |_,_,_,_,.cons r t,s=> .cons r (jH.append t s)
theorem jH.take:∀{xs:List V}{us:List Value} (n:Nat),jH xs us->jH (xs.take n) (us.take n)
 |_,_,0,_=> .nil
 |_,_,_+1,.nil=> .nil
 |_,_,n+1,.cons r t=> .cons r (jH.take n t)
theorem jH.drop:∀{xs:List V}{us:List Value} (n:Nat),jH xs us->jH (xs.drop n) (us.drop n)
 |_,_,0,r=>r
 |_,_,_+1,.nil=> .nil
 |_,_,n+1,.cons _ t=>jH.drop n t
theorem jH.none_of:∀{xs:List V}{us:List Value}{i:Nat},jH xs us->xs[i]?=none->us[i]?=none:=fun {xs us i} r e=>by
 have h1:=r.length;have h2:xs.length<=i:=List.getElem?_eq_none_iff.mp e;exact List.getElem?_eq_none_iff.mpr (by omega)
noncomputable def ZN:Option V->Option Value->Prop
 |some v,some u=>jV v u
 |none,none=>True
 |_,_=>False
noncomputable def KV{κ:Type}:List (κ×V)->List (κ×Value)->Prop:=Paired fun (p:κ×V) (q:κ×Value)=>p.1=q.1/\jV p.2 q.2
noncomputable def kV:Key->V
 |.inl i=> .int i
 |.inr x=> .str x
inductive HO where
 |lst (xs:List V)
 |tup (xs:List V)
 |dK (kvs:List (Key×V)) | dT (kvs:List (List Key×V))
 |set (S:Int->Bool) (n:Nat)
 |ins (C dx:Addr) (fs:List (Str×V))
 |own (x:Addr)
 |xd (fs:List (Str×V))
 |met (f x:Addr)
 |rng (lo hi:Int)
 |frz (o:Obj) (u:HO)
 |tbl (ps:Array Value)
 |ext (φ:Heap->Prop)
noncomputable abbrev Hp:=Addr->Option HO
noncomputable def upd(H:Hp)(a:Addr)(o:HO):Hp:=fun b=>if b=a then some o else H b
theorem jq{H:Hp}{a:Addr}{o:HO}:upd H a o a=some o:=by unfold upd;rw[if_pos rfl]
theorem jr{H:Hp}{a b:Addr}{o:HO}(h:b≠a):upd H a o b=H b:=by unfold upd;rw[if_neg h]
theorem Qw{H:Hp}{a:Addr}{o u:HO}:upd (upd H a o) a u=upd H a u:=by
 funext b;unfold upd;split<;>rfl
theorem qI{H:Hp}{a b:Addr}{o:HO}(h:H a=some o)(h':H b=none):a≠b:=by
 intro e;subst e;rw[h]at h';cases h'
section
variable (P:Program)(w:World)
noncomputable def zh(H:Hp)(h:Heap)(a:Addr):HO->Prop
 |.lst xs=>xs.length<=sizeLine/\∃(its:List Value) (n:Nat),jH xs its/\h.get? a=some { cls:= .type "list",data:= .seq its.toArray n }
 |.tup xs=>xs.length<=sizeLine/\∃its:List Value,jH xs its/\IsTup h a its.toArray
 |.dK kvs=>kvs.length<=sizeLine/\(a==sysModules)=false/\∃vs,KV kvs vs/\h.DictOf (aah P w) a vs
 | .dT kvs=>kvs.length<=sizeLine/\(a==sysModules)=false/\∃xs:List (List Key×Addr×Value),
   Paired (fun (p:List Key×V) (q:List Key×Addr×Value)=>p.1=q.1/\H q.2.1=some (.tup (p.1.map kV))/\jV p.2 q.2.2) kvs xs/\
   ∃o es ep,h.get? a=some o/\o.ExactDict/\o.data= .dict es ep/\es.toList=xs.map (entryOfKey (tupleKind (aah P w)))/\(xs.map (·.1)).Nodup
 |.set S n=>h.SetOf (intKind P w) a S n
 | .ins C dx fs=>H dx=some (.own a)/\fs.length<=1000/\dx≠a/\h.get? a=some (PySem.W.instObj C dx)/\
   ∃mA,h.Ns1 dx mA/\(∀f,ZN (fs.lookup f) (mA f))/\PySem.Within mA (fs.map (·.1))
 |.own _=>∃o,h.get? a=some o
 |.xd fs=>∃mA,h.Ns1 a mA/\∀f,ZN (fs.lookup f) (mA f)
 |.rng lo hi=>∃t u v,h.get? a=some { cls:= .type "range",data:= .fields #[.int lo t,.int hi u,.int 1 v] }
 |.frz o u=>h.get? a=some o/\zh H h a u
 |.tbl ps=>h.get? a=some { cls:= .none,data:= .fields ps }
 |.met f x=>h.get? a=some (PySem.W.methodObj (.ref f) (.ref x))
 |.ext φ=>φ h/\(∃o,h.get? a=some o)/\∀h1 h2:Heap,φ h1->(∀o,h1.get? a=some o->h2.get? a=some o)->φ h2
noncomputable def HOk(H:Hp)(h:Heap):Prop:=∀a o,H a=some o->zh P w H h a o
end
section
variable {P:Program}{w:World}{H H':Hp}{h h':Heap}{a:Addr}{o:HO}
theorem zh.lt(x:zh P w H h a o):a<h.objs.size:=by
 cases o with
 |lst xs=>obtain⟨_,_,_,_,e⟩:=x;exact Heap.lt_size e
 |tup xs=>obtain⟨_,_,_,p⟩:=x;exact p.lt
 |dK kvs=>obtain⟨_,_,_,_,o,_,_,e,_⟩:=x;exact Heap.lt_size e
 |dT kvs=>obtain⟨_,_,_,_,o,_,_,e,_⟩:=x;exact Heap.lt_size e
 |set S n=>obtain⟨o,_,_,_,e,_⟩:=x;exact Heap.lt_size e
 |ins C dx fs=>obtain⟨_,_,_,e,_⟩:=x;exact Heap.lt_size e
 |own y=>obtain⟨_,e⟩:=x;exact Heap.lt_size e
 |xd fs=>obtain⟨_,⟨_,_,_,e,_⟩,_⟩:=x;exact Heap.lt_size e
 |rng lo hi=>obtain⟨_,_,_,e⟩:=x;exact Heap.lt_size e
 |frz ob u=>obtain⟨e,_⟩:=x;exact Heap.lt_size e
 |tbl ps=>exact Heap.lt_size (show h.get? a=some _ from x)
 |met f y=>exact Heap.lt_size (show h.get? a=some _ from x)
 |ext φ=>obtain⟨_,⟨_,e⟩,_⟩:=x;exact Heap.lt_size e
theorem Paired.mapP{α β:Type}{F G:α->β->Prop}:∀{l₁:List α}{l₂:List β},Paired F l₁ l₂->(∀a b,F a b->G a b)->Paired G l₁ l₂
 |_,_,.nil,_=> .nil
 |_,_,.cons r t,f=> .cons (f _ _ r) (Paired.mapP t f)
theorem zh.stay(x:zh P w H h a o)(k:∀b u,(b=a∨H b=some (.own a))->h.get? b=some u->h'.get? b=some u)
  (ho:∀b,H b=some (.own a)->H' b=some (.own a)) (ht:∀b xs,H b=some (.tup xs)->H' b=some (.tup xs)):zh P w H' h' a o:=by
 induction o with
 |lst xs=>obtain⟨z,its,n,r,e⟩:=x;exact⟨z,its,n,r,k _ _ (.inl rfl) e⟩
 |tup xs=>obtain⟨z,its,r,ob,e,c⟩:=x;exact⟨z,its,r,ob,k _ _ (.inl rfl) e,c⟩
 |dK kvs=>obtain⟨z,y,vs,r,ob,es,ep,e,c⟩:=x;exact⟨z,y,vs,r,ob,es,ep,k _ _ (.inl rfl) e,c⟩
 | dT kvs=>
  obtain⟨z,y,xs,r,ob,es,ep,e,c⟩:=x;exact⟨z,y,xs,Paired.mapP r fun p q z=>⟨z.1,ht _ _ z.2.1,z.2.2⟩,ob,es,ep,k _ _ (.inl rfl) e,c⟩
 |set S n=>obtain⟨ob,es,ep,t,e,c⟩:=x;exact⟨ob,es,ep,t,k _ _ (.inl rfl) e,c⟩
 | ins C dx fs=>
  obtain⟨d,z,ne,e,mA,⟨od,es,ep,e2,c⟩,r⟩:=x;exact⟨ho _ d,z,ne,k _ _ (.inl rfl) e,mA,⟨od,es,ep,k _ _ (.inr d) e2,c⟩,r⟩
 |own y=>obtain⟨ob,e⟩:=x;exact⟨ob,k _ _ (.inl rfl) e⟩
 |xd fs=>obtain⟨mA,⟨od,es,ep,e,c⟩,r⟩:=x;exact⟨mA,⟨od,es,ep,k _ _ (.inl rfl) e,c⟩,r⟩
 |rng lo hi=>obtain⟨t,u,v,e⟩:=x;exact⟨t,u,v,k _ _ (.inl rfl) e⟩
 |frz ob u ih=>obtain⟨e,q⟩:=x;exact⟨k _ _ (.inl rfl) e,ih q⟩
 | tbl ps=>
  have e:h.get? a=some { cls:= .none,data:= .fields ps }:=x;show h'.get? a=some { cls:= .none,data:= .fields ps };exact k a _ (.inl rfl) e
 | met f y=>
  have e:h.get? a=some (PySem.W.methodObj (.ref f) (.ref y)):=x;show h'.get? a=some (PySem.W.methodObj (.ref f) (.ref y));exact k a _ (.inl rfl) e
 |ext φ=>obtain⟨p,⟨o,e⟩,st⟩:=x;exact⟨st _ _ p fun o q=>k _ _ (.inl rfl) q,⟨o,k _ _ (.inl rfl) e⟩,st⟩
theorem HOk.lt(x:HOk P w H h)(e:H a=some o):a<h.objs.size:=(x a o e).lt
theorem HOk.fresh(x:HOk P w H h)(e:h.objs.size<=a):H a=none:=by
 cases q:H a with
 |none=>rfl
 |some u=>exact absurd (Nat.lt_of_lt_of_le (x.lt q) e) (Nat.lt_irrefl _)
theorem HOk.kept(x:HOk P w H h)(k:∀b u,h.get? b=some u->h'.get? b=some u):HOk P w H h':=fun a o e=>
 (x a o e).stay (fun b u _ q=>k b u q) (fun _ q=>q) fun _ _ q=>q
theorem HOk.laid(x:HOk P w H h)(k:∀b u,h.get? b=some u->h'.get? b=some u)(hp:h.objs.size<=a)(new:zh P w (upd H a o) h' a o):HOk P w (upd H a o) h':=fun b u e=>by
 have hn:=x.fresh hp;by_cases hb:b=a
 ·subst hb;rw[jq]at e;cases e;exact new
 ·rw[jr hb]at e
  exact(x b u e).stay (fun c v _ q=>k c v q) (fun c q=>by rw[jr (qI q hn)];exact q) fun c xs q=>by rw[jr (qI q hn)];exact q
end
noncomputable def Rd(H:Hp)(a:Addr)(u:HO):Prop:=H a=some u∨∃o,H a=some (.frz o u)
theorem Rd.of{H:Hp}{a:Addr}{u:HO}(h:H a=some u):Rd H a u:= .inl h
theorem Rd.ok{P:Program}{w:World}{H:Hp}{h:Heap}{a:Addr}{u:HO}(r:Rd H a u)(x:HOk P w H h):zh P w H h a u:=by
 rcases r with r | ⟨o,r⟩
 ·exact x a u r
 ·obtain⟨_,q⟩:=x a _ r
  exact q
noncomputable def Mut:Option HO->Prop
 |some (.lst _)=>True
 |some (.dK _)=>True
 |some (.dT _)=>True
 |some (.set _ _)=>True
 |some (.ins _ _ _)=>True
 |some (.ext _)=>True
 |_=>False
section
variable {P:Program}{w:World}{H:Hp}{h h':Heap}{x e:Addr}{o':HO}
theorem HOk.write(ok:HOk P w H h)(mu:Mut (H x))(he:e=x∨H e=some (.own x))(k:∀b u,b≠e->h.get? b=some u->h'.get? b=some u)(heo:∃u,h'.get? e=some u)
  (new:zh P w (upd H x o') h' x o'):HOk P w (upd H x o') h':=fun b u q=>by
 have nown:∀c y,H c=some (.own y)->c≠x:=fun c y r z=>by subst z;rw[r]at mu;exact mu
 have ntup:∀c xs,H c=some (.tup xs)->c≠x:=fun c xs r z=>by subst z;rw[r]at mu;exact mu
 by_cases hb:b=x
 ·subst hb;rw[jq]at q;cases q;exact new
 ·rw[jr hb]at q
  by_cases hbe:b=e
  ·have q':H b=some (.own x):=by
    rcases he with z | z
    ·exact absurd (hbe.trans z) hb
    ·rw[hbe];exact z
   rw[q]at q';cases q';obtain⟨v,hv⟩:=heo;exact⟨v,by rw[hbe];exact hv⟩
  ·refine(ok b u q).stay (fun c v hc r=>k c v ?_ r) (fun c r=>by rw[jr (nown c b r)];exact r) fun c xs r=>by rw[jr (ntup c xs r)];exact r
   rcases hc with rfl | hc
   ·exact hbe
   ·rintro rfl
    rcases he with z | z
    ·exact nown c b hc z
    ·rw[hc]at z;cases z;exact hb rfl
end
structure Un(fs ex:List Addr)(H H':Hp)(h h':Heap):Prop where
 keep:∀b o,h.get? b=some o->H b=none->b∉fs->b∉ex->h'.get? b=some o
 slot:∀b o,h.get? b=some o->H b=none->b∈fs->b∉ex->∃sl,h'.get? b=some { o with slots:=sl }
 free:∀b o,h.get? b=some o->H b=none->b∉ex->H' b=none
 there:∀b o,h.get? b=some o->b∉ex->∃o',h'.get? b=some o'
 tups:∀b xs,H b=some (.tup xs)->H' b=some (.tup xs)
 frzs:∀b o u,H b=some (.frz o u)->H' b=some (.frz o u)
 tbls:∀b ps,H b=some (.tbl ps)->∃more,H' b=some (.tbl (ps++more))
section
variable {fs fs' ex ex':List Addr}{H H1 H2:Hp}{h h1 h2 h':Heap}{a x e:Addr}{o:HO}
theorem Un.any(u:Un fs ex H H1 h h1){b:Addr}{ob:Obj}(q:h.get? b=some ob)(n:H b=none)(hx:b∉ex):∃sl,h1.get? b=some { ob with slots:=sl }:=by
 by_cases hb:b∈fs
 ·exact u.slot b ob q n hb hx
 ·exact⟨ob.slots,u.keep b ob q n hb hx⟩
theorem Un.trans(a:Un fs ex H H1 h h1)(b:Un fs ex H1 H2 h1 h2):Un fs ex H H2 h h2 where
 keep:=fun c ob q n hc hx=>b.keep c ob (a.keep c ob q n hc hx) (a.free c ob q n hx) hc hx
 slot:=fun c ob q n hc hx=>by
  obtain⟨sl,e1⟩:=a.slot c ob q n hc hx;obtain⟨sl',e2⟩:=b.slot c _ e1 (a.free c ob q n hx) hc hx;exact⟨sl',e2⟩
 free:=fun c ob q n hx=>by
  obtain⟨o',e1⟩:=a.there c ob q hx;exact b.free c o' e1 (a.free c ob q n hx) hx
 there:=fun c ob q hx=>by
  obtain⟨o',e1⟩:=a.there c ob q hx;exact b.there c o' e1 hx
 tups:=fun c xs q=>b.tups c xs (a.tups c xs q)
 frzs:=fun c ob xs q=>b.frzs c ob xs (a.frzs c ob xs q)
 tbls:=fun c ps q=>by
  obtain⟨m1,e1⟩:=a.tbls c ps q;obtain⟨m2,e2⟩:=b.tbls c _ e1;exact⟨m1++m2,by rw[e2,Array.append_assoc]⟩
theorem Un.kept(k:∀b u,h.get? b=some u->h'.get? b=some u):Un fs ex H H h h':=
 ⟨fun b ob q _ _ _=>k b ob q,fun b ob q _ _ _=>⟨ob.slots,k b ob q⟩,fun _ _ _ n _=>n,fun b ob q _=>⟨ob,k b ob q⟩,fun _ _ q=>q,fun _ _ _ q=>q,fun _ ps q=>⟨#[],by rw[q];simp⟩⟩
theorem Un.refl:Un fs ex H H h h:=Un.kept fun _ _ q=>q
theorem Un.laid(k:∀b u,h.get? b=some u->h'.get? b=some u)(hp:h.objs.size<=a)(hn:H a=none):Un fs ex H (upd H a o) h h' where
 keep:=fun b u q _ _ _=>k b u q
 slot:=fun b u q _ _ _=>⟨u.slots,k b u q⟩
 free:=fun b u q n _=>by rw[jr (Nat.ne_of_lt (Nat.lt_of_lt_of_le (Heap.lt_size q) hp))];exact n
 there:=fun b u q _=>⟨u,k b u q⟩
 tups:=fun b xs q=>by rw[jr (qI q hn)];exact q
 frzs:=fun b u xs q=>by rw[jr (qI q hn)];exact q
 tbls:=fun b ps q=>⟨#[],by rw[jr (qI q hn),q];simp⟩
theorem Un.write(mu:Mut (H x))(he:e=x∨H e=some (.own x))(k:∀b u,b≠e->h.get? b=some u->h'.get? b=some u)(heo:∃u,h'.get? e=some u):Un fs ex H (upd H x o) h h':=by
 have hx:∀b,H b=none->b≠x:=fun b n z=>by subst z;rw[n]at mu;exact mu
 have hb:∀b,H b=none->b≠e:=fun b n z=>by
  subst z;rcases he with r | r
  ·exact hx b n r
  ·rw[n]at r;cases r
 have hm:∀b u,H b=some u->¬ Mut (some u)->b≠x:=fun b u q nm z=>by subst z;rw[q]at mu;exact nm mu
 refine⟨fun b u q n _ _=>k b u (hb b n) q,fun b u q n _ _=>⟨u.slots,k b u (hb b n) q⟩,fun b u q n _=>by rw[jr (hx b n)];exact n,fun b u q _=>?_,
  fun b xs q=>by rw [jr (hm b _ q fun z=>z)]; exact q,fun b u xs q=>by rw [jr (hm b _ q fun z=>z)]; exact q,fun b ps q=>⟨#[],by rw [jr (hm b _ q fun z=>z),q]; simp⟩⟩
 by_cases hbe:b=e
 ·subst hbe;exact heo
 ·exact⟨u,k b u hbe q⟩
theorem Un.mono(u:Un fs ex H H1 h h1)(hs:∀b∈fs,b∈fs')(hx:∀b∈ex,b∈ex'):Un fs' ex' H H1 h h1:=
 ⟨fun b ob q n hb he=>u.keep b ob q n (fun z=>hb (hs b z)) fun z=>he (hx b z),fun _ _ q n _ he=>u.any q n fun z=>he (hx _ z),fun b ob q n he=>u.free b ob q n fun z=>he (hx b z),fun b ob q he=>u.there b ob q fun z=>he (hx b z),u.tups,u.frzs,u.tbls⟩
end
noncomputable def trk(h:Heap)(H:Hp):List Addr:=(List.range h.objs.size).filter fun a=>(H a).isSome
noncomputable def aeu(h:Heap)(H:Hp):Heap:=PySem.W.hideAll h (trk h H)
theorem ai0(h:Heap)(H:Hp):(aeu h H).objs.size=h.objs.size:=PySem.W.hideAll_size _ _
theorem aj9{h:Heap}{H:Hp}{b:Addr}{o:Obj}(e:h.get? b=some o)(n:H b=none):(aeu h H).get? b=some o:=
 PySem.W.hideAll_get _ e fun hm=>by
  have q:(H b).isSome=true:=(List.mem_filter.mp hm).2;rw[n]at q;simp at q
theorem amT{h:Heap}{H:Hp}{b:Addr}{o:Obj}(e:(aeu h H).get? b=some o):h.get? b=some o/\H b=none:=by
 have e':h.get? b=some o:=PySem.W.of_hideAll (trk h H) e;refine⟨e',?_⟩;cases q:H b with
 |none=>rfl
 | some x=>
  have hm:b∈trk h H:=List.mem_filter.mpr ⟨List.mem_range.mpr (Heap.lt_size e'),by simp[q]⟩;have z:(aeu h H).get? b=none:=PySem.W.hideAll_none (trk h H) hm;rw[z]at e;cases e
noncomputable def amU(g h:Heap)(L:Addr):List (Addr×Obj):=(List.range h.objs.size).filterMap fun a=>if a=L∨(g.get? a).isSome=true then none else (h.get? a).map fun o=>(a,o)
noncomputable def qg(g h:Heap)(L d:Addr):List (Addr×Obj):=(amU g h L).filter fun p=>decide (p.1≠d)
structure Mod(K:Fg)(mg:SV)(base:Heap):Prop where
 kin:K.In base
 glob:base.Ns mainGlobals mg
 blt:∃mb,base.Ns builtinsNs mb/\∀x:Str,x≠"__name__"->mb x=bootBuiltins x
 nolimit:base.NoLimit
structure Cx where
 prog:Program
 w:World
 K:Fg
 mg:SV
 base:Heap
 A:Around
 N:List Str
 s₀:Shared
 H₀:Hp
 env:Env
 Ko:List Env
 stack:List Env
 ex:List Addr
 fn:Str->Bool
 calm:Bool
 pn:List (Addr×Obj)
 xe:Value->SP0
noncomputable def frs(l:List Env):List Addr:=l.filterMap (·.frame)
noncomputable abbrev Cx.fs(X:Cx):List Addr:=frs X.Ko
noncomputable def Vis(sc:Scope)(x:Str):Prop:=sc.names.lookup x=some .local∨sc.names.lookup x=some .cell∨sc.names.lookup x=some .free
noncomputable def Loc(sc:Scope)(x:Str):Prop:=sc.names.lookup x=some .local∨sc.names.lookup x=some .cell
noncomputable def arR(env:Env)(h:Heap)(m:SV)(x:Str)(u:Value):Prop:=
 (env.kindOf x=some .local/\m x=some u)∨((env.kindOf x=some .cell∨env.kindOf x=some .free)/\∃c,env.cells.lookup x=some c/\h.IsCell c (some u))
structure Cx.Ok(X:Cx):Prop where
 mod:Mod X.K X.mg X.base
 kind:X.env.scope.kind= .function
 glob:X.env.globals=mainGlobals
 blt:X.env.builtins=builtinsNs
 above:X.s₀.heap.objs.size<=X.env.locals
 inj:∀x y c,X.env.cells.lookup x=some c->X.env.cells.lookup y=some c->x=y
 has:∀x,(X.env.kindOf x=some .cell∨X.env.kindOf x=some .free)->∃c,X.env.cells.lookup x=some c
 cab:∀x c,X.fn x=true->X.env.cells.lookup x=some c->X.s₀.heap.objs.size<=c
 hd:X.calm=true->X.A.handled=none
 frames:X.A.frames=some X.stack
 stk:X.stack=X.Ko∨(X.stack=X.env::X.Ko/\X.env.frame=some X.env.locals)
 exf:∀b∈X.ex,b≠X.env.locals/\∀x c,X.env.cells.lookup x=some c->c≠b
 bs:∀b o,X.base.get? b=some o->X.s₀.heap.get? b=some o/\X.H₀ b=none
 bsz:X.base.objs.size<=X.s₀.heap.objs.size
 noex:∀b o,X.base.get? b=some o->b∉X.ex
 exfs:∀b∈X.ex,b∉X.fs
 funs:X.s₀.heap.FunFrames X.base X.Ko
 frf:∀b∈X.fs,X.H₀ b=none
structure Inv(X:Cx)(Kp:List (Addr×Obj))(σ:List (Option V))(H:Hp)(s:Shared):Prop where
 ok:X.Ok
 os:s.os=X.s₀.os
 bare:AllBare s.gens
 base:Un X.fs X.ex X.H₀ H X.s₀.heap s.heap
 loc:∃m,s.heap.Ns X.env.locals m/\∀(i:Nat) (x:Str) (v:V),X.N[i]?=some x->σ[i]?=some (some v)->Vis X.env.scope x->∃u,jV v u/\arR X.env s.heap m x u
 cell:∀x c,X.env.cells.lookup x=some c->∃v,s.heap.IsCell c v
 free:H X.env.locals=none
 freeC:∀x c,X.env.cells.lookup x=some c->H c=none
 pin:∀p∈X.pn++Kp,s.heap.get? p.1=some p.2/\H p.1=none/\p.1≠X.env.locals/\p.1∉X.fs/\∀v,p.2.data ≠ .cell v
 hok:HOk X.prog X.w H s.heap
 len:σ.length=X.N.length
section
variable {X:Cx}{Kp:List (Addr×Obj)}{σ:List (Option V)}{H H':Hp}{s:Shared}{h':Heap}
theorem Cx.Ok.nofr(ok:X.Ok){b:Addr}{o:Obj}(e:X.base.get? b=some o):b∉X.fs:=fun hb=>by
 have:=(ok.funs.mem hb).1;rw[e]at this;cases this
theorem Inv.bs(I:Inv X Kp σ H s):∀b o,X.base.get? b=some o->s.heap.get? b=some o/\H b=none:=fun b o e=>
 ⟨I.base.keep b o (I.ok.bs b o e).1 (I.ok.bs b o e).2 (I.ok.nofr e) (I.ok.noex b o e),I.base.free b o (I.ok.bs b o e).1 (I.ok.bs b o e).2 (I.ok.noex b o e)⟩
theorem Inv.bk(I:Inv X Kp σ H s):∀b o,X.base.get? b=some o->s.heap.get? b=some o:=fun b o e=>(I.bs b o e).1
theorem Inv.mod(I:Inv X Kp σ H s):Mod X.K X.mg X.base:=I.ok.mod
theorem Inv.kIn(I:Inv X Kp σ H s):X.K.In s.heap:=I.ok.mod.kin.keeps I.bk
theorem Inv.nolimit(I:Inv X Kp σ H s):s.heap.NoLimit:=I.ok.mod.nolimit.keeps I.bk
theorem Inv.fr(I:Inv X Kp σ H s):∃m,Fr X.base X.env.locals s.heap m:=
 let ⟨m,hn,_⟩:=I.loc
 ⟨m,hn,I.bk,Nat.le_trans I.ok.bsz I.ok.above⟩
theorem Inv.lt(I:Inv X Kp σ H s):X.env.locals<s.heap.objs.size:=let ⟨_,hn,_⟩:=I.loc;hn.lt
theorem Inv.sz(I:Inv X Kp σ H s):X.s₀.heap.objs.size<=s.heap.objs.size:=Nat.le_trans I.ok.above (Nat.le_of_lt I.lt)
theorem Inv.nofs(I:Inv X Kp σ H s){a:Addr}(h:s.heap.objs.size<=a):a∉X.fs:=fun hb=>by
 obtain⟨_,o,ho,_⟩:=I.ok.funs.mem hb;exact absurd (Nat.lt_of_lt_of_le (Heap.lt_size ho) (Nat.le_trans I.sz h)) (Nat.lt_irrefl _)
theorem Inv.cne(I:Inv X Kp σ H s):∀x c,X.env.cells.lookup x=some c->c≠X.env.locals:=fun x c e z=>by
 obtain⟨v,o,ho,hd⟩:=I.cell x c e;obtain⟨m,⟨o',es,ep,ho',hd',_⟩,_⟩:=I.loc;rw[z,ho']at ho;cases ho;rw[hd']at hd;cases hd
theorem Inv.funs(I:Inv X Kp σ H s):s.heap.FunFrames X.base X.Ko:=by
 have all:∀(l:List Env),(∀b∈frs l,b∈X.fs)->X.s₀.heap.FunFrames X.base l->s.heap.FunFrames X.base l:=by
  intro l
  induction l with
  |nil=>intro _ _;trivial
  | cons env r ih=>
   intro hs hl;obtain⟨hk,⟨L,o,hf,hn,ho,hd⟩,hr⟩:=hl;have hL:L∈X.fs:=hs L (by unfold frs;rw[List.filterMap_cons,hf];exact List.mem_cons_self);obtain⟨sl,e⟩:=I.base.slot L o ho (I.ok.frf L hL) hL fun z=>I.ok.exfs L z hL;exact⟨hk,⟨L,_,hf,hn,e,hd⟩,ih (fun b hb=>hs b (by unfold frs;rw[List.filterMap_cons,hf];exact List.mem_cons_of_mem _ hb)) hr⟩
 exact all X.Ko (fun _ hb=>hb) I.ok.funs
theorem Inv.stack(I:Inv X Kp σ H s):s.heap.FunFrames X.base X.stack:=by
 rcases I.ok.stk with e | ⟨e,hf⟩
 ·rw[e];exact I.funs
 ·rw[e]
  obtain⟨m,hn,_⟩:=I.loc;refine .cons (by rw[I.ok.kind];decide) hf hn ?_ I.funs;exact Heap.get?_none_of_le (Nat.le_trans I.ok.bsz I.ok.above)
theorem Inv.stkSub(I:Inv X Kp σ H s):∀b∈frs X.stack,b∈X.env.locals::X.fs:=fun b hb=>by
 rcases I.ok.stk with e | ⟨e,hf⟩
 ·rw[e]at hb;exact List.mem_cons_of_mem _ hb
 ·rw[e]at hb
  unfold frs at hb;rw[List.filterMap_cons,hf]at hb;exact hb
theorem Inv.stkFree(I:Inv X Kp σ H s):∀b∈frs X.stack,H b=none:=fun b hb=>by
 rcases List.mem_cons.mp (I.stkSub b hb)with e | hb
 ·rw[e];exact I.free
 ·obtain⟨_,o,ho,_⟩:=I.ok.funs.mem hb
  exact I.base.free b o ho (I.ok.frf b hb) fun z=>I.ok.exfs b z hb
theorem Inv.step{g':Array GenState}{t':Nat}{d':Drawn}{ch:List Addr}(I:Inv X Kp σ H s)
  (hch:∀b∈ch,(b∈X.ex∨X.s₀.heap.objs.size<=b)/\b≠X.env.locals/\(∀x c,X.env.cells.lookup x=some c->c≠b)/\∀p∈X.pn++Kp,p.1≠b)
  (keep:∀b o,b≠X.env.locals->b∉X.fs->b∉ch->s.heap.get? b=some o->H b=none->h'.get? b=some o)
  (slot:∀b o,b≠X.env.locals->b∈X.fs->b∉ch->s.heap.get? b=some o->H b=none->∃sl,h'.get? b=some { o with slots:=sl }) (free:∀b o,b∉ch->s.heap.get? b=some o->H b=none->H' b=none)
  (there:∀b o,b∉ch->s.heap.get? b=some o->∃o',h'.get? b=some o')
  (tups:∀b xs,H b=some (.tup xs)->H' b=some (.tup xs)) (frzs:∀b o u,H b=some (.frz o u)->H' b=some (.frz o u)) (tbls:∀b ps,H b=some (.tbl ps)->∃more,H' b=some (.tbl (ps++more)))
  (ns:∀m,s.heap.Ns X.env.locals m->h'.Ns X.env.locals m) (hok:HOk X.prog X.w H' h') (hg:AllBare g'):
  Inv X Kp σ H' { s with heap:=h',gens:=g',drawn:=d',toks:=t' }:=by
 have neL:∀b o,X.s₀.heap.get? b=some o->b≠X.env.locals:=fun b o e=>Nat.ne_of_lt (Nat.lt_of_lt_of_le (Heap.lt_size e) I.ok.above)
 have neC:∀b o,X.s₀.heap.get? b=some o->b∉X.ex->b∉ch:=fun b o e hx hb=>by
  rcases (hch b hb).1 with z | z
  ·exact hx z
  ·exact absurd (Nat.lt_of_lt_of_le (Heap.lt_size e) z) (Nat.lt_irrefl _)
 have cellK:∀x c,X.env.cells.lookup x=some c->∀v,s.heap.IsCell c v->h'.IsCell c v:=fun x c e v ⟨o,ho,hd⟩=>by
  have nch:c∉ch:=fun z=>(hch c z).2.2.1 x c e rfl;by_cases hc:c∈X.fs
  ·obtain⟨sl,q⟩:=slot c o (I.cne x c e) hc nch ho (I.freeC x c e)
   exact⟨_,q,hd⟩
  ·exact⟨o,keep c o (I.cne x c e) hc nch ho (I.freeC x c e),hd⟩
 refine⟨I.ok,I.os,hg,⟨fun b o e n hb hx=>?_,fun b o e n hb hx=>?_,fun b o e n hx=>?_,fun b o e hx=>?_,fun b xs e=>tups b xs (I.base.tups b xs e),fun b o xs e=>frzs b o xs (I.base.frzs b o xs e),fun b ps e=>?_⟩,?_,fun x c e=>?_,?_,fun x c e=>?_,fun p hp=>?_,hok,I.len⟩
 ·exact keep b o (neL b o e) hb (neC b o e hx) (I.base.keep b o e n hb hx) (I.base.free b o e n hx)
 ·obtain⟨sl,e1⟩:=I.base.slot b o e n hb hx
  obtain⟨sl',e2⟩:=slot b _ (neL b o e) hb (neC b o e hx) e1 (I.base.free b o e n hx);exact⟨sl',e2⟩
 ·obtain⟨o',e1⟩:=I.base.there b o e hx
  exact free b o' (neC b o e hx) e1 (I.base.free b o e n hx)
 ·obtain⟨o',e1⟩:=I.base.there b o e hx
  exact there b o' (neC b o e hx) e1
 ·obtain⟨m1,e1⟩:=I.base.tbls b ps e
  obtain⟨m2,e2⟩:=tbls b _ e1;exact⟨m1++m2,by rw[e2,Array.append_assoc]⟩
 ·obtain⟨m,hn,hl⟩:=I.loc
  refine⟨m,ns m hn,fun i x v e1 e2 e3=>?_⟩;obtain⟨u,r,l⟩:=hl i x v e1 e2 e3;refine⟨u,r,?_⟩;rcases l with l | ⟨k,c,e,z⟩
  ·exact .inl l
  ·exact .inr ⟨k,c,e,cellK x c e _ z⟩
 ·obtain⟨v,z⟩:=I.cell x c e
  exact⟨v,cellK x c e v z⟩
 ·obtain⟨m,⟨o,_,_,ho,_⟩,_⟩:=I.loc
  exact free _ o (fun z=>(hch _ z).2.1 rfl) ho I.free
 ·obtain⟨v,o,ho,hd⟩:=I.cell x c e
  exact free c o (fun z=>(hch c z).2.2.1 x c e rfl) ho (I.freeC x c e)
 ·obtain⟨e,n,ne,nf,d⟩:=I.pin p hp
  have nch:p.1∉ch:=fun z=>(hch p.1 z).2.2.2 p hp rfl;exact⟨keep p.1 p.2 ne nf nch e n,free p.1 p.2 nch e n,ne,nf,d⟩
theorem Inv.un{t':Nat}(I:Inv X Kp σ H s)(u:Un X.fs [] H H' s.heap h')(hok:HOk X.prog X.w H' h'):Inv X Kp σ H' { s with heap:=h',toks:=t' }:=by
 obtain⟨m,⟨o,es,ep,ho,r⟩,_⟩:=id I.loc;obtain⟨sl,hL⟩:=u.any ho I.free (by simp)
 exact I.step (g':=s.gens) (d':=s.drawn) (ch:=[]) (fun _ z=>nomatch z) (fun b o _ hb _ e n=>u.keep b o e n hb (by simp)) (fun b o _ hb _ e n=>u.slot b o e n hb (by simp)) (fun b o _ e n=>u.free b o e n (by simp)) (fun b o _ e=>u.there b o e (by simp)) u.tups u.frzs u.tbls (fun m' hm=>by
  obtain ⟨o',es',ep',ho',r'⟩:=hm;rw [ho] at ho'; cases ho';exact ⟨_,es',ep',hL,r'⟩) hok I.bare
theorem Inv.call{g':Array GenState}{t':Nat}{d':Drawn}{ch:List Addr}(I:Inv X Kp σ H s)(u:Un (frs X.stack) ch H H' s.heap h')(hok:HOk X.prog X.w H' h')(hg:AllBare g')
  (hch:∀b∈ch,(b∈X.ex∨X.s₀.heap.objs.size<=b)/\b≠X.env.locals/\(∀x c,X.env.cells.lookup x=some c->c≠b)/\∀p∈X.pn++Kp,p.1≠b):
  Inv X Kp σ H' { s with heap:=h',gens:=g',drawn:=d',toks:=t' }:=by
 obtain⟨m,⟨o,es,ep,ho,r⟩,_⟩:=id I.loc;obtain⟨sl,hL⟩:=u.any ho I.free fun z=>(hch _ z).2.1 rfl
 exact I.step (ch:=ch) hch (fun b o hL hb hc e n=>u.keep b o e n (fun z=>(List.mem_cons.mp (I.stkSub b z)).elim hL hb) hc) (fun b o _ _ hc e n=>u.any e n hc) (fun b o hc e n=>u.free b o e n hc) (fun b o hc e=>u.there b o e hc) u.tups u.frzs u.tbls (fun m' hm=>by
  obtain ⟨o',es',ep',ho',r'⟩:=hm;rw [ho] at ho'; cases ho';exact ⟨_,es',ep',hL,r'⟩) hok hg
theorem Inv.turned{t':Nat}{it:Addr}(I:Inv X Kp σ H s)(k:∀b o,b≠it->s.heap.get? b=some o->h'.get? b=some o)(hn:H it=none)(hL:it≠X.env.locals)
  (h1:it∈X.ex∨X.s₀.heap.objs.size<=it) (h2:∀x c,X.env.cells.lookup x=some c->c≠it) (h3:∀p∈X.pn++Kp,p.1≠it):Inv X Kp σ H { s with heap:=h',toks:=t' }:=by
 have nit:∀b u,H b=some u->b≠it:=fun b u e z=>by rw[z,hn]at e;cases e
 refine I.step (g':=s.gens) (d':=s.drawn) (ch:=[it]) (fun b hb=>?_) (fun b o _ _ hc e _=>k b o (fun z=>hc (by simp[z])) e) (fun b o _ _ hc e _=>⟨o.slots,k b o (fun z=>hc (by simp[z])) e⟩) (fun _ _ _ _ n=>n)
  (fun b o hc e=>⟨o,k b o (fun z=>hc (by simp[z])) e⟩) (fun _ _ e=>e) (fun _ _ _ e=>e) (fun b ps e=>⟨#[],by rw[e];simp⟩) (fun m hm=>?_) (fun b u e=>?_) I.bare
 ·have e:b=it:=by simpa using hb
  subst e;exact⟨h1,hL,h2,h3⟩
 ·obtain⟨o,es,ep,ho,r⟩:=hm
  exact⟨o,es,ep,k _ o (Ne.symm hL) ho,r⟩
 ·refine(I.hok b u e).stay (fun c v hc q=>k c v ?_ q) (fun _ q=>q) fun _ _ q=>q
  rcases hc with z | z
  ·rw[z];exact nit b u e
  ·exact nit c _ z
theorem Inv.tok(I:Inv X Kp σ H s)(t:Nat):Inv X Kp σ H { s with toks:=t }:=I.un (h':=s.heap) (t':=t) Un.refl I.hok
theorem Inv.kept{t':Nat}(I:Inv X Kp σ H s)(k:∀b u,s.heap.get? b=some u->h'.get? b=some u):Inv X Kp σ H { s with heap:=h',toks:=t' }:=I.un (Un.kept k) (I.hok.kept k)
theorem Inv.laid{a:Addr}{o:HO}{t':Nat}(I:Inv X Kp σ H s)(k:∀b u,s.heap.get? b=some u->h'.get? b=some u)(hp:s.heap.objs.size<=a)(new:zh X.prog X.w (upd H a o) h' a o):
  Inv X Kp σ (upd H a o) { s with heap:=h',toks:=t' }:=I.un (Un.laid k hp (I.hok.fresh hp)) (I.hok.laid k hp new)
theorem Inv.write{x e:Addr}{o:HO}{t':Nat}(I:Inv X Kp σ H s)(mu:Mut (H x))(he:e=x∨H e=some (.own x))(k:∀b u,b≠e->s.heap.get? b=some u->h'.get? b=some u)(heo:∃u,h'.get? e=some u)
  (new:zh X.prog X.w (upd H x o) h' x o):Inv X Kp σ (upd H x o) { s with heap:=h',toks:=t' }:=I.un (Un.write mu he k heo) (I.hok.write mu he k heo new)
theorem Inv.pins_of{pins':List (Addr×Obj)}(I:Inv X Kp σ H s)(h:∀p∈pins',s.heap.get? p.1=some p.2/\H p.1=none/\p.1≠X.env.locals/\p.1∉X.fs/\∀v,p.2.data ≠ .cell v):Inv X pins' σ H s:=
 ⟨I.ok,I.os,I.bare,I.base,I.loc,I.cell,I.free,I.freeC,fun p hp=>(List.mem_append.mp hp).elim (fun z=>I.pin p (List.mem_append_left _ z)) (h p),I.hok,I.len⟩
theorem afE{N:List Str}(hN:N.Nodup){i j:Nat}{x:Str}(a:N[i]?=some x)(b:N[j]?=some x):i=j:=by
 obtain⟨h1,e1⟩:=List.getElem?_eq_some_iff.mp a;obtain⟨h2,e2⟩:=List.getElem?_eq_some_iff.mp b;exact(List.getElem_inj hN).mp (e1.trans e2.symm)
theorem adK{M:Model}{A:Around}{E:Value->SP0}{i:Nat}{x:Str}{v:V}{u:Value}{Q:Unit->SP0}(I:Inv X Kp σ H s)(hN:X.N.Nodup)(hi:X.N[i]?=some x)(hx:Loc X.env.scope x)(r:jV v u)
  (h:∀s',Inv X Kp (σ.set i (some v)) H s'->(∃a,Heap.SameBut a s.heap s'.heap/\(a=X.env.locals∨X.env.cells.lookup x=some a))->Q () s') (hf:X.fn x=true∨X.env.scope.names.lookup x=some .local:=by first|exact .inl rfl|exact .inr rfl|assumption):wpAny M A (storeName X.env x u) Q E s:=by
 obtain⟨m,hn,hl⟩:=id I.loc;have hcls:(X.env.scope.kind == .class||(X.env.scope.kind == .module&&X.env.locals != X.env.globals))=false:=by rw[I.ok.kind];rfl
 have hiσ:i < σ.length:=by rw[I.len];exact(List.getElem?_eq_some_iff.mp hi).1
 have cne:=I.cne
 have tracked:∀{a:Addr} {h':Heap},(∃o,s.heap.get? a=some o/\H a=none)->Heap.SameBut a s.heap h'->HOk X.prog X.w H h':=fun {a h'} ha hs b ob e=>by
  obtain⟨_,_,hfree⟩:=ha;refine(I.hok b ob e).stay (fun c w' hc q=>(hs.2 c ?_).trans q) (fun _ q=>q) fun _ _ q=>q
  rintro rfl
  rcases hc with rfl | hc
  ·rw[hfree]at e;cases e
  ·rw[hfree]at hc;cases hc
 rcases hx with hk | hk
 ·refine wpAny_storeName_local hk hn (fun h' hn' hs=>?_) hcls
  obtain⟨oL,_,_,hoL,_⟩:=id hn;refine h _ ⟨I.ok,I.os,I.bare,⟨fun b o e n hb hx=>?_,fun b o e n hb hx=>?_,I.base.free,fun b o e hx=>?_,I.base.tups,I.base.frzs,I.base.tbls⟩,⟨_,hn',fun j y v' e1 e2 e3=>?_⟩,fun y c e=>?_,I.free,I.freeC,fun p hp=>?_,tracked ⟨oL,hoL,I.free⟩ hs,by simpa using I.len⟩ ⟨_,hs,.inl rfl⟩
  ·exact(hs.2 b (Nat.ne_of_lt (Nat.lt_of_lt_of_le (Heap.lt_size e) I.ok.above))).trans (I.base.keep b o e n hb hx)
  ·obtain⟨sl,e1⟩:=I.base.slot b o e n hb hx
   exact⟨sl,(hs.2 b (Nat.ne_of_lt (Nat.lt_of_lt_of_le (Heap.lt_size e) I.ok.above))).trans e1⟩
  ·obtain⟨o',e1⟩:=I.base.there b o e hx
   exact⟨o',(hs.2 b (Nat.ne_of_lt (Nat.lt_of_lt_of_le (Heap.lt_size e) I.ok.above))).trans e1⟩
  ·by_cases hj:j=i
   ·subst hj
    rw[hi]at e1;cases e1;rw[List.getElem?_set_self hiσ]at e2;cases e2;exact⟨u,r,.inl ⟨hk,by simp⟩⟩
   ·rw[List.getElem?_set_ne (Ne.symm hj)]at e2
    obtain⟨u',r',q⟩:=hl j y v' e1 e2 e3;refine⟨u',r',?_⟩;rcases q with ⟨k,e⟩ | ⟨k,c,e,z⟩
    ·refine .inl ⟨k,?_⟩
     have:y≠x:=fun e=>hj (afE hN e1 (e▸hi));simp[this,e]
    ·exact .inr ⟨k,c,e,z.sameBut hs (cne y c e)⟩
  ·obtain⟨w',z⟩:=I.cell y c e
   exact⟨w',z.sameBut hs (cne y c e)⟩
  ·obtain⟨e,n,ne,nf,d⟩:=I.pin p hp
   exact⟨(hs.2 p.1 ne).trans e,n,ne,nf,d⟩
 ·have hfn:X.fn x=true:=by
   rcases hf with z | z
   ·exact z
   ·rw[z]at hk;cases hk
  obtain⟨c,hc⟩:=I.ok.has x (.inl hk);obtain⟨w',z⟩:=I.cell x c hc;refine wpAny_storeName_cell I.ok.kind hk hc z (fun h' hc' hs=>?_);obtain⟨oc,hoc,hocd⟩:=id z;refine h { s with heap:=h' } ⟨I.ok,I.os,I.bare,⟨fun b o e n hb hx=>?_,fun b o e n hb hx=>?_,I.base.free,fun b o e hx=>?_,I.base.tups,I.base.frzs,I.base.tbls⟩,⟨m,hn.sameBut hs (Ne.symm (cne x c hc)),fun j y v' e1 e2 e3=>?_⟩,fun y c' e=>?_,I.free,I.freeC,fun p hp=>?_,tracked ⟨oc,hoc,I.freeC x c hc⟩ hs,by simpa using I.len⟩ ⟨c,hs,.inr hc⟩
  ·exact(hs.2 b (Nat.ne_of_lt (Nat.lt_of_lt_of_le (Heap.lt_size e) (I.ok.cab x c hfn hc)))).trans (I.base.keep b o e n hb hx)
  ·obtain⟨sl,e1⟩:=I.base.slot b o e n hb hx
   exact⟨sl,(hs.2 b (Nat.ne_of_lt (Nat.lt_of_lt_of_le (Heap.lt_size e) (I.ok.cab x c hfn hc)))).trans e1⟩
  ·obtain⟨o',e1⟩:=I.base.there b o e hx
   exact⟨o',(hs.2 b (Nat.ne_of_lt (Nat.lt_of_lt_of_le (Heap.lt_size e) (I.ok.cab x c hfn hc)))).trans e1⟩
  ·by_cases hj:j=i
   ·subst hj
    rw[hi]at e1;cases e1;rw[List.getElem?_set_self hiσ]at e2;cases e2;exact⟨u,r,.inr ⟨.inl hk,c,hc,hc'⟩⟩
   ·rw[List.getElem?_set_ne (Ne.symm hj)]at e2
    obtain⟨u',r',q⟩:=hl j y v' e1 e2 e3;refine⟨u',r',?_⟩;rcases q with q | ⟨k,c',e,z'⟩
    ·exact .inl q
    ·refine .inr ⟨k,c',e,z'.sameBut hs ?_⟩
     rintro rfl
     exact hj (afE hN e1 (I.ok.inj _ _ _ e hc▸hi))
  ·by_cases hcc:c'=c
   ·subst hcc;exact⟨_,hc'⟩
   ·obtain⟨w2,z2⟩:=I.cell y c' e
    exact⟨w2,z2.sameBut hs hcc⟩
  ·obtain⟨e,n,ne,nf,d⟩:=I.pin p hp
   refine⟨(hs.2 p.1 ?_).trans e,n,ne,nf,d⟩;intro q;rw[q,hoc]at e;have q':oc=p.2:=Option.some.inj e;exact d w' (by rw[←q'];exact hocd)
theorem afF{M:Model}{A:Around}{E:Value->SP0}{i:Nat}{x:Str}{v:V}{u:Value}{Q:Unit->SP0}(I:Inv X Kp σ H s)(hN:X.N.Nodup)(hi:X.N[i]?=some x)(hx:Loc X.env.scope x)(r:jV v u)
  (h:∀s',Inv X Kp (σ.set i (some v)) H s'->Q () s') (hf:X.fn x=true∨X.env.scope.names.lookup x=some .local:=by first|exact .inl rfl|exact .inr rfl|assumption):wpAny M A (storeName X.env x u) Q E s:=
 adK I hN hi hx r (fun s' I' _=>h s' I') hf
theorem Inv.call'{s':Shared}{ch:List Addr}(I:Inv X Kp σ H s)(ho:s'.os=s.os)(u:Un (frs X.stack) ch H H' s.heap s'.heap)(hok:HOk X.prog X.w H' s'.heap)(hg:AllBare s'.gens)
  (hch:∀b∈ch,(b∈X.ex∨X.s₀.heap.objs.size<=b)/\b≠X.env.locals/\(∀x c,X.env.cells.lookup x=some c->c≠b)/\∀p∈X.pn++Kp,p.1≠b):Inv X Kp σ H' s':=by
 obtain⟨h',g',d',t',o'⟩:=s';have e:o'=s.os:=ho;subst e;exact I.call (g':=g') (t':=t') (d':=d') u hok hg hch
end
noncomputable abbrev XK:=Value->Option Addr->Hp->Prop
noncomputable abbrev St:=List (Option V)
noncomputable abbrev VK:=V->Hp->Prop
noncomputable abbrev TE:=St->Hp->VK->Prop
noncomputable abbrev TT:=St->Hp->(Bool->Hp->Prop)->Prop
noncomputable abbrev TA:=St->Hp->(List V->Hp->Prop)->Prop
structure Ends where
 nx:St->Hp->Prop
 rt:VK
 bk:St->Hp->Prop:=fun _ _=>False
 ct:St->Hp->Prop:=fun _ _=>False
noncomputable abbrev TS:=Ends->St->Hp->Prop
noncomputable def EP(X:Cx)(Kp:List (Addr×Obj))(σ:St)(Q:VK)(u:Value)(s':Shared):Prop:=∃v H',Inv X Kp σ H' s'/\jV v u/\Q v H'
noncomputable def TP(X:Cx)(Kp:List (Addr×Obj))(σ:St)(Q:Bool->Hp->Prop)(b:Bool)(s':Shared):Prop:=∃H',Inv X Kp σ H' s'/\Q b H'
noncomputable def AP(X:Cx)(Kp:List (Addr×Obj))(σ:St)(Q:List V->Hp->Prop)(us:List Value)(s':Shared):Prop:=∃vs H',Inv X Kp σ H' s'/\jH vs us/\Q vs H'
noncomputable def SP(X:Cx)(Kp:List (Addr×Obj))(D:Ends)(f:Flow)(s':Shared):Prop:=
 match f with
 |.next=>∃σ' H',Inv X Kp σ' H' s'/\D.nx σ' H'
 |.brk=>∃σ' H',Inv X Kp σ' H' s'/\D.bk σ' H'
 |.cont=>∃σ' H',Inv X Kp σ' H' s'/\D.ct σ' H'
 |.ret u=>∃v σ' H',Inv X Kp σ' H' s'/\jV v u/\D.rt v H'
noncomputable def PE(X:Cx)(e:Expr)(t:TE):Prop:=
 ∀(Kp:List (Addr×Obj)) (s:Shared) (σ:St) (H:Hp) (Q:VK),Inv X Kp σ H s->t σ H Q->wpAny (model X.prog X.w) X.A (eval e X.env) (EP X Kp σ Q) X.xe s
noncomputable def PT(X:Cx)(e:Expr)(t:TT):Prop:=
 ∀(Kp:List (Addr×Obj)) (s:Shared) (σ:St) (H:Hp) (Q:Bool->Hp->Prop),Inv X Kp σ H s->t σ H Q->wpAny (model X.prog X.w) X.A (isTrue e X.env (eval e X.env)) (TP X Kp σ Q) X.xe s
noncomputable def PW(X:Cx)(e:Expr)(t:TT):Prop:=
 ∀(whole:Sem Value) (Kp:List (Addr×Obj)) (s:Shared) (σ:St) (H:Hp) (Q:Bool->Hp->Prop),Inv X Kp σ H s->t σ H Q->wpAny (model X.prog X.w) X.A (isTrue e X.env whole) (TP X Kp σ Q) X.xe s
theorem PW.pt{X:Cx}{e:Expr}{t:TT}(h:PW X e t):PT X e t:=h _
noncomputable def PA(X:Cx)(es:List Expr)(t:TA):Prop:=
 ∀(pos:Pos) (Kp:List (Addr×Obj)) (s:Shared) (σ:St) (H:Hp) (Q:List V->Hp->Prop),Inv X Kp σ H s->t σ H Q->wpAny (model X.prog X.w) X.A (spliced (backTo pos (starEach es X.env))) (AP X Kp σ Q) X.xe s
noncomputable def PS(X:Cx)(st:Stmt)(t:TS):Prop:=
 ∀(Kp:List (Addr×Obj)) (s:Shared) (σ:St) (H:Hp) (D:Ends),Inv X Kp σ H s->t D σ H->wpAny (model X.prog X.w) X.A (exec st X.env) (SP X Kp D) X.xe s
noncomputable def PSs(X:Cx)(st:List Stmt)(t:TS):Prop:=
 ∀(Kp:List (Addr×Obj)) (s:Shared) (σ:St) (H:Hp) (D:Ends),Inv X Kp σ H s->t D σ H->wpAny (model X.prog X.w) X.A (execs st X.env) (SP X Kp D) X.xe s
theorem thn{α:Type}{t:Sem α}{Q Q':α->SP0}{M:Model}{A:Around}{E:Value->SP0}{s:Shared}(h:wpAny M A t Q E s)(hQ:∀a s,Q a s->Q' a s):wpAny M A t Q' E s:=wpAny_mono h hQ fun _ _ x=>x
section
variable {X:Cx}
noncomputable def aoY(i:Nat):TE:=fun σ H Q=>∃v,σ[i]?=some (some v)/\Q v H
noncomputable def tC(v:V):TE:=fun _ H Q=>Q v H
theorem ZZ{i:Nat}{x:Str}{pos:Pos}(hN:X.N[i]?=some x)(hv:Vis X.env.scope x)(hd:(x==("__debug__":Str))=false:=by decide)(hcd:(x==("__classdict__":Str))=false:=by decide):PE X (.Name x pos) (aoY i):=by
 intro Kp s σ H Q I h;obtain⟨v,e,h⟩:=h;obtain⟨m,hn,hl⟩:=I.loc;obtain⟨u,r,l⟩:=hl i x v hN e hv;have fin:EP X Kp σ Q u s:=⟨v,H,I,r,h⟩;rcases l with ⟨hk,hm⟩ | ⟨hk,c,hc,hcell⟩
 ·exact wpAny_Name (wpAny_loadName_local I.ok.kind hk hn hm fin) hd
 ·rcases hk with hk | hk
  ·exact wpAny_Name (wpAny_loadName_cell I.ok.kind hk hc hcell fin) hd
  ·exact wpAny_Name (wpAny_loadName_free I.ok.kind hk hc hcell fin hcd) hd
theorem aka{i j pos}:PE X (.Constant (.int i) j pos) (tC (.int i)):=fun _ _ _ H _ I h=>wpAny_Constant_int ⟨.int i,H,I.tok _,⟨_,rfl⟩,h⟩
theorem aqq{b j pos}:PE X (.Constant (.bool b) j pos) (tC (.bl b)):=fun _ _ _ H _ I h=>Constant_bool ⟨.bl b,H,I,rfl,h⟩
theorem akb{j pos}:PE X (.Constant .none j pos) (tC .non):=fun _ _ _ H _ I h=>Constant_none ⟨.non,H,I,rfl,h⟩
theorem akc{x j pos}:PE X (.Constant (.str x) j pos) (tC (.str x)):=fun _ _ _ H _ I h=>Calls.Constant_str ⟨.str x,H,I.tok _,⟨_,rfl⟩,h⟩
noncomputable def Gl(X:Cx)(x:Str):Prop:=X.env.kindOf x=some .globalImplicit
theorem Jn{E:Value->SP0}{Kp:List (Addr×Obj)}{s:Shared}{σ:St}{H:Hp}{x:Str}{u:Value}{pos:Pos}{Q:Value->SP0}(I:Inv X Kp σ H s)(hg:Gl X x)(hm:X.mg x=some u)(h:Q u s)
  (hd:(x==("__debug__":Str))=false:=by decide):wpAny (model X.prog X.w) X.A (eval (.Name x pos) X.env) Q E s:=
 Calls.Name_function_global I.ok.kind hg (Calls.loadGlobal_global (by rw[I.ok.glob];exact I.mod.glob.keeps I.bk) hm h) hd
theorem QM{E:Value->SP0}{Kp:List (Addr×Obj)}{s:Shared}{σ:St}{H:Hp}{x:Str}{u:Value}{pos:Pos}{Q:Value->SP0}(I:Inv X Kp σ H s)(hg:Gl X x)(hm:X.mg x=none)(hv:bootBuiltins x=some u)(h:Q u s)
  (hn:x≠"__name__":=by decide) (hd:(x==("__debug__":Str))=false:=by decide):wpAny (model X.prog X.w) X.A (eval (.Name x pos) X.env) Q E s:=by
 obtain⟨mb,h1,h2⟩:=I.mod.blt;exact Calls.Name_function_global I.ok.kind hg (Calls.loadGlobal_builtin (by rw[I.ok.glob];exact I.mod.glob.keeps I.bk) hm (by rw[I.ok.blt];exact h1.keeps I.bk) ((h2 x hn).trans hv) h) hd
theorem aev{x:Str}{v:V}{u:Value}{pos:Pos}(hg:Gl X x)(hm:X.mg x=some u)(r:jV v u)(hd:(x==("__debug__":Str))=false:=by decide):PE X (.Name x pos) (tC v):=
 fun _ _ _ H _ I h=>Jn I hg hm ⟨v,H,I,r,h⟩ hd
theorem amV{x:Str}{v:V}{u:Value}{pos:Pos}(hg:Gl X x)(hm:X.mg x=none)(hv:bootBuiltins x=some u)(r:jV v u)(hn:x≠"__name__":=by decide)(hd:(x==("__debug__":Str))=false:=by decide):PE X (.Name x pos) (tC v):=
 fun _ _ _ H _ I h=>QM I hg hm hv ⟨v,H,I,r,h⟩ hn hd
variable {a b:Expr}{ta tb:TE}{pos:Pos}
noncomputable def tB(t:TE):TT:=fun σ H Q=>t σ H fun x H1=>∃c,x= .bl c/\Q c H1
theorem akd{e:Expr}{t:TE}(h:PE X e t)(he:∀whole,isTrue e X.env whole=(do let v ←whole;standAt e.pos;holding [v] (truthy v)):=by intro _;rfl):PT X e (tB t):=by
 intro Kp s σ H Q I hw;refine isTrue_plain (thn (h Kp s σ H _ I hw) fun v s1 ⟨x,H1,I1,r1,q1⟩=>?_) (he _);obtain⟨d,rfl,q⟩:=q1;cases r1;exact wpAny_truthy_bool ⟨H1,I1,q⟩
variable {tA tB':TT}{qg:List Expr}
noncomputable def tOr(t u:TT):TT:=fun σ H Q=>t σ H fun c H1=>if c=true then Q true H1 else u σ H1 Q
noncomputable def arS(t:TT):TT:=fun σ H Q=>t σ H fun c H1=>Q (!c) H1
theorem ake(ha:PT X a tA):PW X (.BoolOp .Or [a] pos) tA:=by
 intro wh Kp s σ H Q I h;refine isTrue_or (thn (ha Kp s σ H Q I h) fun c s1 e=>?_);cases c with
 |false=>exact isTrue_or_nil e
 |true=>exact e
theorem aox(ha:PT X a tA)(hb:PW X (.BoolOp .Or (b::qg) pos) tB'):PW X (.BoolOp .Or (a::b::qg) pos) (tOr tA tB'):=by
 intro wh Kp s σ H Q I h;refine isTrue_or (thn (ha Kp s σ H _ I h) fun c s1 ⟨H1,I1,q1⟩=>?_);cases c with
 |true=>exact⟨H1,I1,q1⟩
 |false=>exact hb wh Kp s1 σ H1 Q I1 q1
theorem akf(ha:PT X a tA):PT X (.UnaryOp .Not a pos) (arS tA):=by
 intro Kp s σ H Q I h;exact isTrue_not (ha Kp s σ H (fun c H1=>Q (!c) H1) I h)
noncomputable def aqr(ta tb:TE):TE:=fun σ H Q=>ta σ H fun x H1=>∃c,x= .bl c/\if c=true then tb σ H1 Q else Q (.bl false) H1
theorem akg{op}{t:TE}(h:PE X a t):PE X (.BoolOp op [a] pos) t:=fun Kp s σ H Q I hw=>BoolOp_one (h Kp s σ H Q I hw)
theorem akh(ha:PE X a ta)(hb:PE X (.BoolOp .And (b::qg) pos) tb):PE X (.BoolOp .And (a::b::qg) pos) (aqr ta tb):=by
 intro Kp s σ H Q I h;refine BoolOp_and (thn (ha Kp s σ H _ I h) fun v s1 ⟨x,H1,I1,r1,q1⟩=>?_);obtain⟨c,rfl,q1⟩:=q1;cases r1;refine wpAny_truthy_bool ?_;cases c with
 |true=>exact hb Kp s1 σ H1 Q I1 q1
 |false=>exact⟨.bl false,H1,I1,rfl,q1⟩
end
noncomputable def SqL(K:Fg)(H:Hp)(a:Addr)(xs:List V):Prop:=
 Rd H a (.lst xs) ∨
  ∃(o:Obj) (its:Array Value) (n:Nat),K.lookup a=some o/\o.cls= .type "list"/\o.dict=none/\o.data= .seq its n/\its.size<=sizeLine/\jH xs its.toList
noncomputable def SqT(K:Fg)(H:Hp)(a:Addr)(xs:List V):Prop:=
 Rd H a (.tup xs) ∨
  ∃(o:Obj) (its:Array Value) (n:Nat),K.lookup a=some o/\o.cls= .type "tuple"/\o.data= .seq its n/\its.size<=sizeLine/\jH xs its.toList
noncomputable def arT:Value->Option V
 |.none=>some .non
 |.bool b=>some (.bl b)
 |.int i _=>some (.int i)
 |.str x _=>some (.str x)
 |.bytes b _=>some (.byt b)
 |.float b _=>some (.flt b)
 |.ref a=>some (.ref a)
 |.type n=>some (.ty n)
 |_=>none
theorem jV.abs{x:V}{u:Value}(r:jV x u):arT u=some x:=by
 cases x with
 |non=>cases r;rfl
 |bl _=>cases r;rfl
 |int _=>obtain⟨t,rfl⟩:=r;rfl
 |str _=>obtain⟨t,rfl⟩:=r;rfl
 |byt _=>obtain⟨t,rfl⟩:=r;rfl
 |flt _=>obtain⟨t,rfl⟩:=r;rfl
 |ref _=>cases r;rfl
 |ty _=>cases r;rfl
theorem jV.inj{x y:V}{u:Value}(r:jV x u)(q:jV y u):x=y:=Option.some.inj (r.abs.symm.trans q.abs)
theorem jH.inj:∀{xs ys:List V}{us:List Value},jH xs us->jH ys us->xs=ys
 |_,_,_,.nil,.nil=>rfl
 |_,_,_,.cons r t,.cons r' t'=>by rw[r.inj r',jH.inj t t']
section
variable {X:Cx}{Kp:List (Addr×Obj)}{σ:St}{H:Hp}{s:Shared}{a:Addr}{xs ys:List V}
theorem SqL.of{K:Fg}(h:H a=some (.lst xs)):SqL K H a xs:= .inl (.inl h)
theorem SqT.of{K:Fg}(h:H a=some (.tup xs)):SqT K H a xs:= .inl (.inl h)
theorem Inv.list(I:Inv X Kp σ H s)(h:SqL X.K H a xs):∃its:List Value,jH xs its/\PlainL s.heap a its.toArray/\xs.length<=sizeLine:=by
 rcases h with h | ⟨o,its,n,hk,hc,hd,hs,hz,r⟩
 ·obtain⟨z,its,n,r,e⟩:=h.ok I.hok
  exact⟨its,r,⟨_,n,e,rfl,rfl,rfl⟩,z⟩
 ·refine⟨its.toList,r,⟨o,n,I.kIn a o hk,hc,hd,by simpa using hs⟩,?_⟩
  have e:=r.length;simp only[Array.length_toList]at e;omega
theorem Inv.tuple(I:Inv X Kp σ H s)(h:SqT X.K H a xs):∃its:List Value,jH xs its/\IsTup s.heap a its.toArray/\xs.length<=sizeLine:=by
 rcases h with h | ⟨o,its,n,hk,hc,hs,hz,r⟩
 ·obtain⟨z,its,r,p⟩:=h.ok I.hok
  exact⟨its,r,p,z⟩
 ·refine⟨its.toList,r,⟨o,I.kIn a o hk,hc,n,by simpa using hs⟩,?_⟩
  have e:=r.length;simp only[Array.length_toList]at e;omega
theorem Inv.list_inj(I:Inv X Kp σ H s)(h:SqL X.K H a xs)(h':SqL X.K H a ys):xs=ys:=by
 obtain⟨its,r,⟨o,n,e,_,_,d⟩,_⟩:=I.list h;obtain⟨its',r',⟨o',n',e',_,_,d'⟩,_⟩:=I.list h';rw[e]at e';cases e';rw[d]at d';injection d' with d1 _
 have:its=its':=by simpa using congrArg Array.toList d1
 subst this;exact r.inj r'
theorem Inv.tuple_inj(I:Inv X Kp σ H s)(h:SqT X.K H a xs)(h':SqT X.K H a ys):xs=ys:=by
 obtain⟨its,r,⟨o,e,_,n,d⟩,_⟩:=I.tuple h;obtain⟨its',r',⟨o',e',_,n',d'⟩,_⟩:=I.tuple h';rw[e]at e';cases e';rw[d]at d';injection d' with d1 _
 have:its=its':=by simpa using congrArg Array.toList d1
 subst this;exact r.inj r'
end
noncomputable abbrev Cx.wish(X:Cx)(E:Value->SP0):Cx:={ X with xe:=E }
noncomputable abbrev Cx.nox(X:Cx):Cx:=X.wish fun _ _=>False
theorem Cx.Ok.wish{X:Cx}(ok:X.Ok)(E:Value->SP0):(X.wish E).Ok:=
 ⟨ok.mod,ok.kind,ok.glob,ok.blt,ok.above,ok.inj,ok.has,ok.cab,ok.hd,ok.frames,ok.stk,ok.exf,ok.bs,ok.bsz,ok.noex,ok.exfs,ok.funs,ok.frf⟩
theorem Cx.Ok.unwish{X:Cx}{E:Value->SP0}(ok:(X.wish E).Ok):X.Ok:=
 ⟨ok.mod,ok.kind,ok.glob,ok.blt,ok.above,ok.inj,ok.has,ok.cab,ok.hd,ok.frames,ok.stk,ok.exf,ok.bs,ok.bsz,ok.noex,ok.exfs,ok.funs,ok.frf⟩
section
variable {X:Cx}{Kp:List (Addr×Obj)}{σ:St}{H:Hp}{s:Shared}{E:Value->SP0}
theorem Inv.wish(I:Inv X Kp σ H s)(E:Value->SP0):Inv (X.wish E) Kp σ H s:=⟨I.ok.wish E,I.os,I.bare,I.base,I.loc,I.cell,I.free,I.freeC,I.pin,I.hok,I.len⟩
theorem Inv.unwish(I:Inv (X.wish E) Kp σ H s):Inv X Kp σ H s:=⟨I.ok.unwish,I.os,I.bare,I.base,I.loc,I.cell,I.free,I.freeC,I.pin,I.hok,I.len⟩
theorem SP.unwish{D:Ends}{f:Flow}{s':Shared}(h:SP (X.wish E) Kp D f s'):SP X Kp D f s':=by
 cases f with
 |next=>obtain⟨σ',H',I,q⟩:=h;exact⟨σ',H',I.unwish,q⟩
 |brk=>obtain⟨σ',H',I,q⟩:=h;exact⟨σ',H',I.unwish,q⟩
 |cont=>obtain⟨σ',H',I,q⟩:=h;exact⟨σ',H',I.unwish,q⟩
 |ret u=>obtain⟨v,σ',H',I,r,q⟩:=h;exact⟨v,σ',H',I.unwish,r,q⟩
theorem PE.nox{e:Expr}{t:TE}(h:PE X.nox e t):PE X e t:=fun Kp s σ H Q I hw=>
 wpAny_mono (h Kp s σ H Q (I.wish _) hw) (fun _ _ ⟨v,H',I',r,q⟩=>⟨v,H',I'.unwish,r,q⟩) fun _ _ z=>False.elim z
theorem PT.nox{e:Expr}{t:TT}(h:PT X.nox e t):PT X e t:=fun Kp s σ H Q I hw=>
 wpAny_mono (h Kp s σ H Q (I.wish _) hw) (fun _ _ ⟨H',I',q⟩=>⟨H',I'.unwish,q⟩) fun _ _ z=>False.elim z
theorem PSs.nox{st:List Stmt}{t:TS}(h:PSs X.nox st t):PSs X st t:=fun Kp s σ H D I hw=>
 wpAny_mono (h Kp s σ H D (I.wish _) hw) (fun _ _ q=>q.unwish) fun _ _ z=>False.elim z
end
section
variable {X:Cx}{st:Stmt}{qg:List Stmt}{t u:TS}{e:Expr}{te:TE}{pos:Pos}
noncomputable def aqs:TS:=fun D σ H=>D.nx σ H
noncomputable def arU(t u:TS):TS:=fun D σ H=>t { D with nx:=u D } σ H
theorem ab8:PSs X [] aqs:=fun _ _ σ H _ I h=>wpAny_execs_nil ⟨σ,H,I,h⟩
theorem JC(h1:PS X st t)(h2:PSs X qg u):PSs X (st::qg) (arU t u):=by
 intro Kp s σ H D I h;refine wpAny_execs_cons (thn (h1 Kp s σ H { D with nx:=u D } I h) fun f s1 q=>?_);cases f with
 | next=>
  obtain⟨σ',H',I',q⟩:=q;exact h2 Kp s1 σ' H' D I' q
 |ret v=>exact q
 |brk=>exact q
 |cont=>exact q
theorem aew(h1:PS X st t):PSs X [st] t:=by
 intro Kp s σ H D I h;refine wpAny_execs_cons (thn (h1 Kp s σ H D I h) fun f s1 q=>?_);cases f with
 |next=>exact wpAny_execs_nil q
 |ret v=>exact q
 |brk=>exact q
 |cont=>exact q
theorem Inv.quiet{Kp:List (Addr×Obj)}{σ:St}{H:Hp}{s:Shared}(I:Inv X Kp σ H s):interactive X.env=false:=by simp[interactive,I.ok.kind]
noncomputable def aqt(te:TE):TS:=fun D σ H=>te σ H fun _ H1=>D.nx σ H1
theorem aai(he:PE X e te)(hs:swapsWith e none pos.line X.env=pure false:=by rfl):PS X (.Expr e pos) (aqt te):=by
 intro Kp s σ H D I h;exact wpAny_Expr_any (thn (he Kp s σ H _ I h) fun v s1 ⟨x,H1,I1,r1,q1⟩=>⟨σ,H1,I1,q1⟩) I.quiet hs
noncomputable def arV(te:TE):TS:=fun D σ H=>te σ H D.rt
theorem aex(he:PE X e te):PS X (.Return (some e) pos) (arV te):=by
 intro Kp s σ H D I h;exact wpAny_Return_some (thn (he Kp s σ H _ I h) fun v s1 ⟨x,H1,I1,r1,q1⟩=>⟨x,σ,H1,I1,r1,q1⟩)
noncomputable def arW(c:TT)(t u:TS):TS:=fun D σ H=>c σ H fun b H1=>if b=true then t D σ H1 else u D σ H1
theorem aoy{c:Expr}{a b:List Stmt}{tc:TT}(hc:PT X c tc)(ha:PSs X a t)(hb:PSs X b u):PS X (.If c a b pos) (arW tc t u):=by
 intro Kp s σ H D I h;refine wpAny_If (thn (hc Kp s σ H _ I h) fun d s1 ⟨H1,I1,q1⟩=>?_);cases d with
 |true=>exact ha Kp s1 σ H1 D I1 q1
 |false=>exact hb Kp s1 σ H1 D I1 q1
noncomputable def aki:TS:=fun _ _ _=>False
theorem akj:PS X st aki:=fun _ _ _ _ _ _ h=>h.elim
theorem ai1{sts:List Stmt}:PSs X sts aki:=fun _ _ _ _ _ _ h=>h.elim
end
noncomputable abbrev TG:=V->St->Hp->(St->Hp->Prop)->Prop
noncomputable abbrev TGs:=List V->St->Hp->(St->Hp->Prop)->Prop
noncomputable def PG(X:Cx)(target:Expr)(t:TG):Prop:=
 ∀(Kp:List (Addr×Obj)) (s:Shared) (σ:St) (H:Hp) (v:V) (u:Value) (Q:St->Hp->Prop),Inv X Kp σ H s->jV v u->t v σ H Q->
  wpAny (model X.prog X.w) X.A (assign target X.env u) (fun _ s'=>∃σ' H',Inv X Kp σ' H' s'/\Q σ' H') X.xe s
noncomputable def PGs(X:Cx)(ts:List Expr)(t:TGs):Prop:=
 ∀(Kp:List (Addr×Obj)) (s:Shared) (σ:St) (H:Hp) (vs:List V) (us:List Value) (Q:St->Hp->Prop),Inv X Kp σ H s->jH vs us->t vs σ H Q->
  wpAny (model X.prog X.w) X.A (assignInOrder ((assignEach ts X.env).map (·.2)) us) (fun _ s'=>∃σ' H',Inv X Kp σ' H' s'/\Q σ' H') X.xe s
noncomputable abbrev aoZ:=V->V->V->Hp->(Hp->Prop)->Prop
noncomputable def ao0(X:Cx)(t:aoZ):Prop:=
 ∀(Kp:List (Addr×Obj)) (s:Shared) (σ:St) (H:Hp) (o i v:V) (ov iv u:Value) (Q:Hp->Prop),Inv X Kp σ H s->jV o ov->jV i iv->jV v u->t o i v H Q->
  wpAny (model X.prog X.w) X.A (setItem ov iv u) (fun _ s'=>∃H',Inv X Kp σ H' s'/\Q H') X.xe s
section
variable {X:Cx}{pos:Pos}
noncomputable def akk(i:Nat):TG:=fun v σ H Q=>Q (σ.set i (some v)) H
theorem aaj{i:Nat}{x:Str}(hN:X.N.Nodup)(hi:X.N[i]?=some x)(hx:Loc X.env.scope x)(hf:X.fn x=true∨X.env.scope.names.lookup x=some .local:=by first|exact .inl rfl|exact .inr rfl|assumption):PG X (.Name x pos) (akk i):=by
 intro Kp s σ H v u Q I r h;exact wpAny_assign_Name (afF I hN hi hx r (fun s' I'=>⟨_,H,I',h⟩) hf)
noncomputable def arX:TGs:=fun vs σ H Q=>vs=[]/\Q σ H
noncomputable def aqu(t:TG)(u:TGs):TGs:=fun vs σ H Q=>∃v r,vs=v::r/\t v σ H fun σ' H'=>u r σ' H' Q
theorem ahZ:PGs X [] arX:=by
 intro Kp s σ H vs us Q I r h;obtain⟨e,h⟩:=h;subst e;cases r;exact assignInOrder_nil ⟨σ,H,I,h⟩
theorem afG{e:Expr}{es:List Expr}{t:TG}{u:TGs}(h1:PG X e t)(h2:PGs X es u)
  (hs:(assignEach (e::es) X.env).map (·.2)=assign e X.env::(assignEach es X.env).map (·.2):=by rfl):PGs X (e::es) (aqu t u):=by
 intro Kp s σ H vs us Q I r h;obtain⟨v,vr,e1,h⟩:=h;subst e1;cases r with
 | cons r rr=>
  rw[hs];refine assignInOrder_cons (thn (h1 Kp s σ H _ _ _ I r h) fun _ s1 ⟨σ1,H1,I1,q1⟩=>?_);exact h2 Kp s1 σ1 H1 _ _ Q I1 rr q1
noncomputable def arY(K:Fg)(n:Nat)(t:TGs):TG:=fun v σ H Q=>∃a xs,v= .ref a/\SqT K H a xs/\xs.length=n/\t xs σ H Q
theorem akl{es:List Expr}{k:Nat}{t:TGs}{n:Nat}(hc:X.calm=true)(h:PGs X es t)
  (hn:(assignEach es X.env).length=n:=by rfl) (hst:(assignEach es X.env).findIdx? (·.1)=none:=by rfl):PG X (.Tuple es k pos) (arY X.K n t):=by
 intro Kp s σ H v u Q I r hw;obtain⟨a,xs,e1,hq,hl,hw⟩:=hw;subst e1;cases r;obtain⟨its,rv,ht,hz⟩:=I.tuple hq;refine assign_Tuple_tuple (I.ok.hd hc) ht (by simp[hn,←hl,rv.length]) hst fun h' hx=>?_;have I1:Inv X Kp σ H { s with heap:=h' }:=I.kept (t':=s.toks) fun b o e=>hx b o (Nat.ne_of_lt (Heap.lt_size e)) e;exact h Kp _ σ H xs _ Q I1 (by simpa using rv) hw
noncomputable def arZ(to ti:TE)(t:aoZ):TG:=fun v σ H Q=>to σ H fun o H1=>ti σ H1 fun i H2=>t o i v H2 fun H3=>Q σ H3
theorem ao1{o i:Expr}{to ti:TE}{t:aoZ}(ho:PE X o to)(hi:PE X i ti)(hs:ao0 X t)
  (ha:∀v,assign (.Subscript o i pos) X.env v=(do
   let ov ←holding [v] (eval o X.env)
   let iv ←holding [v,ov] (eval i X.env)
   standAt pos
   holding [v,ov,iv] (setItem ov iv v)
   release [v,ov,iv] []):=by intro _; rfl):PG X (.Subscript o i pos) (arZ to ti t):=by
 intro Kp s σ H v u Q I r h;rw[ha];refine wpAny_bind (wpAny_holding (thn (ho Kp s σ H _ I h) fun ov s1 ⟨x,H1,I1,r1,q1⟩=>?_));refine wpAny_bind (wpAny_holding (thn (hi Kp s1 σ H1 _ I1 q1) fun iv s2 ⟨y,H2,I2,r2,q2⟩=>?_));refine wpAny_bind (wpAny_standAt (wpAny_bind (wpAny_holding (thn (hs Kp s2 σ H2 x y v ov iv u _ I2 r1 r2 r q2) fun _ s3 ⟨H3,I3,q3⟩=>?_))));exact wpAny_release ⟨σ,H3,I3,q3⟩
noncomputable def ao2(te:TE)(g:TG):TS:=fun D σ H=>te σ H fun x H1=>g x σ H1 D.nx
theorem akm{tg e:Expr}{te:TE}{g:TG}(he:PE X e te)(hg:PG X tg g)(hs:swapsWithSole [tg] e pos.line X.env=pure false:=by rfl)(hw:swappedStores [tg] e X.env=pure none:=by rfl)
  (h1:(assignEach [tg] X.env).map (·.2)=[assign tg X.env]:=by rfl):PS X (.Assign [tg] e pos) (ao2 te g):=by
 intro Kp s σ H D I h;refine wpAny_Assign_stores (thn (he Kp s σ H _ I h) fun v s1 ⟨x,H1,I1,r1,q1⟩=>?_) hs hw;rw[h1];exact thn (hg Kp s1 σ H1 x v _ I1 r1 q1) fun _ s2 q=>q
theorem aa4{i:Nat}{x:Str}{e:Expr}{te:TE}{pos':Pos}(hN:X.N.Nodup)(hi:X.N[i]?=some x)(hx:Loc X.env.scope x)(he:PE X e te)(hs:swapsWith e (some (.Name x pos')) pos.line X.env=pure false:=by rfl)(hf:X.fn x=true∨X.env.scope.names.lookup x=some .local:=by first|exact .inl rfl|exact .inr rfl|assumption):
  PS X (.Assign [.Name x pos'] e pos) (ao2 te (akk i)):=by
 intro Kp s σ H D I h;refine wpAny_Assign_Name (thn (he Kp s σ H _ I h) fun v s1 ⟨y,H1,I1,r1,q1⟩=>?_) hs;exact afF I1 hN hi hx r1 (fun s2 I2=>⟨_,H1,I2,q1⟩) hf
end
section
variable {X:Cx}{pos:Pos}
noncomputable def ao3(c:TT)(tb:TS):TS:=fun D σ H=>∃W:Nat->St->Hp->Prop,(∃m,W m σ H)/\∀m σ H,W m σ H->
 c σ H fun b H1=>if b=true then ∃N:St->Hp->Prop,(∀σ' H',N σ' H'->∃m',m' < m/\W m' σ' H')/\tb { D with nx:=N,ct:=N,bk:=D.nx } σ H1 else D.nx σ H1
theorem akn{c:Expr}{body:List Stmt}{tc:TT}{tb:TS}(hp:PassesOwn (model X.prog X.w) X.A X.env X.xe)(hc:PT X c tc)(hb:PSs X body tb):PS X (.While c body [] pos) (ao3 tc tb):=by
 intro Kp s σ H D I h;obtain⟨W,⟨m0,w0⟩,turn⟩:=h;refine wpAny_While (codeAny_whileLoop (fun n s'=>∃σ' H',Inv X Kp σ' H' s'/\W n σ' H') ?_ m0 ⟨σ,H,I,w0⟩)
 rintro n s1 ⟨σ1,H1,I1,w1⟩
 refine wpAny_passesOwn hp (thn (hc Kp s1 σ1 H1 _ I1 (turn n σ1 H1 w1)) fun b s2 ⟨H2,I2,q2⟩=>?_);cases b with
 | true=>
  obtain⟨N,hN,q2⟩:=q2;rw[if_pos rfl];refine wpAny_passesOwn hp (thn (hb Kp s2 σ1 H2 _ I2 q2) fun f s3 q3=>?_);cases f with
  | next=>
   obtain⟨σ3,H3,I3,n3⟩:=q3;obtain⟨m',hm,w3⟩:=hN σ3 H3 n3;exact⟨m',hm,σ3,H3,I3,w3⟩
  | cont=>
   obtain⟨σ3,H3,I3,n3⟩:=q3;obtain⟨m',hm,w3⟩:=hN σ3 H3 n3;exact⟨m',hm,σ3,H3,I3,w3⟩
  |brk=>exact q3
  |ret v=>exact q3
 | false=>
  rw[if_neg Bool.false_ne_true];exact wpAny_execs_nil ⟨σ1,H2,I2,q2⟩
end
structure It where
 go:Nat->Hp->Prop
 yld:Nat->Hp->V->Hp->Prop
 stop:Nat->Hp->Prop
noncomputable def aa5(X:Cx)(Kp:List (Addr×Obj))(H:Hp)(b:Addr):Prop:=
 H b=none/\b≠X.env.locals/\b∉X.fs/\(b∈X.ex∨X.s₀.heap.objs.size<=b)/\(∀x c,X.env.cells.lookup x=some c->c≠b)/\∀p∈X.pn++Kp,p.1≠b
theorem Inv.fpOk{X:Cx}{Kp:List (Addr×Obj)}{σ:St}{H H':Hp}{s:Shared}{b:Addr}(I:Inv X Kp σ H s)(hb:s.heap.objs.size<=b)(hn:H' b=none):aa5 X Kp H' b:=by
 refine⟨hn,Nat.ne_of_gt (Nat.lt_of_lt_of_le I.lt hb),I.nofs hb,.inr (Nat.le_trans I.sz hb),fun x c e z=>?_,fun p hp z=>?_⟩
 ·obtain⟨v,q⟩:=I.cell x c e
  exact absurd (Nat.lt_of_lt_of_le q.lt (by rw[z];exact hb)) (Nat.lt_irrefl _)
 ·exact absurd (Nat.lt_of_lt_of_le (Heap.lt_size (I.pin p hp).1) (by rw[z];exact hb)) (Nat.lt_irrefl _)
structure Turn(P:Program)(w:World)(K:Fg)(tg:Expr)(J:It)(fp:List Addr)(it:Addr)(tn:Nat->Heap->Prop):Prop where
 mem:it∈fp
 obj:∀i h,tn i h->∀b∈fp,∃o,h.get? b=some o/\∀v,o.data ≠ .cell v
 keep:∀i h h',tn i h->(∀b∈fp,∀o,h.get? b=some o->h'.get? b=some o)->tn i h'
 item:∀(X:Cx),X.prog=P->X.w=w->X.K=K->X.calm=true->∀(i:Nat) (Kp:List (Addr×Obj)) (s:Shared) (σ:St) (H:Hp) (E:Value->SP0),Inv X Kp σ H s->(∀b∈fp,aa5 X Kp H b)->tn i s.heap->J.go i H->
  wpAny (model P w) X.A (pyNext (.ref it)) (fun r s1=>∃u,r=some u/\
   wpAny (model P w) X.A (letOwnedTupleGo tg (.ref it) u) (fun _ s2=>∃ x H',Inv X Kp σ H' s2/\jV x u/\J.yld i H x H'/\tn (i+1) s2.heap/\∀ b ∈ fp,H' b=none) E s1) E s
 done:∀(X:Cx),X.prog=P->X.w=w->X.K=K->X.calm=true->∀(i:Nat) (Kp:List (Addr×Obj)) (s:Shared) (σ:St) (H:Hp) (E:Value->SP0),Inv X Kp σ H s->(∀b∈fp,aa5 X Kp H b)->tn i s.heap->J.stop i H->
  wpAny (model P w) X.A (pyNext (.ref it)) (fun r s1=>r=none/\Inv X Kp σ H s1) E s
 self:∀(A:Around) (i:Nat) (s:Shared) (Q:Value->SP0) (E:Value->SP0),tn i s.heap->Q (.ref it) s->wpAny (model P w) A (pyIter (.ref it)) Q E s
noncomputable abbrev TI:=St->Hp->(It->Hp->Prop)->Prop
noncomputable def PIE(X:Cx)(Kp:List (Addr×Obj))(σ:St)(tg:Expr)(R:It->Hp->Prop)(itv:Value)(s2:Shared):Prop:=
 ∃(it:Addr) (fp:List Addr) (tn:Nat->Heap->Prop) (J:It) (H':Hp),itv= .ref it/\Inv X Kp σ H' s2/\Turn X.prog X.w X.K tg J fp it tn/\tn 0 s2.heap/\(∀b∈fp,aa5 X Kp H' b)/\R J H'
noncomputable def PI(X:Cx)(tg iter:Expr)(wi:TI):Prop:=
 ∀(Kp:List (Addr×Obj)) (s:Shared) (σ:St) (H:Hp) (R:It->Hp->Prop),Inv X Kp σ H s->wi σ H R->
  wpAny (model X.prog X.w) X.A (eval iter X.env) (fun v s1=>wpAny (model X.prog X.w) X.A (pyIter v) (PIE X Kp σ tg R) X.xe s1) X.xe s
theorem ah0{M : Model}{A : Around}{E : Value -> Shared -> Prop}{s : Shared}{tg : Expr}{it : Addr}{u : Value}{o : Obj}{n : String}{vs : Array Value}{Q : Unit -> Shared -> Prop}(ho : s.heap.get? it = some o)(hc : o.cls = .type n)(hd : o.data = .fields vs)
    (hn : ["enumerate", "zip", "dict_itemiterator", "dict_reverseitemiterator", "odict_iterator", "itertools.zip_longest", "itertools.pairwise"].contains n = false) (hQ : Q () s) : wpAny M A (letOwnedTupleGo tg (.ref it) u) Q E s := by
  unfold letOwnedTupleGo
  cases tg<;>first
    |exact wpAny_pure hQ
    | (cases u<;>first
        | exact wpAny_pure hQ
        | (refine wpAny_bind (wpAny_load ho ?_)
           rw [hc, hd];show wpAny M A (if (["enumerate", "zip", "dict_itemiterator", "dict_reverseitemiterator", "odict_iterator", "itertools.zip_longest", "itertools.pairwise"].contains n && vs[0]? == some (rawInt _)) = true then _ else _) Q E s;rw [if_neg (by intro h; rw [hn, Bool.false_and] at h; cases h)];exact wpAny_pure hQ))
noncomputable def Itl(K:Fg)(a:Addr):It:=
 ⟨fun i H=>∃xs x,SqL K H a xs/\xs[i]?=some x,fun i H x H'=>H'=H/\∀xs,SqL K H a xs->xs[i]?=some x,fun i H=>∃xs,SqL K H a xs/\xs.length<=i⟩
noncomputable def Itt(K:Fg)(a:Addr):It:=
 ⟨fun i H=>∃xs x,SqT K H a xs/\xs[i]?=some x,fun i H x H'=>H'=H/\∀xs,SqT K H a xs->xs[i]?=some x,fun i H=>∃xs,SqT K H a xs/\xs.length<=i⟩
noncomputable def Itr(lo:Int)(n:Nat):It:=⟨fun i _=>i<n,fun i H x H'=>H'=H/\x= .int (lo+i),fun i _=>n<=i⟩
theorem ai2{P:Program}{w:World}{K:Fg}{tg:Expr}(a it:Addr):Turn P w K tg (Itl K a) [it] it (fun i h=>h.IsListIter it a i) where
 mem:=by simp
 obj:=fun i h st b hb=>by
  have e:b=it:=by simpa using hb
  subst e;obtain⟨o,e,c,d⟩:=st;exact⟨o,e,fun v z=>by rw[d]at z;cases z⟩
 keep:=fun i h h' st k=>st.at fun o e=>k it (by simp) o e
 item:=by
  intro X hP hw hK hc i Kp s σ H E I hf st hg;subst hP hw hK;obtain⟨xs,x,hq,hx⟩:=hg;obtain⟨its,rv,p,hz⟩:=I.list hq;obtain⟨u,hu,ru⟩:=rv.get hx;obtain⟨f0,f1,f2,f3,f4,f5⟩:=hf it (by simp);refine wpAny_pyNext_list_item st p.isList (x:=u) (by simpa using hu) fun h' st' sb=>?_;have I1:Inv X Kp σ H { s with heap:=h' }:=I.turned (t':=s.toks) (fun b o hb e=>(sb.2 b hb).trans e) f0 f1 f3 f4 f5;obtain⟨o,e,c,d⟩:=id st';exact⟨u,rfl,ah0 (s:={ s with heap:=h' }) e c d (by decide) ⟨x,H,I1,ru,⟨rfl,fun ys hy=>by rw[I.list_inj hy hq];exact hx⟩,st',fun b hb=>(hf b hb).1⟩⟩
 done:=by
  intro X hP hw hK hc i Kp s σ H E I hf st hg;subst hP hw hK;obtain⟨xs,hq,hx⟩:=hg;obtain⟨its,rv,p,hz⟩:=I.list hq;obtain⟨f0,f1,f2,f3,f4,f5⟩:=hf it (by simp);have hl:=rv.length;exact wpAny_pyNext_list_end (I.ok.hd hc) st p.isList (by simp;omega) fun h' eb=>⟨rfl,I.turned (t':=s.toks) (fun b o hb e=>eb b o hb e) f0 f1 f3 f4 f5⟩
 self:=fun _ _ _ _ _ st h=>wpAny_pyIter_listiter st h
theorem agV{P:Program}{w:World}{K:Fg}{tg:Expr}(a it:Addr):Turn P w K tg (Itt K a) [it] it (fun i h=>h.IsTupleIter it a i) where
 mem:=by simp
 obj:=fun i h st b hb=>by
  have e:b=it:=by simpa using hb
  subst e;obtain⟨o,e,c,d⟩:=st;exact⟨o,e,fun v z=>by rw[d]at z;cases z⟩
 keep:=fun i h h' st k=>st.at fun o e=>k it (by simp) o e
 item:=by
  intro X hP hw hK hc i Kp s σ H E I hf st hg;subst hP hw hK;obtain⟨xs,x,hq,hx⟩:=hg;obtain⟨its,rv,p,hz⟩:=I.tuple hq;obtain⟨u,hu,ru⟩:=rv.get hx;obtain⟨f0,f1,f2,f3,f4,f5⟩:=hf it (by simp);refine wpAny_pyNext_tuple_item st (show s.heap.IsTuple a its.toArray from p) (x:=u) (by simpa using hu) fun h' st' sb=>?_;have I1:Inv X Kp σ H { s with heap:=h' }:=I.turned (t':=s.toks) (fun b o hb e=>(sb.2 b hb).trans e) f0 f1 f3 f4 f5;obtain⟨o,e,c,d⟩:=id st';exact⟨u,rfl,ah0 (s:={ s with heap:=h' }) e c d (by decide) ⟨x,H,I1,ru,⟨rfl,fun ys hy=>by rw[I.tuple_inj hy hq];exact hx⟩,st',fun b hb=>(hf b hb).1⟩⟩
 done:=by
  intro X hP hw hK hc i Kp s σ H E I hf st hg;subst hP hw hK;obtain⟨xs,hq,hx⟩:=hg;obtain⟨its,rv,p,hz⟩:=I.tuple hq;obtain⟨f0,f1,f2,f3,f4,f5⟩:=hf it (by simp);have hl:=rv.length;exact wpAny_pyNext_tuple_end (I.ok.hd hc) st (show s.heap.IsTuple a its.toArray from p) (by simp;omega) fun h' eb=>⟨rfl,I.turned (t':=s.toks) (fun b o hb e=>eb b o hb e) f0 f1 f3 f4 f5⟩
 self:=fun _ _ _ _ _ st h=>wpAny_pyIter_tupleiter st h
theorem agW{P:Program}{w:World}{K:Fg}{tg:Expr}(it:Addr)(lo:Int)(n:Nat):Turn P w K tg (Itr lo n) [it] it (fun i h=>IsRangeIter h it (lo+(i:Nat)*1) ((n:Int)-(i:Nat)) 1) where
 mem:=by simp
 obj:=fun i h st b hb=>by
  have e:b=it:=by simpa using hb
  subst e
  exact⟨_,st,fun v z=>by
   have z':Data.fields _=Data.cell v:=z;cases z'⟩
 keep:=fun i h h' st k=>k it (by simp) _ st
 item:=by
  intro X hP hw hK hc i Kp s σ H E I hf st hg;subst hP hw hK;obtain⟨f0,f1,f2,f3,f4,f5⟩:=hf it (by simp);have W:=Walks.range (prog:=X.prog) (w:=X.w) (I.ok.hd hc) it lo 1 n;refine W.item i s _ _ hg st fun v h' tk hv st' kk=>?_;obtain⟨t,rfl⟩:=hv;have I1:Inv X Kp σ H { s with heap:=h',toks:=tk }:=I.turned (fun b o hb e=>kk b o (by simpa using hb) e) f0 f1 f3 f4 f5;refine⟨_,rfl,ah0 (s:={ s with heap:=h',toks:=tk }) (n:="range_iterator") st' rfl rfl (by decide) ⟨.int (lo+i),H,I1,⟨t,?_⟩,⟨rfl,rfl⟩,st',fun b hb=>(hf b hb).1⟩⟩;rw[Int.mul_one]
 done:=by
  intro X hP hw hK hc i Kp s σ H E I hf st hg;subst hP hw hK;obtain⟨f0,f1,f2,f3,f4,f5⟩:=hf it (by simp);exact wpAny_pyNext_range_end (I.ok.hd hc) st (by have:n<=i:=hg;omega) fun h' eb=>⟨rfl,I.turned (t':=s.toks) (fun b o hb e=>eb b o hb e) f0 f1 f3 f4 f5⟩
 self:=fun _ _ _ _ _ st h=>wpAny_pyIter_rangeiter st h
section
variable {X:Cx}{tg:Expr}
noncomputable def aqv(K:Fg)(tl:TE):TI:=fun σ H R=>tl σ H fun x H1=>∃a,x= .ref a/\(∃xs,SqL K H1 a xs)/\R (Itl K a) H1
noncomputable def aqw(K:Fg)(tl:TE):TI:=fun σ H R=>tl σ H fun x H1=>∃a,x= .ref a/\(∃xs,SqT K H1 a xs)/\R (Itt K a) H1
theorem amW{l:Expr}{tl:TE}(hl:PE X l tl):PI X tg l (aqv X.K tl):=by
 intro Kp s σ H R I h;refine thn (hl Kp s σ H _ I h) fun v s1 ⟨x,H1,I1,r1,q1⟩=>?_;obtain⟨a,e,⟨xs,hq⟩,q⟩:=q1;subst e;cases r1;obtain⟨its,rv,p,hz⟩:=I1.list hq;refine wpAny_pyIter_list p.isList ?_;refine⟨s1.heap.objs.size,[s1.heap.objs.size],_,_,H1,rfl,I1.kept (t':=s1.toks) fun b o e=>Heap.get?_push_of_some _ e,ai2 a _,⟨_,Heap.get?_push_size _ rfl,rfl,rfl⟩,fun b hb=>?_,q⟩;have e:b=s1.heap.objs.size:=by simpa using hb
 subst e;exact I1.fpOk (Nat.le_refl _) (I1.hok.fresh (Nat.le_refl _))
theorem ao4{l:Expr}{tl:TE}(hl:PE X l tl):PI X tg l (aqw X.K tl):=by
 intro Kp s σ H R I h;refine thn (hl Kp s σ H _ I h) fun v s1 ⟨x,H1,I1,r1,q1⟩=>?_;obtain⟨a,e,⟨xs,hq⟩,q⟩:=q1;subst e;cases r1;obtain⟨its,rv,p,hz⟩:=I1.tuple hq;refine wpAny_pyIter_tuple (show s1.heap.IsTuple a its.toArray from p) ?_;refine⟨s1.heap.objs.size,[s1.heap.objs.size],_,_,H1,rfl,I1.kept (t':=s1.toks) fun b o e=>Heap.get?_push_of_some _ e,agV a _,⟨_,Heap.get?_push_size _ rfl,rfl,rfl⟩,fun b hb=>?_,q⟩;have e:b=s1.heap.objs.size:=by simpa using hb
 subst e;exact I1.fpOk (Nat.le_refl _) (I1.hok.fresh (Nat.le_refl _))
theorem ako{Kp:List (Addr×Obj)}{σ:St}{H:Hp}{s:Shared}{R:It->Hp->Prop}{E:Value->SP0}{lo hi:Int}{t u v:Tok}{tk:Nat}(I:Inv X Kp σ H s)(h1:-(2 ^ 62)<=lo)(h2:lo<2 ^ 62)(h3:-(2 ^ 62)<=hi)(h4:hi<2 ^ 62)
  (q:R (Itr lo (hi-lo).toNat) H):wpAny (model X.prog X.w) X.A (pyIter (.ref s.heap.objs.size)) (PIE X Kp σ tg R) E { s with heap:=s.heap.push { cls:= .type "range",data:= .fields #[.int lo t,.int hi u,.int 1 v] },toks:=tk }:=by
 refine wpAny_pyIter_range (IsRange.new ..) (small_one h1 h2 h3 h4) ?_;have I1:Inv X Kp σ H { s with heap:=s.heap.push { cls:= .type "range",data:= .fields #[.int lo t,.int hi u,.int 1 v] },toks:=tk }:=I.kept fun b o e=>Heap.get?_push_of_some _ e
 refine⟨(s.heap.push { cls:= .type "range",data:= .fields #[.int lo t,.int hi u,.int 1 v] }).objs.size,[(s.heap.push { cls:= .type "range",data:= .fields #[.int lo t,.int hi u,.int 1 v] }).objs.size],_,_,H,rfl,
  I1.kept (t':=tk) fun b o e=>Heap.get?_push_of_some _ e,agW _ lo (hi - lo).toNat,?_,fun b hb=>?_,q⟩
 ·have e1:lo+((0:Nat):Int)*1=lo:=by simp
  have e2:(((hi-lo).toNat:Nat):Int)-((0:Nat):Int)=Builtin.Range.rangeSize lo hi 1:=by rw[rangeSize_one];split<;>omega
  show IsRangeIter _ _ (lo+((0:Nat):Int)*1) ((((hi-lo).toNat:Nat):Int)-((0:Nat):Int)) 1;rw[e1,e2];exact Heap.get?_push_size _ rfl
 ·have e:b=(s.heap.push { cls:= .type "range",data:= .fields #[.int lo t,.int hi u,.int 1 v] }).objs.size:=by simpa using hb
  subst e;exact I1.fpOk (Nat.le_refl _) (I1.hok.fresh (Nat.le_refl _))
noncomputable def aqx(ta:TA):TI:=fun σ H R=>ta σ H fun vs H1=>∃j:Int,vs=[.int j]/\-(2 ^ 62)<=j/\j<2 ^ 62/\R (Itr 0 j.toNat) H1
theorem aa6{a:Expr}{ta:TA}{p pos:Pos}(hg:Gl X "range")(hm:X.mg "range"=none)(ha:PA X [a] ta)(hs:starEach [a] X.env=[(false,eval a X.env)]:=by rfl):PI X tg (.Call (.Name "range" p) [a] [] pos) (aqx ta):=by
 intro Kp s σ H R I h;refine Call_ (QM I hg hm boot_range (PyProof.Rows.callWith_type1 (thn (ha pos Kp s σ H _ I h) fun us s1 ⟨vs,H1,I1,r1,q1⟩=>?_) hs rfl));obtain⟨j,e,q1,q2,q⟩:=q1;subst e;cases r1 with
 | cons r rr=>
  cases rr;obtain⟨t,rfl⟩:=r;exact call_range_1 (ako I1 (by omega) (by omega) q1 q2 (by simpa using q))
noncomputable def aqy(wi:TI)(g:TG)(tb:TS):TS:=fun D σ H=>wi σ H fun J H1=>∃W:Nat->Nat->St->Hp->Prop,(∃m,W 0 m σ H1)/\∀i m σ H,W i m σ H->
 (J.stop i H/\D.nx σ H)∨(J.go i H/\∃N:St->Hp->Prop,(∀σ' H',N σ' H'->∃m',m' < m/\W (i+1) m' σ' H')/\∀x H',J.yld i H x H'->g x σ H' fun σ2 H2=>tb { D with nx:=N,ct:=N,bk:=D.nx } σ2 H2)
noncomputable def Z0(fp:List Addr)(h:Heap):List (Addr×Obj):=fp.filterMap fun b=>(h.get? b).map fun o=>(b,o)
theorem qU{fp:List Addr}{h:Heap}{b:Addr}{o:Obj}(hb:b∈fp)(e:h.get? b=some o):(b,o)∈Z0 fp h:=List.mem_filterMap.mpr ⟨b,hb,by rw[e];rfl⟩
theorem ai3{fp:List Addr}{h:Heap}{p:Addr×Obj}(hp:p∈Z0 fp h):p.1∈fp/\h.get? p.1=some p.2:=by
 obtain⟨b,hb,e⟩:=List.mem_filterMap.mp hp;cases q:h.get? b with
 |none=>rw[q]at e;cases e
 | some o=>
  rw[q]at e;have e':(b,o)=p:=Option.some.inj e;subst e';exact⟨hb,q⟩
theorem Inv.pinned{Kp:List (Addr×Obj)}{σ:St}{H:Hp}{s:Shared}{fp:List Addr}(I:Inv X Kp σ H s)(hf:∀b∈fp,aa5 X Kp H b)(ho:∀b∈fp,∃o,s.heap.get? b=some o/\∀v,o.data ≠ .cell v):Inv X (Kp++Z0 fp s.heap) σ H s:=
 I.pins_of fun p hp=>(List.mem_append.mp hp).elim (fun z=>I.pin p (List.mem_append_right _ z)) fun z=>by
  obtain⟨hb,e⟩:=ai3 z;obtain⟨f0,f1,f2,_⟩:=hf p.1 hb;obtain⟨o,e',d⟩:=ho p.1 hb;rw[e]at e';cases e';exact⟨e,f0,f1,f2,d⟩
theorem Inv.unpinned{Kp pl:List (Addr×Obj)}{σ:St}{H:Hp}{s:Shared}(I:Inv X (Kp++pl) σ H s):Inv X Kp σ H s:=I.pins_of fun p hp=>I.pin p (List.mem_append_right _ (List.mem_append_left _ hp))
theorem aa7{iter:Expr}{body:List Stmt}{wi:TI}{g:TG}{tb:TS}{pos:Pos}(hp:PassesOwn (model X.prog X.w) X.A X.env X.xe)(hc:X.calm=true)(hi:PI X tg iter wi)(hg:PG X tg g)(hb:PSs X body tb)
  (hs:∀x,foldedSetIterable iter X.env x=pure x:=by intro _;rfl):PS X (.For tg iter body [] pos) (aqy wi g tb):=by
 intro Kp s σ H D I h;refine wpAny_For (thn (hi Kp s σ H _ I h) fun v s1 h1=>thn h1 fun itv s2 h2=>?_) hs;obtain⟨it,fp,tn,J,H2,e,I2,T,st2,f2,W,⟨m0,w0⟩,turn⟩:=h2;subst e;have stat:∀{H':Hp},(∀b∈fp,H' b=none)->∀b∈fp,aa5 X Kp H' b:=fun hn b hb=>⟨hn b hb,(f2 b hb).2⟩;refine codeAny_forLoop_any (fun n s'=>∃i σ' H',Inv X Kp σ' H' s'/\tn i s'.heap/\(∀b∈fp,H' b=none)/\W i n σ' H') ?_ m0 ⟨0,σ,H2,I2,st2,fun b hb=>(f2 b hb).1,w0⟩
 rintro n s3 ⟨i,σ3,H3,I3,st3,fr3,w3⟩
 rcases turn i n σ3 H3 w3 with ⟨stop,qn⟩ | ⟨go,N,hN,step⟩
 ·refine wpAny_passesOwn hp (thn (T.done X rfl rfl rfl hc i Kp s3 σ3 H3 X.xe I3 (stat fr3) st3 stop) fun r s4 ⟨hr,I4⟩=>?_)
  subst hr;exact wpAny_execs_nil ⟨σ3,H3,I4,qn⟩
 ·refine wpAny_passesOwn hp (thn (T.item X rfl rfl rfl hc i Kp s3 σ3 H3 X.xe I3 (stat fr3) st3 go) fun r s4 ⟨u,hr,h4⟩=>?_)
  subst hr;refine wpAny_passesOwn hp (thn h4 fun _ s5 ⟨x,H5,I5,r5,y5,st5,fr5⟩=>?_);have I5':=I5.pinned (stat fr5) (T.obj _ _ st5);refine wpAny_passesOwn hp (thn (hg _ s5 σ3 H5 x u _ I5' r5 (step x H5 y5)) fun _ s6 ⟨σ6,H6,I6,q6⟩=>?_);refine wpAny_passesOwn hp (thn (hb _ s6 σ6 H6 _ I6 q6) fun f s7 q7=>?_)
  have again:∀{σ7:St} {H7:Hp},Inv X (Kp++Z0 fp s5.heap) σ7 H7 s7->N σ7 H7->∃m,m<n/\∃i σ' H',Inv X Kp σ' H' s7/\tn i s7.heap/\(∀b∈fp,H' b=none)/\W i m σ' H':=fun {σ7 H7} I7 n7=>by
   obtain⟨m',hm,w7⟩:=hN σ7 H7 n7;refine⟨m',hm,i+1,σ7,H7,I7.unpinned,T.keep _ _ _ st5 fun b hb o e=>(I7.pin (b,o) (List.mem_append_right _ (List.mem_append_right _ (qU hb e)))).1,fun b hb=>?_,w7⟩;obtain⟨o,e,d⟩:=T.obj _ _ st5 b hb;exact(I7.pin (b,o) (List.mem_append_right _ (List.mem_append_right _ (qU hb e)))).2.1
  cases f with
  |next=>obtain⟨σ7,H7,I7,n7⟩:=q7;exact again I7 n7
  |cont=>obtain⟨σ7,H7,I7,n7⟩:=q7;exact again I7 n7
  |brk=>obtain⟨σ7,H7,I7,q7⟩:=q7;exact⟨σ7,H7,I7.unpinned,q7⟩
  |ret v=>obtain⟨x7,σ7,H7,I7,r7,q7⟩:=q7;exact⟨x7,σ7,H7,I7.unpinned,r7,q7⟩
end
theorem adL{lo:Int}{n:Nat}{g:TG}{tb:TS}{D:Ends}{σ:St}{H:Hp}(Pv:Nat->St->Hp->Prop)(h0:Pv 0 σ H)
  (hs:∀i σ H,i<n->Pv i σ H->g (.int (lo+i)) σ H fun σ2 H2=>tb { D with nx:=Pv (i+1),ct:=Pv (i+1),bk:=D.nx } σ2 H2) (hd:∀σ H,Pv n σ H->D.nx σ H):
  ∃W:Nat->Nat->St->Hp->Prop,(∃m,W 0 m σ H)/\∀i m σ H,W i m σ H->
   ((Itr lo n).stop i H/\D.nx σ H)∨((Itr lo n).go i H/\∃N:St->Hp->Prop,(∀σ' H',N σ' H'->∃m',m' < m/\W (i+1) m' σ' H')/\∀x H',(Itr lo n).yld i H x H'->g x σ H' fun σ2 H2=>tb { D with nx:=N,ct:=N,bk:=D.nx } σ2 H2):=by
 refine⟨fun i m σ H=>m=n-i/\i<=n/\Pv i σ H,⟨n,by simp,Nat.zero_le _,h0⟩,?_⟩
 rintro i m σ H ⟨rfl,hi,p⟩
 by_cases hlt:i<n
 ·refine .inr ⟨hlt,Pv (i+1),fun σ' H' p'=>⟨n-(i+1),by omega,rfl,hlt,p'⟩,fun x H' y=>?_⟩
  obtain⟨e,y⟩:=y;subst e y;exact hs i σ _ hlt p
 ·have e:i=n:=by omega
  subst e;exact .inl ⟨Nat.le_refl _,hd σ H p⟩
noncomputable abbrev R2:=V->V->Hp->VK->Prop
noncomputable def OpR(X:Cx)(f:Value->Value->Sem Value)(r:R2):Prop:=
 ∀(Kp:List (Addr×Obj)) (s:Shared) (σ:St) (H:Hp) (x y:V) (v u:Value) (Q:VK),Inv X Kp σ H s->jV x v->jV y u->r x y H Q->
  wpAny (model X.prog X.w) X.A (f v u) (EP X Kp σ Q) X.xe s
noncomputable def UnR(X:Cx)(f:Value->Sem Value)(r:V->Hp->VK->Prop):Prop:=
 ∀(Kp:List (Addr×Obj)) (s:Shared) (σ:St) (H:Hp) (x:V) (v:Value) (Q:VK),Inv X Kp σ H s->jV x v->r x H Q->
  wpAny (model X.prog X.w) X.A (f v) (EP X Kp σ Q) X.xe s
noncomputable def JD(X:Cx)(f:Value)(r:List V->Hp->VK->Prop):Prop:=
 ∀(Kp:List (Addr×Obj)) (s:Shared) (σ:St) (H:Hp) (xs:List V) (us:List Value) (Q:VK),Inv X Kp σ H s->jH xs us->r xs H Q->
  wpAny (model X.prog X.w) X.A (call f us) (EP X Kp σ Q) X.xe s
noncomputable def ar0(X:Cx)(r:V->Hp->(Bool->Hp->Prop)->Prop):Prop:=
 ∀(Kp:List (Addr×Obj)) (s:Shared) (σ:St) (H:Hp) (x:V) (v:Value) (Q:Bool->Hp->Prop),Inv X Kp σ H s->jV x v->r x H Q->
  wpAny (model X.prog X.w) X.A (truthy v) (TP X Kp σ Q) X.xe s
noncomputable def tOp(r:R2)(ta tb:TE):TE:=fun σ H Q=>ta σ H fun x H1=>tb σ H1 fun y H2=>r x y H2 Q
noncomputable def tUn(r:V->Hp->VK->Prop)(ta:TE):TE:=fun σ H Q=>ta σ H fun x H1=>r x H1 Q
noncomputable def rI(C:Int->Int->Prop)(g:Int->Int->V):R2:=fun x y H Q=>∃i j,x= .int i/\y= .int j/\C i j/\Q (g i j) H
noncomputable def rI0(g:Int->Int->V):R2:=fun x y H Q=>∃i j,x= .int i/\y= .int j/\Q (g i j) H
noncomputable def rU(g:Int->V):V->Hp->VK->Prop:=fun x H Q=>∃i,x= .int i/\Q (g i) H
section
variable {X:Cx}{a b c:Expr}{ta tb tc:TE}{pos:Pos}
theorem ao5(ha:PE X a ta)(hb:PE X b tb){Kp:List (Addr×Obj)}{s:Shared}{σ:St}{H:Hp}{R:V->V->Hp->Prop}(I:Inv X Kp σ H s)
  (h:ta σ H fun x H1=>tb σ H1 fun y H2=>R x y H2) {Q:Value->SP0} {f:Value->Value->Sem Value}
  (hf:∀v u s2 x y H2,Inv X Kp σ H2 s2->jV x v->jV y u->R x y H2->wpAny (model X.prog X.w) X.A (f v u) Q X.xe s2):
  wpAny (model X.prog X.w) X.A (eval a X.env) (fun v s₁=>wpAny (model X.prog X.w) X.A (eval b X.env) (fun u s₂=>wpAny (model X.prog X.w) X.A (f v u) Q X.xe s₂) X.xe s₁) X.xe s:=by
 refine thn (ha Kp s σ H _ I h) fun v s1 ⟨x,H1,I1,r1,q1⟩=>?_;refine thn (hb Kp s1 σ H1 _ I1 q1) fun u s2 ⟨y,H2,I2,r2,q2⟩=>?_;exact hf v u s2 x y H2 I2 r1 r2 q2
theorem aqz{op:Operator}{r:R2}(ho:OpR X (binaryOp op) r)(ha:PE X a ta)(hb:PE X b tb):PE X (.BinOp a op b pos) (tOp r ta tb):=by
 intro Kp s σ H Q I h;exact wpAny_BinOp (ao5 ha hb I h fun v u s2 x y H2 I2 rx ry q=>ho Kp s2 σ H2 x y v u Q I2 rx ry q)
theorem aoz{op:UnaryOp}{r:V->Hp->VK->Prop}(ho:UnR X (unaryOp op) r)(ha:PE X a ta):PE X (.UnaryOp op a pos) (tUn r ta):=by
 intro Kp s σ H Q I h;exact UnaryOp_ (thn (ha Kp s σ H _ I h) fun v s1 ⟨x,H1,I1,r1,q1⟩=>ho Kp s1 σ H1 x v Q I1 r1 q1)
theorem opI{f:Value->Value->Sem Value}{C:Int->Int->Prop}{g:Int->Int->Int}
  (rule:∀(i j:Int) (t u:Tok) (s:Shared) (Q:Value->SP0) (E:Value->SP0),C i j->Q (.int (g i j) s.toks) { s with toks:=s.toks+1 }->wpAny (model X.prog X.w) X.A (f (.int i t) (.int j u)) Q E s):
  OpR X f (rI C fun i j=> .int (g i j)):=by
 intro Kp s σ H x y v u Q I rx ry h;obtain⟨i,j,rfl,rfl,hc,q⟩:=h;obtain⟨t,rfl⟩:=rx;obtain⟨t',rfl⟩:=ry;exact rule i j t t' s _ _ hc ⟨.int (g i j),H,I.tok _,⟨_,rfl⟩,q⟩
theorem aqA{f:Value->Value->Sem Value}{g:Int->Int->Int}
  (rule:∀(i j:Int) (t u:Tok) (s:Shared) (Q:Value->SP0) (E:Value->SP0),Q (.int (g i j) s.toks) { s with toks:=s.toks+1 }->wpAny (model X.prog X.w) X.A (f (.int i t) (.int j u)) Q E s):
  OpR X f (rI0 fun i j=> .int (g i j)):=by
 intro Kp s σ H x y v u Q I rx ry h;obtain⟨i,j,rfl,rfl,q⟩:=h;obtain⟨t,rfl⟩:=rx;obtain⟨t',rfl⟩:=ry;exact rule i j t t' s _ _ ⟨.int (g i j),H,I.tok _,⟨_,rfl⟩,q⟩
theorem amX{f:Value->Value->Sem Value}{g:Int->Int->Bool}
  (rule:∀(i j:Int) (t u:Tok) (s:Shared) (Q:Value->SP0) (E:Value->SP0),Q (.bool (g i j)) s->wpAny (model X.prog X.w) X.A (f (.int i t) (.int j u)) Q E s):
  OpR X f (rI0 fun i j=> .bl (g i j)):=by
 intro Kp s σ H x y v u Q I rx ry h;obtain⟨i,j,rfl,rfl,q⟩:=h;obtain⟨t,rfl⟩:=rx;obtain⟨t',rfl⟩:=ry;exact rule i j t t' s _ _ ⟨.bl (g i j),H,I,rfl,q⟩
noncomputable def ar1(i j:Int):Prop:=0<j/\j<1073741824
noncomputable def ao6(i j:Int):Prop:=(-(2 ^ 64)<i/\i<2 ^ 64)∨(-(2 ^ 64)<j/\j<2 ^ 64)
theorem ao6.ok{i j:Int}(h:ao6 i j):IntMulOk i j:=by
 rcases h with ⟨h1,h2⟩ | ⟨h1,h2⟩
 ·exact .of_left (intBits_le_64 h1 h2)
 ·exact .of_right (intBits_le_64 h1 h2)
theorem ao7:OpR X (binaryOp .Add) (rI0 fun i j=> .int (i+j)):=aqA fun _ _ _ _ _ _ _ q=>add_int q
theorem ao8:OpR X (binaryOp .Sub) (rI0 fun i j=> .int (i-j)):=aqA fun _ _ _ _ _ _ _ q=>sub_int q
theorem ao9:OpR X (binaryOp .Mult) (rI ao6 fun i j=> .int (i*j)):=opI fun _ _ _ _ _ _ _ hc q=>mul_int q hc.ok
theorem amY:OpR X (binaryOp .FloorDiv) (rI ar1 fun i j=> .int (i / j)):=opI fun i j _ _ _ _ _ hc q=>by
 have h1:(0:Int)<j:=hc.1;have h2:j<1073741824:=hc.2;exact floordiv_int (by omega) (by rw[Int.fdiv_eq_ediv_of_nonneg i (by omega)];exact q) (.inl (PyProof.noPylong_small (by omega)))
theorem apa:OpR X (binaryOp .Mod) (rI (fun _ j=>0<j) fun i j=> .int (i % j)):=opI fun i j _ _ _ _ _ hc q=>by
 have h1:(0:Int)<j:=hc;exact mod_int' (by omega) (by rw[Int.fmod_eq_emod_of_nonneg i (by omega)];exact q)
theorem unI{f:Value->Sem Value}{g:Int->Int}
  (rule:∀(i:Int) (t:Tok) (s:Shared) (Q:Value->SP0) (E:Value->SP0),Q (.int (g i) s.toks) { s with toks:=s.toks+1 }->wpAny (model X.prog X.w) X.A (f (.int i t)) Q E s):
  UnR X f (rU fun i=> .int (g i)):=by
 intro Kp s σ H x v Q I rx h;obtain⟨i,rfl,q⟩:=h;obtain⟨t,rfl⟩:=rx;exact rule i t s _ _ ⟨.int (g i),H,I.tok _,⟨_,rfl⟩,q⟩
theorem akp:UnR X (unaryOp .USub) (rU fun i=> .int (-i)):=unI fun _ _ _ _ _ q=>neg_int q
end
section
variable {X:Cx}{a b c:Expr}{ta tb tc:TE}{pos:Pos}
theorem aqB:OpR X (compareOp .Lt) (rI0 fun i j=> .bl (decide (i<j))):=amX fun _ _ _ _ _ _ _ q=>lt_int q
theorem aqC:OpR X (compareOp .LtE) (rI0 fun i j=> .bl (decide (i<=j))):=amX fun _ _ _ _ _ _ _ q=>le_int q
theorem aqD:OpR X (compareOp .Gt) (rI0 fun i j=> .bl (decide (j<i))):=amX fun _ _ _ _ _ _ _ q=>gt_int q
theorem aqE:OpR X (compareOp .GtE) (rI0 fun i j=> .bl (decide (j<=i))):=amX fun _ _ _ _ _ _ _ q=>ge_int q
theorem OpR.or{f:Value->Value->Sem Value}{r r':R2}(h:OpR X f r)(h':OpR X f r'):OpR X f (fun x y H Q=>r x y H Q∨r' x y H Q):=by
 intro Kp s σ H x y v u Q I rx ry q;rcases q with q | q
 ·exact h Kp s σ H x y v u Q I rx ry q
 ·exact h' Kp s σ H x y v u Q I rx ry q
theorem aey(b:Expr){op:CmpOp}(h:op ≠ .In:=by decide)(h2:op ≠ .NotIn:=by decide):behindInMarks op b=false:=by
 have e1:(op==CmpOp.In)=false:=by cases op<;>first|rfl|exact absurd rfl h
 have e2:(op==CmpOp.NotIn)=false:=by cases op<;>first|rfl|exact absurd rfl h2
 cases b<;>simp[behindInMarks,e1,e2]
theorem ah1{op:CmpOp}{r:R2}(ho:OpR X (compareOp op) r)(ha:PE X a ta)(hb:PE X b tb)(hm:behindInMarks op b=false):PE X (.Compare a [op] [b] pos) (tOp r ta tb):=by
 intro Kp s σ H Q I h;exact wpAny_Compare1 (ao5 ha hb I h fun v u s2 x y H2 I2 rx ry q=>ho Kp s2 σ H2 x y v u Q I2 rx ry q) hm
noncomputable def aoA(t:TE):TT:=fun σ H Q=>t σ H fun x H'=>∃k,x= .bl k/\Q k H'
theorem ah2{op:CmpOp}{r:R2}(ho:OpR X (compareOp op) r)(ha:PE X a ta)(hb:PE X b tb)(hm:behindInMarks op b=false):PT X (.Compare a [op] [b] pos) (aoA (tOp r ta tb)):=by
 intro Kp s σ H Q I h
 refine wpAny_isTrue_Compare1 (thn (ha Kp s σ H _ I h) fun v s1 ⟨x,H1,I1,r1,q1⟩=>thn (hb Kp s1 σ H1 _ I1 q1) fun u s2 ⟨y,H2,I2,r2,q2⟩=>
  thn (ho Kp s2 σ H2 x y v u _ I2 r1 r2 q2) fun c s3 ⟨z,H3,I3,r3,k,e,q3⟩=>?_) hm
 subst e;cases r3;exact wpAny_truthy_bool ⟨H3,I3,q3⟩
noncomputable def agX(r r':R2)(ta tb tc:TE):TE:=fun σ H Q=>ta σ H fun x H1=>tb σ H1 fun y H2=>r x y H2 fun z H3=>∃k,z= .bl k/\
 (if k=true then tc σ H3 fun w' H4=>r' y w' H4 Q else Q (.bl false) H3)
theorem akq{op op':CmpOp}{r r':R2}(ho:OpR X (compareOp op) r)(ho':OpR X (compareOp op') r')(ha:PE X a ta)(hb:PE X b tb)(hc:PE X c tc)
  (hm:lastMarks [op,op'] [b,c]=false:=by with_unfolding_all rfl):PE X (.Compare a [op,op'] [b,c] pos) (agX r r' ta tb tc):=by
 intro Kp s σ H Q I h
 refine Compare_chain (thn (ha Kp s σ H _ I h) fun v s1 ⟨x,H1,I1,r1,q1⟩=>chain_link (thn (hb Kp s1 σ H1 _ I1 q1) fun u s2 ⟨y,H2,I2,r2,q2⟩=>
  thn (ho Kp s2 σ H2 x y v u _ I2 r1 r2 q2) fun d s3 ⟨z,H3,I3,r3,k,e,q3⟩=>?_)) hm
 subst e;cases r3;refine wpAny_truthy_bool ?_;cases k with
 |false=>exact ite_ff ⟨.bl false,H3,I3,rfl,q3⟩
 |true=>exact ite_tt (chain_last (thn (hc Kp s3 σ H3 _ I3 q3) fun w' s4 ⟨z',H4,I4,r4,q4⟩=>ho' Kp s4 σ H4 y z' u w' Q I4 r2 r4 q4))
theorem akr{op op':CmpOp}{r r':R2}(ho:OpR X (compareOp op) r)(ho':OpR X (compareOp op') r')(ha:PE X a ta)(hb:PE X b tb)(hc:PE X c tc)
  (hm:lastMarks [op,op'] [b,c]=false:=by with_unfolding_all rfl):PT X (.Compare a [op,op'] [b,c] pos) (aoA (agX r r' ta tb tc)):=by
 intro Kp s σ H Q I h
 refine isTrue_chain (thn (ha Kp s σ H _ I h) fun v s1 ⟨x,H1,I1,r1,q1⟩=>test_link (thn (hb Kp s1 σ H1 _ I1 q1) fun u s2 ⟨y,H2,I2,r2,q2⟩=>
  thn (ho Kp s2 σ H2 x y v u _ I2 r1 r2 q2) fun d s3 ⟨z,H3,I3,r3,k,e,q3⟩=>?_)) hm
 subst e;cases r3;refine wpAny_truthy_bool ?_;cases k with
 | false=>
  obtain⟨k',e',q'⟩:=q3;cases e';exact ite_ff ⟨H3,I3,q'⟩
 | true=>
  refine ite_tt (test_last (thn (hc Kp s3 σ H3 _ I3 q3) fun w' s4 ⟨z',H4,I4,r4,q4⟩=>thn (ho' Kp s4 σ H4 y z' u w' _ I4 r2 r4 q4) fun d' s5 ⟨z2,H5,I5,r5,k2,e2,q5⟩=>?_));subst e2;cases r5;exact wpAny_truthy_bool ⟨H5,I5,q5⟩
noncomputable def ar2(K:Fg)(x:V)(H:Hp)(k:Bool):Prop:=
 match x with
 |.non=>k=false
 |.bl b=>k=b
 |.int i=>k=(i != 0)
 |.str y=>y.length<=sizeLine/\k=((y.length:Int) != 0)
 |.byt y=>y.size<=sizeLine/\k=((y.size:Int) != 0)
 |.ref p=>(∃xs,SqL K H p xs/\k=!xs.isEmpty)∨(∃xs,SqT K H p xs/\k=!xs.isEmpty)∨∃kvs,H p=some (.dK kvs)/\k=!kvs.isEmpty
 |_=>False
theorem agY{κ:Type}{kvs:List (κ×V)}{vs:List (κ×Value)}(r:KV kvs vs):(!vs.isEmpty)=!kvs.isEmpty:=by
 cases r<;>rfl
theorem acC{xs:List V}{its:List Value}(r:jH xs its):(!its.toArray.isEmpty)=!xs.isEmpty:=by
 cases r<;>simp
theorem acD:(sizeLine:Nat)<2 ^ 63:=by rw[sizeLine_eq];decide
theorem apb:ar0 X (fun x H Q=>∃k,ar2 X.K x H k/\Q k H):=by
 intro Kp s σ H x v Q I rx h;obtain⟨k,e,q⟩:=h;have hl:=acD;have hs:sizeLine=16777216:=sizeLine_eq;cases x with
 | non=>
  cases rx;have e':k=false:=e;subst e';exact truthy_none ⟨H,I,q⟩
 | bl b=>
  cases rx;have e':k=b:=e;subst e';exact wpAny_truthy_bool ⟨H,I,q⟩
 | int i=>
  obtain⟨t,rfl⟩:=rx;have e':k=(i != 0):=e;subst e';exact PySem.P.truthy_int ⟨H,I,q⟩
 | str y=>
  obtain⟨t,rfl⟩:=rx;obtain⟨hy,e'⟩:y.length<=sizeLine/\k=((y.length:Int) != 0):=e;subst e';exact PySem.P.truthy_str (by omega) ⟨H,I.tok _,q⟩
 | byt y=>
  obtain⟨t,rfl⟩:=rx;obtain⟨hy,e'⟩:y.size<=sizeLine/\k=((y.size:Int) != 0):=e;subst e';exact PySem.W.truthy_bytes (by omega) ⟨H,I.tok _,q⟩
 | ref p=>
  cases rx;have e':(∃xs,SqL X.K H p xs/\k=!xs.isEmpty)∨(∃xs,SqT X.K H p xs/\k=!xs.isEmpty)∨∃kvs,H p=some (.dK kvs)/\k=!kvs.isEmpty:=e;rcases e' with ⟨xs,hx,e'⟩ | ⟨xs,hx,e'⟩ | ⟨kvs,hx,e'⟩
  ·subst e'
   obtain⟨its,r,pl,hz⟩:=I.list hx;have hlen:=r.length;exact wpAny_truthy_list pl.isList (by simp only[List.size_toArray];omega) ⟨H,I.tok _,by rw[acC r];exact q⟩
  ·subst e'
   obtain⟨its,r,pl,hz⟩:=I.tuple hx;have hlen:=r.length;exact truthy_tuple pl (by simp only[List.size_toArray];omega) ⟨H,I.tok _,by rw[acC r];exact q⟩
  ·subst e'
   obtain⟨hz,hS,vs,r,m⟩:kvs.length<=sizeLine/\(p==sysModules)=false/\∃vs,KV kvs vs/\s.heap.DictOf (aah X.prog X.w) p vs:=I.hok p _ hx;have hlen:kvs.length=vs.length:=Paired.length r;exact wpAny_truthy_dict hS m (by omega) ⟨H,I.tok _,by rw[agY r];exact q⟩
 |_=>exact(show False from e).elim
theorem adM{x:V}{us:List Value}(r:jH [x] us):∃u,us=[u]/\jV x u:=by
 cases r with
 |cons r1 r2=>cases r2;exact⟨_,rfl,r1⟩
theorem ah3{x y:V}{us:List Value}(r:jH [x,y] us):∃u w',us=[u,w']/\jV x u/\jV y w':=by
 cases r with
 | cons r1 r2=>
  cases r2 with
  |cons r3 r4=>cases r4;exact⟨_,_,rfl,r1,r3⟩
theorem ai4(hc:X.calm=true):JD X (.builtin "max") (fun xs H Q=>∃i j,xs=[.int i,.int j]/\Q (.int (if j>i then j else i)) H):=by
 intro Kp s σ H xs us Q I r h;obtain⟨i,j,rfl,q⟩:=h;obtain⟨u,w',rfl,⟨t,rfl⟩,⟨t',rfl⟩⟩:=ah3 r;refine max_two_ints (I.ok.hd hc) fun h' tk k=>⟨_,H,I.kept k,?_,q⟩;by_cases hj:j>i
 ·rw[if_pos hj,if_pos hj];exact⟨_,rfl⟩
 ·rw[if_neg hj,if_neg hj];exact⟨_,rfl⟩
theorem ai5(hc:X.calm=true):JD X (.builtin "min") (fun xs H Q=>∃i j,xs=[.int i,.int j]/\Q (.int (if j<i then j else i)) H):=by
 intro Kp s σ H xs us Q I r h;obtain⟨i,j,rfl,q⟩:=h;obtain⟨u,w',rfl,⟨t,rfl⟩,⟨t',rfl⟩⟩:=ah3 r;refine min_two_ints (I.ok.hd hc) fun h' tk k=>⟨_,H,I.kept k,?_,q⟩;by_cases hj:j<i
 ·rw[if_pos hj,if_pos hj];exact⟨_,rfl⟩
 ·rw[if_neg hj,if_neg hj];exact⟨_,rfl⟩
end
structure ObjM(h:Heap)(x dx C:Addr)(mA:SV):Prop where
 obj:h.get? x=some (PySem.W.instObj C dx)
 ns:h.Ns1 dx mA
 ne:dx≠x
theorem ai6{h:Heap}{dx:Addr}{mA:SV}(n:h.Ns1 dx mA):∃od,h.get? dx=some od/\∀name,PySem.W.lookIn name od=some (mA name):=by
 obtain⟨o,es,ep,ho,hd,hk,_,hm⟩:=n;refine⟨o,ho,fun name=>?_⟩;have e:=hm name;unfold nsFind findBy at e;rw[←Array.find?_toList]at e;unfold PySem.W.lookIn;rw[hd];dsimp only;split
 ·rename_i y q
  rw[q]at e;exact congrArg some e
 ·rename_i q
  rw[q]at e
  have a:es.toList.any (·.refKey)=false:=by
   rw[List.any_eq_false];intro y hy;obtain⟨z,t,hkey⟩:=hk y (Array.mem_toList_iff.mp hy);simp[DictEntry.refKey,hkey]
  have a':¬ es.toList.any (·.refKey)=true:=by rw[a];exact Bool.false_ne_true
  rw[if_neg a'];exact congrArg some e
theorem ObjM.look{h:Heap}{x dx C:Addr}{mA:SV}(I:ObjM h x dx C mA):∃od,PySem.W.InstAt h x (PySem.W.instObj C dx) C (some od)/\∀name,PySem.W.lookIn name od=some (mA name):=
 let ⟨od,ho,hl⟩:=ai6 I.ns
 ⟨od,⟨I.obj,rfl,rfl,ho⟩,hl⟩
section
variable {prog:Program}{w:World}{A:Around}{E:Value->SP0}{s:Shared}{K:Fg}{x dx C f:Addr}{mA:SV}{name:Str}{v:Value}
theorem amZ{expr:Bool}{Q:Value->SP0}(X:K.In s.heap)(I:ObjM s.heap x dx C mA)(hg:PySem.W.plainGet K C name=true)(hh:PySem.W.hasDictIn K C=true)
  (ha:PySem.W.findIn K (.ref C) name=some none) (hv:mA name=some v) (hv':PySem.W.handedIn v=true) (h:Q v { s with toks:=s.toks+1 }):
  wpAny (model prog w) A (getAttr (.ref x) name expr) Q E s:=by
 obtain⟨od,J,hl⟩:=I.look;exact PySem.W.get_value X J (PySem.W.plainGet_of hg).1 (PySem.W.findObj_own hh ha rfl (by rw[hl,hv])) hv' h
theorem aks{pl:Sem Bool}{Q:Value×List Value->SP0}(X:K.In s.heap)(I:ObjM s.heap x dx C mA)(hg:PySem.W.plainGet K C name=true)
  (hf:PySem.W.findIn K (.ref C) name=some (some (.ref f))) (ht:PySem.W.isFn K (.ref f)=true) (hv:mA name=none) (h:Q (.ref f,[.ref x]) s):
  wpAny (model prog w) A (getMethod (.ref x) name pl) Q E s:=by
 obtain⟨od,J,hl⟩:=I.look;exact PySem.W.method_fn X J (PySem.W.plainGet_of hg).1 (PySem.W.plainGet_of hg).2 hf (beq_iff_eq.mp ht) (by show(PySem.W.lookIn name od).map (·.isSome)=some false;rw[hl,hv];rfl) h
theorem am0{ns:List Str}{Q:Unit->SP0}(X:K.In s.heap)(I:ObjM s.heap x dx C mA)
  (hs:PySem.W.findIn K (.ref C) "__setattr__"=some (some (.builtin "object.__setattr__"))) (hp:PySem.W.plainOver K C=true) (ht:PySem.W.takerIn K C name=some none) (hh:PySem.W.hasDictIn K C=true)
  (hw:PySem.Within mA ns) (hsz:ns.length<=sizeLine)
  (h:∀h',ObjM h' x dx C (fun y=>if y=name then some v else mA y)->Heap.SameBut dx s.heap h'->Q () { s with heap:=h',toks:=s.toks+2 }):
  wpAny (model prog w) A (setAttr (.ref x) name v) Q E s:=by
 obtain⟨od,J,hl⟩:=I.look;refine PySem.W.set_plain X J hs (PySem.W.osa_open (s:={ s with toks:=s.toks+1 }) (r:=none) X J hp ht fun b=>?_);obtain⟨cd,hc,hd'⟩:=PySem.W.any_some hh;have hx:s.heap.get? x=some ⟨.ref C,some dx,.plain,#[]⟩:=I.obj;refine wpAny_bind (wpAny_pure (wpAny_bind (wpAny_bind (wpAny_loadPart hx (wpAny_bind (PySem.W.Looks.here (s:={ s with toks:=s.toks+1 }) (PySem.W.looks_clsIn X hc) ?_))))));rw[hd'];refine wpAny_pure (a:=some dx) (wpAny_bind (wpAny_pure (wpAny_bind ?_)));refine wpAny_nsSet1 (s:={ s with toks:=s.toks+1 }) I.ns fun h' hn2 hs2=>?_;obtain⟨oD,esD,epD,hoD,hdD,hcD⟩:=hn2.count (PySem.Within.cons name v hw);refine wpAny_bind (wpAny_lookBehind hoD (by rw[hdD];exact pastItsLine_dict (Nat.le_trans hcD (by rw[List.length_cons];omega))) ?_);exact wpAny_pure (h _ ⟨(hs2.2 _ (Ne.symm I.ne)).trans I.obj,hn2,I.ne⟩ hs2)
theorem akt{R:Result->SP0}{vs:List Value}{kw:List (Str×Value)}(X:K.In s.heap)(hm:PySem.W.makesIn K C=true)
  (hi:PySem.W.findIn K (.ref C) "__init__"=some (some (.ref f))) (hf:PySem.W.typeIn K (.ref f)=some (.type "function"))
  (h:codeAny (model prog w) (A.under (.builtin "type.__call__" ⟨.ref C::vs,kw⟩)) (.call (.ref f) ⟨.ref (s.heap.objs.size+1)::vs,kw⟩) (PySem.W.InitBack (s.heap.objs.size+1) R)
   { s with heap:=(s.heap.push PySem.W.emptyDict).push (PySem.W.instObj C s.heap.objs.size) }):
  codeAny (model prog w) A (.call (.ref C) ⟨vs,kw⟩) R s:=by
 obtain⟨hh,g,d,t,os⟩:=s;exact PySem.W.make_core (PySem.W.makes_of X hm) (PySem.W.looks_findIn X hi) (fun self=>PySem.W.bind_fn X self hf) (.inl rfl) h
end
noncomputable def Qx(f:Str)(v:V):List (Str×V)->List (Str×V)
 | []=>[(f,v)]
 | (g,x)::r=>if g=f then (g,v)::r else (g,x)::Qx f v r
theorem abD(f g:Str)(v:V):∀fs:List (Str×V),(Qx f v fs).lookup g=if g=f then some v else fs.lookup g
 | []=>by
  show List.lookup g [(f,v)]=_;by_cases h:g=f
  ·have hb:(g==f)=true:=beq_iff_eq.mpr h
   simp only[List.lookup,hb,if_pos h]
  ·have hb:(g==f)=false:=beq_eq_false_iff_ne.mpr h
   simp only[List.lookup,hb,if_neg h]
 | (k,x)::r=>by
  have ih:=abD f g v r;rw[show Qx f v ((k,x)::r)=(if k=f then (k,v)::r else (k,x)::Qx f v r) from rfl];by_cases hk:k=f
  ·rw[if_pos hk]
   by_cases h:g=k
   ·have hb:(g==k)=true:=beq_iff_eq.mpr h
    simp only[List.lookup,hb,if_pos (h.trans hk)]
   ·have hb:(g==k)=false:=beq_eq_false_iff_ne.mpr h
    simp only[List.lookup,hb,if_neg (fun e:g=f=>h (e.trans hk.symm))]
  ·rw[if_neg hk]
   by_cases h:g=k
   ·have hb:(g==k)=true:=beq_iff_eq.mpr h
    simp only[List.lookup,hb,if_neg (fun e:g=f=>hk (h.symm.trans e))]
   ·have hb:(g==k)=false:=beq_eq_false_iff_ne.mpr h
    simp only[List.lookup,hb];exact ih
theorem aa8(f:Str)(v:V):∀fs:List (Str×V),f∈(Qx f v fs).map (·.1)/\∀g,g∈fs.map (·.1)->g∈(Qx f v fs).map (·.1)
 | []=>⟨by simp[Qx],fun g h=>by simp at h⟩
 | (k,x)::r=>by
  obtain⟨i1,i2⟩:=aa8 f v r;rw[show Qx f v ((k,x)::r)=(if k=f then (k,v)::r else (k,x)::Qx f v r) from rfl];by_cases hk:k=f
  ·rw[if_pos hk]
   subst hk;exact⟨by simp,fun g h=>by simpa using h⟩
  ·rw[if_neg hk]
   refine⟨?_,fun g h=>?_⟩
   ·rw[List.map_cons]
    exact List.mem_cons_of_mem _ i1
   ·rw[List.map_cons]at h ⊢
    rcases List.mem_cons.mp h with e | e
    ·exact List.mem_cons.mpr (.inl e)
    ·exact List.mem_cons_of_mem _ (i2 g e)
theorem abE(f:Str)(v:V):∀fs:List (Str×V),(Qx f v fs).length<=fs.length+1
 | []=>by simp[Qx]
 | (k,x)::r=>by
  have ih:=abE f v r;rw[show Qx f v ((k,x)::r)=(if k=f then (k,v)::r else (k,x)::Qx f v r) from rfl];by_cases hk:k=f
  ·rw[if_pos hk,List.length_cons,List.length_cons];omega
  ·rw[if_neg hk,List.length_cons,List.length_cons];omega
theorem ZN.some_of{v:V}{o:Option Value}(r:ZN (some v) o):∃u,o=some u/\jV v u:=by
 cases o with
 |none=>exact(show False from r).elim
 |some u=>exact⟨u,rfl,r⟩
theorem ZN.none_of{o:Option Value}(r:ZN none o):o=none:=by
 cases o with
 |none=>rfl
 |some u=>exact(show False from r).elim
theorem ai7{v:V}{u:Value}(r:jV v u):PySem.W.handedIn u=true:=by
 cases v with
 |non=>cases (show u=Value.none from r);rfl
 |bl b=>cases (show u=Value.bool b from r);rfl
 |int i=>obtain⟨t,e⟩:=(show ∃t,u=Value.int i t from r);cases e;rfl
 |str x=>obtain⟨t,e⟩:=(show ∃t,u=Value.str x t from r);cases e;rfl
 |byt b=>obtain⟨t,e⟩:=(show ∃t,u=Value.bytes b t from r);cases e;rfl
 |flt b=>obtain⟨t,e⟩:=(show ∃t,u=Value.float b t from r);cases e;rfl
 |ref a=>cases (show u=Value.ref a from r);rfl
 |ty n=>cases (show u=Value.type n from r);rfl
section
variable {P:Program}{w:World}{H H':Hp}{h h':Heap}{a C dx:Addr}{fs fs':List (Str×V)}
theorem aez(hok:HOk P w H h)(e:H a=some (.ins C dx fs)):∃mA,ObjM h a dx C mA/\(∀f,ZN (fs.lookup f) (mA f))/\PySem.Within mA (fs.map (·.1))/\fs.length<=1000/\H dx=some (.own a):=by
 obtain⟨d,z,ne,ob,mA,n,r,q⟩:=(show zh P w H h a (.ins C dx fs) from hok a _ e);exact⟨mA,⟨ob,n,ne⟩,r,q,z,d⟩
end
structure Cls(K:Fg)(C:Addr):Prop where
 pg:PySem.W.plainGet K C Str.empty=true
 hd:PySem.W.hasDictIn K C=true
 po:PySem.W.plainOver K C=true
 sa:PySem.W.findIn K (.ref C) "__setattr__"=some (some (.builtin "object.__setattr__"))
theorem Cls.get{K:Fg}{C:Addr}(c:Cls K C)(f:Str):PySem.W.plainGet K C f=true:=c.pg
noncomputable def Z1(K:Fg)(C:Addr)(f:Str):Prop:=PySem.W.findIn K (.ref C) f=some none
theorem Z1.taker{K:Fg}{C:Addr}{f:Str}(n:Z1 K C f):PySem.W.takerIn K C f=some none:=by
 unfold PySem.W.takerIn;rw[show PySem.W.findIn K (.ref C) f=some none from n];rfl
structure Con(K:Fg)(C:Addr)(f:Str)(v:V)(u:Value):Prop where
 at_:PySem.W.findIn K (.ref C) f=some (some u)
 rel:jV v u
 get:PySem.W.specialIn K u "__get__"=some none
 cp:PySem.W.copiedNames.contains f=false
structure Meth(K:Fg)(C:Addr)(m:Str)(f:Addr):Prop where
 at_:PySem.W.findIn K (.ref C) m=some (some (.ref f))
 fn:PySem.W.isFn K (.ref f)=true
 kp:PySem.W.keepIn K (.ref f)=true
section
variable {X:Cx}{Kp:List (Addr×Obj)}{σ:St}{H:Hp}{s:Shared}{a C dx:Addr}{fs:List (Str×V)}{f:Str}{v:V}{A:Around}{E:Value->SP0}
theorem agZ{b:Bool}{Q:Value->SP0}(I:Inv X Kp σ H s)(e:H a=some (.ins C dx fs))(c:Cls X.K C)(n:Z1 X.K C f)(l:fs.lookup f=some v)
  (h:∀u s',Inv X Kp σ H s'->jV v u->Q u s'):wpAny (model X.prog X.w) A (getAttr (.ref a) f b) Q E s:=by
 obtain⟨mA,O,r,_,_,_⟩:=aez I.hok e;obtain⟨u,hu,ru⟩:=ZN.some_of (v:=v) (o:=mA f) (by rw[←l];exact r f);exact amZ I.kIn O (c.get f) c.hd n hu (ai7 ru) (h u _ (I.tok _) ru)
theorem Qy{m:Str}{g:Addr}{pl:Sem Bool}{Q:Value×List Value->SP0}(I:Inv X Kp σ H s)(e:H a=some (.ins C dx fs))(c:Cls X.K C)(k:Meth X.K C m g)(l:fs.lookup m=none)
  (h:Q (.ref g,[.ref a]) s):wpAny (model X.prog X.w) A (getMethod (.ref a) m pl) Q E s:=by
 obtain⟨mA,O,r,_,_,_⟩:=aez I.hok e;have hn:mA m=none:=ZN.none_of (by rw[←l];exact r m);exact aks I.kIn O (c.get m) k.at_ k.fn hn h
theorem ag0{y:V}{u:Value}{Q:Unit->SP0}(I:Inv X Kp σ H s)(e:H a=some (.ins C dx fs))(c:Cls X.K C)(n:Z1 X.K C f)(hl:fs.length<1000)(ry:jV y u)
  (h:∀s',Inv X Kp σ (upd H a (.ins C dx (Qx f y fs))) s'->Q () s'):wpAny (model X.prog X.w) A (setAttr (.ref a) f u) Q E s:=by
 obtain⟨mA,O,r,wi,_,ho⟩:=aez I.hok e;have hz:(fs.map (·.1)).length<=sizeLine:=by rw[List.length_map,sizeLine_eq];omega
 refine am0 I.kIn O c.sa c.po n.taker c.hd wi hz fun h' O' sb=>h _ ?_;have hd:∃o,h'.get? dx=some o:=let ⟨o,_,_,e',_⟩:=O'.ns;⟨o,e'⟩
 refine I.write (x:=a) (e:=dx) (by rw[e];exact True.intro) (.inr ho) (fun b q hb z=>(sb.2 b hb).trans z) hd ?_;refine⟨by rw[jr O.ne];exact ho,?_,O.ne,O'.obj,_,O'.ns,fun g=>?_,fun g hg=>?_⟩
 ·have:=abE f y fs;omega
 ·show ZN ((Qx f y fs).lookup g) (if g=f then some u else mA g)
  rw[abD];by_cases q:g=f
  ·rw[if_pos q,if_pos q];exact ry
  ·rw[if_neg q,if_neg q];exact r g
 ·by_cases q:g=f
  ·rw[q];exact(aa8 f y fs).1
  ·refine(aa8 f y fs).2 g (wi g fun z=>hg ?_)
   show(if g=f then some u else mA g)=none;rw[if_neg q];exact z
theorem Inv.made(I:Inv X Kp σ H s):Inv X Kp σ (upd (upd H s.heap.objs.size (.own (s.heap.objs.size+1))) (s.heap.objs.size+1) (.ins C s.heap.objs.size []))
  { s with heap:=(s.heap.push PySem.W.emptyDict).push (PySem.W.instObj C s.heap.objs.size) }:=by
 have e1:(s.heap.push PySem.W.emptyDict).get? s.heap.objs.size=some PySem.W.emptyDict:=Heap.get?_push_size s.heap rfl
 have e2:((s.heap.push PySem.W.emptyDict).push (PySem.W.instObj C s.heap.objs.size)).get? (s.heap.objs.size+1)=some (PySem.W.instObj C s.heap.objs.size):=by
  have:=Heap.get?_push_size (s.heap.push PySem.W.emptyDict) (o:=PySem.W.instObj C s.heap.objs.size) rfl;rwa[Heap.size_push]at this
 have e3:(s.heap.push PySem.W.emptyDict).Ns s.heap.objs.size (fun _=>none):=⟨PySem.W.emptyDict,#[],_,e1,rfl,(fun e he=>absurd he (by simp)),fun _=>rfl⟩;have I1:=I.laid (a:=s.heap.objs.size) (o:= .own (s.heap.objs.size+1)) (h':=s.heap.push PySem.W.emptyDict) (t':=s.toks) (fun b u q=>Heap.get?_push_of_some _ q) (Nat.le_refl _) ⟨_,e1⟩;refine I1.laid (a:=s.heap.objs.size+1) (o:= .ins C s.heap.objs.size []) (t':=s.toks) (fun b u q=>Heap.get?_push_of_some _ q) (Nat.le_of_eq (Heap.size_push _ _)) ?_;have ne:s.heap.objs.size≠s.heap.objs.size+1:=Nat.ne_of_lt (Nat.lt_succ_self _);refine⟨by rw[jr ne,jq],Nat.zero_le _,ne,e2,fun _=>none,(Heap.Ns1.of_empty e3).at fun o q=>Heap.get?_push_of_some _ q,fun _=>True.intro,fun y hy=>absurd rfl hy⟩
theorem am1{prog:Program}{w:World}{env:Env}{e:Expr}{f:Str}{pos:Pos}{s:Shared}{Q:Value->SP0}(hb:attributeBase e f env (eval e env)=eval e env)
  (h:wpAny (model prog w) A (eval e env) (fun o s₁=>wpAny (model prog w) A (getAttr o f true) Q E s₁) E s):wpAny (model prog w) A (eval (.Attribute e f pos) env) Q E s:=
 Attribute_any_ h (by rw[arm_eval_Attribute,hb])
end
noncomputable def ar3(K:Fg)(ta:TE)(f:Str):TE:=fun σ H Q=>ta σ H fun x H1=>∃a C dx fs v,x= .ref a/\H1 a=some (.ins C dx fs)/\Cls K C/\Z1 K C f/\fs.lookup f=some v/\Q v H1
noncomputable def ar4(K:Fg)(ta tv:TE)(f:Str):TS:=fun D σ H=>tv σ H fun y H1=>ta σ H1 fun x H2=>∃a C dx fs,x= .ref a/\H2 a=some (.ins C dx fs)/\Cls K C/\Z1 K C f/\fs.length<1000/\
 D.nx σ (upd H2 a (.ins C dx (Qx f y fs)))
section
variable {X:Cx}{o e value:Expr}{f:Str}{pos pos' tpos:Pos}{ta tv:TE}
theorem apc(he:PE X e ta)(hb:attributeBase e f X.env (eval e X.env)=eval e X.env):PE X (.Attribute e f pos) (ar3 X.K ta f):=by
 intro Kp s σ H Q I h;refine am1 hb (thn (he Kp s σ H _ I h) fun u s1 ⟨x,H1,I1,rx,a,C,dx,fs,v,ex,ea,c,n,l,q⟩=>?_);subst ex;obtain rfl:u=Value.ref a:=rx;exact agZ I1 ea c n l fun u' s2 I2 ru=>⟨v,H1,I2,ru,q⟩
theorem apd(ha:PE X o ta)(hv:PE X value tv)(hs:swapsWith value (some (.Attribute o f pos')) pos.line X.env=pure false):PS X (.Assign [.Attribute o f pos'] value pos) (ar4 X.K ta tv f):=by
 intro Kp s σ H D I h;refine plainObj_wpAny_Assign_Attribute (thn (hv Kp s σ H _ I h) fun u s1 ⟨y,H1,I1,ry,q⟩=>thn (ha Kp s1 σ H1 _ I1 q) fun ov s2 ⟨x,H2,I2,rx,a,C,dx,fs,ex,ea,c,n,l,q2⟩=>?_) hs;subst ex;obtain rfl:ov=Value.ref a:=rx;exact ag0 I2 ea c n l ry fun s3 I3=>⟨σ,_,I3,q2⟩
end
section
variable {X:Cx}{Kp:List (Addr×Obj)}{σ:St}{H:Hp}{s:Shared}{A:Around}{E:Value->SP0}{Q:Value->SP0}{c:Value}{b:Bool}
inductive TyOf (K:Fg) (H:Hp):V->Value->Prop where
 |non:TyOf K H .non (.type "NoneType")
 |bl (x:Bool):TyOf K H (.bl x) (.type "bool")
 |int (i:Int):TyOf K H (.int i) (.type "int")
 |str (x:Str):TyOf K H (.str x) (.type "str")
 |flt (x:UInt64):TyOf K H (.flt x) (.type "float")
 |lst {a:Addr} {xs:List V} (e:H a=some (.lst xs)):TyOf K H (.ref a) (.type "list")
 |frz {a:Addr} {o:Obj} {xs:List V} (e:H a=some (.frz o (.lst xs))):TyOf K H (.ref a) (.type "list")
 |tup {a:Addr} {xs:List V} (e:H a=some (.tup xs)):TyOf K H (.ref a) (.type "tuple")
 |dK {a:Addr} {kvs:List (Key×V)} (e:H a=some (.dK kvs)):TyOf K H (.ref a) (.type "dict")
 |dT {a:Addr} {kvs:List (List Key×V)} (e:H a=some (.dT kvs)):TyOf K H (.ref a) (.type "dict")
 | ins {a C dx:Addr} {fs:List (Str×V)} (e:H a=some (.ins C dx fs)) (cl:Cls K C) (ha:PySem.W.findIn K (.ref C) "__class__"=some (some (.builtin "object.__class__")))
   (hn:PySem.W.specialIn K (.builtin "object.__class__") "__get__"=some (some (.builtin "getset_descriptor.__get__"))) (htk:PySem.W.takesIn K (.builtin "object.__class__")=some true)
   (hm:PySem.W.mroIn K C (.type "object")=some true):TyOf K H (.ref a) (.ref C)
end
structure Room(k:Nat)(A:Around):Prop where
 hd:A.handled=none
 dp:A.depth+3*k+5<recursionLimit
 un:A.units+16*k+200<cLine
theorem Room.mono{j k:Nat}{A:Around}(r:Room k A)(h:j<=k):Room j A:=⟨r.hd,by have:=r.dp;omega,by have:=r.un;omega⟩
theorem Room.deeper{k:Nat}{A:Around}(r:Room (k+1) A)(env:Env):Room k (A.deeper env):=
 ⟨r.hd,by have:=r.dp;show A.depth+1+3*k+5<_;omega,by have:=r.un;show A.units+3+16*k+200<_;omega⟩
theorem Room.in1{k:Nat}{A:Around}(r:Room (k+1) A):Room k A.in1:=
 ⟨r.hd,by have:=r.dp;show A.depth+3*k+5<_;omega,by have:=r.un;show A.units+1+16*k+200<_;omega⟩
theorem ag1{A:Around}{C:Addr}{us:List Value}{kw:List (Str×Value)}:(A.under (.builtin "type.__call__" ⟨.ref C::us,kw⟩)).depth=A.depth+1:=by
 first|rfl|simp[Around.under,Code.weight,Code.isCreation,Code.isGuard,Code.isCaller,Code.frames,Code.isFrame,guardIds]
theorem ag2{A:Around}{C:Addr}{us:List Value}{kw:List (Str×Value)}:(A.under (.builtin "type.__call__" ⟨.ref C::us,kw⟩)).units=A.units+1:=by
 first|rfl|simp[Around.under,Code.cUnits,Code.frames,Code.isFrame]
theorem Room.make{k:Nat}{A:Around}(r:Room (k+1) A)(C:Addr)(us:List Value)(kw:List (Str×Value)):Room k (A.under (.builtin "type.__call__" ⟨.ref C::us,kw⟩)):=
 ⟨r.hd,by have:=r.dp;rw[ag1];omega,by have:=r.un;rw[ag2];omega⟩
theorem Room.depth{k:Nat}{A:Around}(r:Room k A):A.depth<recursionLimit:=by have:=r.dp;omega
theorem Room.units{k:Nat}{A:Around}(r:Room k A):A.units+64<cLine:=by have:=r.un;omega
noncomputable def am2:TA:=fun _ H Q=>Q [] H
noncomputable def afH(ta:TE)(tr:TA):TA:=fun σ H Q=>ta σ H fun x H1=>tr σ H1 fun xs H2=>Q (x::xs) H2
section
variable {X:Cx}{e:Expr}{es:List Expr}{te:TE}{t:TA}{pos:Pos}
theorem afI{α:Type}:∀(us:List α),us.length=1->∃a,us=[a]
 | [a],_=>⟨a,rfl⟩
theorem QN{α:Type}(us:List α)(h:us.length=2):∃a b,us=[a,b]:=by
 cases us with
 |nil=>cases h
 |cons a r=>obtain⟨b,rfl⟩:=afI r (Nat.succ.inj h);exact⟨a,b,rfl⟩
theorem Z2{α:Type}(us:List α)(h:us.length=3):∃a b c,us=[a,b,c]:=by
 cases us with
 |nil=>cases h
 |cons a r=>obtain⟨b,c,rfl⟩:=QN r (Nat.succ.inj h);exact⟨a,b,c,rfl⟩
theorem aqF{α:Type}(us:List α)(h:us.length=4):∃a b c d,us=[a,b,c,d]:=by
 cases us with
 |nil=>cases h
 |cons a r=>obtain⟨b,c,d,rfl⟩:=Z2 r (Nat.succ.inj h);exact⟨a,b,c,d,rfl⟩
theorem Jk:PA X [] am2:=fun _ _ _ _ H Q I h=>Calls.spliced_nil ⟨[],H,I,.nil,h⟩
theorem qR(ha:PE X e te)(hr:PA X es t)(hs:starEach (e::es) X.env=(false,eval e X.env)::starEach es X.env:=by rfl):PA X (e::es) (afH te t):=by
 intro pos Kp s σ H Q I h;rw[hs];show wpAny _ _ (spliced ((false,eval e X.env)::backTo pos (starEach es X.env))) _ _ s;refine Calls.spliced_cons (thn (ha Kp s σ H _ I h) fun u s1 ⟨x,H1,I1,r1,q1⟩=>?_);exact thn (hr pos Kp s1 σ H1 _ I1 q1) fun us s2 ⟨xs,H2,I2,r2,q2⟩=>⟨x::xs,H2,I2,.cons r1 r2,q2⟩
noncomputable def ar5(t:TA):TE:=fun σ H Q=>t σ H fun xs H1=>xs.length<=sizeLine/\∀p,H1 p=none->Q (.ref p) (upd H1 p (.tup xs))
noncomputable def ar6(t:TA):TE:=fun σ H Q=>t σ H fun xs H1=>xs.length<=sizeLine/\∀p,H1 p=none->Q (.ref p) (upd H1 p (.lst xs))
theorem ag3{x1}(h:PA X es t):PE X (.Tuple es x1 pos) (ar5 t):=by
 intro Kp s σ H Q I hq;refine wpAny_Tuple_spliced (thn (h pos Kp s σ H _ I hq) fun us s1 ⟨xs,H1,I1,r,z,q⟩=>⟨by rw[←r.length];exact z,?_⟩);have hf:H1 s1.heap.objs.size=none:=I1.hok.fresh (Nat.le_refl _);refine⟨.ref s1.heap.objs.size,upd H1 s1.heap.objs.size (.tup xs),I1.laid (t':=s1.toks) (fun b u e=>Heap.get?_push_of_some _ e) (Nat.le_refl _) ?_,rfl,q _ hf⟩;exact⟨z,us,r,⟨_,Heap.get?_push_size _ rfl,rfl,_,rfl⟩⟩
theorem ag4(h:PA X es t):PE X (.List es pos) (ar6 t):=by
 intro Kp s σ H Q I hq;refine wpAny_List_spliced (thn (h pos Kp s σ H _ I hq) fun us s1 ⟨xs,H1,I1,r,z,q⟩=>⟨by rw[←r.length];exact z,?_⟩);have hf:H1 s1.heap.objs.size=none:=I1.hok.fresh (Nat.le_refl _);refine⟨.ref s1.heap.objs.size,upd H1 s1.heap.objs.size (.lst xs),I1.laid (t':=s1.toks) (fun b u e=>Heap.get?_push_of_some _ e) (Nat.le_refl _) ?_,rfl,q _ hf⟩;exact⟨z,us,0,r,Heap.get?_push_size _ rfl⟩
end
noncomputable abbrev Sp:=List V->Hp->VK->XK->Prop
noncomputable abbrev CXT:=List Env->Hp->Shared->XK->Value->SP0
structure Env0(P:Program)(w:World)(K:Fg)(mg:SV)(base:Heap)(A:Around)(Ko:List Env)(s:Shared)(H:Hp):Prop where
 frames:A.frames=some Ko
 mod:Mod K mg base
 bs:∀b o,base.get? b=some o->s.heap.get? b=some o/\H b=none
 bsz:base.objs.size<=s.heap.objs.size
 funs:s.heap.FunFrames base Ko
 frf:∀b∈frs Ko,H b=none
 hok:HOk P w H s.heap
 bare:AllBare s.gens
noncomputable def CE(Ko:List Env)(P:Program)(w:World)(H:Hp)(s:Shared)(Q:VK)(u:Value)(s':Shared):Prop:=
 ∃v H',s'.os=s.os/\AllBare s'.gens/\Un (frs Ko) [] H H' s.heap s'.heap/\HOk P w H' s'.heap/\jV v u/\Q v H'
noncomputable def CR(CX:CXT)(Ko:List Env)(P:Program)(w:World)(H:Hp)(s:Shared)(Q:VK)(E:XK)(r:Result)(s':Shared):Prop:=
 match r with
 |.ok (.ret u)=>CE Ko P w H s Q u s'
 |.ok _=>False
 |.error e=>CX Ko H s E e s'
structure FnOk(P:Program)(w:World)(K:Fg)(mg:SV)(base:Heap)(CX:CXT)(k:Nat)(f:Addr)(fd:FuncData)(ps:List Str)(sp:Sp):Prop where
 len:∀vs H Q E,sp vs H Q E->vs.length=ps.length
 run:∀(A:Around) (Ko:List Env) (s:Shared) (H:Hp) (args:Args) (us:List Value) (vs:List V) (Q:VK) (E:XK),Room k A->Env0 P w K mg base A Ko s H->BindsTo s fd args (ps.zip us)->jH vs us->sp vs H Q E->
  codeAny (model P w) A (.call (.ref f) args) (CR CX Ko P w H s Q E) s
theorem FnOk.mono{P:Program}{w:World}{K:Fg}{mg:SV}{base:Heap}{CX:CXT}{j k:Nat}{f:Addr}{fd:FuncData}{ps:List Str}{sp:Sp}(F:FnOk P w K mg base CX j f fd ps sp)(h:j<=k):
  FnOk P w K mg base CX k f fd ps sp:=⟨F.len,fun A Ko s H args us vs Q E hr=>F.run A Ko s H args us vs Q E (hr.mono h)⟩
theorem FnOk.imp{P:Program}{w:World}{K:Fg}{mg:SV}{base:Heap}{CX:CXT}{k:Nat}{f:Addr}{fd:FuncData}{ps:List Str}{sp sp':Sp}(F:FnOk P w K mg base CX k f fd ps sp)
  (h:∀vs H Q E,sp' vs H Q E->sp vs H Q E):FnOk P w K mg base CX k f fd ps sp':=
 ⟨fun vs H Q E q=>F.len vs H Q E (h _ _ _ _ q),fun A Ko s H args us vs Q E hr he hb hv hs=>F.run A Ko s H args us vs Q E hr he hb hv (h _ _ _ _ hs)⟩
theorem Env0.make{P:Program}{w:World}{K:Fg}{mg:SV}{base:Heap}{A:Around}{Ko:List Env}{s:Shared}{H:Hp}(e:Env0 P w K mg base A Ko s H)(C:Addr)(us:List Value)(kw:List (Str×Value)):
  Env0 P w K mg base (A.under (.builtin "type.__call__" ⟨.ref C::us,kw⟩)) Ko s H:=⟨by first|exact e.frames | (simpa[Around.under,Code.envs,Code.isFrame,pushEnvs]using e.frames),e.mod,e.bs,e.bsz,e.funs,e.frf,e.hok,e.bare⟩
theorem Env0.in1{P:Program}{w:World}{K:Fg}{mg:SV}{base:Heap}{A:Around}{Ko:List Env}{s:Shared}{H:Hp}(e:Env0 P w K mg base A Ko s H):
  Env0 P w K mg base A.in1 Ko s H:=⟨e.frames,e.mod,e.bs,e.bsz,e.funs,e.frf,e.hok,e.bare⟩
section
variable {X:Cx}{Kp:List (Addr×Obj)}{σ:St}{H:Hp}{s s':Shared}
theorem Inv.env0(I:Inv X Kp σ H s):Env0 X.prog X.w X.K X.mg X.base X.A X.stack s H:=
 ⟨I.ok.frames,I.ok.mod,I.bs,Nat.le_trans I.ok.bsz I.sz,I.stack,I.stkFree,I.hok,I.bare⟩
theorem Inv.after{Q:VK}{u:Value}(I:Inv X Kp σ H s)(h:CE X.stack X.prog X.w H s Q u s'):EP X Kp σ Q u s':=by
 obtain⟨v,H',os,bare,un,hok,r,q⟩:=h;obtain⟨hh,g,d,t,os'⟩:=s';obtain rfl:os'=s.os:=os;exact⟨v,H',I.call (h':=hh) (g':=g) (d':=d) (t':=t) (ch:=[]) un hok bare (fun b z=>absurd z (by simp)),r,q⟩
end
noncomputable def ah4(sp:Sp)(dvs:List V)(E:XK)(t:TA):TE:=fun σ H Q=>t σ H fun vs H1=>sp (vs++dvs) H1 Q E
noncomputable def zB(K:Fg)(fd:FuncData)(ps:List Str)(ds:List Value):Prop:=
 ∀(s:Shared) (us:List Value),K.In s.heap->(us++ds).length=ps.length->BindsTo s fd ⟨us,[]⟩ (ps.zip (us++ds))
theorem zB.all{K:Fg}{fd:FuncData}{ps:List Str}(h:∀us:List Value,us.length=ps.length->bindArgs fd ⟨us,[]⟩=pure (ps.zip us)):zB K fd ps []:=fun s us _ hl=>by
 rw[List.append_nil]at hl ⊢;exact .of_eq (h us hl)
noncomputable def aeA(CX:CXT)(X:Cx)(E:XK):Prop:=∀(Kp:List (Addr×Obj)) (σ:St) (H:Hp) (s:Shared) (e:Value) (s':Shared),Inv X Kp σ H s->CX X.stack H s E e s'->X.xe e s'
section
variable {X:Cx}{CX:CXT}{k:Nat}{f C:Addr}{fd:FuncData}{ps:List Str}{sp:Sp}{dvs:List V}{ds:List Value}{E:XK}{x m:Str}{p pos apos:Pos}{e o:Expr}{es:List Expr}{ta:TE}{t:TA}
theorem aeB{Kp:List (Addr×Obj)}{σ:St}{H:Hp}{s:Shared}{Q:VK}{us:List Value}{vs:List V}(F:FnOk X.prog X.w X.K X.mg X.base CX k f fd ps sp)(hr:Room k X.A)(hb:zB X.K fd ps ds)(hd:jH dvs ds)(hx:aeA CX X E)
  (I:Inv X Kp σ H s) (r:jH vs us) (h:sp (vs++dvs) H Q E):wpAny (model X.prog X.w) X.A (call (.ref f) us) (EP X Kp σ Q) X.xe s:=by
 have r2:jH (vs++dvs) (us++ds):=r.append hd;have hl:(us++ds).length=ps.length:=by rw[←r2.length];exact F.len _ _ _ _ h
 refine wpAny_call (codeAny_mono (F.run X.A X.stack s H ⟨us,[]⟩ (us++ds) (vs++dvs) Q E hr I.env0 (hb s us I.kIn hl) r2 h) fun r s' hq=>?_);cases r with
 |error e=>exact hx Kp σ H s e s' I hq
 | ok fl=>
  cases fl with
  |ret u=>exact I.after hq
  |next=>exact False.elim hq
  |brk=>exact False.elim hq
  |cont=>exact False.elim hq
theorem aeC(F:FnOk X.prog X.w X.K X.mg X.base CX k f fd ps sp)(hr:Room k X.A)(hg:Gl X x)(hm:X.mg x=some (.ref f))(hk:PySem.W.keepIn X.K (.ref f)=true)(hb:zB X.K fd ps ds)(hd:jH dvs ds)(hx:aeA CX X E)
  (ha:PA X (e::es) t) (hdb:(x==("__debug__":Str))=false:=by decide) (he:starEach (e::es) X.env=(false,eval e X.env)::starEach es X.env:=by rfl) (hpl:(backTo pos (starEach es X.env)).any (·.1)=false:=by rfl):
  PE X (.Call (.Name x p) (e::es) [] pos) (ah4 sp dvs E t):=by
 intro Kp s σ H Q I h;refine wpAny_Call_Name_kw (Jn I hg hm ?_ hdb);refine PySem.W.callWith_K (h₀:=X.base) I.ok.mod.kin hk (thn (ha pos Kp s σ H _ I h) fun us s1 ⟨vs,H1,I1,r,q⟩=>⟨I1.kIn,?_⟩) he hpl;exact aeB F hr hb hd hx I1 r q
structure Mk(K:Fg)(C f:Addr):Prop where
 makes:PySem.W.makesIn K C=true
 init:PySem.W.findIn K (.ref C) "__init__"=some (some (.ref f))
 fn:PySem.W.isFn K (.ref f)=true
 kp:PySem.W.keepIn K (.ref C)=true
end
noncomputable def PK(X:Cx)(kws:List Keyword)(t:TA):Prop:=
 ∀(pos:Pos) (Kp:List (Addr×Obj)) (s:Shared) (σ:St) (H:Hp) (Q:List V->Hp->Prop),Inv X Kp σ H s->t σ H Q->wpAny (model X.prog X.w) X.A (evalAll ((backToKw pos (keywordEach kws X.env)).map (·.2))) (AP X Kp σ Q) X.xe s
section
variable {X:Cx}{CX:CXT}{k:Nat}{f C:Addr}{fd:FuncData}{ps ks:List Str}{sp:Sp}{E:XK}{x m:Str}{p pos apos kpos:Pos}{e o:Expr}{es:List Expr}{kws:List Keyword}{te ta:TE}{t tk:TA}{nm:Option Str}
theorem ape:PK X [] am2:=fun _ _ _ _ H Q I h=>wpAny_evalAll_nil ⟨[],H,I,.nil,h⟩
theorem ah5(ha:PE X e te)(hr:PK X kws t):PK X (⟨nm,e,kpos⟩::kws) (afH te t):=by
 intro pos Kp s σ H Q I h;show wpAny _ _ (evalAll ((do let v ←eval e X.env;standAt pos;pure v)::(backToKw pos (keywordEach kws X.env)).map (·.2))) _ _ s;refine wpAny_evalAll_cons (wpAny_bind (thn (ha Kp s σ H _ I h) fun u s1 ⟨x,H1,I1,r1,q1⟩=>wpAny_bind (wpAny_standAt (wpAny_pure ?_))));exact thn (hr pos Kp s1 σ H1 _ I1 q1) fun us s2 ⟨xs,H2,I2,r2,q2⟩=>⟨x::xs,H2,I2,.cons r1 r2,q2⟩
structure KBinds(K:Fg)(fd:FuncData)(ps ks:List Str)(g:List Value->List Value->List Value)(gV:List V->List V->List V):Prop where
 to:∀(s:Shared) (us ws:List Value),K.In s.heap->(g us ws).length=ps.length->BindsTo s fd ⟨us,ks.zip ws⟩ (ps.zip (g us ws))
 rel:∀{vs:List V} {us:List Value} {zs:List V} {ws:List Value},jH vs us->jH zs ws->jH (gV vs zs) (g us ws)
variable {g:List Value->List Value->List Value}{gV:List V->List V->List V}
end
structure FnScope(N P:List Str)(sc:Scope):Prop where
 kind:sc.kind= .function
 co:sc.isCoroutine=false
 gen:sc.isGenerator=false
 nd:N.Nodup
 pre:N.take P.length=P
 par:∀x∈P,sc.names.lookup x=some .local∨sc.names.lookup x=some .cell
 nofree:∀y∈sc.names,y.2 ≠ .free
theorem adN{kindOf:Str->Option NameKind}{x:Str}:∀{binds:List (Str×Value)}{m:SV},(∀v,(x,v)∉binds)->bindL kindOf binds m x=m x
 | [],_,_=>rfl
 | (n,v)::r,m,h=>by
  unfold bindL;rw[adN fun w hw=>h w (List.mem_cons_of_mem _ hw)];split
  ·have:x≠n:=by rintro rfl;exact h v List.mem_cons_self
   simp[this]
  ·rfl
theorem adO{kindOf:Str->Option NameKind}{x:Str}:∀{binds:List (Str×Value)}{m:SV},(∀v,(x,v)∉binds)->bindC kindOf binds m x=m x
 | [],_,_=>rfl
 | (n,v)::r,m,h=>by
  unfold bindC;rw[adO fun w hw=>h w (List.mem_cons_of_mem _ hw)];split
  ·rfl
  ·have:x≠n:=by rintro rfl;exact h v List.mem_cons_self
   simp[this]
theorem adP{kindOf:Str->Option NameKind}{x:Str}{v:Value}:∀{P:List Str}{vs:List Value}{i:Nat}{m:SV},P.Nodup->P[i]?=some x->vs[i]?=some v->kindOf x=some .local->
  bindL kindOf (P.zip vs) m x=some v
 | [],_,_,_,_,h,_,_=>by simp at h
 |_::_,[],_,_,_,_,h,_=>by simp at h
 | p::P,w::vs,0,m,nd,h1,h2,hk=>by
  simp at h1 h2;subst h1;subst h2;show bindL kindOf ((p,w)::P.zip vs) m p=_;unfold bindL;rw[adN fun v hv=>(List.nodup_cons.mp nd).1 (List.of_mem_zip hv).1,if_pos hk];simp
 | p::P,w::vs,i+1,m,nd,h1,h2,hk=>by
  show bindL kindOf ((p,w)::P.zip vs) m x=_;unfold bindL;exact adP (i:=i) (List.nodup_cons.mp nd).2 (by simpa using h1) (by simpa using h2) hk
theorem adQ{kindOf:Str->Option NameKind}{x:Str}{v:Value}:∀{P:List Str}{vs:List Value}{i:Nat}{m:SV},P.Nodup->P[i]?=some x->vs[i]?=some v->kindOf x≠some .local->
  bindC kindOf (P.zip vs) m x=some v
 | [],_,_,_,_,h,_,_=>by simp at h
 |_::_,[],_,_,_,_,h,_=>by simp at h
 | p::P,w::vs,0,m,nd,h1,h2,hk=>by
  simp at h1 h2;subst h1;subst h2;show bindC kindOf ((p,w)::P.zip vs) m p=_;unfold bindC;rw[adO fun v hv=>(List.nodup_cons.mp nd).1 (List.of_mem_zip hv).1,if_neg hk];simp
 | p::P,w::vs,i+1,m,nd,h1,h2,hk=>by
  show bindC kindOf ((p,w)::P.zip vs) m x=_;unfold bindC;exact adQ (i:=i) (List.nodup_cons.mp nd).2 (by simpa using h1) (by simpa using h2) hk
noncomputable def zj(N:List Str)(vs:List V):St:=vs.map some++List.replicate (N.length-vs.length) none
noncomputable def zL(CX:CXT)(P:Program)(w:World)(K:Fg)(mg:SV)(base:Heap)(N:List Str)(qual:Str)(scope:Scope)(f:Addr)(cd:Value)(A:Around)(Ko:List Env)(s:Shared)(H:Hp)(E:XK):Cx where
 prog:=P
 w:=w
 K:=K
 mg:=mg
 base:=base
 A:=A.deeper (envOfC qual scope s.heap.objs.size f cd)
 N:=N
 s₀:=s
 H₀:=H
 env:=envOfC qual scope s.heap.objs.size f cd
 Ko:=Ko
 stack:=envOfC qual scope s.heap.objs.size f cd::Ko
 ex:=[]
 calm:=true
 fn:=fun _=>true
 pn:=[]
 xe:=fun e s'=>wpAny (model P w) (A.deeper (envOfC qual scope s.heap.objs.size f cd)) (leaving (envOfC qual scope s.heap.objs.size f cd) e) (fun _ s''=>CX Ko H s E e s'') (fun e' s''=>CX Ko H s E e' s'') s'
theorem afJ{sc:Scope}{n:Nat}{x:Str}(h:sc.names.lookup x=some .cell):∃c,(cellsFrom n sc.names []).lookup x=some c:=by
 have q:=PySem.W.cellsFrom_some sc.names n [] (.inl h);exact Option.isSome_iff_exists.mp q
theorem aa9{CX:CXT}{P:Program}{w:World}{K:Fg}{mg:SV}{base:Heap}{N ps:List Str}{qual:Str}{scope:Scope}{f:Addr}{cd:Value}{A:Around}{Ko:List Env}{s s1:Shared}{H:Hp}{E:XK}{us:List Value}{vs:List V}
  (S:FnScope N ps scope) (hd:A.handled=none) (e0:Env0 P w K mg base A Ko s H) (hl:vs.length=ps.length) (r:jH vs us)
  (x:InCallC s s.heap.objs.size (bindL (envOfC qual scope s.heap.objs.size f cd).kindOf (ps.zip us) fun _=>none) (cellsFrom (s.heap.objs.size+1) scope.names []) (bindC (envOfC qual scope s.heap.objs.size f cd).kindOf (ps.zip us) fun _=>none) s1):
  Inv (zL CX P w K mg base N qual scope f cd A Ko s H E) [] (zj N vs) H s1:=by
 have hpl:ps.length<=N.length:=by have:=congrArg List.length S.pre;rw[List.length_take]at this;omega
 obtain⟨h1,tk,rfl,hk⟩:=x.done;have noA:∀b:Addr,b∉(zL CX P w K mg base N qual scope f cd A Ko s H E).ex:=fun b z=>absurd (show b∈([]:List Addr) from z) (by simp)
 refine⟨⟨e0.mod,S.kind,rfl,rfl,Nat.le_refl _,fun y z c h1 h2=>?_,fun y hy=>?_,fun y c _ h=>?_,fun _=>hd,Around.frames_deeper e0.frames,.inr ⟨rfl,rfl⟩,fun b z=>absurd z (noA b),e0.bs,e0.bsz,fun b _ _=>noA b,fun b z=>absurd z (noA b),e0.funs,e0.frf⟩,
  rfl,e0.bare,Un.kept hk,⟨_,x.toInCall.ns,fun i y v h1 h2 h3=>?_⟩,fun y c h=>⟨_,x.cell y c h⟩,e0.hok.fresh (Nat.le_refl _),fun y c h=>?_,fun p hp=>absurd (show p ∈ ([]:List (Addr × Obj)) from hp) (by simp),e0.hok.kept hk,?_⟩
 ·exact name_of_addr x.apart (PySem.mem_of_lookup h1) (PySem.mem_of_lookup h2)
 ·have hy:scope.names.lookup y=some .cell∨scope.names.lookup y=some .free:=hy
  rcases hy with hy | hy
  ·exact afJ hy
  ·exact absurd rfl (S.nofree _ (PySem.mem_of_lookup hy))
 ·exact Nat.le_of_lt (x.above y c (PySem.mem_of_lookup h))
 ·have hi:i<vs.length:=by
   unfold zj at h2;by_cases hi:i<vs.length
   ·exact hi
   ·rw[List.getElem?_append_right (by simpa using hi)]at h2
    rw[List.getElem?_replicate]at h2;split at h2<;>cases h2
  have ha:vs[i]?=some v:=by
   unfold zj at h2;rw[List.getElem?_append_left (by simpa using hi),List.getElem?_map]at h2;cases e:vs[i]? with
   |none=>rw[e]at h2;cases h2
   |some a=>rw[e]at h2;cases h2;rfl
  obtain⟨u,hu,rv⟩:=r.get ha
  have hp:ps[i]?=some y:=by
   rw[←S.pre,List.getElem?_take_of_lt (by omega)];exact h1
  have ndP:ps.Nodup:=by rw[←S.pre];exact S.nd.sublist (List.take_sublist _ _)
  refine⟨u,rv,?_⟩;rcases S.par y (List.mem_of_getElem? hp)with k | k
  ·exact .inl ⟨k,adP ndP hp hu k⟩
  ·obtain⟨c,e⟩:=afJ (n:=s.heap.objs.size+1) k
   refine .inr ⟨.inl k,c,e,?_⟩;have q:=x.cell y c e;rw[adQ ndP hp hu (by show scope.names.lookup y≠_;rw[k];decide)]at q;exact q
 ·exact e0.hok.fresh (Nat.le_of_lt (x.above y c (PySem.mem_of_lookup h)))
 ·unfold zj
  show _=N.length;rw[List.length_append,List.length_map,List.length_replicate];omega
theorem aqG{CX:CXT}{P:Program}{w:World}{K:Fg}{mg:SV}{base:Heap}{k:Nat}{f:Addr}{name qual:Str}{params:Arguments}{body:List Stmt}{scope:Scope}{dV kV doc pm Kc ct oc:Value}{an od:Option Addr}
  {osl:Array (Option Value)} {N ps:List Str} {sp:Sp} (lk:K.lookup f=some ⟨oc,od,.func (PySem.W.fnOf name qual params body scope dV kV doc pm an Kc ct),osl⟩) (hcd:PySem.W.codeIn K Kc qual=true) (S:FnScope N ps scope)
  (len:∀vs H Q E,sp vs H Q E->vs.length=ps.length)
  (hbody:∀(A:Around) (Ko:List Env) (s:Shared) (H:Hp) (vs:List V) (Q:VK) (E:XK),Room k (A.deeper (envOfC qual scope s.heap.objs.size f Kc))->sp vs H Q E->
   ∃ t,PSs (zL CX P w K mg base N qual scope f Kc A Ko s H E) body t/\t { nx:=fun _ H'=>Q .non H',rt:=Q } (zj N vs) H):
  FnOk P w K mg base CX (k+1) f (PySem.W.fnOf name qual params body scope dV kV doc pm an Kc ct) ps sp:=by
 refine⟨len,fun A Ko s H args us vs Q E hr e0 hb r hsp=>?_⟩;have hl:=len _ _ _ _ hsp;have KX:K.In s.heap:=e0.mod.kin.keeps fun b o e=>(e0.bs b o e).1;have lim:s.heap.NoLimit:=e0.mod.nolimit.keeps fun b o e=>(e0.bs b o e).1
 have hkind:∀y∈ps.zip us,scope.names.lookup y.1=some .local∨(scope.names.lookup y.1=some .cell/\((cellsFrom (s.heap.objs.size+1) scope.names []).lookup y.1).isSome=true):=fun⟨n,v⟩ hy=>by
  rcases S.par n (List.of_mem_zip hy).1 with q | q
  ·exact .inl q
  ·exact .inr ⟨q,PySem.W.cellsFrom_some _ _ _ (.inl q)⟩
 refine codeAny_call_function hr.depth (KX _ _ lk) rfl S.co S.gen rfl (PySem.W.codeRec_of KX hcd) (hb _ _ _ _ ?_);refine wpAny_newFunctionEnv_cells S.kind hkind fun env he s1 x=>?_;subst he;refine⟨lim.keeps x.toInCall.keep,codeAny_func ?_⟩;obtain⟨t,ht,hq⟩:=hbody A Ko s H vs Q E (hr.deeper _) hsp;have I:Inv (zL CX P w K mg base N qual scope f Kc A Ko s H E) [] (zj N vs) H s1:=aa9 S hr.hd e0 hl r x;refine wpAny_mono (ht [] s1 (zj N vs) H _ I hq) (fun fl s' hs=>?_) fun e s' hs=>hs
 have fin:∀{σ':St} {H':Hp} {v:V} {u:Value},Inv (zL CX P w K mg base N qual scope f Kc A Ko s H E) [] σ' H' s'->jV v u->Q v H'->CE Ko P w H s Q u s':=
  fun {σ' H' v u} J rv q=>⟨v,H',J.os,J.bare,J.base,J.hok,rv,q⟩
 cases fl with
 | ret u=>
  obtain⟨v,σ',H',J,rv,q⟩:=hs;exact fin J rv q
 | next=>
  obtain⟨σ',H',J,q⟩:=hs;exact fin (v:=V.non) (u:=Value.none) J rfl q
 | brk=>
  obtain⟨_,_,_,q⟩:=hs;exact False.elim q
 | cont=>
  obtain⟨_,_,_,q⟩:=hs;exact False.elim q
section
variable {X:Cx}{x:Str}{p pos:Pos}{e:Expr}{es:List Expr}{t:TA}{id T:String}{r:List V->Hp->VK->Prop}
noncomputable def tCB(r:List V->Hp->VK->Prop)(t:TA):TE:=fun σ H Q=>t σ H fun vs H1=>r vs H1 Q
theorem acE(hc:JD X (.builtin id) r)(hg:Gl X x)(hm:X.mg x=none)(hv:bootBuiltins x=some (.builtin id))(ha:PA X (e::es) t)(hn:x≠"__name__":=by decide)(hdb:(x==("__debug__":Str))=false:=by decide)
  (he:starEach (e::es) X.env=(false,eval e X.env)::starEach es X.env:=by rfl) (hpl:(backTo pos (starEach es X.env)).any (·.1)=false:=by rfl):PE X (.Call (.Name x p) (e::es) [] pos) (tCB r t):=by
 intro Kp s σ H Q I h;refine wpAny_Call_Name_kw (QM I hg hm hv ?_ hn hdb);exact PyProof.Rows.callWith_builtin1 (thn (ha pos Kp s σ H _ I h) fun us s1 ⟨vs,H1,I1,r1,q1⟩=>hc Kp s1 σ H1 vs us Q I1 r1 q1) he hpl
theorem adR(hc:JD X (.type T) r)(hg:Gl X x)(hm:X.mg x=none)(hv:bootBuiltins x=some (.type T))(ha:PA X (e::es) t)(hn:x≠"__name__":=by decide)(hdb:(x==("__debug__":Str))=false:=by decide)
  (he:starEach (e::es) X.env=(false,eval e X.env)::starEach es X.env:=by rfl) (hpl:(backTo pos (starEach es X.env)).any (·.1)=false:=by rfl):PE X (.Call (.Name x p) (e::es) [] pos) (tCB r t):=by
 intro Kp s σ H Q I h;refine wpAny_Call_Name_kw (QM I hg hm hv ?_ hn hdb);exact PyProof.Rows.callWith_type1 (thn (ha pos Kp s σ H _ I h) fun us s1 ⟨vs,H1,I1,r1,q1⟩=>hc Kp s1 σ H1 vs us Q I1 r1 q1) he hpl
end
end L2
namespace HT
open PySem PyProof.Rows
section
open PySem.SeqAt
open PySem.AutoSeq1 (wpAny_loadPart')
open PySem.MeetsSeq PySem.MeetsSeq2 PySem.MeetsSeq3
end
section
variable {prog:Program}{w:World}{A:Around}{E:Value->SP0}{s:Shared}
theorem cat_tup{t b:Addr}{vs ws:List Value}{Q:Value->SP0}(ht:IsTup s.heap t vs.toArray)(hb:IsTup s.heap b ws.toArray)(hv:vs≠[])
  (h1:ws=[]->Q (.ref t) s) (h2:ws≠[]->Q (.ref s.heap.objs.size) { s with heap:=s.heap.push { cls:= .type "tuple",data:= .seq (vs++ws).toArray } })
  (hsz:vs.length+ws.length<=sizeLine):wpAny (model prog w) A (binaryOp .Add (.ref t) (.ref b)) Q E s:=by
 obtain⟨⟨cls,dd,data,sl⟩,ho,hc,n,hd⟩:=id ht;obtain⟨⟨cls2,dd2,data2,sl2⟩,ho2,hc2,n2,hd2⟩:=id hb;simp only at hc hd hc2 hd2;subst hc hd hc2 hd2;have e:vs.toArray++ws.toArray=(vs++ws).toArray:=by simp
 by_cases hw:ws=[]
 ·exact concat_meets ⟨_,ho,rfl⟩ ⟨_,ho2,rfl⟩ noFill_tuple_add seq_tuple_add PySem.F.slot_tuple_add PySem.F.entry_tuple_add (PySem.F.args_tuple_add_2 _ _)
   (tuple_addW1 t b vs.toArray ws.toArray n n2 dd dd2 sl sl2 (by simpa using hv) (by simp[hw])) ⟨ho,ho2,h1 hw⟩
 ·refine concat_meets ⟨_,ho,rfl⟩ ⟨_,ho2,rfl⟩ noFill_tuple_add seq_tuple_add PySem.F.slot_tuple_add PySem.F.entry_tuple_add (PySem.F.args_tuple_add_2 _ _)
   (tuple_addW2 t b vs.toArray ws.toArray n n2 dd dd2 sl sl2 (by simpa using hv) (by simpa using hw) (by rw[List.size_toArray,List.size_toArray];exact hsz)) ⟨ho,ho2,?_⟩
  rw[e];exact h2 hw
noncomputable def sIx(n d:Nat):Option Int->Nat
 |none=>d
 |some v=>if v<0 then (v+(n:Int)).toNat else min v.toNat n
theorem sIx_none(n d:Nat):sIx n d none=d:=rfl
theorem sIx_nat(n d k:Nat):sIx n d (some (k:Int))=min k n:=by
 show(if (k:Int)<0 then ((k:Int)+(n:Int)).toNat else min (k:Int).toNat n)=min k n;rw[if_neg (by omega),Int.toNat_natCast]
theorem apf(n d:Nat)(hd:d<=n)(o:Option Int):sIx n d o<=n:=by
 cases o with
 |none=>exact hd
 | some v=>
  show(if v<0 then (v+(n:Int)).toNat else min v.toNat n)<=n;by_cases hv:v<0
  ·rw[if_pos hv];omega
  ·rw[if_neg hv];exact Nat.min_le_right _ _
theorem ah6(v:Int)(n d:Nat):(if v<0 then max (v+(n:Int)) 0 else min v (n:Int))=((sIx n d (some v):Nat):Int):=by
 show(if v<0 then max (v+(n:Int)) 0 else min v (n:Int))=(((if v<0 then (v+(n:Int)).toNat else min v.toNat n):Nat):Int);by_cases hv:v<0
 ·simp only[if_pos hv];omega
 ·simp only[if_neg hv];omega
theorem ag5(lo hi:Option Int)(n:Nat):Builtin.Slice.sliceAdjust lo hi 1 (n:Int)=(((sIx n 0 lo:Nat):Int),((sIx n n hi:Nat):Int)):=by
 have h1:¬ ((1:Int)<0):=by omega
 unfold Builtin.Slice.sliceAdjust;simp only[h1,zzN];refine Prod.ext ?_ ?_
 ·cases lo with
  |none=>rfl
  |some v=>exact ah6 v n 0
 ·cases hi with
  |none=>rfl
  |some v=>exact ah6 v n n
theorem ag6(i j:Nat):Builtin.Slice.slicePlaces (i:Int) (j:Int) 1=j-i:=by
 unfold Builtin.Slice.slicePlaces;have h1:(1:Int)>0:=by omega
 simp only[h1,zzM,Int.ediv_one];split<;>omega
theorem slicePart_{v:Value}{o:Option Int}{Q:Option Int->SP0}(p:IsPart v o)(h:Q o s):wpAny (model prog w) A (Builtin.Slice.slicePartIndex v) Q E s:=by
 cases p with
 |none=>exact slicePart_none h
 |int i t=>exact slicePart_int h
theorem sliceApplied_gen{sl:Addr}{vl vu:Value}{lo hi:Option Int}{n:Nat}{Q:Int×Int×Nat->SP0}(hs:s.heap.IsSliceOf sl vl vu .none)(pl:IsPart vl lo)(pu:IsPart vu hi)
  (h:Q (((sIx n 0 lo:Nat):Int),1,sIx n n hi-sIx n 0 lo) s):wpAny (model prog w) A (Builtin.Slice.sliceApplied (.ref sl) (pure (n:Int))) Q E s:=by
 obtain⟨os,hos,hcs,hds⟩:=id hs;unfold Builtin.Slice.sliceApplied Builtin.Slice.sliceFields;refine wpAny_bind (wpAny_bind (wpAny_field hos hds (x:=vl) rfl (wpAny_bind (wpAny_field hos hds (x:=vu) rfl (wpAny_bind (wpAny_field hos hds (x:= .none) rfl (wpAny_pure ?_)))))));refine wpAny_bind (slicePart_none ?_);show wpAny _ _ (if ((1:Int)==0)=true then _ else _) _ _ s;rw[if_neg (by decide)];refine wpAny_bind (slicePart_ pl (wpAny_bind (slicePart_ pu (wpAny_bind (wpAny_pure ?_)))));show wpAny _ _ (match Builtin.Slice.sliceAdjust lo hi 1 (n:Int)with | (lo,hi)=>pure (lo,(1:Int),Builtin.Slice.slicePlaces lo hi 1)) _ _ s;rw[ag5 lo hi n];show wpAny _ _ (pure (((sIx n 0 lo:Nat):Int),(1:Int),Builtin.Slice.slicePlaces ((sIx n 0 lo:Nat):Int) ((sIx n n hi:Nat):Int) 1)) _ _ s;rw[ag6];exact wpAny_pure h
theorem aku(xs:Array Value)(i k:Nat):((List.range k).filterMap fun (m:Nat)=>xs[((i:Int)+(m:Int)*1).toNat]?).toArray=((xs.toList.drop i).take k).toArray:=by
 have e:(fun (m:Nat)=>xs[((i:Int)+(m:Int)*1).toNat]?)=fun m=>xs[i+m]?:=by
  funext m;have:((i:Int)+(m:Int)*1).toNat=i+m:=by omega
  rw[this]
 rw[e];have:=pick_run xs i k;rw[List.filterMap_map]at this;have e2:((fun x=>xs[x]?)∘fun x=>i+x)=fun m=>xs[i+m]?:=rfl;rw[e2]at this;rw[this]
theorem getItem_tuple_cut{t sl:Addr}{items:Array Value}{vl vu:Value}{lo hi:Option Int}{Q:Value->SP0}(ht:IsTup s.heap t items)(hs:s.heap.IsSliceOf sl vl vu .none)(pl:IsPart vl lo)(pu:IsPart vu hi)
  (hw:¬ (sIx items.size 0 lo=0/\sIx items.size items.size hi=items.size))
  (h:Q (.ref s.heap.objs.size) { s with heap:=s.heap.push { cls:= .type "tuple",data:= .seq ((items.toList.drop (sIx items.size 0 lo)).take (sIx items.size items.size hi-sIx items.size 0 lo)).toArray } })
  (hsz:items.size<=sizeLine):wpAny (model prog w) A (getItem (.ref t) (.ref sl)) Q E s:=by
 have htake:sizeOk (.seq ((items.toList.drop (sIx items.size 0 lo)).take (sIx items.size items.size hi-sIx items.size 0 lo)).toArray):=by
  show((items.toList.drop (sIx items.size 0 lo)).take (sIx items.size items.size hi-sIx items.size 0 lo)).toArray.size<=sizeLine;rw[List.size_toArray,List.length_take,List.length_drop,Array.length_toList];omega
 have hj:sIx items.size items.size hi<=items.size:=apf _ _ (Nat.le_refl _) hi;obtain⟨os,hos,hcs,hds⟩:=id hs;have hTs:s.TypeIs (.ref sl) "slice":=⟨os,hos,hcs⟩;unfold getItem
 try with_reducible refine wpAny_holding ?_
 first | refine wpAny_bind (wpAny_pure ?_) | skip
 refine wpAny_bind (wpAny_sequenceKey ht.typeIs (by decide) ?_)
 refine wpAny_bind (wpAny_callSpecial?_slot (name:=Str.ofString "__getitem__") ht.typeIs PyProof.Rows.slot_tuple_getitem
  (wpAny_call_entry PyProof.Rows.slot_tuple_getitem ht.typeIs entry_tuple_getitem ?_ (args_tuple_getitem _ _)))
 show wpAny _ _ (Builtin.Tuple.tupleItemsOf (.ref t) >>= _) _ _ s;refine wpAny_bind (tupleItemsOf_ ht ?_);refine wpAny_bind (wpAny_typeOf hTs ?_);rw[if_pos (by decide)];refine wpAny_bind (sliceApplied_gen hs pl pu ?_)
 have hno:¬ ((((sIx items.size 0 lo:Nat):Int)==0&&(1:Int)==1&&(sIx items.size items.size hi-sIx items.size 0 lo)==items.size)=true):=by
  intro q;rw[Bool.and_eq_true,Bool.and_eq_true]at q;have q1:((sIx items.size 0 lo:Nat):Int)=0:=eq_of_beq q.1.1;have q2:sIx items.size items.size hi-sIx items.size 0 lo=items.size:=eq_of_beq q.2;exact hw ⟨by omega,by omega⟩
 show wpAny _ _ (if (((sIx items.size 0 lo:Nat):Int)==0&&(1:Int)==1&&(sIx items.size items.size hi-sIx items.size 0 lo)==items.size)=true then _ else _) _ _ s;rw[if_neg hno,aku]
 first
  |exact wpAny_bind (m:=Builtin.Tuple.tupleExact _) (wpAny_newObj_type (wpAny_pure ⟨_,rfl,wpAny_pure h⟩) htake)
  |exact wpAny_bind (m:=Builtin.Tuple.tupleExact _) (wpAny_newObj_type (wpAny_bind (wpAny_pure (wpAny_pure ⟨_,rfl,wpAny_pure h⟩))) htake)
  |exact wpAny_bind (wpAny_bind (m:=Builtin.Tuple.tupleExact _) (wpAny_newObj_type (wpAny_pure (wpAny_pure ⟨_,rfl,wpAny_pure h⟩)) htake))
  |exact wpAny_bind (wpAny_bind (m:=Builtin.Tuple.tupleExact _) (wpAny_newObj_type (wpAny_pure ⟨_,rfl,wpAny_pure h⟩) htake))
end
end HT
namespace L2
open PySem PySem.Spec PyProof.Rows
noncomputable abbrev TO:=St->Hp->(Option Int->Hp->Prop)->Prop
noncomputable def PO(X:Cx)(e:Option Expr)(t:TO):Prop:=
 ∀(Kp:List (Addr×Obj)) (s:Shared) (σ:St) (H:Hp) (Q:Option Int->Hp->Prop),Inv X Kp σ H s->t σ H Q->
  wpAny (model X.prog X.w) X.A (evalPart e X.env) (fun u s'=>∃o H',Inv X Kp σ H' s'/\IsPart u o/\Q o H') X.xe s
noncomputable def am3:TO:=fun _ H Q=>Q none H
noncomputable def aqH(t:TE):TO:=fun σ H Q=>t σ H fun x H1=>∃i,x= .int i/\Q (some i) H1
section
variable {X:Cx}{e:Expr}{te:TE}{lo hi:Option Expr}{tl th:TO}{pos p2:Pos}
theorem aeD:PO X none am3:=by
 intro Kp s σ H Q I h;rw[evalPart_none];exact wpAny_pure ⟨none,H,I,.none,h⟩
theorem ab9(h:PE X e te):PO X (some e) (aqH te):=by
 intro Kp s σ H Q I hw;rw[evalPart_some];refine thn (h Kp s σ H _ I hw) fun u s1 ⟨x,H1,I1,r1,q1⟩=>?_;obtain⟨i,rfl,q⟩:=q1;obtain⟨t,rfl⟩:=r1;exact⟨some i,H1,I1,.int i t,q⟩
noncomputable def SlR(X:Cx)(r:V->Option Int->Option Int->Hp->VK->Prop):Prop:=
 ∀(Kp:List (Addr×Obj)) (s:Shared) (σ:St) (H:Hp) (x:V) (v vl vu:Value) (lo hi:Option Int) (sl:Addr) (Q:VK),Inv X Kp σ H s->jV x v->s.heap.IsSliceOf sl vl vu .none->IsPart vl lo->IsPart vu hi->r x lo hi H Q->
  ∃T id,typeLookup (.type T) "__getitem__"=pure (some (.builtin id))/\s.TypeIs v T/\wpAny (model X.prog X.w) X.A (getItem v (.ref sl)) (EP X Kp σ Q) X.xe s
theorem SlR.or{r r':V->Option Int->Option Int->Hp->VK->Prop}(h:SlR X r)(h':SlR X r'):SlR X (fun x lo hi H Q=>r x lo hi H Q∨r' x lo hi H Q):=by
 intro Kp s σ H x v vl vu lo hi sl Q I rx hs pl pu q;rcases q with q | q
 ·exact h Kp s σ H x v vl vu lo hi sl Q I rx hs pl pu q
 ·exact h' Kp s σ H x v vl vu lo hi sl Q I rx hs pl pu q
noncomputable def tSl(r:V->Option Int->Option Int->Hp->VK->Prop)(te:TE)(tl th:TO):TE:=fun σ H Q=>te σ H fun x H1=>tl σ H1 fun l H2=>th σ H2 fun u H3=>r x l u H3 Q
theorem acF{r:V->Option Int->Option Int->Hp->VK->Prop}(hr:SlR X r)(he:PE X e te)(hl:PO X lo tl)(hu:PO X hi th):PE X (.Subscript e (.Slice lo hi none p2) pos) (tSl r te tl th):=by
 intro Kp s σ H Q I h;refine Subscript_ (thn (he Kp s σ H _ I h) fun v s1 ⟨x,H1,I1,r1,q1⟩=>?_);refine wpAny_Slice (thn (hl Kp s1 σ H1 _ I1 q1) fun vl s2 ⟨l,H2,I2,pl,q2⟩=>thn (hu Kp s2 σ H2 _ I2 q2) fun vu s3 ⟨u,H3,I3,pu,q3⟩=>?_);rw[evalPart_none];refine wpAny_pure ?_;have I4:Inv X Kp σ H3 { s3 with heap:=s3.heap.push { cls:= .type "slice",data:= .fields #[vl,vu,.none] } }:=I3.kept (t':=s3.toks) fun b ob q=>Heap.get?_push_of_some _ q;obtain⟨T,id,hT,ht,hg⟩:=hr Kp { s3 with heap:=s3.heap.push { cls:= .type "slice",data:= .fields #[vl,vu,.none] } } σ H3 x v vl vu l u s3.heap.objs.size Q I4 r1 (Heap.IsSliceOf.new ..) pl pu q3;show wpAny (model X.prog X.w) X.A (subscriptTail e (.Slice lo hi none p2) v (.ref s3.heap.objs.size)) (EP X Kp σ Q) X.xe { s3 with heap:=s3.heap.push { cls:= .type "slice",data:= .fields #[vl,vu,.none] } };exact tail_any (ops:=[.ref s3.heap.objs.size,v]) ht hT hg (by with_unfolding_all rfl)
noncomputable def aak(xs:List V)(lo hi:Option Int):List V:=(xs.drop (HT.sIx xs.length 0 lo)).take (HT.sIx xs.length xs.length hi-HT.sIx xs.length 0 lo)
theorem abF(xs:List V)(lo hi:Option Int):(aak xs lo hi).length<=xs.length:=by
 unfold aak;rw[List.length_take,List.length_drop];omega
noncomputable def aqI(K:Fg):V->Option Int->Option Int->Hp->VK->Prop:=fun x lo hi H Q=>∃a xs,x= .ref a/\SqT K H a xs/\
 ¬ (HT.sIx xs.length 0 lo=0/\HT.sIx xs.length xs.length hi=xs.length)/\∀p,H p=none->Q (.ref p) (upd H p (.tup (aak xs lo hi)))
theorem akv:SlR X (aqI X.K):=by
 intro Kp s σ H x v vl vu lo hi sl Q I rx hs pl pu h;obtain⟨a,xs,rfl,hx,hw,q⟩:=h;cases rx;obtain⟨its,r,ht,hz⟩:=I.tuple hx;have hlen:its.toArray.size=xs.length:=by rw[List.size_toArray];exact r.length.symm
 refine⟨"tuple",_,PyProof.Rows.slot_tuple_getitem.lookup,ht.typeIs,?_⟩;refine HT.getItem_tuple_cut ht hs pl pu (by rw[hlen];exact hw) ?_ (by rw[hlen];exact hz);rw[hlen];refine⟨.ref s.heap.objs.size,_,I.laid (t':=s.toks) (o:= .tup (aak xs lo hi)) (fun b ob q=>Heap.get?_push_of_some _ q) (Nat.le_refl _) ?_,rfl,q _ (I.hok.fresh (Nat.le_refl _))⟩;exact⟨Nat.le_trans (abF xs lo hi) hz,_,(r.drop (HT.sIx xs.length 0 lo)).take (HT.sIx xs.length xs.length hi-HT.sIx xs.length 0 lo),IsTup.new _ _⟩
noncomputable def aqJ(K:Fg):R2:=fun x y H Q=>∃a b xs ys,x= .ref a/\y= .ref b/\SqT K H a xs/\SqT K H b ys/\xs≠[]/\xs.length+ys.length<=sizeLine/\
 (ys=[]->Q (.ref a) H)/\(ys≠[]->∀p,H p=none->Q (.ref p) (upd H p (.tup (xs++ys))))
theorem jH.nil_iff{xs:List V}{us:List Value}(r:jH xs us):us=[]↔xs=[]:=by
 cases r with
 |nil=>simp
 |cons _ _=>simp
theorem am4:OpR X (binaryOp .Add) (aqJ X.K):=by
 intro Kp s σ H x y v u Q I rx ry h;obtain⟨a,b,xs,ys,rfl,rfl,ha,hb,hx,hz,q1,q2⟩:=h;cases rx;cases ry;obtain⟨its,r1,p1,_⟩:=I.tuple ha;obtain⟨its2,r2,p2,_⟩:=I.tuple hb;refine HT.cat_tup p1 p2 (fun z=>hx (r1.nil_iff.mp z)) (fun z=>⟨.ref a,H,I,rfl,q1 (r2.nil_iff.mp z)⟩) (fun z=>?_) (by rw[←r1.length,←r2.length];exact hz);refine⟨.ref s.heap.objs.size,_,I.laid (t':=s.toks) (o:= .tup (xs++ys)) (fun b ob q=>Heap.get?_push_of_some _ q) (Nat.le_refl _) ?_,rfl,q2 (fun w=>z (r2.nil_iff.mpr w)) _ (I.hok.fresh (Nat.le_refl _))⟩;exact⟨by rw[List.length_append];exact hz,_,r1.append r2,IsTup.new _ _⟩
end
noncomputable def ixN(n:Nat)(i:Int):Option Nat:=if 0<=i then (if i<n then some i.toNat else none) else if -(n:Int)<=i then some (i+n).toNat else none
noncomputable def atI{α:Type}(xs:List α)(i:Int):Option α:=(ixN xs.length i).bind fun j=>xs[j]?
theorem ah7{n:Nat}{i:Int}{j:Nat}(h:ixN n i=some j):seqIndex? i n=some j/\j<n/\-(n:Int)<=i/\i<n:=by
 unfold ixN at h;by_cases h0:0<=i
 ·rw[if_pos h0]at h
  by_cases h1:i<n
  ·rw[if_pos h1]at h
   have e:i.toNat=j:=Option.some.inj h;exact⟨by rw[seqIndex_of h0 h1,e],by omega,by omega,h1⟩
  ·rw[if_neg h1]at h;cases h
 ·rw[if_neg h0]at h
  by_cases h1:-(n:Int)<=i
  ·rw[if_pos h1]at h
   have e:(i+n).toNat=j:=Option.some.inj h;exact⟨by rw[seqIndex_neg (by omega) h1,e],by omega,h1,by omega⟩
  ·rw[if_neg h1]at h;cases h
theorem ah8{α:Type}{xs:List α}{i:Int}{v:α}(h:atI xs i=some v):∃j,seqIndex? i xs.length=some j/\xs[j]?=some v/\j<xs.length/\-(xs.length:Int)<=i/\i<xs.length:=by
 unfold atI at h;cases e:ixN xs.length i with
 |none=>rw[e]at h;cases h
 | some j=>
  rw[e]at h;obtain⟨h1,h2,h3,h4⟩:=ah7 e;exact⟨j,h1,h,h2,h3,h4⟩
noncomputable def ah9(b:Expr):Prop:=∀o i,subscripted b false o i=operate [o,i] (getItem o i)
noncomputable def IxR(X:Cx)(r:R2):Prop:=
 ∀(value slice:Expr) (Kp:List (Addr×Obj)) (s:Shared) (σ:St) (H:Hp) (x y:V) (v u:Value) (Q:VK),Inv X Kp σ H s->jV x v->jV y u->r x y H Q->
  subscripted slice false v u=operate [v,u] (getItem v u)->wpAny (model X.prog X.w) X.A (subscriptTail value slice v u) (EP X Kp σ Q) X.xe s
noncomputable def MtR(X:Cx)(id:String)(r:V->List V->Hp->VK->Prop):Prop:=
 ∀(Kp:List (Addr×Obj)) (s:Shared) (σ:St) (H:Hp) (x:V) (xs:List V) (v:Value) (us:List Value) (Q:VK),Inv X Kp σ H s->jV x v->jH xs us->r x xs H Q->
  wpAny (model X.prog X.w) X.A (call (.builtin id) (v::us)) (EP X Kp σ Q) X.xe s
section
variable {X:Cx}{a b:Expr}{ta tb:TE}{pos:Pos}
theorem IxR.or{r r':R2}(h:IxR X r)(h':IxR X r'):IxR X (fun x y H Q=>r x y H Q∨r' x y H Q):=by
 intro value slice Kp s σ H x y v u Q I rx ry q hs;rcases q with q | q
 ·exact h value slice Kp s σ H x y v u Q I rx ry q hs
 ·exact h' value slice Kp s σ H x y v u Q I rx ry q hs
theorem MtR.or{id:String}{r r':V->List V->Hp->VK->Prop}(h:MtR X id r)(h':MtR X id r'):MtR X id (fun x xs H Q=>r x xs H Q∨r' x xs H Q):=by
 intro Kp s σ H x xs v us Q I rx rs q;rcases q with q | q
 ·exact h Kp s σ H x xs v us Q I rx rs q
 ·exact h' Kp s σ H x xs v us Q I rx rs q
theorem aqK{r:R2}(hr:IxR X r)(ha:PE X a ta)(hb:PE X b tb)(hs:ah9 b):PE X (.Subscript a b pos) (tOp r ta tb):=by
 intro Kp s σ H Q I h;exact Subscript_ (ao5 ha hb I h fun v u s2 x y H2 I2 rx ry q=>hr a b Kp s2 σ H2 x y v u Q I2 rx ry q (hs _ _))
noncomputable def ar7(K:Fg):R2:=fun x y H Q=>∃p xs i v,x= .ref p/\y= .int i/\SqL K H p xs/\atI xs i=some v/\Q v H
noncomputable def ar8(K:Fg):R2:=fun x y H Q=>∃p xs i v,x= .ref p/\y= .int i/\SqT K H p xs/\atI xs i=some v/\Q v H
theorem am5:IxR X (ar7 X.K):=by
 intro value slice Kp s σ H x y v u Q I rx ry h hs;obtain⟨p,xs,i,z,rfl,rfl,hq,he,q⟩:=h;cases rx;obtain⟨t,rfl⟩:=ry;obtain⟨its,r,pl,hz⟩:=I.list hq;obtain⟨j,h1,h2,h3,h4,h5⟩:=ah8 he;obtain⟨w,ew,rw'⟩:=r.get h2;have hl:=r.length;have hn:=acD;have fin:EP X Kp σ Q w s:=⟨z,H,I,rw',q⟩;by_cases h0:0<=i
 ·have hj:i.toNat=j:=by
   rw[seqIndex_of h0 h5]at h1;exact Option.some.inj h1
  exact item_listR pl.isList h0 (by omega) (by rw[hj];simpa using ew) fin hs
 ·have hj:(i+(its.toArray.size:Int)).toNat=j:=by
   rw[seqIndex_neg (by omega) h4]at h1;rw[List.size_toArray,←hl];exact Option.some.inj h1
  exact subscriptTail_builtinR (x:=w) pl.isList.typeIs slot_list_getitem.lookup
   (wpAny_getItem_list_neg (Q:=fun r s'=>r=w/\EP X Kp σ Q r s') pl.isList (by omega) (by rw[List.size_toArray]<;>omega) (by omega) (by rw[hj];simpa using ew) ⟨rfl,fin⟩) hs
theorem apg:IxR X (ar8 X.K):=by
 intro value slice Kp s σ H x y v u Q I rx ry h hs;obtain⟨p,xs,i,z,rfl,rfl,hq,he,q⟩:=h;cases rx;obtain⟨t,rfl⟩:=ry;obtain⟨its,r,pl,hz⟩:=I.tuple hq;obtain⟨j,h1,h2,h3,h4,h5⟩:=ah8 he;obtain⟨w,ew,rw'⟩:=r.get h2;have hl:=r.length;have hn:=acD;have fin:EP X Kp σ Q w s:=⟨z,H,I,rw',q⟩
 exact subscriptTail_builtinR (x:=w) pl.typeIs slot_tuple_getitem.lookup
  (getItem_tuple (j:=j) (Q:=fun r s'=>r=w/\EP X Kp σ Q r s') pl (by omega) (by omega) (by rw[List.size_toArray,←hl];exact h1) (by simpa using ew) ⟨rfl,fin⟩) hs
theorem ag7(its:List Value)(n j:Nat)(u:Value):Obj.mapSeq (·.setIfInBounds j u) { cls:= .type "list",data:= .seq its.toArray n }={ cls:= .type "list",data:= .seq (its.set j u).toArray n }:=by
 simp[Obj.mapSeq]
theorem Inv.lst{Kp:List (Addr×Obj)}{σ:St}{H:Hp}{s:Shared}{p:Addr}{xs:List V}(I:Inv X Kp σ H s)(h:H p=some (.lst xs)):
  ∃(its:List Value) (n:Nat),jH xs its/\s.heap.get? p=some { cls:= .type "list",data:= .seq its.toArray n }/\xs.length<=sizeLine:=by
 obtain⟨z,its,n,r,e⟩:=I.hok p _ h;exact⟨its,n,r,e,z⟩
theorem Inv.lstUpd{Kp:List (Addr×Obj)}{σ:St}{H:Hp}{s:Shared}{p:Addr}{xs ys:List V}{its its':List Value}{n n':Nat}{f:Obj->Obj}(I:Inv X Kp σ H s)(h:H p=some (.lst xs))
  (ho:s.heap.get? p=some { cls:= .type "list",data:= .seq its.toArray n }) (hf:f { cls:= .type "list",data:= .seq its.toArray n }={ cls:= .type "list",data:= .seq its'.toArray n' }) (r:jH ys its') (hz:ys.length<=sizeLine) (t:Nat):
  Inv X Kp σ (upd H p (.lst ys)) { s with heap:=s.heap.update p f,toks:=t }:=by
 have e:(s.heap.update p f).get? p=some { cls:= .type "list",data:= .seq its'.toArray n' }:=by
  rw[Heap.get?_update_self f ho (by rw[hf]<;>rfl),hf]
 refine I.write (x:=p) (e:=p) (by rw[h];trivial) (.inl rfl) (fun b u hb q=>(Heap.get?_update_other _ _ (Ne.symm hb)).trans q) ⟨_,e⟩ ?_;exact⟨hz,its',n',r,e⟩
noncomputable def aqL:V->V->V->Hp->(Hp->Prop)->Prop:=fun o i v H Q=>∃p xs k j,o= .ref p/\i= .int k/\H p=some (.lst xs)/\ixN xs.length k=some j/\Q (upd H p (.lst (xs.set j v)))
theorem akw:ao0 X aqL:=by
 intro Kp s σ H o i v ov iv u Q I ro ri rv h;obtain⟨p,xs,k,j,rfl,rfl,hp,hj,q⟩:=h;cases ro;obtain⟨t,rfl⟩:=ri;obtain⟨its,n,r,ho,hz⟩:=I.lst hp;obtain⟨h1,h2,h3,h4⟩:=ah7 hj;have hl:=r.length;have hn:=acD
 have I':Inv X Kp σ (upd H p (.lst (xs.set j v))) { s with heap:=s.heap.update p (Obj.mapSeq (·.setIfInBounds j u)) }:=
  I.lstUpd hp ho (ag7 its n j u) (r.set rv j) (by rw[List.length_set];exact hz) s.toks
 by_cases h0:0<=k
 ·have hk:k.toNat=j:=by
   rw[seqIndex_of h0 h4]at h1;exact Option.some.inj h1
  exact PySem.W.ki_setAt ho h0 (by omega) (by rw[List.size_toArray,←hl];exact h4) (by rw[hk];exact⟨_,I',q⟩)
 ·have hk:(k+(its.toArray.size:Int)).toNat=j:=by
   rw[seqIndex_neg (by omega) h3]at h1;rw[List.size_toArray,←hl];exact Option.some.inj h1
  exact PySem.W.ki_setBack ho (by omega) (by rw[List.size_toArray,←hl];exact h3) (by omega) (by rw[hk];exact⟨_,I',q⟩)
theorem aeE(lo hi:Option Int)(n:Nat):(sliceBounds lo hi none n).1=((HT.sIx n 0 lo:Nat):Int)/\(sliceBounds lo hi none n).2.1=((HT.sIx n n hi:Nat):Int)/\(sliceBounds lo hi none n).2.2=1:=by
 refine⟨?_,?_,rfl⟩
 ·cases lo with
  |none=>simp[sliceBounds,HT.sIx]
  | some i=>
   simp only[sliceBounds,HT.sIx,Option.getD_none,show(1:Int)>0 by decide,zzM];by_cases h:i<0
   ·simp only[h,zzM]<;>omega
   ·simp only[h,zzN]<;>omega
 ·cases hi with
  |none=>simp[sliceBounds,HT.sIx]
  | some i=>
   simp only[sliceBounds,HT.sIx,Option.getD_none,show(1:Int)>0 by decide,zzM];by_cases h:i<0
   ·simp only[h,zzM]<;>omega
   ·simp only[h,zzN]<;>omega
theorem adx(its:List Value)(lo hi:Option Int):slicePick its.toArray lo hi none=((its.drop (HT.sIx its.length 0 lo)).take (HT.sIx its.length its.length hi-HT.sIx its.length 0 lo)).toArray:=by
 obtain⟨h1,h2,h3⟩:=aeE lo hi its.toArray.size;unfold slicePick;rw[h1,h2,h3];simp only[sliceRange_one,pick_run,List.size_toArray]<;>rfl
noncomputable def ar9(K:Fg):V->Option Int->Option Int->Hp->VK->Prop:=fun x lo hi H Q=>∃a xs,x= .ref a/\SqL K H a xs/\∀p,H p=none->Q (.ref p) (upd H p (.lst (aak xs lo hi)))
theorem am6:SlR X (ar9 X.K):=by
 intro Kp s σ H x v vl vu lo hi sl Q I rx hs pl pu h;obtain⟨a,xs,rfl,hx,q⟩:=h;cases rx;obtain⟨its,r,ht,hz⟩:=I.list hx;have hlen:=r.length;refine⟨"list",_,slot_list_getitem.lookup,ht.isList.typeIs,?_⟩;refine wpAny_getItem_list_slice ht.isList hs pl pu .none (by simp) ?_ (by rw[List.size_toArray]<;>omega);rw[adx,←hlen];refine⟨.ref s.heap.objs.size,_,I.laid (t':=s.toks) (o:= .lst (aak xs lo hi)) (fun b ob q=>Heap.get?_push_of_some _ q) (Nat.le_refl _) ?_,rfl,q _ (I.hok.fresh (Nat.le_refl _))⟩;exact⟨Nat.le_trans (abF xs lo hi) hz,_,0,(r.drop (HT.sIx xs.length 0 lo)).take (HT.sIx xs.length xs.length hi-HT.sIx xs.length 0 lo),Heap.get?_push_size _ rfl⟩
theorem aeF:JD X (.builtin "len") (fun xs H Q=>∃p ys,xs=[.ref p]/\(SqL X.K H p ys∨SqT X.K H p ys)/\Q (.int ys.length) H):=by
 intro Kp s σ H xs us Q I r h;obtain⟨p,ys,rfl,hq,q⟩:=h;obtain⟨u,rfl,rx⟩:=adM r;cases rx;have hn:=acD;rcases hq with hq | hq
 ·obtain⟨its,r',pl,hz⟩:=I.list hq
  have hlen:=r'.length;exact Calls.call_len_list pl.isList (by simp only[List.size_toArray]<;>omega) ⟨.int ys.length,H,I.tok _,⟨s.toks+1,by rw[List.size_toArray,hlen]⟩,q⟩
 ·obtain⟨its,r',pl,hz⟩:=I.tuple hq
  have hlen:=r'.length;exact len_tuple pl (by simp only[List.size_toArray]<;>omega) ⟨.int ys.length,H,I.tok _,⟨s.toks+1,by rw[List.size_toArray,hlen]⟩,q⟩
theorem JD.or{f:Value}{r r':List V->Hp->VK->Prop}(h:JD X f r)(h':JD X f r'):JD X f (fun xs H Q=>r xs H Q∨r' xs H Q):=by
 intro Kp s σ H xs us Q I rs q;rcases q with q | q
 ·exact h Kp s σ H xs us Q I rs q
 ·exact h' Kp s σ H xs us Q I rs q
theorem aeG:JD X (.type "list") (fun xs H Q=>∃p ys,xs=[.ref p]/\(SqL X.K H p ys∨SqT X.K H p ys)/\∀l,H l=none->Q (.ref l) (upd H l (.lst ys))):=by
 intro Kp s σ H xs us Q I r h;obtain⟨p,ys,rfl,hq,q⟩:=h;obtain⟨u,rfl,rx⟩:=adM r;cases rx
 have fin:∀(its:List Value),jH ys its->ys.length<=sizeLine->∀(h':Heap) (c':Nat),(∀b o',s.heap.get? b=some o'->h'.get? b=some o')->
   h'.get? s.heap.objs.size=some { cls:= .type "list",dict:=none,data:= .seq its.toArray c',slots:=#[] }->EP X Kp σ Q (.ref s.heap.objs.size) { s with heap:=h' }:=fun its r' hz h' c' kp e=>
  ⟨.ref s.heap.objs.size,_,I.laid (t':=s.toks) kp (Nat.le_refl _) (show zh X.prog X.w _ h' _ (.lst ys) from⟨hz,its,c',r',e⟩),rfl,q _ (I.hok.fresh (Nat.le_refl _))⟩
 rcases hq with hq | hq
 ·obtain⟨its,r',pl,hz⟩:=I.list hq
  have hlen:=r'.length;obtain⟨o,ho,hc,n,hd⟩:=pl.isList;exact call_list_seq p (.inl rfl) ho hc hd (fun h' c' kp e=>fin its r' hz h' c' kp e) (by simp only[List.size_toArray]<;>omega)
 ·obtain⟨its,r',pl,hz⟩:=I.tuple hq
  have hlen:=r'.length;obtain⟨o,ho,hc,n,hd⟩:=pl;exact call_list_seq p (.inr rfl) ho hc hd (fun h' c' kp e=>fin its r' hz h' c' kp e) (by simp only[List.size_toArray]<;>omega)
theorem ady:JD X (.type "tuple") (fun xs H Q=>∃p ys,xs=[.ref p]/\((SqL X.K H p ys/\∀l,H l=none->Q (.ref l) (upd H l (.tup ys)))∨(SqT X.K H p ys/\Q (.ref p) H))):=by
 intro Kp s σ H xs us Q I r h;obtain⟨p,ys,rfl,h⟩:=h;obtain⟨u,rfl,rx⟩:=adM r;cases rx;rcases h with ⟨hq,q⟩ | ⟨hq,q⟩
 ·obtain⟨its,r',pl,hz⟩:=I.list hq
  have hlen:=r'.length;refine call_tuple_list pl.isList (fun h' kp=>?_) (by simp only[List.size_toArray]<;>omega);have I1:Inv X Kp σ H { s with heap:=h' }:=I.kept (t':=s.toks) kp
  have I2:Inv X Kp σ (upd H h'.objs.size (.tup ys)) { s with heap:=h'.push { cls:= .type "tuple",data:= .seq its.toArray } }:=
   I1.laid (t':=s.toks) (fun b o e=>Heap.get?_push_of_some _ e) (Nat.le_refl _) (show zh X.prog X.w _ _ _ (.tup ys) from⟨hz,its,r',IsTup.new _ _⟩)
  exact⟨.ref h'.objs.size,_,I2,rfl,q _ (I1.hok.fresh (Nat.le_refl _))⟩
 ·obtain⟨its,r',pl,hz⟩:=I.tuple hq
  exact call_tuple_same pl ⟨.ref p,H,I,rfl,q⟩
noncomputable def tyV(K:Fg)(T:String)(x:V)(H:Hp):Prop:=match x with
 |.str _=>T="str"
 |.int _=>T="int"
 | .ref p=>(T="list"/\∃xs,SqL K H p xs)∨(T="tuple"/\∃o,K.lookup p=some o/\o.cls= .type "tuple"/\o.dict=none) ∨
   (T="dict"/\((∃kvs,H p=some (.dK kvs))∨∃kvs,H p=some (.dT kvs)))∨(T="set"/\∃S n,H p=some (.set S n))
 |_=>False
theorem akx{Kp:List (Addr×Obj)}{σ:St}{H:Hp}{s:Shared}{T:String}{x:V}{v:Value}(I:Inv X Kp σ H s)(r:jV x v)(ty:tyV X.K T x H):
  s.TypeIs v T/\∀a,v= .ref a->∃ob,s.heap.get? a=some ob/\ob.dict=none:=by
 cases x with
 | str z=>
  obtain⟨t,rfl⟩:=r;cases (show T="str" from ty);exact⟨typeIs_str s z t,fun _ e=>nomatch e⟩
 | int i=>
  obtain⟨t,rfl⟩:=r;cases (show T="int" from ty);exact⟨typeIs_int s i t,fun _ e=>nomatch e⟩
 | ref p=>
  cases r;rcases ty with ⟨rfl,xs,hq⟩ | ⟨rfl,o,hk,hc,hd⟩ | ⟨rfl,hk⟩ | ⟨rfl,S,n,hk⟩
  ·obtain⟨its,_,pl,_⟩:=I.list hq
   refine⟨pl.isList.typeIs,fun a e=>?_⟩;cases e;obtain⟨o,n,e,c,hd,_⟩:=pl;exact⟨o,e,hd⟩
  ·refine⟨⟨o,I.kIn p o hk,hc⟩,fun a e=>?_⟩
   cases e;exact⟨o,I.kIn _ o hk,hd⟩
  ·have z:∃o,s.heap.get? p=some o/\o.ExactDict:=by
    rcases hk with ⟨kvs,hk⟩ | ⟨kvs,hk⟩
    ·obtain⟨_,_,_,_,o,_,_,e,ex,_⟩:=I.hok p _ hk
     exact⟨o,e,ex⟩
    ·obtain⟨_,_,_,_,o,_,_,e,ex,_⟩:=I.hok p _ hk
     exact⟨o,e,ex⟩
   obtain⟨o,e,ex⟩:=z;refine⟨⟨o,e,ex.1⟩,fun a e2=>?_⟩;cases e2;exact⟨o,e,ex.2.1⟩
  ·obtain⟨o,_,_,_,e,ex,_⟩:=I.hok p _ hk
   refine⟨⟨o,e,ex.1⟩,fun a e2=>?_⟩;cases e2;exact⟨o,e,ex.2.1⟩
 |_=>exact False.elim ty
noncomputable def tBM(K:Fg)(T:String)(r:V->List V->Hp->VK->Prop)(to:TE)(t:TA):TE:=fun σ H Q=>to σ H fun x H1=>tyV K T x H1/\t σ H1 fun xs H2=>r x xs H2 Q
variable {o e:Expr}{es:List Expr}{to:TE}{t:TA}{name:Str}{apos cpos:Pos}{T id:String}{r:V->List V->Hp->VK->Prop}
theorem aky(pa:PlainAttrs T)(slot:Slot T name id)(hty:typeOf (.builtin id)=pure (.type "method_descriptor"))(hm:MtR X id r)(ho:PE X o to)(ha:PA X (e::es) t)
  (hbase:attributeBase o name X.env (eval o X.env)=eval o X.env:=by rfl)
  (hfew:((backTo cpos (starEach (e::es) X.env)).all (fun x=>!x.1)&&(backToKw cpos (keywordEach [] X.env)).all (fun x=>x.1.isSome)
   && decide ((e::es).length+([]:List Keyword).length+(if ([]:List Keyword).isEmpty then 0 else 1)<30))=true:=by rfl)
  (hline:(apos.endLine==cpos.line)=true:=by rfl) (hs:starEach (e::es) X.env=(false,eval e X.env)::starEach es X.env:=by rfl) (hplain:(backTo cpos (starEach es X.env)).any (·.1)=false:=by rfl):
  PE X (.Call (.Attribute o name apos) (e::es) [] cpos) (tBM X.K T r to t):=by
 intro Kp s σ H Q I h;refine wpAny_Call_method_late hbase hfew hline rfl (thn (ho Kp s σ H _ I h) fun v s1 ⟨x,H1,I1,r1,ty,q1⟩=>?_);obtain⟨h1,h2⟩:=akx I1 r1 ty;refine⟨T,id,pa,slot,hty,h1,h2,?_⟩;have hA:=ha cpos Kp s1 σ H1 _ I1 q1;rw[hs]at hA ⊢;refine Calls.callWith_builtin (by show(false||(backTo cpos (starEach es X.env)).any (·.1))=false;rw[hplain]<;>rfl) (Calls.evalArgs_plain ?_);exact thn hA fun us s2 ⟨vs,H2,I2,r2,q2⟩=>hm Kp s2 σ H2 x vs v us Q I2 r1 r2 q2
end
noncomputable def MtM(X:Cx)(id:String)(r:V->List V->Hp->VK->Prop):Prop:=
 ∀(Kp:List (Addr×Obj)) (s:Shared) (σ:St) (H:Hp) (x:V) (xs:List V) (v:Value) (us:List Value) (Q:VK),Inv X Kp σ H s->jV x v->jH xs us->r x xs H Q->
  wpAny (model X.prog X.w) X.A (call (.builtin id) (v::us)) (EP X Kp σ Q) X.xe s
theorem jH.one:∀{x:V}{us:List Value},jH [x] us->∃u,us=[u]/\jV x u
 |_,_,.cons r .nil=>⟨_,rfl,r⟩
theorem jH.zero:∀{us:List Value},jH [] us->us=[]
 |_,.nil=>rfl
theorem jH.dropLast{xs:List V}{us:List Value}(h:jH xs us):jH xs.dropLast us.dropLast:=by
 induction h with
 |nil=>exact .nil
 | cons r t ih=>
  cases t with
  |nil=>exact .nil
  |cons q t'=>exact .cons r ih
theorem jH.eraseIdx:∀{xs:List V}{us:List Value} (i:Nat),jH xs us->jH (xs.eraseIdx i) (us.eraseIdx i)
 |_,_,_,.nil=> .nil
 |_,_,0,.cons _ t=>t
 |_,_,i+1,.cons r t=> .cons r (jH.eraseIdx i t)
theorem jH.reverse{xs:List V}{us:List Value}(h:jH xs us):jH xs.reverse us.reverse:=by
 induction h with
 |nil=>exact .nil
 |cons r t ih=>rw[List.reverse_cons,List.reverse_cons];exact jH.append ih (.cons r .nil)
theorem jH.rep{xs:List V}{us:List Value}(h:jH xs us):∀k:Nat,jH (List.replicate k xs).flatten (List.replicate k us).flatten
 |0=> .nil
 | k+1=>by
  rw[List.replicate_succ,List.replicate_succ,List.flatten_cons,List.flatten_cons];exact jH.append h (jH.rep h k)
theorem ag8{α:Type}(l:List α):l.eraseIdx (l.length-1)=l.dropLast:=by
 induction l with
 |nil=>rfl
 | cons a r ih=>
  cases r with
  |nil=>rfl
  | cons b r=>
   have e:(a::b::r).length-1=((b::r).length-1)+1:=by
    have h1:(a::b::r).length=r.length+2:=rfl;have h2:(b::r).length=r.length+1:=rfl;omega
   rw[e,List.eraseIdx_cons_succ,ih]
   all_goals rfl
theorem aba(its:List Value):∀(k:Nat) (acc:List Value),
  List.foldl (fun x1 x2=>x1++x2) acc.toArray (List.replicate k its.toArray)=(acc++(List.replicate k its).flatten).toArray
 |0,acc=>by simp
 | k+1,acc=>by
  have e:acc.toArray++its.toArray=(acc++its).toArray:=by simp
  have e2:(acc++its)++(List.replicate k its).flatten=acc++(List.replicate (k+1) its).flatten:=by
   rw[List.replicate_succ,List.flatten_cons,List.append_assoc]
  rw[←e2,←aba its k (acc++its),←e,List.replicate_succ,List.foldl_cons]
section
variable {X:Cx}{Kp:List (Addr×Obj)}{σ:St}{H:Hp}{s:Shared}{l b:Addr}{xs ys zs:List V}
theorem Inv.lset{its its':List Value}{n:Nat}{f:Array Value->Array Value}{t':Nat}(I:Inv X Kp σ H s)(hH:H l=some (.lst xs))
  (e:s.heap.get? l=some { cls:= .type "list",data:= .seq its.toArray n }) (hf:f its.toArray=its'.toArray) (hv:jH ys its') (hz:ys.length<=sizeLine):
  Inv X Kp σ (upd H l (.lst ys)) { s with heap:=s.heap.update l (Obj.mapSeq f),toks:=t' }:=by
 have q:=PySem.IsL.update e f;rw[hf]at q;refine I.write (x:=l) (e:=l) (by rw[hH];exact trivial) (.inl rfl) (fun b' u hb hu=>(Heap.get?_update_other s.heap (Obj.mapSeq f) (Ne.symm hb)).trans hu) ⟨_,q⟩ ?_;exact⟨hz,its',_,hv,q⟩
theorem Inv.lnew{its:List Value}{t':Nat}(I:Inv X Kp σ H s)(hv:jH ys its)(hz:ys.length<=sizeLine):
  Inv X Kp σ (upd H s.heap.objs.size (.lst ys)) { s with heap:=s.heap.push { cls:= .type "list",data:= .seq its.toArray },toks:=t' }:=
 I.laid (fun _ _ q=>Heap.get?_push_of_some _ q) (Nat.le_refl _) ⟨hz,its,0,hv,Heap.get?_push_size _ rfl⟩
theorem Inv.fresh(I:Inv X Kp σ H s):H s.heap.objs.size=none:=I.hok.fresh (Nat.le_refl _)
theorem Inv.lstM(I:Inv X Kp σ H s)(hH:H l=some (.lst xs)):xs.length<=sizeLine/\∃(its:List Value) (n:Nat),jH xs its/\xs.length=its.length/\s.heap.get? l=some { cls:= .type "list",data:= .seq its.toArray n }:=by
 obtain⟨z,its,n,r,e⟩:=I.hok l _ hH;exact⟨z,its,n,r,r.length,e⟩
theorem afK{n:Nat}(h:n<=sizeLine):Builtin.List.listTooLong n=false:=by
 unfold Builtin.List.listTooLong;exact decide_eq_false (by omega)
end
section
variable {X:Cx}
noncomputable def am7:V->List V->Hp->VK->Prop:=fun x vs H Q=>∃l xs y,x= .ref l/\vs=[y]/\H l=some (.lst xs)/\xs.length<sizeLine/\Q .non (upd H l (.lst (xs++[y])))
theorem adS:MtM X "list.append" am7:=by
 intro Kp s σ H x vs v us Q I rx rv h;obtain⟨l,xs,y,rfl,rfl,hH,hz,q⟩:=h;cases rx;obtain⟨u,rfl,ru⟩:=rv.one;obtain⟨z,its,n,r,hl,e⟩:=I.lstM hH;refine call_meets F.slot_list_append ⟨_,e,rfl⟩ F.entry_list_append (F.args_list_append_2 _ _) (PySem.list_append l its.toArray n u (by rw[List.size_toArray];omega)) ⟨e,?_⟩;refine⟨.non,_,I.lset (its':=its++[u]) hH e (by simp) (r.append (.cons ru .nil)) ?_,rfl,q⟩;rw[List.length_append,List.length_singleton];omega
noncomputable def am8:V->List V->Hp->VK->Prop:=fun x vs H Q=>∃l b xs zs,x= .ref l/\vs=[.ref b]/\H l=some (.lst xs)/\H b=some (.lst zs)/\xs.length+zs.length<=sizeLine/\Q .non (upd H l (.lst (xs++zs)))
theorem ai8:MtM X "list.extend" am8:=by
 intro Kp s σ H x vs v us Q I rx rv h;obtain⟨l,b,xs,zs,rfl,rfl,hH,hB,hz,q⟩:=h;cases rx;obtain⟨u,rfl,ru⟩:=rv.one;cases ru;obtain⟨z,its,n,r,hl,e⟩:=I.lstM hH;obtain⟨z2,its2,n2,r2,hl2,e2⟩:=I.lstM hB;have hsz:its.toArray.size+its2.toArray.size<=sizeLine:=by rw[List.size_toArray,List.size_toArray];omega
 have hlong:¬ (!its.toArray.isEmpty&&Builtin.List.listTooLong (its.toArray.size+its2.toArray.size))=true:=by
  rw[afK hsz,Bool.and_false];exact Bool.false_ne_true
 refine call_meets F.slot_list_extend ⟨_,e,rfl⟩ F.entry_list_extend (F.args_list_extend_2 _ _)
  (AutoSeq1.list_extend_list_list_0 l its.toArray n b its2.toArray n2 hlong (by rw[List.size_toArray];omega) (by omega)) ⟨e,e2,?_⟩
 refine⟨.non,_,I.lset (its':=its++its2) hH e (by simp) (r.append r2) ?_,rfl,q⟩;rw[List.length_append];omega
noncomputable def asa:V->List V->Hp->VK->Prop:=fun x vs H Q=>∃l xs y,x= .ref l/\vs=[]/\H l=some (.lst xs)/\xs[xs.length-1]?=some y/\Q y (upd H l (.lst xs.dropLast))
theorem aph:MtM X "list.pop" asa:=by
 intro Kp s σ H x vs v us Q I rx rv h;obtain⟨l,xs,y,rfl,rfl,hH,hy,q⟩:=h;cases rx;have hus:=rv.zero;subst hus;obtain⟨z,its,n,r,hl,e⟩:=I.lstM hH;obtain⟨u,hu,ru⟩:=r.get hy
 have hy':its.toArray[its.toArray.size-1]?=some u:=by
  show its.toArray[its.length-1]?=some u;rw[←Array.getElem?_toList,←hl];exact hu
 refine call_meets F.slot_list_pop ⟨_,e,rfl⟩ F.entry_list_pop (F.args_list_pop_1 _) (MeetsSeq.list_pop_last l its.toArray n u hy' (by rw[List.size_toArray];omega)) ⟨e,?_⟩;refine⟨y,_,I.lset (its':=its.dropLast) hH e ?_ r.dropLast ?_,ru,q⟩
 ·show its.toArray.eraseIdxIfInBounds (its.toArray.size-1)=its.dropLast.toArray
  rw[List.size_toArray,List.eraseIdxIfInBounds_toArray,ag8]
 ·rw[List.length_dropLast]
  omega
noncomputable def asb:R2:=fun x y H Q=>∃l b xs zs,x= .ref l/\y= .ref b/\H l=some (.lst xs)/\H b=some (.lst zs)/\xs.length+zs.length<=sizeLine/\∀p,H p=none->Q (.ref p) (upd H p (.lst (xs++zs)))
theorem api:OpR X (binaryOp .Add) asb:=by
 intro Kp s σ H x y v u Q I rx ry h;obtain⟨l,b,xs,zs,rfl,rfl,hH,hB,hz,q⟩:=h;cases rx;cases ry;obtain⟨z,its,n,r,hl,e⟩:=I.lstM hH;obtain⟨z2,its2,n2,r2,hl2,e2⟩:=I.lstM hB;refine PySem.P.add_list e e2 ?_ (by rw[List.size_toArray,List.size_toArray];omega);have ea:its.toArray++its2.toArray=(its++its2).toArray:=by simp
 rw[ea];exact⟨.ref _,_,I.lnew (t':=s.toks) (r.append r2) (by rw[List.length_append];omega),rfl,q _ I.fresh⟩
noncomputable def asc:R2:=fun x y H Q=>∃l k xs,x= .ref l/\y= .int k/\H l=some (.lst xs)/\-(2 ^ 63)<=k/\k<2 ^ 63/\xs.length*k.toNat<=sizeLine/\
 ∀p,H p=none->Q (.ref p) (upd H p (.lst (List.replicate k.toNat xs).flatten))
theorem aia{α:Type}(xs:List α)(k:Nat):(List.replicate k xs).flatten.length=k*xs.length:=by
 induction k with
 |zero=>simp
 |succ k ih=>rw[List.replicate_succ,List.flatten_cons,List.length_append,ih,Nat.succ_mul,Nat.add_comm]
theorem apj:OpR X (binaryOp .Mult) asc:=by
 intro Kp s σ H x y v u Q I rx ry h;obtain⟨l,k,xs,rfl,rfl,hH,h1,h2,hz,q⟩:=h;cases rx;obtain⟨t,rfl⟩:=ry;obtain⟨z,its,n,r,hl,e⟩:=I.lstM hH;have hlen:its.toArray.size*k.toNat<=sizeLine:=by rw[List.size_toArray,←hl];exact hz
 have hcap:¬ its.toArray.size*k.toNat>(2 ^ 63-1) / 8:=by
  have:(sizeLine:Nat)<=(2 ^ 63-1) / 8:=by decide
  omega
 have hfit:¬ (!Builtin.List.listFitsIndex k)=true:=by
  rw[fitsIndex_both h1 h2];exact Bool.false_ne_true
 have hlong:¬ Builtin.List.listTooLong (its.toArray.size*k.toNat)=true:=by
  rw[afK hlen];exact Bool.false_ne_true
 have hnew:List.foldl (fun x1 x2=>x1++x2) #[] (List.replicate (if its.toArray.isEmpty=true then 0 else k.toNat) its.toArray)=(List.replicate k.toNat its).flatten.toArray:=by
  have f0:∀m:Nat,List.foldl (fun x1 x2=>x1++x2) #[] (List.replicate m its.toArray)=(List.replicate m its).flatten.toArray:=fun m=>by
   have:=aba its m [];rw[List.nil_append]at this;exact this
  rw[f0];cases its with
  |nil=>simp
  |cons a r'=>rw[if_neg (by simp)]
 refine wpAny_binaryOp_repeat_ref (T:="list") (U:="int") (by decide) ⟨_,e,rfl⟩ (fun s'=>typeIs_int s' k t) noFill_list_mul F.fills_int_mul F.slot_int_rmul repeat_list F.slot_int_index.lookup
  (call_meets F.slot_int_rmul (typeIs_int s k t) F.entry_int_rmul (F.args_int_rmul_2 _ _) (int___rmul___int_list k t l its.toArray n)
   ⟨e,rfl,⟨_,e,rfl⟩,call_meets F.slot_list_mul ⟨_,e,rfl⟩ F.entry_list_mul (F.args_list_mul_2 _ _) (AutoListH.list___mul___list_int_3 l its.toArray n k t hfit hcap hlong) ⟨e,?_⟩⟩)
 rw[hnew];exact⟨.ref _,_,I.lnew (t':=s.toks) (r.rep k.toNat) (by rw[aia,Nat.mul_comm];exact hz),rfl,q _ I.fresh⟩
end
section
variable {prog:Program}{w:World}{A:Around}{E:Value->SP0}{s:Shared}
set_option maxRecDepth 100000 in
end
section
variable {X:Cx}
end
end L2
namespace Att
open PySem PySem.W PySem.Calls PyProof.Rows
theorem abY{P:Params}{h:Heap}:∀(ns:List Int) (vs:List Value),WellAll P h vs (ns.map WData.int)->IntsAre vs ns:=by
 intro ns
 induction ns with
 | nil=>
  intro vs w;rw[List.map_nil]at w;cases w;exact .nil
 | cons n ns ih=>
  intro vs w;rw[List.map_cons]at w;cases w with
  | cons a b=>
   cases a;exact .cons _ _ (ih _ b)
theorem ai9{l:OpenLaw}{n:Nat}(hn:l.most=some n){P:Params}{h:Heap}{args:List WData}{vals:List Value}
  (hpre:l.row.toRowW.claim.pre args=true) (hwl:WellAll P h vals args):
  ∃a vs ns,vals=[Value.ref a]/\args=[WData.list (ns.map WData.int)]/\h.get? a=some { cls:= .type "list",data:= .seq vs.toArray }/\IntsAre vs ns/\ns.length<=n:=by
 have hsh:WShape.hasAll [] args [.list .int]=true:=(pre_splitW hpre).1;have hc:l.pre.holds [] { args:=args }=true:=(pre_splitW hpre).2;obtain⟨d,r,rfl,h1,h2⟩:=hasAllW_cons hsh;obtain rfl:=hasAllW_nil h2;obtain⟨xs,rfl,h3⟩:=hasW_list h1;obtain⟨ns,rfl⟩:=items_int h3
 have hlen:ns.length<=n:=by
  unfold OpenLaw.pre at hc
  have h4:(WTm.not (.lt (.lit (.int (n:Int))) (.len (.arg 0)))).holds [] { args:=[.list (ns.map .int)] }=true:=by
   have h4:=(holds_andW hc).1;rw[hn]at h4;exact h4
  have h5:=condW_of h4 (w_not (w_lt w_lit (w_len_list (w_arg rfl))));rw[List.length_map]at h5;refine Nat.le_of_not_lt fun q=>?_;have q':(n:Int)<((ns.length:Nat):Int):=by omega
  first
   | (rw[decide_eq_true q']at h5;exact absurd h5 (by decide))
   | (simp at h5;omega)
 cases hwl with
 | cons w1 w2=>
  cases w2;cases w1 with
  |list ho hall=>exact⟨_,_,ns,rfl,rfl,ho,abY ns _ hall,hlen⟩
theorem aja(l:OpenLaw)(args:List WData):l.row.toRowW.claim.post args (.bool true) args=true:=
 postW_of (r:=l.row.toRowW) (X:=(true==true))
  (show WShape.has [] (.bool true) .bool=true by first|rfl | decide|simp[WShape.has,WShape.arms,WShape.armsAll])
  (show(WTm.eq .res (.lit (.bool true))).value [] { args:=args,res:=some (.bool true),after:=args }=some (.bool (true==true)) from w_eq_bool (w_res rfl) w_lit) rfl
theorem attach_call{l:OpenLaw}{n:Nat}{q:Program}{loose:List Str}{XP:(SV)->Heap->Prop}{YP:World->Heap->Prop}{d:DefRec}
  (hn:l.most=some n) (hdf:d.params.defaults=[])
  (call:∀(w:World) (s₀ s₁:Shared) (mg mb:SV) (fa:Addr) (o:Obj) (pm cd doc:Value) (a:Addr) (vs:List Value) (ns:List Int),
   Ground q loose [] XP w s₀ mg mb s₁.heap->YP w s₁.heap->
   s₁.heap.get? fa=some o->o.data= .func (docDef d.name d.params d.body d.scope pm cd doc)->s₁.heap.CodeRec cd d.name->mg d.name=some (.ref fa)->
   s₁.heap.get? a=some { cls:= .type "list",data:= .seq vs.toArray }->IntsAre vs ns->ns.length<=n->s₁.gens=#[]->
   codeAny (model l.prog w) callerA (.call (.ref fa) ⟨[.ref a],[]⟩) (fun r s'=>r= .ok (.ret (.bool true))/\OldK s₁.heap s'.heap/\s'.os=s₁.os/\AllBare s'.gens) s₁):
  WalkO q loose XP YP l.row.toRowW d [] (fun f vs=>PySem.call f vs):=by
 intro w s₀ s₁ mg mb G Y fa o pm cd doc dV kV ho hd hcd hD hmg hg args vals as hpre hlay hrd hwl hlo;obtain rfl:dV= .none:=Dflts.none hD hdf;obtain rfl:kV= .none:=Dflts.noKw hD;obtain⟨a,vs,ns,rfl,rfl,hobj,hints,hlen⟩:=ai9 hn hpre hwl;refine enter_call (codeAny_mono (call w s₀ s₁ mg mb fa o pm cd doc a vs ns G Y ho (fd_plain hd) hcd hmg hobj hints hlen hg) fun r s' hq=>?_);obtain⟨rfl,h2,h3,h4⟩:=hq;exact⟨.inl ⟨.bool true,.bool true,[],rfl,fun _=>rfl,.bool true,aja l _,fun _=>⟨List.Pairwise.nil,fun _ hm=>(nomatch hm)⟩⟩,h2,h3,h4⟩
section
variable {prog:Program}{w:World}{A:Around}{E:Value->SP0}{s:Shared}{K:Frag}
noncomputable def asd(h:Heap)(L d:Addr):List (Addr×Obj):=(List.range h.objs.size).filterMap fun a=>if a=L∨a=d then none else (h.get? a).map fun o=>(a,o)
end
end Att
namespace L2
open PySem PySem.Spec PyProof.Rows
theorem Zh:∀{vs:List Value}{ns:List Int},IntsAre vs ns->jH (ns.map V.int) vs
 |_,_,.nil=> .nil
 |_,_,.cons n t h=> .cons ⟨t,rfl⟩ (Zh h)
noncomputable def apk(H:Hp):Prop:=∀b,H b=none∨∃o xs,H b=some (.frz o (.lst xs))
theorem akz{P:Program}{w:World}{K:Fg}{mg mb:SV}{CX:CXT}{k:Nat}{fa a:Addr}{fd:FuncData}{x:Str}{sp:Sp}{s₁:Shared}{vs:List Value}{ns:List Int}
  (KX:K.In s₁.heap) (hns:s₁.heap.Ns mainGlobals mg) (hb:s₁.heap.Ns builtinsNs mb) (hbb:∀x:Str,x≠"__name__"->mb x=bootBuiltins x) (hlim:s₁.heap.NoLimit) (hg:s₁.gens=#[])
  (ha:s₁.heap.get? a=some { cls:= .type "list",data:= .seq vs.toArray }) (hi:IntsAre vs ns) (hl:ns.length<=sizeLine) (hr:Room k callerA)
  (F:∀base:Heap,K.In base->base.Ns mainGlobals mg->FnOk P w K mg base CX k fa fd [x] sp) (hbind:∀(s:Shared) (u:Value),BindsTo s fd ⟨[u],[]⟩ [(x,u)])
  (hsp:∀H:Hp,apk H->SqL K H a (ns.map V.int)->sp [.ref a] H (fun v _=>v= .bl true) fun _ _ _=>False)
  (hCX:∀H e s',CX [] H s₁ (fun _ _ _=>False) e s'->False):
  codeAny (model P w) callerA (.call (.ref fa) ⟨[.ref a],[]⟩) (fun r s'=>r= .ok (.ret (.bool true))/\OldK s₁.heap s'.heap/\s'.os=s₁.os/\AllBare s'.gens) s₁:=by
 have rv:=Zh hi;have lenV:=hi.length
 have core:∀H:Hp,apk H->SqL K H a (ns.map V.int)->HOk P w H s₁.heap->(∀b,H b≠none->b=a)->(H a≠none->K.lookup a=none)->
   codeAny (model P w) callerA (.call (.ref fa) ⟨[.ref a],[]⟩) (fun r s'=>r= .ok (.ret (.bool true))/\OldK s₁.heap s'.heap/\s'.os=s₁.os/\AllBare s'.gens) s₁:=by
  intro H hO hS hok hA hK;have base_of:∀{b:Addr} {o:Obj},s₁.heap.get? b=some o->H b=none->(aeu s₁.heap H).get? b=some o:=fun e n=>aj9 e n
  have noA:∀{b:Addr} {o:Obj} {es:Array DictEntry} {ep:Nat},s₁.heap.get? b=some o->o.data= .dict es ep->H b=none:=fun {b o es ep} e d=>by
   cases q:H b with
   |none=>rfl
   | some u=>
    have e':b=a:=hA b (by rw[q];simp);subst e';rw[ha]at e;cases e;have d':Data.seq vs.toArray _=Data.dict es ep:=d;cases d'
  have nsK:∀{b:Addr} {m:SV},s₁.heap.Ns b m->(aeu s₁.heap H).Ns b m:=fun {b m} ⟨o,es,ep,e,d,r⟩=>⟨o,es,ep,base_of e (noA e d),d,r⟩
  have hKb:K.In (aeu s₁.heap H):=fun b o e=>base_of (KX b o e) (by
   cases q:H b with
   | none=>rfl
   | some u=>
    have e':b=a:=hA b (by rw [q]; simp);subst e';rw [hK (by rw [q]; simp)] at e; cases e)
  have hM:Mod K mg (aeu s₁.heap H):=⟨hKb,nsK hns,⟨mb,nsK hb,hbb⟩,let ⟨mc,h1,h2⟩:=hlim;⟨mc,nsK h1,h2⟩⟩;have e0:Env0 P w K mg (aeu s₁.heap H) callerA [] s₁ H:=⟨rfl,hM,fun b o e=>amT e,Nat.le_of_eq (ai0 _ _),trivial,fun b hb=>absurd (show b∈([]:List Addr) from hb) (by simp),hok,.of_eq hg⟩;refine codeAny_mono ((F _ hKb (nsK hns)).run callerA [] s₁ H ⟨[.ref a],[]⟩ [.ref a] [.ref a] _ _ hr e0 (hbind s₁ (.ref a)) (.cons rfl .nil) (hsp H hO hS)) fun r s' h=>?_;cases r with
  |error e=>exact(hCX H e s' h).elim
  | ok fl=>
   cases fl with
   |next=>exact False.elim h
   |brk=>exact False.elim h
   |cont=>exact False.elim h
   | ret u=>
    obtain⟨v,H',os,bare,un,hok',r',q⟩:=h;have q':v= .bl true:=q;subst q';obtain rfl:u=Value.bool true:=r';refine⟨rfl,OldK.of_keep fun b o e=>?_,os,bare⟩;cases q:H b with
    |none=>exact un.keep b o e q (by intro z;exact absurd (show b∈([]:List Addr) from z) (by simp)) (by simp)
    | some u=>
     rcases hO b with z | ⟨ob,xs,z⟩
     ·rw[q]at z;cases z
     ·have z2:=un.frzs b ob _ z
      obtain⟨e1,_⟩:=hok b _ z;obtain⟨e2,_⟩:=hok' b _ z2;rw[e]at e1;cases e1;exact e2
 cases hk:K.lookup a with
 | some o=>
  have e:=KX a o hk;rw[ha]at e;cases e;refine core (fun _=>none) (fun _=> .inl rfl) (.inr ⟨_,vs.toArray,_,hk,rfl,rfl,rfl,by rw[List.size_toArray,lenV];exact hl,by simpa using rv⟩) (fun b u z=>by have z':(none:Option HO)=some u:=z;cases z') (fun b z=>absurd rfl z) fun z=>absurd rfl z
 | none=>
  refine core (fun b=>if b=a then some (.frz { cls:= .type "list",data:= .seq vs.toArray } (.lst (ns.map V.int))) else none) (fun b=>?_) (.inl (.inr ⟨{ cls:= .type "list",data:= .seq vs.toArray },if_pos rfl⟩)) (fun b u z=>?_) (fun b z=>?_) fun _=>hk
  ·by_cases hb:b=a
   ·exact .inr ⟨_,_,if_pos hb⟩
   ·exact .inl (if_neg hb)
  ·by_cases hb:b=a
   ·have z':=(if_pos hb).symm.trans z
    cases z';subst hb;exact⟨ha,by rw[List.length_map];exact hl,vs,_,rv,ha⟩
   ·have z':=(if_neg hb).symm.trans z
    cases z'
  ·by_cases hb:b=a
   ·exact hb
   ·exact absurd (if_neg hb) z
theorem am9{l:PySem.W.OpenLaw}{n k:Nat}{q:Program}{loose:List Str}{XP:(SV)->Heap->Prop}{YP:World->Heap->Prop}{d:DefRec}{K:Params->Fg}{CX:World->CXT}{sp:World->Sp}{x:Str}
  (hn:l.most=some n) (hn2:n<=sizeLine) (hdf:d.params.defaults=[]) (hr:Room k callerA)
  (hY:∀(w:World) (h:Heap),YP w h->(K w.params).In h)
  (F:∀(w:World) (mg:SV) (fa:Addr) (h:Heap),(K w.params).In h->h.Ns mainGlobals mg->mg d.name=some (.ref fa)->
   ∃ fd:FuncData,(∀ (s:Shared) (u:Value),BindsTo s fd ⟨[u],[]⟩ [(x,u)])/\
    ∀ base:Heap,(K w.params).In base->base.Ns mainGlobals mg->FnOk l.prog w (K w.params) mg base (CX w) k fa fd [x] (sp w))
  (hsp:∀(w:World) (H:Hp) (a:Addr) (ns:List Int),ns.length<=n->apk H->SqL (K w.params) H a (ns.map V.int)->sp w [.ref a] H (fun v _=>v= .bl true) fun _ _ _=>False)
  (hCX:∀(w:World) (H:Hp) (s:Shared) (e:Value) (s':Shared),CX w [] H s (fun _ _ _=>False) e s'->False):
  PySem.W.WalkO q loose XP YP l.row.toRowW d [] (fun f vs=>PySem.call f vs):=by
 refine Att.attach_call hn hdf fun w s₀ s₁ mg mb fa o pm cd doc a vs ns G Y ho hd hcd hmg hobj hints hlen hg=>?_;have KX:=hY w _ Y;obtain⟨fd,hb,hF⟩:=F w mg fa _ KX G.T.g hmg;exact akz KX G.T.g G.T.b G.T.builtins G.T.nolimit hg hobj hints (Nat.le_trans hlen hn2) hr hF hb (fun H hO hS=>hsp w H a ns hlen hO hS) fun H e s'=>hCX w H s₁ e s'
noncomputable def zY(s:Stmt)(j:Nat):Stmt:=match s with
 |.ClassDef _ _ _ body _ _ _ _ _ _ _=>body.getD j (.Pass ⟨0,0,0,0⟩)
 |_=> .Pass ⟨0,0,0,0⟩
noncomputable def zZ(s:Stmt):Arguments:=match s with
 |.FunctionDef _ a _ _ _ _ _ _ _ _=>a
 |_=>{ posonlyargs:=[],args:=[],vararg:=none,kwonlyargs:=[],kw_defaults:=[],kwarg:=none,defaults:=[] }
noncomputable def jG(s:Stmt):List Stmt:=match s with
 |.FunctionDef _ _ b _ _ _ _ _ _ _=>b
 |_=>[]
noncomputable def je(s:Stmt):Scope:=match s with
 |.FunctionDef _ _ _ _ _ _ sc _ _ _=>sc
 |_=>{ kind:= .function,names:=[],isGenerator:=false,isCoroutine:=false }
noncomputable abbrev CX0:CXT:=fun _ _ _ _ _ _=>False
noncomputable abbrev E0:XK:=fun _ _ _=>False
theorem acG{X:Cx}:aeA CX0 X E0:=fun _ _ _ _ _ _ _ h=>h.elim
structure Fun(K:Fg)(x qual:Str)(st:Stmt)(f:Addr)(fd:FuncData):Prop where
 ex:∃(oc:Value) (od:Option Addr) (kV doc pm:Value) (an:Option Addr) (Kc ct:Value) (osl:Array (Option Value)),
  fd=PySem.W.fnOf x qual (zZ st) (jG st) (je st) .none kV doc pm an Kc ct/\K.lookup f=some ⟨oc,od,.func fd,osl⟩/\PySem.W.codeIn K Kc qual=true
 kp:PySem.W.keepIn K (.ref f)=true
section
variable {P:Program}{w:World}{K:Fg}{mg:SV}{base:Heap}
theorem Fun.ok{x qual:Str}{st:Stmt}{f:Addr}{fd:FuncData}{N ps:List Str}{k:Nat}{sp:Sp}(F:Fun K x qual st f fd)(S:FnScope N ps (je st))(len:∀vs H Q E,sp vs H Q E->vs.length=ps.length)
  (hbody:∀(Kc:Value) (A:Around) (Ko:List Env) (s:Shared) (H:Hp) (vs:List V) (Q:VK) (E:XK),Room k (A.deeper (envOfC qual (je st) s.heap.objs.size f Kc))->sp vs H Q E->
   ∃ t,PSs (zL CX0 P w K mg base N qual (je st) f Kc A Ko s H E).nox (jG st) t/\t { nx:=fun _ H'=>Q .non H',rt:=Q } (zj N vs) H):FnOk P w K mg base CX0 (k+1) f fd ps sp:=by
 obtain⟨oc,od,kV,doc,pm,an,Kc,ct,osl,rfl,lk,hcd⟩:=F.ex;refine aqG lk hcd S len fun A Ko s H vs Q E hr hsp=>?_;obtain⟨t,h,q⟩:=hbody Kc A Ko s H vs Q E hr hsp;exact⟨t,h.nox,q⟩
theorem Fun.binds{x qual:Str}{st:Stmt}{f:Addr}{fd:FuncData}{ps:List Str}(F:Fun K x qual st f fd)
  (h:∀(kV doc pm:Value) (an:Option Addr) (Kc ct:Value) (us:List Value),us.length=ps.length->bindArgs (PySem.W.fnOf x qual (zZ st) (jG st) (je st) .none kV doc pm an Kc ct) ⟨us,[]⟩=pure (ps.zip us)):zB K fd ps []:=by
 obtain⟨oc,od,kV,doc,pm,an,Kc,ct,osl,rfl,lk,hcd⟩:=F.ex;exact .all (h kV doc pm an Kc ct)
theorem QO{x qual:Str}{st:Stmt}{f:Addr}{oc:Value}{od an:Option Addr}{osl:Array (Option Value)}{kV doc pm Kc ct:Value}(l:K.lookup f=some ⟨oc,od,.func (PySem.W.fnOf x qual (zZ st) (jG st) (je st) .none kV doc pm an Kc ct),osl⟩)
  (c:PySem.W.codeIn K Kc qual=true) (k:PySem.W.keepIn K (.ref f)=true):Fun K x qual st f (PySem.W.fnOf x qual (zZ st) (jG st) (je st) .none kV doc pm an Kc ct):=⟨⟨oc,od,kV,doc,pm,an,Kc,ct,osl,rfl,l,c⟩,k⟩
end
section
variable {X:Cx}
theorem pv(i:Nat){x:Str}{pos:Pos}(hN:X.N[i]?=some x:=by rfl)(hv:Vis X.env.scope x:=by first|exact Or.inl rfl|exact Or.inr (Or.inl rfl)|exact Or.inr (Or.inr rfl))(hd:(x==("__debug__":Str))=false:=by decide)
  (hcd:(x==("__classdict__":Str))=false:=by decide):PE X (.Name x pos) (aoY i):=ZZ hN hv hd hcd
end
theorem aqM{A B:Prop}(h:B):if false=true then A else B:=by
 rw[if_neg Bool.false_ne_true];exact h
theorem aqN{A B:Prop}(h:A):if true=true then A else B:=by
 rw[if_pos rfl];exact h
noncomputable def jp(H H':Hp):Prop:=∀b o,H b=some o->H' b=some o
theorem jp.refl(H:Hp):jp H H:=fun _ _ h=>h
theorem jp.trans{H H1 H2:Hp}(a:jp H H1)(b:jp H1 H2):jp H H2:=fun c o h=>b c o (a c o h)
theorem jp.free{H H':Hp}(e:jp H H'){l:Addr}(h:H' l=Option.none):H l=Option.none:=by
 cases q:H l with
 |none=>rfl
 | some o=>
  rw[e l o q]at h;cases h
theorem jp.seq{K:Fg}{H H':Hp}{a:Addr}{xs:List V}(e:jp H H')(h:SqL K H a xs):SqL K H' a xs:=by
 rcases h with (h | ⟨o,h⟩) | h
 ·exact .inl (.inl (e _ _ h))
 ·exact .inl (.inr ⟨o,e _ _ h⟩)
 ·exact .inr h
section
variable {κ:Type}[DecidableEq κ]
noncomputable def acH(kvs:List (κ×V))(k:κ):Option V:=(kvs.find? fun kv=>decide (kv.1=k)).map (·.2)
noncomputable def putK(kvs:List (κ×V))(k:κ)(v:V):List (κ×V):=
 if (kvs.any fun kv=>decide (kv.1=k))=true then kvs.map (fun kv=>if kv.1=k then (kv.1,v) else kv) else kvs++[(k,v)]
noncomputable def aoB(kvs:List (κ×V))(k:κ):List (κ×V):=kvs.filter fun kv=>decide (kv.1≠k)
theorem acI{p:κ×V}{r:List (κ×V)}{k:κ}(e:p.1=k):acH (p::r) k=some p.2:=by simp[acH,List.find?_cons,e]
theorem acJ{p:κ×V}{r:List (κ×V)}{k:κ}(e:¬ p.1=k):acH (p::r) k=acH r k:=by simp[acH,List.find?_cons,e]
theorem afL(k:κ):∀kvs:List (κ×V),(kvs.any fun kv=>decide (kv.1=k))=(acH kvs k).isSome
 | []=>rfl
 | p::r=>by
  rw[List.any_cons];by_cases e:p.1=k
  ·simp only[acI e,decide_eq_true e,Bool.true_or,Option.isSome_some]
  ·rw[acJ e,decide_eq_false e,Bool.false_or];exact afL k r
theorem ZN.isSome_eq{o:Option V}{u:Option Value}(r:ZN o u):o.isSome=u.isSome:=by
 cases o with
 | none=>cases u with
  |none=>rfl
  |some _=>exact(show False from r).elim
 | some _=>cases u with
  |none=>exact(show False from r).elim
  |some _=>rfl
theorem ZN.getD{o:Option V}{u:Option Value}{d:V}{d':Value}(r:ZN o u)(rd:jV d d'):jV (o.getD d) (u.getD d'):=by
 cases o with
 | none=>cases u with
  |none=>exact rd
  |some _=>exact(show False from r).elim
 | some _=>cases u with
  |none=>exact(show False from r).elim
  |some _=>exact r
theorem KV.val{kvs:List (κ×V)}{vs:List (κ×Value)}(r:KV kvs vs)(k:κ):ZN (acH kvs k) (valueAt vs k):=by
 unfold KV at r
 induction r with
 |nil=>exact True.intro
 | @cons p q ps qs h t ih=>
  obtain⟨h1,h2⟩:=h;by_cases e:p.1=k
  ·have e':q.1=k:=h1.symm.trans e
   have b:valueAt (q::qs) k=some q.2:=by simp[valueAt,List.find?_cons,e']
   rw[acI e,b];exact h2
  ·have e':¬ q.1=k:=fun z=>e (h1.trans z)
   have b:valueAt (q::qs) k=valueAt qs k:=by simp[valueAt,List.find?_cons,e']
   rw[acJ e,b];exact ih
theorem KV.any{kvs:List (κ×V)}{vs:List (κ×Value)}(r:KV kvs vs)(k:κ):(kvs.any fun kv=>decide (kv.1=k))=vs.any fun kv=>decide (kv.1=k):=by
 unfold KV at r
 induction r with
 |nil=>rfl
 |cons h t ih=>rw[List.any_cons,List.any_cons,ih,h.1]
theorem KV.repl{kvs:List (κ×V)}{vs:List (κ×Value)}(r:KV kvs vs)(k:κ){y:V}{u:Value}(ry:jV y u):
  KV (kvs.map fun kv=>if kv.1=k then (kv.1,y) else kv) (vs.map fun kv=>if kv.1=k then (kv.1,u) else kv):=by
 unfold KV at r ⊢
 induction r with
 |nil=>exact .nil
 | @cons p q ps qs h t ih=>
  rw[List.map_cons,List.map_cons];refine .cons ?_ ih;obtain⟨h1,h2⟩:=h;by_cases e:p.1=k
  ·rw[if_pos e,if_pos (h1.symm.trans e)];exact⟨h1,ry⟩
  ·rw[if_neg e,if_neg (fun z=>e (h1.trans z))];exact⟨h1,h2⟩
theorem KV.put{kvs:List (κ×V)}{vs:List (κ×Value)}(r:KV kvs vs)(k:κ){y:V}{u:Value}(ry:jV y u):KV (putK kvs k y) (stored vs k u):=by
 unfold putK stored;rw[r.any k];by_cases e:(vs.any fun kv=>decide (kv.1=k))=true
 ·rw[if_pos e,if_pos e];exact r.repl k ry
 ·rw[if_neg e,if_neg e];exact Paired.snoc r ⟨rfl,ry⟩
theorem KV.drop{kvs:List (κ×V)}{vs:List (κ×Value)}(r:KV kvs vs)(k:κ):KV (aoB kvs k) (without vs k):=by
 unfold KV at r ⊢;unfold aoB without
 induction r with
 |nil=>exact .nil
 | @cons p q ps qs h t ih=>
  obtain⟨h1,h2⟩:=h;rw[List.filter_cons,List.filter_cons];by_cases e:p.1=k
  ·have a:¬ decide (p.1≠k)=true:=by simp[e]
   have b:¬ decide (q.1≠k)=true:=by simp[h1.symm.trans e]
   rw[if_neg a,if_neg b];exact ih
  ·have e':¬ q.1=k:=fun z=>e (h1.trans z)
   have a:decide (p.1≠k)=true:=by simp[e]
   have b:decide (q.1≠k)=true:=by simp[e']
   rw[if_pos a,if_pos b];exact .cons ⟨h1,h2⟩ ih
theorem KV.length{kvs:List (κ×V)}{vs:List (κ×Value)}(r:KV kvs vs):kvs.length=vs.length:=Paired.length r
end
noncomputable abbrev KT(H:Hp):List (List Key×V)->List (List Key×Addr×Value)->Prop:=Paired fun p q=>p.1=q.1/\H q.2.1=some (.tup (p.1.map kV))/\jV p.2 q.2.2
theorem KT.val{H:Hp}{kvs:List (List Key×V)}{xs:List (List Key×Addr×Value)}(r:KT H kvs xs)(k:List Key):ZN (acH kvs k) ((atKey xs k).map (·.2)):=by
 induction r with
 |nil=>exact True.intro
 | @cons p q ps qs h t ih=>
  obtain⟨h1,_,h2⟩:=h;by_cases e:p.1=k
  ·have e':q.1=k:=h1.symm.trans e
   have b:atKey (q::qs) k=some q.2:=by simp[atKey,List.find?_cons,e']
   rw[acI e,b];exact h2
  ·have e':¬ q.1=k:=fun z=>e (h1.trans z)
   have b:atKey (q::qs) k=atKey qs k:=by simp[atKey,List.find?_cons,e']
   rw[acJ e,b];exact ih
theorem KT.repl{H:Hp}{kvs:List (List Key×V)}{xs:List (List Key×Addr×Value)}(r:KT H kvs xs)(k:List Key){y:V}{u:Value}(ry:jV y u):
  KT H (kvs.map fun kv=>if kv.1=k then (kv.1,y) else kv) (xs.map (putAt k u)):=by
 induction r with
 |nil=>exact .nil
 | @cons p q ps qs h t ih=>
  rw[List.map_cons,List.map_cons];refine .cons ?_ ih;obtain⟨h1,h2,h3⟩:=h;unfold putAt;by_cases e:p.1=k
  ·rw[if_pos e,if_pos (h1.symm.trans e)];exact⟨h1,h2,ry⟩
  ·rw[if_neg e,if_neg (fun z=>e (h1.trans z))];exact⟨h1,h2,h3⟩
theorem KT.put{H:Hp}{kvs:List (List Key×V)}{xs:List (List Key×Addr×Value)}(r:KT H kvs xs)(k:List Key){b:Addr}{y:V}{u:Value}(hb:H b=some (.tup (k.map kV)))(ry:jV y u):
  KT H (putK kvs k y) (storedH xs k b u):=by
 have e:(kvs.any fun kv=>decide (kv.1=k))=(atKey xs k).isSome:=by
  rw[afL,(r.val k).isSome_eq,Option.isSome_map]
 unfold putK storedH;rw[e];by_cases q:(atKey xs k).isSome=true
 ·rw[if_pos q,if_pos q];exact r.repl k ry
 ·rw[if_neg q,if_neg q];exact Paired.snoc r ⟨rfl,hb,ry⟩
theorem KT.keeps{H H':Hp}{kvs:List (List Key×V)}{xs:List (List Key×Addr×Value)}(r:KT H kvs xs)(ht:∀b ys,H b=some (.tup ys)->H' b=some (.tup ys)):KT H' kvs xs:=
 Paired.mapP r fun _ _ z=>⟨z.1,ht _ _ z.2.1,z.2.2⟩
section
variable {P:Program}{w:World}{H:Hp}{h:Heap}{a:Addr}
theorem aqO{u:HO}(ok:HOk P w H h)(e:Rd H a u):zh P w H h a u:=e.ok ok
theorem aqP{kvs:List (Key×V)}(ok:HOk P w H h)(e:Rd H a (.dK kvs)):kvs.length<=sizeLine/\(a==sysModules)=false/\∃vs,KV kvs vs/\h.DictOf (aah P w) a vs:=
 show zh P w H h a (.dK kvs) from aqO ok e
end
noncomputable def aqQ(H:Hp)(a:Addr)(y:V)(r:Option V):Prop:=
 (∃kvs k,Rd H a (.dK kvs)/\y=kV k/\r=acH kvs k)∨∃kvs k b,Rd H a (.dT kvs)/\y= .ref b/\H b=some (.tup (k.map kV))/\r=acH kvs k
noncomputable def aqR(H:Hp)(a:Addr)(y v:V)(H':Hp):Prop:=
 (∃kvs k,H a=some (.dK kvs)/\y=kV k/\kvs.length<sizeLine/\H'=upd H a (.dK (putK kvs k v))) ∨
 ∃kvs k b,H a=some (.dT kvs)/\y= .ref b/\H b=some (.tup (k.map kV))/\kvs.length<sizeLine/\H'=upd H a (.dT (putK kvs k v))
theorem aqQ.t{H:Hp}{a b:Addr}{kvs:List (List Key×V)}{k:List Key}(e:H a=some (.dT kvs))(eb:H b=some (.tup (k.map kV))):aqQ H a (.ref b) (acH kvs k):= .inr ⟨kvs,k,b,.inl e,rfl,eb,rfl⟩
theorem aqR.t{H:Hp}{a b:Addr}{kvs:List (List Key×V)}{k:List Key}{v:V}(e:H a=some (.dT kvs))(eb:H b=some (.tup (k.map kV)))(hl:kvs.length<sizeLine):
  aqR H a (.ref b) v (upd H a (.dT (putK kvs k v))):= .inr ⟨kvs,k,b,e,rfl,eb,hl,rfl⟩
section
variable {X:Cx}{Kp:List (Addr×Obj)}{σ:St}{H:Hp}{s:Shared}{a:Addr}{y v:V}{u r:Value}{o:Option V}{A:Around}{E:Value->SP0}
end
section
variable {X:Cx}{Kp:List (Addr×Obj)}{σ:St}{H:Hp}{s:Shared}{a:Addr}{kvs:List (Key×V)}{k:Key}{u:Value}{A:Around}{E:Value->SP0}
end
section
variable {X:Cx}{o i e value:Expr}{pos pos' tpos:Pos}{td ty tv:TE}
end
section
variable {X:Cx}{pos:Pos}
end
structure M1(X:Cx)(o:Expr)(m:Str)(apos:Pos)(e:Expr)(cpos:Pos):Prop where
 base:attributeBase o m X.env (eval o X.env)=eval o X.env
 few:((backTo cpos (starEach [e] X.env)).all (fun x=>!x.1)&&(backToKw cpos (keywordEach [] X.env)).all (fun x=>x.1.isSome)
  && decide (([e]:List Expr).length+([]:List Keyword).length+(if ([]:List Keyword).isEmpty then 0 else 1)<30))=true
 line:(apos.endLine==cpos.line)=true
 trees:backTo cpos (starEach [e] X.env)=[(false,eval e X.env)]
structure M2(X:Cx)(o:Expr)(m:Str)(apos:Pos)(e f:Expr)(cpos:Pos):Prop where
 base:attributeBase o m X.env (eval o X.env)=eval o X.env
 few:((backTo cpos (starEach [e,f] X.env)).all (fun x=>!x.1)&&(backToKw cpos (keywordEach [] X.env)).all (fun x=>x.1.isSome)
  && decide (([e,f]:List Expr).length+([]:List Keyword).length+(if ([]:List Keyword).isEmpty then 0 else 1)<30))=true
 line:(apos.endLine==cpos.line)=true
 trees:backTo cpos (starEach [e,f] X.env)=[(false,eval e X.env),(false,eval f X.env)]
section
variable {X:Cx}{Kp:List (Addr×Obj)}{σ:St}{H:Hp}{s:Shared}{a:Addr}{y d:V}{u r:Value}{o:Option V}{A:Around}{E:Value->SP0}
end
section
variable {X:Cx}{o e f:Expr}{apos cpos:Pos}{td ty tx:TE}
end
section
variable {X:Cx}{Kp:List (Addr×Obj)}{σ:St}{H:Hp}{s:Shared}{a:Addr}{kvs:List (Key×V)}{A:Around}{E:Value->SP0}
end
section
variable {X:Cx}{Kp:List (Addr×Obj)}{σ:St}{H:Hp}{s:Shared}{a:Addr}{y:V}{u:Value}{A:Around}{E:Value->SP0}
end
section
variable {X:Cx}
end
section
variable {κ:Type}[DecidableEq κ]
end
end L2
end
section
namespace BX
open PySem PySem.Spec L2
open PyProof.Rows hiding St
noncomputable abbrev NoX:Value->SP0:=fun _ _=>False
noncomputable def aib(ts:List Expr)(en:Env):Sem Bool:=
 forIn ts true fun c r=>if r=true then do let ok ←isTrue c en (eval c en);pure (ForInStep.yield ok) else pure (ForInStep.yield r)
section
variable {prog:Program}{w:World}{A:Around}{s:Shared}{R:Result->SP0}
theorem adT{el tg src:Expr}{ts:List Expr}{sc:Scope}{ps:Pos}{it acc:Value}{en:Env}(J:Nat->SP0)
  (turn:∀n s,J n s->wpAny (model prog w) A (pyNext it) (fun r s1=>match r with
   | none=>R (.ok .next) s1
   | some v=>wpAny (model prog w) A (letOwnedTupleGo tg it v) (fun _ sg=>wpAny (model prog w) A (assign tg en v) (fun _ s2=>
     wpAny (model prog w) A (aib ts en) (fun ok s3=>
      if ok=true then wpAny (model prog w) A (eval el en) (fun y s4=>
       wpAny (model prog w) A (call (.builtin "list.append") [acc,y]) (fun _ s5=>∃ m,m<n/\J m s5) NoX s4) NoX s3
      else ∃ m,m<n/\J m s3) NoX s2) NoX sg) NoX s1) NoX s)
  (n:Nat) (h:J n s):
  codeAny (model prog w) A (.compLoop (.ListComp el [⟨tg,src,ts,0⟩] sc ps) 0 it acc en) R s:=by
 refine codeAny_loop rfl J (fun n s hJ=>?_) n h
 show wpAny _ A
  ((compTurn (.ListComp el [⟨tg,src,ts,0⟩] sc ps) 0 it acc en).onRaise
   (fun x=>do noteFrame x en; theTreesLotGoes x)) _ _ s
 refine wpAny_noted ?_;rw[compTurn_list];have no:∀{E:Value->SP0} (e:Value) (s':Shared),NoX e s'->E e s':=fun _ _ z=>z.elim;refine wpAny_bind (wpAny_standAt (wpAny_bind (wpAny_mono (turn n s hJ) (fun r s1 h1=>?_) no)));cases r with
 |none=>exact wpAny_pure h1
 | some v=>
  refine wpAny_bind (wpAny_mono h1 (fun _ sg hg=>?_) no);refine wpAny_bind (wpAny_mono hg (fun _ s2 h2=>?_) no);refine wpAny_bind (wpAny_mono h2 (fun ok s3 h3=>?_) no);cases ok with
  |false=>exact wpAny_pure ⟨rfl,h3⟩
  | true=>
   refine wpAny_bind (wpAny_bind (wpAny_mono h3 (fun y s4 h4=>?_) no));exact wpAny_bind (wpAny_mono h4 (fun _ s5 h5=>wpAny_pure (wpAny_pure ⟨rfl,h5⟩)) no)
end
noncomputable def QH(en:Env):List (Str×NameKind)->List (Str×Addr)->List (Str×Addr)
 | [],cs=>cs
 | (n,k)::r,cs=>QH en r (if k == .free then (n,(en.cells.lookup n).getD 0)::cs else cs)
theorem aic(sc:Scope)(en:Env)(h:∀x∈sc.names,x.2= .free->∃c,en.cells.lookup x.1=some c):closureFor sc en=pure (QH en sc.names []):=by
 have go:∀(l:List (Str×NameKind)) (cs:List (Str×Addr)),(∀x∈l,x.2= .free->∃c,en.cells.lookup x.1=some c)->
   (forIn l cs (fun (x:Str×NameKind) (r:List (Str×Addr))=>(do
    if x.2 == .free then do
     let c ←cellOf en x.1
     pure (ForInStep.yield ((x.1,c)::r))
    else pure (ForInStep.yield r):Sem (ForInStep (List (Str × Addr))))):Sem _)=pure (QH en l cs):=by
  intro l
  induction l with
  |nil=>intro cs _;rfl
  | cons x l ih=>
   intro cs hl;obtain⟨n,k⟩:=x;rw[List.forIn_cons];by_cases hk:(k==NameKind.free)=true
   ·obtain⟨c,e⟩:=hl (n,k) List.mem_cons_self (by simpa using hk)
    have e':en.cells.lookup n=some c:=e;simp only[hk,zzM,cellOf,e',pure_bind,QH,Option.getD_some];exact ih _ fun y hy=>hl y (List.mem_cons_of_mem _ hy)
   ·simp only[hk,pure_bind,QH,zzL,zzN]
    exact ih _ fun y hy=>hl y (List.mem_cons_of_mem _ hy)
 have:=go sc.names [] h;unfold closureFor;rw[←this]
 first
  | (simp only[bind_pure_comp,id_map',map_pure];done)
  | (simp only[bind_pure_comp,id_map',map_pure];exact bind_pure _)
theorem abb(en:Env):∀(l:List (Str×NameKind)) (cs:List (Str×Addr)),(∀x∈l,x.2= .free->∃c,en.cells.lookup x.1=some c)->(∀p∈cs,en.cells.lookup p.1=some p.2)->
  ∀p∈QH en l cs,en.cells.lookup p.1=some p.2
 | [],_,_,h,p,hp=>h p hp
 | (n,k)::r,cs,hl,h,p,hp=>by
  refine abb en r _ (fun y hy=>hl y (List.mem_cons_of_mem _ hy)) (fun q hq=>?_) p hp;by_cases hk:(k==NameKind.free)=true
  ·rw[if_pos hk]at hq
   rcases List.mem_cons.mp hq with rfl | hq
   ·obtain⟨c,e⟩:=hl (n,k) List.mem_cons_self (by simpa using hk)
    have e':en.cells.lookup n=some c:=e;show en.cells.lookup n=some ((en.cells.lookup n).getD 0);rw[e'];rfl
   ·exact h q hq
  ·rw[if_neg hk]at hq
   exact h q hq
theorem abG(en:Env):∀(l:List (Str×NameKind)) (cs:List (Str×Addr)) (x:Str),(∃c,(x,c)∈cs)->∃c,(x,c)∈QH en l cs
 | [],_,_,h=>h
 | (n,k)::r,cs,x,⟨c,h⟩=>by
  refine abG en r _ x ?_;by_cases hk:(k==NameKind.free)=true
  ·rw[if_pos hk];exact⟨c,List.mem_cons_of_mem _ h⟩
  ·rw[if_neg hk];exact⟨c,h⟩
theorem Qg(en:Env):∀(l:List (Str×NameKind)) (cs:List (Str×Addr)) (x:Str),(x,NameKind.free)∈l->∃c,(x,c)∈QH en l cs
 | (n,k)::r,cs,x,h=>by
  rcases List.mem_cons.mp h with e | h
  ·obtain⟨e1,e2⟩:=Prod.mk.inj e
   subst e1;subst e2;exact abG en r _ _ ⟨_,by rw[if_pos (by rfl)];exact List.mem_cons_self⟩
  ·exact Qg en r _ x h
theorem zk{β:Type}:∀{l:List (Str×β)}{x:Str}{c:β},(x,c)∈l->∃d,l.lookup x=some d
 | (n,k)::r,x,c,h=>by
  by_cases e:x=n
  ·subst e;exact⟨k,by simp[List.lookup_cons]⟩
  ·have eb:(x==n)=false:=by simpa using e
   rcases List.mem_cons.mp h with z | h
   ·cases z;exact absurd rfl e
   ·obtain⟨d,hd⟩:=zk h
    exact⟨d,by simp only[List.lookup_cons,eb];exact hd⟩
theorem JN{sc:Scope}{en:Env}{x:Str}{k:NameKind}(h:(x,k)∈(relabel sc en).names)(hc:∀y∈sc.names,y.2 ≠ .cell)(hk:k= .cell∨k= .free):(x,NameKind.free)∈sc.names:=by
 obtain⟨⟨n,j⟩,hm,e⟩:=List.mem_map.mp h;by_cases q:(j==NameKind.free&&en.scope.kind == .function&&en.kindOf n==some .cell)=true
 ·have e1:(n,NameKind.cell)=(x,k):=by simpa only[q,zzM]using e
  cases e1
  have hj:j= .free:=by
   simp only[Bool.and_eq_true]at q;simpa using q.1.1
  rw[←hj];exact hm
 ·have e1:(n,j)=(x,k):=by simpa only[q,zzL,zzN]using e
  cases e1;rcases hk with rfl|rfl
  ·exact absurd rfl (hc _ hm)
  ·exact hm
theorem Qz{en:Env}:∀{l:List (Str×NameKind)}{x:Str},l.lookup x=some .free->
  (l.map fun (n,k)=>if (k==NameKind.free&&en.scope.kind == .function&&en.kindOf n==some .cell) then (n,NameKind.cell) else (n,k)).lookup x=some .cell ∨
  (l.map fun (n,k)=>if (k==NameKind.free&&en.scope.kind == .function&&en.kindOf n==some .cell) then (n,NameKind.cell) else (n,k)).lookup x=some .free
 | (n,k)::r,x,h=>by
  rw[List.map_cons];cases hx:x==n with
  | true=>
   simp only[List.lookup_cons,hx]at h;cases h;by_cases q:(NameKind.free==NameKind.free&&en.scope.kind == .function&&en.kindOf n==some .cell)=true
   ·left;simp only[q,zzM,List.lookup_cons,hx]
   ·right;simp only[q,zzL,zzN,List.lookup_cons,hx]
  | false=>
   simp only[List.lookup_cons,hx]at h;rcases Qz (en:=en) h with g | g
   ·left
    by_cases q:(k==NameKind.free&&en.scope.kind == .function&&en.kindOf n==some .cell)=true
    ·simp only[q,zzM,List.lookup_cons,hx];exact g
    ·simp only[q,zzL,zzN,List.lookup_cons,hx];exact g
   ·right
    by_cases q:(k==NameKind.free&&en.scope.kind == .function&&en.kindOf n==some .cell)=true
    ·simp only[q,zzM,List.lookup_cons,hx];exact g
    ·simp only[q,zzL,zzN,List.lookup_cons,hx];exact g
noncomputable def blk(X:Cx)(N':List Str)(sc:Scope)(cl:List (Str×Addr))(C:Addr)(s0:Shared)(H0:Hp)(fp:List Addr)(pn:List (Addr×Obj)):Cx:=
 { X with N:=N',s₀:=s0,H₀:=H0,env:=compEnvC sc cl C X.env,Ko:=X.stack,ex:=fp,fn:=fun _=>false,pn:=pn,xe:=NoX }
noncomputable def abZ(cap:List (Option Nat))(σ:St):St:=cap.map fun o=>o.bind fun i=>(σ[i]?).join
noncomputable def PTs(X:Cx)(ts:List Expr)(t:TT):Prop:=
 ∀(Kp:List (Addr×Obj)) (s:Shared) (σ:St) (H:Hp) (Q:Bool->Hp->Prop),Inv X Kp σ H s->t σ H Q->wpAny (model X.prog X.w) X.A (aib ts X.env) (TP X Kp σ Q) X.xe s
noncomputable def aqS:TT:=fun _ H Q=>Q true H
theorem ana{X:Cx}:PTs X [] aqS:=fun _ _ _ H _ I h=>wpAny_pure ⟨H,I,h⟩
theorem anb{X:Cx}{c:Expr}{t:TT}(h:PT X c t):PTs X [c] t:=fun Kp s σ H Q I hq=>wpAny_tests_one (h Kp s σ H Q I hq)
structure CompOk(X:Cx)(sc:Scope)(N':List Str)(cap:List (Option Nat)):Prop where
 fr:∀x∈sc.names,x.2= .free->X.env.kindOf x.1=some .cell∨X.env.kindOf x.1=some .free
 nc:∀x∈sc.names,x.2 ≠ .cell
 kind:sc.kind= .function
 nm:∀x∈sc.names,x.2= .local->sc.names.lookup x.1=some .local
 len:cap.length=N'.length
 cp:∀(j i:Nat) (x:Str),N'[j]?=some x->cap[j]?=some (some i)->X.N[i]?=some x/\sc.names.lookup x=some .free
noncomputable def akA(wi:TI)(cap:List (Option Nat))(g:TG)(tt:TT)(te:TE):TE:=fun σ H Q=>wi σ H fun J H1=>
 ∃W:Nat->Nat->St->List V->Hp->Prop,(∃m,W 0 m (abZ cap σ) [] H1)/\∀i m τ ys H,W i m τ ys H->ys.length<sizeLine/\
  ((J.stop i H/\∀l,H l=none->Q (.ref l) (upd H l (.lst ys))) ∨
   (J.go i H/\∀ x H',J.yld i H x H'->g x τ H' fun τ2 H2=>tt τ2 H2 fun b H3=>if b=true then te τ2 H3 fun y H4=>∃ m',m' < m/\W (i+1) m' τ2 (ys++[y]) H4 else ∃ m',m' < m/\W (i+1) m' τ2 ys H3))
theorem Inv.track{X:Cx}{Kp:List (Addr×Obj)}{σ:St}{H:Hp}{s:Shared}{D:Addr}{o:HO}(I:Inv X Kp σ H s)(hn:H D=none)(h1:X.s₀.heap.objs.size<=D)(h2:D≠X.env.locals)(h3:∀x c,X.env.cells.lookup x=some c->c≠D)
  (h4:∀p∈X.pn++Kp,p.1≠D) (new:zh X.prog X.w (upd H D o) s.heap D o):Inv X Kp σ (upd H D o) s:=by
 have nd:∀b u,H b=some u->b≠D:=fun b u e z=>by rw[z,hn]at e;cases e
 have hok:HOk X.prog X.w (upd H D o) s.heap:=fun b u e=>by
  by_cases hb:b=D
  ·subst hb;rw[jq]at e;cases e;exact new
  ·rw[jr hb]at e
   exact(I.hok b u e).stay (fun _ _ _ q=>q) (fun c q=>by rw[jr (nd c _ q)];exact q) fun c xs q=>by rw[jr (nd c _ q)];exact q
 refine I.step (h':=s.heap) (g':=s.gens) (d':=s.drawn) (t':=s.toks) (ch:=[D]) (fun b hb=>?_) (fun b o _ _ _ e _=>e) (fun b o _ _ _ e _=>⟨o.slots,e⟩) (fun b o hc _ n=>?_) (fun b o _ e=>⟨o,e⟩) (fun b xs e=>by rw[jr (nd b _ e)];exact e)
  (fun b ob u e=>by rw[jr (nd b _ e)];exact e) (fun b ps e=>⟨#[],by rw[jr (nd b _ e),e];simp⟩) (fun m hm=>hm) hok I.bare
 ·have e:b=D:=by simpa using hb
  subst e;exact⟨.inr h1,h2,h3,h4⟩
 ·have e:b≠D:=by simpa using hc
  rw[jr e];exact n
theorem anc{X : Cx}{el tg src : Expr}{ts : List Expr}{sc : Scope}{ps : Pos}{wi : TI}{g : TG}{tt : TT}{te : TE}{N' : List Str}{cap : List (Option Nat)}(hc : X.calm = true)(hi : PI X tg src wi)(ok : CompOk X sc N' cap)
    (body : ∀cl C s0 H0 fp pn, PG (blk X N' sc cl C s0 H0 fp pn) tg g /\ PTs (blk X N' sc cl C s0 H0 fp pn) ts tt /\ PE (blk X N' sc cl C s0 H0 fp pn) el te)
    (hs : ∀x, foldedSetIterable src X.env x = pure x := by intro _;rfl) : PE X (.ListComp el [⟨tg, src, ts, 0⟩] sc ps) (akA wi cap g tt te) := by
  intro Kp s σ H Q I h;have hfr : ∀x∈sc.names, x.2 = .free -> ∃c, X.env.cells.lookup x.1 = some c := fun x hx e => I.ok.has x.1 (ok.fr x hx e);have hcl := aic sc X.env hfr
  have clm : ∀x c, (QH X.env sc.names []).lookup x = some c -> X.env.cells.lookup x = some c := fun x c e =>
    abb X.env sc.names [] hfr (fun _ z => nomatch z) (x, c) (PySem.mem_of_lookup e)
  generalize hgl : QH X.env sc.names [] = cl at hcl clm;rw[eval_ListComp];refine wpAny_comprehension_free (use := none) rfl hs hcl ok.kind ok.nm ?_;refine thn (hi Kp s σ H _ I h) fun v s1 h1 => thn h1 fun itv s2 h2 => ?_;obtain⟨it, fp, tn, J, H2, e, I2, T, st2, f2, W, ⟨m0, w0⟩, turn⟩ := h2;subst e;refine wpAny_newObj_type (wpAny_newFunctionEnv ok.nc (by intro y hy;simp at hy) (fun h4 hns hsb => ?_) ok.kind);dsimp only at hns hsb ⊢;generalize hH3 : s2.heap.push { cls := .type "list", dict := none, data := .seq ([] : List Value).toArray } = h3 at hns hsb ⊢;have hC : h3.objs.size = s2.heap.objs.size + 1 := by rw[← hH3, Heap.size_push]
  generalize hCC : h3.objs.size = C at hns hsb hC ⊢;generalize hDD : s2.heap.objs.size = D at hC ⊢;have hDC : D≠C := by rw[hC];exact Nat.ne_of_lt (Nat.lt_succ_self _)
  have old : ∀b o, s2.heap.get? b = some o -> h4.get? b = some o := fun b o e => hsb.extBut b o (by have := Heap.lt_size e;rw[hDD]at this;rw[hC];exact Nat.ne_of_lt (Nat.lt_succ_of_lt this)) (Heap.get?_push_of_some _ (hH3▸Heap.get?_push_of_some _ e));have accO : h4.get? D = some { cls := .type "list", data := .seq ([] : List Value).toArray 0 } := hsb.extBut _ _ hDC (Heap.get?_push_of_some _ (by rw[← hH3, ← hDD];exact Heap.get?_push_size _ rfl));have H2D : H2 D = none := I2.hok.fresh (by rw[hDD];exact Nat.le_refl _);have H2C : H2 C = none := I2.hok.fresh (by rw[hDD, hC];exact Nat.le_succ _)
  have cellsLt : ∀x c, X.env.cells.lookup x = some c -> c<D := fun x c e => by
    obtain⟨v, q⟩ := I2.cell x c e;rw[← hDD];exact q.lt
  have pinLt : ∀p∈X.pn ++ Kp, p.1<D := fun p hp => by rw[← hDD];exact Heap.lt_size (I2.pin p hp).1
  have stkLt : ∀b∈frs X.stack, b<D := fun b hb => by
    obtain⟨_, o, ho, _⟩ := I2.stack.mem hb;rw[← hDD];exact Heap.lt_size ho
  have fpLt : ∀b∈fp, b<D := fun b hb => by
    obtain⟨o, ho, _⟩ := T.obj _ _ st2 b hb;rw[← hDD];exact Heap.lt_size ho
  have ltC : ∀{b : Addr}, b<D -> b≠C := fun hb => by rw[hC];exact Nat.ne_of_lt (Nat.lt_succ_of_lt hb)
  have locLt : X.env.locals<D := by rw[← hDD];exact I2.lt
  have hDge : s2.heap.objs.size <= D := by rw[hDD];exact Nat.le_refl _
  have hCge : s2.heap.objs.size <= C := by rw[hDD, hC];exact Nat.le_succ _
  have bok : (blk X N' sc cl C s2 H2 fp (X.pn ++ Kp)).Ok := by
    refine⟨I2.ok.mod, ok.kind, I2.ok.glob, I2.ok.blt, hCge, fun x y c e1 e2 => I2.ok.inj x y c (clm x c e1) (clm y c e2), fun x hx => ?_, fun x c z _ => ?_, I2.ok.hd, I2.ok.frames, .inl rfl, fun b hb => ?_, I2.bs, Nat.le_trans I2.ok.bsz I2.sz, fun b o e hb => ?_, fun b hb z => ?_, I2.stack, I2.stkFree⟩
    · have hx' : (relabel sc X.env).names.lookup x = some .cell∨(relabel sc X.env).names.lookup x = some .free := hx
      have hm : (x, NameKind.free)∈sc.names := by
        rcases hx' with z | z
        · exact JN (PySem.mem_of_lookup z) ok.nc (.inl rfl)
        · exact JN (PySem.mem_of_lookup z) ok.nc (.inr rfl)
      obtain⟨c, hc⟩ := Qg X.env sc.names [] x hm;rw[hgl]at hc;exact zk hc
    · exact absurd (show false = true from z) Bool.false_ne_true
    · exact⟨ltC (fpLt b hb), fun x c e => (f2 b hb).2.2.2.2.1 x c (clm x c e)⟩
    · rcases (f2 b hb).2.2.2.1 with z | z
      · exact I2.ok.noex b o e z
      · have := Heap.lt_size e
        exact absurd (Nat.lt_of_lt_of_le this (Nat.le_trans I2.ok.bsz z)) (Nat.lt_irrefl _)
    · rcases List.mem_cons.mp (I2.stkSub b z)with q | q
      · exact(f2 b hb).2.1 q
      · exact(f2 b hb).2.2.1 q
  have pinB : ∀p∈X.pn ++ Kp, p.1≠C /\ p.1∉frs X.stack := fun p hp => ⟨ltC (pinLt p hp), fun z => by
    rcases List.mem_cons.mp (I2.stkSub p.1 z) with q | q
    · exact (I2.pin p hp).2.2.1 q
    · exact (I2.pin p hp).2.2.2.1 q⟩
  have I4 : Inv (blk X N' sc cl C s2 H2 fp (X.pn ++ Kp)) [] (abZ cap σ) H2 { s2 with heap := h4, toks := s2.toks + ([] : List (Str×Value)).length } := by
    refine⟨bok, rfl, I2.bare, Un.kept old, ⟨_, hns, fun j x v e1 e2 e3 => ?_⟩, fun x c e => ?_, H2C, fun x c e => I2.freeC x c (clm x c e), fun p hp => ?_, I2.hok.kept old, ?_⟩
    · unfold abZ at e2
      rw[List.getElem?_map]at e2;cases e4 : cap[j]? with
      |none => rw[e4]at e2;cases e2
      | some o =>
        rw[e4]at e2;cases o with
        |none => cases e2
        | some i =>
          obtain⟨hNi, hf⟩ := ok.cp j i x e1 e4
          have e5 : (σ[i]?).join = some v := by
            have := Option.some.inj e2;simpa using this
          have e6 : σ[i]? = some (some v) := by
            cases e7 : σ[i]? with
            |none => rw[e7]at e5;cases e5
            | some z => rw[e7]at e5;cases z with
              |none => cases e5
              |some z => cases e5;rfl
          have hk := ok.fr (x, .free) (PySem.mem_of_lookup hf) rfl;obtain⟨m, hn, hl⟩ := I2.loc
          have hv : Vis X.env.scope x := by
            rcases hk with z | z
            · exact .inr (.inl z)
            · exact .inr (.inr z)
          obtain⟨u, r, lk⟩ := hl i x v hNi e6 hv
          have cellX : ∃c, X.env.cells.lookup x = some c /\ s2.heap.IsCell c (some u) := by
            rcases lk with ⟨k1, _⟩ | ⟨_, c, e, z⟩
            · rcases hk with z | z
              · have z' : X.env.kindOf x = some .cell := z
                rw[k1]at z';cases z'
              · have z' : X.env.kindOf x = some .free := z
                rw[k1]at z';cases z'
            · exact⟨c, e, z⟩
          obtain⟨c, hc1, ob, hc2, hc3⟩ := cellX;obtain⟨c', hc'⟩ := Qg X.env sc.names [] x (PySem.mem_of_lookup hf);rw[hgl]at hc';obtain⟨d, hd⟩ := zk hc'
          have ed : d = c := by
            have := clm x d hd;rw[hc1]at this;cases this;rfl
          subst ed;refine⟨u, r, .inr ⟨?_, d, hd, ob, old _ _ hc2, hc3⟩⟩;exact Qz hf
    · obtain⟨v, ob, ho, hd⟩ := I2.cell x c (clm x c e)
      exact⟨v, ob, old _ _ ho, hd⟩
    · have hp' : p∈X.pn ++ Kp := by simpa[blk]using hp
      obtain⟨e1, e2, e3, e4, e5⟩ := I2.pin p hp';exact⟨old _ _ e1, e2, (pinB p hp').1, (pinB p hp').2, e5⟩
    · show(abZ cap σ).length = N'.length
      unfold abZ;rw[List.length_map];exact ok.len
  have fpB : ∀{H' : Hp} {pl : List (Addr×Obj)}, (∀b∈fp, H' b = none) -> (∀p∈pl, p.1∉fp) -> ∀b∈fp, aa5 (blk X N' sc cl C s2 H2 fp (X.pn ++ Kp)) pl H' b := fun {H' pl} hn hpl b hb =>
    ⟨hn b hb, ltC (fpLt b hb), bok.exfs b hb, .inl hb, fun x c e => (f2 b hb).2.2.2.2.1 x c (clm x c e), fun p hp z => by
      rcases List.mem_append.mp (show p ∈ (X.pn ++ Kp) ++ pl from hp) with q | q
      · exact (f2 b hb).2.2.2.2.2 p q z
      · exact hpl p q (by rw [z]; exact hb)⟩
  have Dfp : ∀(o : Obj), ∀p∈[(D, o)], p.1∉fp := fun o p hp z => by
    have e : p = (D, o) := by simpa using hp
    subst e;exact Nat.lt_irrefl _ (fpLt D z)
  have Dfs : D∉frs X.stack := fun z => Nat.lt_irrefl _ (stkLt D z);obtain⟨bG, bT, bE⟩ := body cl C s2 H2 fp (X.pn ++ Kp)
  have loop : codeAny (model X.prog X.w) X.A (.compLoop (.ListComp el [⟨tg, src, ts, 0⟩] sc ps) 0 (.ref it) (.ref D) (compEnvC sc cl C X.env)) (compPost (model X.prog X.w) X.A X.xe none (EP X Kp σ Q) (.ref D) C)
      { s2 with heap := h4, toks := s2.toks + ([] : List (Str×Value)).length } := by
    refine adT (fun n s' => ∃i τ ys us k H', Inv (blk X N' sc cl C s2 H2 fp (X.pn ++ Kp)) [] τ H' s' /\ tn i s'.heap /\ (∀b∈fp, H' b = none) /\ jH ys us /\ s'.heap.get? D = some { cls := .type "list", data := .seq us.toArray k } /\ H' D = none /\ W i n τ ys H') ?_ m0
      ⟨0, _, [], [], 0, H2, I4, T.keep _ _ _ st2 (fun b _ o e => old b o e), fun b hb => (f2 b hb).1, .nil, accO, H2D, w0⟩
    rintro n s5 ⟨i, τ, ys, us, k, H5, I5, st5, fr5, rv5, ho5, hD5, w5⟩
    obtain⟨hsz, alt⟩ := turn i n τ ys H5 w5
    have I5p : Inv (blk X N' sc cl C s2 H2 fp (X.pn ++ Kp)) [(D, { cls := .type "list", data := .seq us.toArray k })] τ H5 s5 := I5.pins_of fun p hp => by
      have e : p = (D, { cls := .type "list", data := .seq us.toArray k }) := by simpa using hp
      subst e;exact⟨ho5, hD5, hDC, Dfs, fun v z => by cases z⟩
    rcases alt with ⟨stop, fin⟩ | ⟨go, step⟩
    · refine thn (T.done (blk X N' sc cl C s2 H2 fp (X.pn ++ Kp)) rfl rfl rfl hc i _ s5 τ H5 NoX I5p (fpB fr5 (Dfp _)) st5 stop) fun r s6 ⟨hr, I6⟩ => ?_
      subst hr;have ho6 := (I6.pin (D, _) (List.mem_append_right _ (List.mem_singleton.mpr rfl))).1;obtain⟨m6, hn6, _⟩ := I6.loc;refine⟨m6, hn6, fun h7 hs7 => ?_⟩;have J6 : Inv X Kp σ H5 s6 := I2.call' (ch := fp) I6.os I6.base I6.hok I6.bare fun b hb => ⟨(f2 b hb).2.2.2.1, (f2 b hb).2.1, (f2 b hb).2.2.2.2.1, (f2 b hb).2.2.2.2.2⟩;have H5C : H5 C = none := I6.free;have cne : ∀{b : Addr}, b<D -> b≠C := ltC;have J7 : Inv X Kp σ H5 { s6 with heap := h7, toks := s6.toks } := J6.turned (it := C) (fun b o hb e => hs7.extBut b o hb e) H5C (Ne.symm (ltC locLt)) (.inr (Nat.le_trans I2.sz hCge)) (fun x c e => ltC (cellsLt x c e)) (fun p hp => ltC (pinLt p hp));have ho7 : h7.get? D = some { cls := .type "list", data := .seq us.toArray k } := hs7.extBut D _ hDC ho6;refine⟨.ref D, upd H5 D (.lst ys), ?_, rfl, fin D hD5⟩;exact Inv.track J7 hD5 (Nat.le_trans I2.sz hDge) (Ne.symm (Nat.ne_of_lt locLt)) (fun x c e => Nat.ne_of_lt (cellsLt x c e)) (fun p hp => Nat.ne_of_lt (pinLt p hp)) ⟨Nat.le_of_lt hsz, us, k, rv5, ho7⟩
    · refine thn (T.item (blk X N' sc cl C s2 H2 fp (X.pn ++ Kp)) rfl rfl rfl hc i _ s5 τ H5 NoX I5p (fpB fr5 (Dfp _)) st5 go) fun r s6 ⟨u, hr, h6⟩ => ?_
      subst hr;refine thn h6 fun _ s7 ⟨x, H7, I7, r7, y7, st7, fr7⟩ => ?_;have I7p := I7.pinned (fpB fr7 (Dfp _)) (T.obj _ _ st7);refine thn (bG _ s7 τ H7 x u _ I7p r7 (step x H7 y7)) fun _ s8 ⟨τ8, H8, I8, q8⟩ => ?_
      have back : ∀{τ9 : St} {H9 : Hp} {s9 : Shared}, Inv (blk X N' sc cl C s2 H2 fp (X.pn ++ Kp)) ([(D, { cls := .type "list", data := .seq us.toArray k })] ++ Z0 fp s7.heap) τ9 H9 s9 ->
          tn (i + 1) s9.heap /\ (∀b∈fp, H9 b = none) /\ s9.heap.get? D = some { cls := .type "list", data := .seq us.toArray k } /\ H9 D = none := fun {τ9 H9 s9} I9 => by
        have pD := I9.pin (D, { cls := .type "list", data := .seq us.toArray k }) (List.mem_append_right _ (List.mem_append_left _ (List.mem_singleton.mpr rfl)));refine⟨T.keep _ _ _ st7 fun b hb o e => (I9.pin (b, o) (List.mem_append_right _ (List.mem_append_right _ (qU hb e)))).1, fun b hb => ?_, pD.1, pD.2.1⟩;obtain⟨o, e, _⟩ := T.obj _ _ st7 b hb;exact(I9.pin (b, o) (List.mem_append_right _ (List.mem_append_right _ (qU hb e)))).2.1
      have drop : ∀{τ9 : St} {H9 : Hp} {s9 : Shared} {pl : List (Addr×Obj)}, Inv (blk X N' sc cl C s2 H2 fp (X.pn ++ Kp)) pl τ9 H9 s9 -> Inv (blk X N' sc cl C s2 H2 fp (X.pn ++ Kp)) [] τ9 H9 s9 := fun I9 => I9.pins_of fun p hp => nomatch hp
      refine thn (bT _ s8 τ8 H8 _ I8 q8) fun b s9 ⟨H9, I9, q9⟩ => ?_;cases b with
      | false =>
        rw[if_neg Bool.false_ne_true]at q9 ⊢;obtain⟨m', hm, w9⟩ := q9;obtain⟨t9, f9, o9, d9⟩ := back I9;exact⟨m', hm, i + 1, τ8, ys, us, k, H9, drop I9, t9, f9, rv5, o9, d9, w9⟩
      | true =>
        rw[if_pos rfl]at q9 ⊢;refine thn (bE _ s9 τ8 H9 _ I9 q9) fun y s10 ⟨z, H10, I10, r10, q10⟩ => ?_;obtain⟨m', hm, w10⟩ := q10;obtain⟨t10, f10, o10, d10⟩ := back I10;have hl := rv5.length;refine append_at (hsz := by show us.toArray.size <= sizeLine;rw[List.size_toArray, ← hl];exact Nat.le_of_lt hsz) o10 fun h11 hs11 hD11 => ?_
        have I11 : Inv (blk X N' sc cl C s2 H2 fp (X.pn ++ Kp)) [] τ8 H10 { s10 with heap := h11, toks := s10.toks } := (drop I10).turned (it := D) (fun b o hb e => hs11.extBut b o hb e) d10 hDC (.inr hDge) (fun x c e => Nat.ne_of_lt (cellsLt x c (clm x c e)))
          (fun p hp => by have hp' : p∈X.pn ++ Kp := by simpa[blk]using hp
                          exact Nat.ne_of_lt (pinLt p hp'))
        refine⟨m', hm, i + 1, τ8, ys ++ [z], us ++ [y], k + 1, H10, I11, T.keep _ _ _ t10 (fun b hb o e => hs11.extBut b o (Nat.ne_of_lt (fpLt b hb)) e), f10, rv5.append (.cons r10 .nil), ?_, d10, w10⟩;rw[hD11];simp
  refine codeAny_compStart_list loop ?_;exact T.self _ 0 _ _ _ (T.keep _ _ _ st2 (fun b _ o e => old b o e)) loop
theorem jp.tup{K:Fg}{H H':Hp}{a:Addr}{xs:List V}(e:jp H H')(h:SqT K H a xs):SqT K H' a xs:=by
 rcases h with (h | ⟨o,h⟩) | h
 ·exact .inl (.inl (e _ _ h))
 ·exact .inl (.inr ⟨o,e _ _ h⟩)
 ·exact .inr h
noncomputable def scr(ns:List Int):PyData:= .dict (ns.map fun n=>(.int n,.none))
noncomputable def ag9:Key->PyData
 |.inl i=> .int i
 |.inr t=> .str t
mutual
noncomputable def Rep(K:Fg)(H:Hp):PyData->V->Prop
 |.none,v=>v= .non
 |.bool b,v=>v= .bl b
 |.int i,v=>v= .int i
 |.str x,v=>v= .str x
 |.tuple ds,v=>∃a xs,v= .ref a/\SqT K H a xs/\Reps K H ds xs
 |.list ds,v=>∃a xs,v= .ref a/\H a=some (.lst xs)/\Reps K H ds xs
 |.dict kvs,v=>∃a,v= .ref a/\((∃ns:List Int,SqL K H a (List.map V.int ns)/\kvs=ns.map (fun n=>(PyData.int n,PyData.none)))∨(∃ks ob,H a=some (.frz ob (.dK ks))/\RepD K H kvs ks)∨(∃x:Str,kvs=[(.str x,.none)]/\PySem.W.nsIn K mainGlobals x=some (some (.ref a)))∨(∃(x:Str) (C:Addr) (oe:Obj),kvs=[(.str x,.bool true)]/\H a=some (.frz oe (.own a))/\PySem.W.nsIn K mainGlobals x=some (some (.ref C))/\oe.cls= .ref C/\oe.dict=none/\∃vs,oe.data= .fields vs)∨kvs=[(.bool true,.int (a:Int))])
noncomputable def Reps(K:Fg)(H:Hp):LP->List V->Prop
 | [],xs=>xs=[]
 |d::ds,xs=>∃x r,xs=x::r/\Rep K H d x/\Reps K H ds r
noncomputable def RepD(K:Fg)(H:Hp):List (PyData×PyData)->List (Key×V)->Prop
 | [],_=>False
 | (.none,_)::r,ks=>RepM K H r ks
 |_::_,_=>False
noncomputable def RepM(K:Fg)(H:Hp):List (PyData×PyData)->List (Key×V)->Prop
 | [],ks=>ks=[]
 | (k,d)::r,ks=>∃i x s,k=ag9 i/\ks=(i,x)::s/\Rep K H d x/\RepM K H r s
end
noncomputable def Jb(kvs:List (PyData×PyData)):Bool:=kvs.all fun p=>match p with
 | (.int _,.none)=>true
 |_=>false
theorem adU(ns:List Int):Jb (ns.map fun n=>(PyData.int n,PyData.none))=true:=by
 simp[Jb]
theorem RepD.out{K:Fg}{H:Hp}:∀{kvs:List (PyData×PyData)}{ks:List (Key×V)},RepD K H kvs ks->∃c r,kvs=(.none,c)::r/\RepM K H r ks
 | [],_,h=>h.elim
 | (.none,c)::r,ks,h=>⟨c,r,rfl,h⟩
 | (.bool _,_)::_,_,h=>h.elim
 | (.int _,_)::_,_,h=>h.elim
 | (.str _,_)::_,_,h=>h.elim
 | (.list _,_)::_,_,h=>h.elim
 | (.tuple _,_)::_,_,h=>h.elim
 | (.dict _,_)::_,_,h=>h.elim
theorem Rep.scrOut{K:Fg}{H:Hp}{kvs:List (PyData×PyData)}{v:V}(h:Rep K H (.dict kvs) v)(hs:Jb kvs=true):∃a ns,v= .ref a/\SqL K H a (List.map V.int ns)/\kvs=ns.map (fun n=>(PyData.int n,PyData.none)):=by
 obtain⟨a,h1,h2 | ⟨ks,ob,h2,h3⟩ | ⟨x,h2,_⟩ | ⟨x,_,_,h2,_⟩ | h2⟩:=h
 ·obtain⟨ns,q1,q2⟩:=h2;exact⟨a,ns,h1,q1,q2⟩
 ·obtain⟨c,r,rfl,_⟩:=h3.out
  simp[Jb]at hs
 ·subst h2;simp[Jb]at hs
 ·subst h2;simp[Jb]at hs
 ·subst h2;simp[Jb]at hs
noncomputable def jM(a:Addr):PyData:= .dict [(.bool true,.int (a:Int))]
noncomputable def ase(x:Str):PyData:= .dict [(.str x,.bool true)]
noncomputable def fnD(x:Str):PyData:= .dict [(.str x,.none)]
noncomputable def jW(H H':Hp):Prop:=∀b o,H b=some o->(∀φ,o ≠ .ext φ)->H' b=some o
theorem jp.e{H H':Hp}(s:jp H H'):jW H H':=fun b o h _=>s b o h
theorem jW.refl(H:Hp):jW H H:=fun _ _ h _=>h
theorem jW.trans{H H1 H2:Hp}(a:jW H H1)(b:jW H1 H2):jW H H2:=fun c o h n=>b c o (a c o h n) n
theorem jW.tup{K:Fg}{H H':Hp}{a:Addr}{xs:List V}(e:jW H H')(h:SqT K H a xs):SqT K H' a xs:=by
 rcases h with (h | ⟨o,h⟩) | h
 ·exact .inl (.inl (e _ _ h fun _ z=>nomatch z))
 ·exact .inl (.inr ⟨o,e _ _ h fun _ z=>nomatch z⟩)
 ·exact .inr h
theorem jW.sql{K:Fg}{H H':Hp}{a:Addr}{xs:List V}(e:jW H H')(h:SqL K H a xs):SqL K H' a xs:=by
 rcases h with (h | ⟨o,h⟩) | h
 ·exact .inl (.inl (e _ _ h fun _ z=>nomatch z))
 ·exact .inl (.inr ⟨o,e _ _ h fun _ z=>nomatch z⟩)
 ·exact .inr h
section
variable {K:Fg}{H H':Hp}
mutual
theorem Rep.mono(e:jp H H'):∀(d:PyData) (v:V),Rep K H d v->Rep K H' d v
 |.none,v,h=>h
 |.bool _,v,h=>h
 |.int _,v,h=>h
 |.str _,v,h=>h
 |.tuple ds,v,⟨a,xs,h1,h2,h3⟩=>⟨a,xs,h1,jp.tup e h2,Reps.mono e ds xs h3⟩
 |.list ds,v,⟨a,xs,h1,h2,h3⟩=>⟨a,xs,h1,e _ _ h2,Reps.mono e ds xs h3⟩
 |.dict kvs,v,⟨a,h1,h2⟩=>⟨a,h1,h2.imp (fun⟨ns,q1,q2⟩=>⟨ns,e.seq q1,q2⟩) fun z=>z.imp (fun⟨ks,ob,q1,q2⟩=>⟨ks,ob,e _ _ q1,RepD.mono e kvs ks q2⟩) fun y=>y.imp id fun z=>z.imp (fun⟨x,C,oe,q1,q2,q3⟩=>⟨x,C,oe,q1,e _ _ q2,q3⟩) id⟩
theorem Reps.mono(e:jp H H'):∀(ds:LP) (xs:List V),Reps K H ds xs->Reps K H' ds xs
 | [],xs,h=>h
 |d::ds,xs,⟨x,r,h1,h2,h3⟩=>⟨x,r,h1,Rep.mono e d x h2,Reps.mono e ds r h3⟩
theorem RepD.mono(e:jp H H'):∀(kvs:List (PyData×PyData)) (ks:List (Key×V)),RepD K H kvs ks->RepD K H' kvs ks
 | [],_,h=>h
 | (.none,c)::r,ks,h=>RepM.mono e r ks h
 | (.bool _,_)::_,_,h=>h
 | (.int _,_)::_,_,h=>h
 | (.str _,_)::_,_,h=>h
 | (.list _,_)::_,_,h=>h
 | (.tuple _,_)::_,_,h=>h
 | (.dict _,_)::_,_,h=>h
theorem RepM.mono(e:jp H H'):∀(kvs:List (PyData×PyData)) (ks:List (Key×V)),RepM K H kvs ks->RepM K H' kvs ks
 | [],_,h=>h
 | (k,d)::r,ks,⟨i,x,s,h1,h2,h3,h4⟩=>⟨i,x,s,h1,h2,Rep.mono e d x h3,RepM.mono e r s h4⟩
end
mutual
theorem Rep.monoE(e:jW H H'):∀(d:PyData) (v:V),Rep K H d v->Rep K H' d v
 |.none,v,h=>h
 |.bool _,v,h=>h
 |.int _,v,h=>h
 |.str _,v,h=>h
 |.tuple ds,v,⟨a,xs,h1,h2,h3⟩=>⟨a,xs,h1,jW.tup e h2,Reps.monoE e ds xs h3⟩
 |.list ds,v,⟨a,xs,h1,h2,h3⟩=>⟨a,xs,h1,e _ _ h2 (fun _ z=>nomatch z),Reps.monoE e ds xs h3⟩
 |.dict kvs,v,⟨a,h1,h2⟩=>⟨a,h1,h2.imp (fun⟨ns,q1,q2⟩=>⟨ns,jW.sql e q1,q2⟩) fun z=>z.imp (fun⟨ks,ob,q1,q2⟩=>⟨ks,ob,e _ _ q1 (fun _ z=>nomatch z),RepD.monoE e kvs ks q2⟩) fun y=>y.imp id fun z=>z.imp (fun⟨x,C,oe,q1,q2,q3⟩=>⟨x,C,oe,q1,e _ _ q2 (fun _ z=>nomatch z),q3⟩) id⟩
theorem Reps.monoE(e:jW H H'):∀(ds:LP) (xs:List V),Reps K H ds xs->Reps K H' ds xs
 | [],xs,h=>h
 |d::ds,xs,⟨x,r,h1,h2,h3⟩=>⟨x,r,h1,Rep.monoE e d x h2,Reps.monoE e ds r h3⟩
theorem RepD.monoE(e:jW H H'):∀(kvs:List (PyData×PyData)) (ks:List (Key×V)),RepD K H kvs ks->RepD K H' kvs ks
 | [],_,h=>h
 | (.none,c)::r,ks,h=>RepM.monoE e r ks h
 | (.bool _,_)::_,_,h=>h
 | (.int _,_)::_,_,h=>h
 | (.str _,_)::_,_,h=>h
 | (.list _,_)::_,_,h=>h
 | (.tuple _,_)::_,_,h=>h
 | (.dict _,_)::_,_,h=>h
theorem RepM.monoE(e:jW H H'):∀(kvs:List (PyData×PyData)) (ks:List (Key×V)),RepM K H kvs ks->RepM K H' kvs ks
 | [],_,h=>h
 | (k,d)::r,ks,⟨i,x,s,h1,h2,h3,h4⟩=>⟨i,x,s,h1,h2,Rep.monoE e d x h3,RepM.monoE e r s h4⟩
end
end
noncomputable def akB:HO->Bool
 |.lst _=>true
 |.tup _=>true
 |.frz _ _=>true
 |_=>false
noncomputable def jv(H H':Hp):Prop:=∀b o,H b=some o->akB o=true->H' b=some o
section
variable {K:Fg}{H H':Hp}
theorem jv.tup{a:Addr}{xs:List V}(e:jv H H')(h:SqT K H a xs):SqT K H' a xs:=by
 rcases h with (h | ⟨o,h⟩) | h
 ·exact .inl (.inl (e _ _ h rfl))
 ·exact .inl (.inr ⟨o,e _ _ h rfl⟩)
 ·exact .inr h
theorem jv.sql{a:Addr}{xs:List V}(e:jv H H')(h:SqL K H a xs):SqL K H' a xs:=by
 rcases h with (h | ⟨o,h⟩) | h
 ·exact .inl (.inl (e _ _ h rfl))
 ·exact .inl (.inr ⟨o,e _ _ h rfl⟩)
 ·exact .inr h
mutual
theorem Rep.monoA(e:jv H H'):∀(d:PyData) (v:V),Rep K H d v->Rep K H' d v
 |.none,v,h=>h
 |.bool _,v,h=>h
 |.int _,v,h=>h
 |.str _,v,h=>h
 |.tuple ds,v,⟨a,xs,h1,h2,h3⟩=>⟨a,xs,h1,jv.tup e h2,Reps.monoA e ds xs h3⟩
 |.list ds,v,⟨a,xs,h1,h2,h3⟩=>⟨a,xs,h1,e _ _ h2 rfl,Reps.monoA e ds xs h3⟩
 |.dict kvs,v,⟨a,h1,h2⟩=>⟨a,h1,h2.imp (fun⟨ns,q1,q2⟩=>⟨ns,jv.sql e q1,q2⟩) fun z=>z.imp (fun⟨ks,ob,q1,q2⟩=>⟨ks,ob,e _ _ q1 rfl,RepD.monoA e kvs ks q2⟩) fun y=>y.imp id fun z=>z.imp (fun⟨x,C,oe,q1,q2,q3⟩=>⟨x,C,oe,q1,e _ _ q2 rfl,q3⟩) id⟩
theorem Reps.monoA(e:jv H H'):∀(ds:LP) (xs:List V),Reps K H ds xs->Reps K H' ds xs
 | [],xs,h=>h
 |d::ds,xs,⟨x,r,h1,h2,h3⟩=>⟨x,r,h1,Rep.monoA e d x h2,Reps.monoA e ds r h3⟩
theorem RepD.monoA(e:jv H H'):∀(kvs:List (PyData×PyData)) (ks:List (Key×V)),RepD K H kvs ks->RepD K H' kvs ks
 | [],_,h=>h
 | (.none,c)::r,ks,h=>RepM.monoA e r ks h
 | (.bool _,_)::_,_,h=>h
 | (.int _,_)::_,_,h=>h
 | (.str _,_)::_,_,h=>h
 | (.list _,_)::_,_,h=>h
 | (.tuple _,_)::_,_,h=>h
 | (.dict _,_)::_,_,h=>h
theorem RepM.monoA(e:jv H H'):∀(kvs:List (PyData×PyData)) (ks:List (Key×V)),RepM K H kvs ks->RepM K H' kvs ks
 | [],_,h=>h
 | (k,d)::r,ks,⟨i,x,s,h1,h2,h3,h4⟩=>⟨i,x,s,h1,h2,Rep.monoA e d x h3,RepM.monoA e r s h4⟩
end
end
theorem jp.a{H H':Hp}(s:jp H H'):jv H H':=fun b o h _=>s b o h
theorem jW.a{H H':Hp}(s:jW H H'):jv H H':=fun b o h q=>s b o h fun φ z=>by subst z;cases q
theorem jv.refl(H:Hp):jv H H:=fun _ _ h _=>h
theorem jv.trans{H H1 H2:Hp}(a:jv H H1)(b:jv H1 H2):jv H H2:=fun c o h n=>b c o (a c o h n) n
section
variable {K:Fg}{H H':Hp}
theorem Rep.cel(a:Addr):Rep K H (jM a) (.ref a):=⟨a,rfl,.inr (.inr (.inr (.inr rfl)))⟩
theorem Rep.celOut{a:Addr}{v:V}(h:Rep K H (jM a) v):v= .ref a:=by
 obtain⟨b,h1,⟨ns,_,h2⟩ | ⟨ks,ob,h2,h3⟩ | ⟨x,h2,_⟩ | ⟨x,_,_,h2,_⟩ | h2⟩:=h
 ·cases ns with
  |nil=>cases h2
  |cons n ns=>simp at h2
 ·exact h3.elim
 ·simp at h2
 ·simp at h2
 ·have z:(a:Int)=(b:Int):=by simpa using h2
  rw[h1,Int.ofNat.inj z]
theorem Reps.length:∀{ds:LP}{xs:List V},Reps K H ds xs->xs.length=ds.length
 | [],xs,h=>by cases h;rfl
 |d::ds,xs,⟨x,r,h1,h2,h3⟩=>by subst h1;simp[Reps.length h3]
theorem Reps.get:∀{ds:LP}{xs:List V}{i:Nat}{d:PyData},Reps K H ds xs->ds[i]?=some d->∃x,xs[i]?=some x/\Rep K H d x
 | [],xs,i,d,h,e=>by simp at e
 |c::ds,xs,0,d,⟨x,r,h1,h2,h3⟩,e=>by subst h1;simp at e;subst e;exact⟨x,rfl,h2⟩
 | c::ds,xs,i+1,d,⟨x,r,h1,h2,h3⟩,e=>by
  subst h1;obtain⟨y,e1,e2⟩:=Reps.get (i:=i) h3 (by simpa using e);exact⟨y,by simpa using e1,e2⟩
theorem Reps.append:∀{ds es:LP}{xs ys:List V},Reps K H ds xs->Reps K H es ys->Reps K H (ds++es) (xs++ys)
 | [],es,xs,ys,h,g=>by cases h;exact g
 |d::ds,es,xs,ys,⟨x,r,h1,h2,h3⟩,g=>by subst h1;exact⟨x,r++ys,rfl,h2,Reps.append h3 g⟩
theorem Reps.take:∀{ds:LP}{xs:List V} (n:Nat),Reps K H ds xs->Reps K H (ds.take n) (xs.take n)
 |ds,xs,0,h=>by simp;rfl
 | [],xs,n+1,h=>by cases h;rfl
 |d::ds,xs,n+1,⟨x,r,h1,h2,h3⟩=>by subst h1;exact⟨x,_,rfl,h2,Reps.take n h3⟩
theorem Reps.drop:∀{ds:LP}{xs:List V} (n:Nat),Reps K H ds xs->Reps K H (ds.drop n) (xs.drop n)
 |ds,xs,0,h=>by simpa using h
 | [],xs,n+1,h=>by cases h;rfl
 |d::ds,xs,n+1,⟨x,r,h1,h2,h3⟩=>by subst h1;simpa using Reps.drop n h3
theorem Reps.ints:∀{ns:List Int}{xs:List V},Reps K H (ns.map PyData.int) xs->xs=ns.map V.int
 | [],xs,h=>h
 |n::ns,xs,⟨x,r,h1,h2,h3⟩=>by subst h1;cases (show x=V.int n from h2);rw[Reps.ints h3];rfl
end
section
variable {X:Cx}{Kp:List (Addr×Obj)}{σ:St}{H:Hp}{s:Shared}
mutual
theorem qL(I:Inv X Kp σ H s):∀(d:PyData) (v:V) (u:Value),Rep X.K H d v->jV v u->d.canLay0=true->∃as,Reads s.heap u d as
 |.none,v,u,h,r,_=>by cases h;cases r;exact⟨_,.none⟩
 |.bool b,v,u,h,r,_=>by cases h;cases r;exact⟨_,.bool b⟩
 |.int i,v,u,h,r,_=>by cases h;obtain⟨t,rfl⟩:=r;exact⟨_,.int i t⟩
 |.str x,v,u,h,r,_=>by cases h;obtain⟨t,rfl⟩:=r;exact⟨_,.str x t⟩
 | .tuple ds,v,u,⟨a,xs,h1,h2,h3⟩,r,hc=>by
  subst h1;cases r;obtain⟨its,rv,⟨o,e1,e2,n,e3⟩,_⟩:=I.tuple h2;obtain⟨as,ra⟩:=readsAll_of I ds xs its h3 rv (by simpa[PyData.canLay0]using hc);exact⟨as,.tuple e1 e2 e3 (by simpa using ra)⟩
 | .list ds,v,u,⟨a,xs,h1,h2,h3⟩,r,hc=>by
  subst h1;cases r;obtain⟨its,rv,⟨o,n,e1,e2,e3,e4⟩,_⟩:=I.list (SqL.of h2);obtain⟨as,ra⟩:=readsAll_of I ds xs its h3 rv (by simpa[PyData.canLay0]using hc);exact⟨a::as,.list e1 e2 e4 (by simpa using ra)⟩
 |.dict kvs,v,u,h,r,hc=>by simp[PyData.canLay0]at hc
theorem readsAll_of(I:Inv X Kp σ H s):∀(ds:LP) (xs:List V) (us:List Value),Reps X.K H ds xs->jH xs us->PyData.canLayAll0 ds=true->∃as,ReadsAll s.heap us ds as
 | [],xs,us,h,r,_=>by cases h;cases r;exact⟨_,.nil⟩
 | d::ds,xs,us,⟨x,q,h1,h2,h3⟩,r,hc=>by
  subst h1;cases r with
  | cons r1 r2=>
   have hc':d.canLay0=true/\PyData.canLayAll0 ds=true:=by simpa[PyData.canLayAll0]using hc
   obtain⟨as,ra⟩:=qL I d x _ h2 r1 hc'.1;obtain⟨bs,rb⟩:=readsAll_of I ds q _ h3 r2 hc'.2;exact⟨_,.cons ra rb⟩
end
end
noncomputable abbrev Rho:=List (OP)
abbrev RP:=Rho->OP
structure EnvR(K:Fg)(H:Hp)(ρ:Rho)(σ:St):Prop where
 len:ρ.length=σ.length
 at':∀(i:Nat) (d:PyData),ρ[i]?=some (some d)->∃v,σ[i]?=some (some v)/\Rep K H d v
theorem EnvR.mono{K:Fg}{H H':Hp}{ρ:Rho}{σ:St}(e:EnvR K H ρ σ)(h:jp H H'):EnvR K H' ρ σ:=
 ⟨e.len,fun i d q=>let ⟨v,e1,e2⟩:=e.at' i d q;⟨v,e1,Rep.mono h d v e2⟩⟩
theorem EnvR.set{K:Fg}{H:Hp}{ρ:Rho}{σ:St}(e:EnvR K H ρ σ){i:Nat}{d:PyData}{v:V}(r:Rep K H d v):EnvR K H (ρ.set i (some d)) (σ.set i (some v)):=by
 refine⟨by simp[e.len],fun j c q=>?_⟩;by_cases hj:i=j
 ·subst hj
  rw[List.getElem?_set]at q ⊢;simp only[zzM]at q ⊢;by_cases hl:i < ρ.length
  ·rw[if_pos hl]at q
   rw[if_pos (by rw[←e.len];exact hl)];cases q;exact⟨v,rfl,r⟩
  ·rw[if_neg hl]at q;cases q
 ·rw[List.getElem?_set_ne hj]at q ⊢
  exact e.at' j c q
noncomputable def lkp(i:Nat)(ρ:Rho):OP:=(ρ[i]?).join
theorem qF{i:Nat}{ρ:Rho}{d:PyData}(h:lkp i ρ=some d):ρ[i]?=some (some d):=by
 unfold lkp at h;cases e:ρ[i]? with
 |none=>rw[e]at h;cases h
 | some o=>rw[e]at h;cases o with
  |none=>cases h
  |some c=>cases h;rfl
noncomputable def tD(K:Fg)(f:RP):TE:=fun σ H Q=>∃ρ d,EnvR K H ρ σ/\f ρ=some d/\∀v H',jp H H'->Rep K H' d v->Q v H'
@[irreducible] noncomputable def PD(X:Cx)(e:Expr)(f:RP):Prop:=PE X e (tD X.K f)
noncomputable def tDT(K:Fg)(f:Rho->Option Bool):TT:=fun σ H Q=>∃ρ b,EnvR K H ρ σ/\f ρ=some b/\∀H',jp H H'->Q b H'
@[irreducible] noncomputable def PTD(X:Cx)(e:Expr)(f:Rho->Option Bool):Prop:=PT X e (tDT X.K f)
noncomputable def tDA(K:Fg)(f:Rho->Option (LP)):TA:=fun σ H Q=>∃ρ ds,EnvR K H ρ σ/\f ρ=some ds/\∀vs H',jp H H'->Reps K H' ds vs->Q vs H'
@[irreducible] noncomputable def PAD(X:Cx)(es:List Expr)(f:Rho->Option (LP)):Prop:=PA X es (tDA X.K f)
inductive Out where
 |nx (ρ:Rho) | rt (d:PyData) | bk (ρ:Rho) | ct (ρ:Rho)
abbrev RO:=Rho->Option Out
noncomputable def afM(K:Fg)(D:Ends)(H:Hp):Out->Prop
 |.nx ρ=>∀σ H',jp H H'->EnvR K H' ρ σ->D.nx σ H'
 |.rt d=>∀v H',jp H H'->Rep K H' d v->D.rt v H'
 |.bk ρ=>∀σ H',jp H H'->EnvR K H' ρ σ->D.bk σ H'
 |.ct ρ=>∀σ H',jp H H'->EnvR K H' ρ σ->D.ct σ H'
theorem afM.mono{K:Fg}{D:Ends}{H H':Hp}{o:Out}(h:afM K D H o)(e:jp H H'):afM K D H' o:=by
 cases o with
 |nx ρ=>exact fun σ H2 e2 r=>h σ H2 (e.trans e2) r
 |rt d=>exact fun v H2 e2 r=>h v H2 (e.trans e2) r
 |bk ρ=>exact fun σ H2 e2 r=>h σ H2 (e.trans e2) r
 |ct ρ=>exact fun σ H2 e2 r=>h σ H2 (e.trans e2) r
noncomputable def tDS(K:Fg)(F:RO):TS:=fun D σ H=>∃ρ o,EnvR K H ρ σ/\F ρ=some o/\afM K D H o
@[irreducible] noncomputable def PSD(X:Cx)(st:Stmt)(F:RO):Prop:=PS X st (tDS X.K F)
@[irreducible] noncomputable def aal(X:Cx)(st:List Stmt)(F:RO):Prop:=PSs X st (tDS X.K F)
noncomputable def tDG(K:Fg)(ga:PyData->Rho->Option Rho):TG:=fun v σ H Q=>∃ρ d ρ',EnvR K H ρ σ/\Rep K H d v/\ga d ρ=some ρ'/\∀σ' H',jp H H'->EnvR K H' ρ' σ'->Q σ' H'
@[irreducible] noncomputable def PGD(X:Cx)(tg:Expr)(ga:PyData->Rho->Option Rho):Prop:=PG X tg (tDG X.K ga)
section
variable {X:Cx}{e a b c:Expr}{es:List Expr}{fa fb fc:RP}{pos:Pos}
theorem PE.imp{t t':TE}(h:PE X e t)(hi:∀σ H Q,t' σ H Q->t σ H Q):PE X e t':=fun Kp s σ H Q I q=>h Kp s σ H Q I (hi σ H Q q)
theorem PT.imp{t t':TT}(h:PT X e t)(hi:∀σ H Q,t' σ H Q->t σ H Q):PT X e t':=fun Kp s σ H Q I q=>h Kp s σ H Q I (hi σ H Q q)
theorem PA.imp{t t':TA}(h:PA X es t)(hi:∀σ H Q,t' σ H Q->t σ H Q):PA X es t':=fun pos Kp s σ H Q I q=>h pos Kp s σ H Q I (hi σ H Q q)
theorem PS.imp{st:Stmt}{t t':TS}(h:PS X st t)(hi:∀D σ H,t' D σ H->t D σ H):PS X st t':=fun Kp s σ H D I q=>h Kp s σ H D I (hi D σ H q)
theorem PSs.imp{st:List Stmt}{t t':TS}(h:PSs X st t)(hi:∀D σ H,t' D σ H->t D σ H):PSs X st t':=fun Kp s σ H D I q=>h Kp s σ H D I (hi D σ H q)
theorem PG.imp{t t':TG}(h:PG X e t)(hi:∀v σ H Q,t' v σ H Q->t v σ H Q):PG X e t':=fun Kp s σ H v u Q I r q=>h Kp s σ H v u Q I r (hi v σ H Q q)
theorem jb(i:Nat){x:Str}{pos:Pos}(hN:X.N[i]?=some x:=by rfl)(hv:Vis X.env.scope x:=by first|exact Or.inl rfl|exact Or.inr (Or.inl rfl)|exact Or.inr (Or.inr rfl))(hd:(x==("__debug__":Str))=false:=by decide)
  (hcd:(x==("__classdict__":Str))=false:=by decide):PD X (.Name x pos) (lkp i):=by
 with_unfolding_all exact(PE.imp (ZZ hN hv hd hcd) fun σ H Q ⟨ρ,d,e,h,k⟩=>let ⟨v,e1,e2⟩:=e.at' i d (qF h);⟨v,e1,k v H (jp.refl H) e2⟩)
noncomputable def cst(d:PyData)(_:Rho):OP:=some d
theorem jj{i j pos}:PD X (.Constant (.int i) j pos) (cst (.int i)):=by
 with_unfolding_all exact(PE.imp aka fun σ H Q ⟨ρ,d,e,h,k⟩=>by cases h;exact k _ H (jp.refl H) rfl)
theorem zl{i j pos}:PD X (.Constant (.bool i) j pos) (cst (.bool i)):=by
 with_unfolding_all exact(PE.imp aqq fun σ H Q ⟨ρ,d,e,h,k⟩=>by cases h;exact k _ H (jp.refl H) rfl)
theorem apl{j pos}:PD X (.Constant .none j pos) (cst .none):=by
 with_unfolding_all exact(PE.imp akb fun σ H Q ⟨ρ,d,e,h,k⟩=>by cases h;exact k _ H (jp.refl H) rfl)
theorem akC{i j pos}:PD X (.Constant (.str i) j pos) (cst (.str i)):=by
 with_unfolding_all exact(PE.imp akc fun σ H Q ⟨ρ,d,e,h,k⟩=>by cases h;exact k _ H (jp.refl H) rfl)
theorem ane{x:Str}{v:V}{u:Value}{d:PyData}(hg:Gl X x)(hm:X.mg x=some u)(r:jV v u)(hr:∀H,Rep X.K H d v)(hd:(x==("__debug__":Str))=false:=by decide):PD X (.Name x pos) (cst d):=by
 with_unfolding_all exact(PE.imp (aev hg hm r hd) fun σ H Q ⟨ρ,d',e,h,k⟩=>by cases h;exact k _ H (jp.refl H) (hr H))
noncomputable def op2(g:PyData->PyData->OP)(fa fb:RP):RP:=fun ρ=>(fa ρ).bind fun x=>(fb ρ).bind fun y=>g x y
noncomputable def OpD(X:Cx)(f:Value->Value->Sem Value)(g:PyData->PyData->OP):Prop:=
 ∃r,OpR X f r/\∀p q d x y H Q,g p q=some d->Rep X.K H p x->Rep X.K H q y->(∀v H',jp H H'->Rep X.K H' d v->Q v H')->r x y H Q
theorem anf{g:PyData->PyData->OP}{K:Fg}{r:R2}(hr:∀p q d x y H Q,g p q=some d->Rep K H p x->Rep K H q y->(∀v H',jp H H'->Rep K H' d v->Q v H')->r x y H Q)
  {σ:St} {H:Hp} {Q:VK} (h:tD K (op2 g fa fb) σ H Q):tOp r (tD K fa) (tD K fb) σ H Q:=by
 obtain⟨ρ,d,e,h,k⟩:=h;unfold op2 at h;cases ha:fa ρ with
 |none=>rw[ha]at h;cases h
 | some p=>
  rw[ha]at h;cases hb:fb ρ with
  |none=>rw[hb]at h;cases h
  | some q=>
   rw[hb]at h;refine⟨ρ,p,e,ha,fun x H1 s1 r1=>⟨ρ,q,e.mono s1,hb,fun y H2 s2 r2=>?_⟩⟩;exact hr p q d x y H2 Q h (Rep.mono s2 p x r1) r2 fun v H' s3 r3=>k v H' (s1.trans (s2.trans s3)) r3
theorem js{op:Operator}{g:PyData->PyData->OP}(ho:OpD X (binaryOp op) g)(ha:PD X a fa)(hb:PD X b fb):PD X (.BinOp a op b pos) (op2 g fa fb):=by
 with_unfolding_all
  obtain⟨r,h1,h2⟩:=ho;exact PE.imp (aqz h1 ha hb) fun σ H Q h=>anf h2 h
theorem akD{op:CmpOp}{g:PyData->PyData->OP}(ho:OpD X (compareOp op) g)(ha:PD X a fa)(hb:PD X b fb)(hm:behindInMarks op b=false:=by first|exact aey _ | with_unfolding_all rfl):PD X (.Compare a [op] [b] pos) (op2 g fa fb):=by
 with_unfolding_all
  obtain⟨r,h1,h2⟩:=ho;exact PE.imp (ah1 h1 ha hb hm) fun σ H Q h=>anf h2 h
noncomputable def asB:PyData->Option Bool
 |.bool b=>some b
 |_=>none
noncomputable def tst(f:RP):Rho->Option Bool:=fun ρ=>(f ρ).bind asB
theorem Jc{d:PyData}{b:Bool}(h:asB d=some b):d= .bool b:=by
 cases d<;>simp[asB]at h
 rw[h]
theorem qp{op:CmpOp}{g:PyData->PyData->OP}(ho:OpD X (compareOp op) g)(ha:PD X a fa)(hb:PD X b fb)(hm:behindInMarks op b=false:=by first|exact aey _ | with_unfolding_all rfl):PTD X (.Compare a [op] [b] pos) (tst (op2 g fa fb)):=by
 with_unfolding_all
  obtain⟨r,h1,h2⟩:=ho;refine PT.imp (ah2 h1 ha hb hm) fun σ H Q ⟨ρ,t,e,h,k⟩=>?_;cases hd:op2 g fa fb ρ with
  |none=>simp[tst,hd]at h
  | some d=>
   have ht:d= .bool t:=Jc (by simpa[tst,hd]using h);subst ht;exact anf h2 ⟨ρ,_,e,hd,fun v H' s r=>⟨t,r,k H' s⟩⟩
theorem qj(h:PD X e fa)(he:∀whole,isTrue e X.env whole=(do let v ←whole;standAt e.pos;holding [v] (truthy v)):=by intro _;rfl):PTD X e (tst fa):=by
 with_unfolding_all
  refine PT.imp (akd h he) fun σ H Q ⟨ρ,t,e,h,k⟩=>?_;cases hd:fa ρ with
  |none=>simp[tst,hd]at h
  | some d=>
   have ht:d= .bool t:=Jc (by simpa[tst,hd]using h);subst ht;exact⟨ρ,_,e,hd,fun v H' s r=>⟨t,r,k H' s⟩⟩
variable {ta tb:Rho->Option Bool}{qg:List Expr}
@[irreducible] noncomputable def PWD(X:Cx)(e:Expr)(f:Rho->Option Bool):Prop:=PW X e (tDT X.K f)
theorem PW.imp{t t':TT}(h:PW X e t)(hi:∀σ H Q,t' σ H Q->t σ H Q):PW X e t':=fun wh Kp s σ H Q I q=>h wh Kp s σ H Q I (hi σ H Q q)
noncomputable def apm(ta tb:Rho->Option Bool):Rho->Option Bool:=fun ρ=>(ta ρ).bind fun x=>if x=true then tb ρ else some false
noncomputable def orB(ta tb:Rho->Option Bool):Rho->Option Bool:=fun ρ=>(ta ρ).bind fun x=>if x=true then some true else tb ρ
noncomputable def zt(ta:Rho->Option Bool):Rho->Option Bool:=fun ρ=>(ta ρ).map (!·)
theorem Zi(ha:PTD X a ta):PWD X (.BoolOp .Or [a] pos) ta:=by
 with_unfolding_all exact(ake ha)
theorem abc(ha:PTD X a ta)(hb:PWD X (.BoolOp .Or (b::qg) pos) tb):PWD X (.BoolOp .Or (a::b::qg) pos) (orB ta tb):=by
 with_unfolding_all
  refine PW.imp (aox ha hb) fun σ H Q ⟨ρ,t,e,h,k⟩=>?_;cases h1:ta ρ with
  |none=>simp[orB,h1]at h
  | some x=>
   refine⟨ρ,x,e,h1,fun H' s=>?_⟩;cases x with
   |false=>rw[if_neg Bool.false_ne_true];exact⟨ρ,t,e.mono s,by simpa[orB,h1]using h,fun H2 s2=>k H2 (s.trans s2)⟩
   | true=>
    rw[if_pos rfl];have:t=true:=by simpa[orB,h1]using h.symm
    subst this;exact k H' s
theorem Qh{op:BoolOp}{l:List Expr}(h:PWD X (.BoolOp op l pos) ta):PTD X (.BoolOp op l pos) ta:=by
 with_unfolding_all exact(h.pt)
theorem qq(ha:PTD X a ta):PTD X (.UnaryOp .Not a pos) (zt ta):=by
 with_unfolding_all
  refine PT.imp (akf ha) fun σ H Q ⟨ρ,t,e,h,k⟩=>?_;cases h1:ta ρ with
  |none=>simp[zt,h1]at h
  | some x=>
   have:(!x)=t:=by simpa[zt,h1]using h
   subst this;exact⟨ρ,x,e,h1,fun H' s=>k H' s⟩
noncomputable def ifD(tc:Rho->Option Bool)(fa fb:RP):RP:=fun ρ=>(tc ρ).bind fun x=>if x=true then fa ρ else fb ρ
noncomputable def jA(_:Rho):Option (LP):=some []
noncomputable def jo(fa:RP)(fr:Rho->Option (LP)):Rho->Option (LP):=fun ρ=>(fa ρ).bind fun x=>(fr ρ).map fun r=>x::r
theorem jd:PAD X [] jA:=by
 with_unfolding_all exact(PA.imp Jk fun σ H Q ⟨ρ,d,e,h,k⟩=>by cases h;exact k [] H (jp.refl H) rfl)
theorem ja{fr:Rho->Option (LP)}(ha:PD X e fa)(hr:PAD X es fr)(hs:starEach (e::es) X.env=(false,eval e X.env)::starEach es X.env:=by rfl):PAD X (e::es) (jo fa fr):=by
 with_unfolding_all
  refine PA.imp (qR ha hr hs) fun σ H Q ⟨ρ,ds,en,h,k⟩=>?_;cases h1:fa ρ with
  |none=>simp[jo,h1]at h
  | some x=>
   cases h2:fr ρ with
   |none=>simp[jo,h1,h2]at h
   | some r=>
    have:x::r=ds:=by simpa[jo,h1,h2]using h
    subst this;exact⟨ρ,x,en,h1,fun v H1 s1 r1=>⟨ρ,r,en.mono s1,h2,fun vs H2 s2 r2=>k _ H2 (s1.trans s2) ⟨v,vs,rfl,Rep.mono s2 x v r1,r2⟩⟩⟩
noncomputable def few(ds:LP):Bool:=decide (ds.length<1000000)
theorem abd{n:Nat}(h:n<1000000):n<=sizeLine:=Nat.le_of_lt (Nat.lt_of_lt_of_le h (by rw[sizeLine_eq];decide))
theorem jE{H:Hp}{p:Addr}{o:HO}(hp:H p=none):jp H (upd H p o):=fun b u h=>by rw[jr (qI h hp)];exact h
noncomputable def ab0(fr:Rho->Option (LP)):RP:=fun ρ=>(fr ρ).bind fun ds=>if few ds=true then some (.tuple ds) else none
noncomputable def Jo(fr:Rho->Option (LP)):RP:=fun ρ=>(fr ρ).bind fun ds=>if few ds=true then some (.list ds) else none
theorem QP{x1}{fr:Rho->Option (LP)}(h:PAD X es fr):PD X (.Tuple es x1 pos) (ab0 fr):=by
 with_unfolding_all
  refine PE.imp (ag3 h) fun σ H Q ⟨ρ,d,e,h,k⟩=>?_;cases h1:fr ρ with
  |none=>simp[ab0,h1]at h
  | some ds=>
   by_cases hf:few ds=true
   ·have:PyData.tuple ds=d:=by simpa[ab0,h1,hf]using h
    subst this;refine⟨ρ,ds,e,h1,fun vs H1 s1 r1=>⟨abd (by rw[r1.length];simpa[few]using hf),fun p hp=>k _ _ (s1.trans (jE hp)) ⟨p,vs,rfl,SqT.of jq,Reps.mono (jE hp) _ _ r1⟩⟩⟩
   ·simp[ab0,h1,hf]at h
theorem Z3{fr:Rho->Option (LP)}(h:PAD X es fr):PD X (.List es pos) (Jo fr):=by
 with_unfolding_all
  refine PE.imp (ag4 h) fun σ H Q ⟨ρ,d,e,h,k⟩=>?_;cases h1:fr ρ with
  |none=>simp[Jo,h1]at h
  | some ds=>
   by_cases hf:few ds=true
   ·have:PyData.list ds=d:=by simpa[Jo,h1,hf]using h
    subst this;refine⟨ρ,ds,e,h1,fun vs H1 s1 r1=>⟨abd (by rw[r1.length];simpa[few]using hf),fun p hp=>k _ _ (s1.trans (jE hp)) ⟨p,vs,rfl,jq,Reps.mono (jE hp) _ _ r1⟩⟩⟩
   ·simp[Jo,h1,hf]at h
end
end BX
end
section
namespace BX
open PySem PySem.Spec L2
open PyProof.Rows hiding St
section
variable {X:Cx}{e a b c tg src:Expr}{es:List Expr}{st:Stmt}{sts qg:List Stmt}{fa fb fc:RP}{F G:RO}{pos:Pos}
noncomputable def qw(fa:RP):RO:=fun ρ=>(fa ρ).map Out.rt
theorem jx(h:PD X e fa):PSD X (.Return (some e) pos) (qw fa):=by
 with_unfolding_all
  refine PS.imp (aex h) fun D σ H ⟨ρ,o,en,q,k⟩=>?_;cases h1:fa ρ with
  |none=>simp[qw,h1]at q
  | some d=>
   have:Out.rt d=o:=by simpa[qw,h1]using q
   subst this;exact⟨ρ,d,en,h1,k⟩
noncomputable def ifS(tc:Rho->Option Bool)(F G:RO):RO:=fun ρ=>(tc ρ).bind fun x=>if x=true then F ρ else G ρ
theorem qu{l r:List Stmt}{tc:Rho->Option Bool}(hc:PTD X c tc)(hl:aal X l F)(hr:aal X r G):PSD X (.If c l r pos) (ifS tc F G):=by
 with_unfolding_all
  refine PS.imp (aoy hc hl hr) fun D σ H ⟨ρ,o,en,q,k⟩=>?_;cases h1:tc ρ with
  |none=>simp[ifS,h1]at q
  | some x=>
   refine⟨ρ,x,en,h1,fun H1 s1=>?_⟩;cases x with
   |true=>rw[if_pos rfl];exact⟨ρ,o,en.mono s1,by simpa[ifS,h1]using q,k.mono s1⟩
   |false=>rw[if_neg Bool.false_ne_true];exact⟨ρ,o,en.mono s1,by simpa[ifS,h1]using q,k.mono s1⟩
noncomputable def qE:RO:=fun ρ=>some (.nx ρ)
noncomputable def jR(F G:RO):RO:=fun ρ=>(F ρ).bind fun o=>match o with
 |.nx ρ'=>G ρ'
 |o=>some o
theorem jm:aal X [] qE:=by
 with_unfolding_all
  refine PSs.imp ab8 fun D σ H ⟨ρ,o,en,q,k⟩=>?_;cases q;exact k σ H (jp.refl H) en
theorem jf(h1 : PSD X st F)(h2 : aal X qg G) : aal X (st :: qg) (jR F G) := by
  with_unfolding_all
   refine PSs.imp (JC h1 h2) fun D σ H ⟨ρ, o, en, q, k⟩ => ?_;cases hf : F ρ with
   |none => simp[jR, hf]at q
   | some p =>
     refine⟨ρ, p, en, hf, ?_⟩;cases p with
     |nx ρ' => exact fun σ' H' s' r' => ⟨ρ', o, r', by simpa[jR, hf]using q, k.mono s'⟩
     | rt d => have : Out.rt d = o := by simpa[jR, hf]using q
               subst this;exact k
     | bk d => have : Out.bk d = o := by simpa[jR, hf]using q
               subst this;exact k
     | ct d => have : Out.ct d = o := by simpa[jR, hf]using q
               subst this;exact k
noncomputable def ajb:RO:=fun _=>none
theorem ajc:PSD X st ajb:=by
 with_unfolding_all exact(PS.imp akj fun D σ H ⟨ρ,o,en,q,k⟩=>by cases q)
theorem qV:aal X sts ajb:=by
 with_unfolding_all exact(PSs.imp ai1 fun D σ H ⟨ρ,o,en,q,k⟩=>by cases q)
noncomputable def QK(fa:RP):RO:=fun ρ=>(fa ρ).map fun _=> .nx ρ
theorem jX(h:PD X e fa)(hs:swapsWith e none pos.line X.env=pure false:=by rfl):PSD X (.Expr e pos) (QK fa):=by
 with_unfolding_all
  refine PS.imp (aai h hs) fun D σ H ⟨ρ,o,en,q,k⟩=>?_;cases h1:fa ρ with
  |none=>simp[QK,h1]at q
  | some d=>
   have:Out.nx ρ=o:=by simpa[QK,h1]using q
   subst this;exact⟨ρ,d,en,h1,fun v H' s r=>k σ H' s (en.mono s)⟩
noncomputable def jS(i:Nat)(d:PyData)(ρ:Rho):Option Rho:=some (ρ.set i (some d))
theorem j4(i:Nat){x:Str}(hN:X.N.Nodup)(hi:X.N[i]?=some x:=by rfl)(hx:Loc X.env.scope x:=by first|exact Or.inl rfl|exact Or.inr rfl)
  (hf:X.fn x=true∨X.env.scope.names.lookup x=some .local:=by first|exact .inl rfl|exact .inr rfl|assumption):PGD X (.Name x pos) (jS i):=by
 with_unfolding_all
  refine PG.imp (aaj hN hi hx hf) fun v σ H Q ⟨ρ,d,ρ',en,r,q,k⟩=>?_;cases q;exact k _ H (jp.refl H) (en.set r)
@[irreducible] noncomputable def ang(X:Cx)(ts:List Expr)(ga:LP->Rho->Option Rho):Prop:=PGs X ts fun vs σ H Q=>∃ρ ds ρ',EnvR X.K H ρ σ/\Reps X.K H ds vs/\ga ds ρ=some ρ'/\∀σ' H',jp H H'->EnvR X.K H' ρ' σ'->Q σ' H'
noncomputable def Qa(ds:LP)(ρ:Rho):Option Rho:=match ds with
 | []=>some ρ
 |_=>none
noncomputable def qr(ga:PyData->Rho->Option Rho)(gr:LP->Rho->Option Rho)(ds:LP)(ρ:Rho):Option Rho:=match ds with
 |d::r=>(ga d ρ).bind fun ρ1=>gr r ρ1
 | []=>none
theorem PGs.imp{ts:List Expr}{t t':TGs}(h:PGs X ts t)(hi:∀v σ H Q,t' v σ H Q->t v σ H Q):PGs X ts t':=fun Kp s σ H v u Q I r q=>h Kp s σ H v u Q I r (hi v σ H Q q)
theorem afN:ang X [] Qa:=by
 with_unfolding_all
  refine PGs.imp ahZ fun vs σ H Q ⟨ρ,ds,ρ',en,r,q,k⟩=>?_;cases ds with
  |nil=>cases r;cases q;exact⟨rfl,k σ H (jp.refl H) en⟩
  |cons d ds=>cases q
theorem Jt{ga:PyData->Rho->Option Rho}{gr:LP->Rho->Option Rho}(h1:PGD X e ga)(h2:ang X es gr)
  (hs:(assignEach (e::es) X.env).map (·.2)=assign e X.env::(assignEach es X.env).map (·.2):=by rfl):ang X (e::es) (qr ga gr):=by
 with_unfolding_all
  refine PGs.imp (afG h1 h2 hs) fun vs σ H Q ⟨ρ,ds,ρ',en,r,q,k⟩=>?_;cases ds with
  |nil=>cases q
  | cons d ds=>
   obtain⟨x,rr,e1,r1,r2⟩:=r;subst e1;cases h3:ga d ρ with
   |none=>simp[qr,h3]at q
   | some ρ1=>
    refine⟨x,rr,rfl,ρ,d,ρ1,en,r1,h3,fun σ1 H1 s1 e1=>⟨ρ1,ds,ρ',e1,Reps.mono s1 ds rr r2,by simpa[qr,h3]using q,fun σ2 H2 s2 e2=>k σ2 H2 (s1.trans s2) e2⟩⟩
noncomputable def ZO(n:Nat)(gr:LP->Rho->Option Rho)(d:PyData)(ρ:Rho):Option Rho:=match d with
 |.tuple ds=>if ds.length=n then gr ds ρ else none
 |_=>none
theorem aid{k n:Nat}{gr:LP->Rho->Option Rho}(hc:X.calm=true)(h:ang X es gr)(hn:(assignEach es X.env).length=n:=by rfl)(hst:(assignEach es X.env).findIdx? (·.1)=none:=by rfl):
  PGD X (.Tuple es k pos) (ZO n gr):=by
 with_unfolding_all
  refine PG.imp (akl hc h hn hst) fun v σ H Q ⟨ρ,d,ρ',en,r,q,k⟩=>?_;cases d with
  | tuple ds=>
   obtain⟨a,xs,e1,e2,e3⟩:=r;by_cases hl:ds.length=n
   ·exact⟨a,xs,e1,e2,by rw[e3.length];exact hl,ρ,ds,ρ',en,e3,by simpa[ZO,hl]using q,k⟩
   ·simp[ZO,hl]at q
  |_=>simp[ZO]at q
noncomputable def qz(fa:RP)(ga:PyData->Rho->Option Rho):RO:=fun ρ=>(fa ρ).bind fun d=>(ga d ρ).map Out.nx
theorem anh{ga:PyData->Rho->Option Rho}(he:PD X e fa)(hg:PGD X tg ga)(hs:swapsWithSole [tg] e pos.line X.env=pure false:=by rfl)(hw:swappedStores [tg] e X.env=pure none:=by rfl)
  (h1:(assignEach [tg] X.env).map (·.2)=[assign tg X.env]:=by rfl):PSD X (.Assign [tg] e pos) (qz fa ga):=by
 with_unfolding_all
  refine PS.imp (akm he hg hs hw h1) fun D σ H ⟨ρ,o,en,q,k⟩=>?_;cases h1:fa ρ with
  |none=>simp[qz,h1]at q
  | some d=>
   cases h2:ga d ρ with
   |none=>simp[qz,h1,h2]at q
   | some ρ'=>
    have:Out.nx ρ'=o:=by simpa[qz,h1,h2]using q
    subst this;exact⟨ρ,d,en,h1,fun v H1 s1 r1=>⟨ρ,d,ρ',en.mono s1,r1,h2,fun σ' H' s' e'=>k σ' H' (s1.trans s') e'⟩⟩
theorem jZ(i:Nat){x:Str}{pos':Pos}(hN:X.N.Nodup)(he:PD X e fa)(hi:X.N[i]?=some x:=by rfl)(hx:Loc X.env.scope x:=by first|exact Or.inl rfl|exact Or.inr rfl)(hs:swapsWith e (some (.Name x pos')) pos.line X.env=pure false:=by rfl)
  (hf:X.fn x=true∨X.env.scope.names.lookup x=some .local:=by first|exact .inl rfl|exact .inr rfl|assumption):PSD X (.Assign [.Name x pos'] e pos) (qz fa (jS i)):=by
 with_unfolding_all
  refine PS.imp (aa4 hN hi hx he hs hf) fun D σ H ⟨ρ,o,en,q,k⟩=>?_;cases h1:fa ρ with
  |none=>simp[qz,h1]at q
  | some d=>
   have:Out.nx (ρ.set i (some d))=o:=by simpa[qz,h1,jS]using q
   subst this;exact⟨ρ,d,en,h1,fun v H1 s1 r1=>k _ H1 s1 ((en.mono s1).set r1)⟩
noncomputable def akE(K:Fg)(J:It)(ds:LP)(H0:Hp):Prop:=∀i H,jv H0 H->(i<ds.length->J.go i H)/\(ds.length<=i->J.stop i H)/\∀x H',J.yld i H x H'->jp H H'/\∀d,ds[i]?=some d->Rep K H' d x
noncomputable def tDI(K:Fg)(fi:Rho->Option (LP)):TI:=fun σ H R=>∃ρ ds,EnvR K H ρ σ/\fi ρ=some ds/\∀J H',jp H H'->akE K J ds H'->R J H'
@[irreducible] noncomputable def PID(X:Cx)(tg src:Expr)(fi:Rho->Option (LP)):Prop:=PI X tg src (tDI X.K fi)
theorem PI.imp{t t':TI}(h:PI X tg src t)(hi:∀σ H R,t' σ H R->t σ H R):PI X tg src t':=fun Kp s σ H R I q=>h Kp s σ H R I (hi σ H R q)
noncomputable def QQ:PyData->Option (LP)
 |.list ds=>some ds
 |_=>none
noncomputable def QR:PyData->Option (LP)
 |.tuple ds=>some ds
 |_=>none
noncomputable def itL(fa:RP):Rho->Option (LP):=fun ρ=>(fa ρ).bind QQ
noncomputable def itT(fa:RP):Rho->Option (LP):=fun ρ=>(fa ρ).bind QR
theorem QS(h:PD X e fa):PID X tg e (itL fa):=by
 with_unfolding_all
  refine PI.imp (amW h) fun σ H R ⟨ρ,ds,en,q,k⟩=>?_;cases h1:fa ρ with
  |none=>simp[itL,h1]at q
  | some d=>
   cases d with
   | list es=>
    have:es=ds:=by simpa[itL,h1,QQ]using q
    subst this;refine⟨ρ,_,en,h1,fun v H1 s1 r1=>?_⟩;obtain⟨a,xs,e1,e2,e3⟩:=r1;refine⟨a,e1,⟨xs,SqL.of e2⟩,k _ H1 s1 fun i H2 s2=>⟨fun hi=>?_,fun hi=>?_,fun x H' y=>?_⟩⟩
    ·exact⟨xs,xs[i]'(by rw[e3.length];exact hi),SqL.of (s2 _ _ e2 rfl),by simp[e3.length,hi]⟩
    ·exact⟨xs,SqL.of (s2 _ _ e2 rfl),by rw[e3.length];exact hi⟩
    ·obtain⟨z1,z2⟩:=y
     subst z1;refine⟨jp.refl _,fun d hd=>?_⟩;obtain⟨y,e4,e5⟩:=(Reps.monoA s2 _ _ e3).get hd;have:=z2 xs (SqL.of (s2 _ _ e2 rfl));rw[e4]at this;cases this;exact e5
   |_=>simp[itL,h1,QQ]at q
theorem aeH(h:PD X e fa):PID X tg e (itT fa):=by
 with_unfolding_all
  refine PI.imp (ao4 h) fun σ H R ⟨ρ,ds,en,q,k⟩=>?_;cases h1:fa ρ with
  |none=>simp[itT,h1]at q
  | some d=>
   cases d with
   | tuple es=>
    have:es=ds:=by simpa[itT,h1,QR]using q
    subst this;refine⟨ρ,_,en,h1,fun v H1 s1 r1=>?_⟩;obtain⟨a,xs,e1,e2,e3⟩:=r1;refine⟨a,e1,⟨xs,e2⟩,k _ H1 s1 fun i H2 s2=>⟨fun hi=>?_,fun hi=>?_,fun x H' y=>?_⟩⟩
    ·exact⟨xs,xs[i]'(by rw[e3.length];exact hi),jv.tup s2 e2,by simp[e3.length,hi]⟩
    ·exact⟨xs,jv.tup s2 e2,by rw[e3.length];exact hi⟩
    ·obtain⟨z1,z2⟩:=y
     subst z1;refine⟨jp.refl _,fun d hd=>?_⟩;obtain⟨y,e4,e5⟩:=(Reps.monoA s2 _ _ e3).get hd;have:=z2 xs (jv.tup s2 e2);rw[e4]at this;cases this;exact e5
   |_=>simp[itT,h1,QR]at q
noncomputable def Jp(lo:Int)(n:Nat):LP:=(List.range n).map fun (k:Nat)=>PyData.int (lo+(k:Int))
noncomputable def QT(ds:LP):Option (LP):=match ds with
 | [.int j]=>if -(2 ^ 62)<=j/\j<2 ^ 62 then some (Jp 0 j.toNat) else none
 |_=>none
theorem aeI{K:Fg}{H:Hp}(lo:Int)(n:Nat):akE K (Itr lo n) (Jp lo n) H:=fun i H2 s2=>by
 have hl:(Jp lo n).length=n:=by simp[Jp]
 refine⟨fun hi=>by rw[hl]at hi;exact hi,fun hi=>by rw[hl]at hi;exact hi,fun x H' y=>?_⟩;obtain⟨z1,z2⟩:=y;subst z1;refine⟨jp.refl _,fun d hd=>?_⟩
 have hi:i<n:=by
  have:=(List.getElem?_eq_some_iff.mp hd).1;rw[hl]at this;exact this
 have:d= .int (lo+i):=by
  simp[Jp,hi]at hd;exact hd.symm
 subst this;exact z2
theorem JE{p pos:Pos}{fr:Rho->Option (LP)}(hg:Gl X "range")(hm:X.mg "range"=none)(ha:PAD X [a] fr)(hs:starEach [a] X.env=[(false,eval a X.env)]:=by rfl):PID X tg (.Call (.Name "range" p) [a] [] pos) (fun ρ=>(fr ρ).bind QT):=by
 with_unfolding_all
  refine PI.imp (aa6 hg hm ha hs) fun σ H R ⟨ρ,ds,en,q,k⟩=>?_;cases h1:fr ρ with
  |none=>simp[h1]at q
  | some as=>
   have q':QT as=some ds:=by simpa[h1]using q
   refine⟨ρ,as,en,h1,fun vs H1 s1 r1=>?_⟩;unfold QT at q';split at q'
   ·rename_i j
    split at q'
    ·rename_i hj
     cases q';obtain⟨x,r,e1,e2,e3⟩:=r1;cases (show x=V.int j from e2);cases (show r=[] from e3);exact⟨j,e1,hj.1,hj.2,k _ H1 s1 (aeI 0 j.toNat)⟩
    ·cases q'
   ·cases q'
noncomputable def jY(ga:PyData->Rho->Option Rho)(F:RO):LP->RO
 | [],ρ=>some (.nx ρ)
 | d::r,ρ=>(ga d ρ).bind fun ρ1=>(F ρ1).bind fun o=>match o with
  |.nx ρ2=>jY ga F r ρ2
  |.ct ρ2=>jY ga F r ρ2
  |.bk ρ2=>some (.nx ρ2)
  |.rt d=>some (.rt d)
noncomputable def ZP(fi:Rho->Option (LP))(ga:PyData->Rho->Option Rho)(F:RO):RO:=fun ρ=>(fi ρ).bind fun ds=>jY ga F ds ρ
theorem aie{body:List Stmt}{fi:Rho->Option (LP)}{ga:PyData->Rho->Option Rho}(hp:PassesOwn (model X.prog X.w) X.A X.env X.xe)(hc:X.calm=true)(hi:PID X tg src fi)(hg:PGD X tg ga)(hb:aal X body F)
  (hs:∀x,foldedSetIterable src X.env x=pure x:=by intro _;rfl):PSD X (.For tg src body [] pos) (ZP fi ga F):=by
 with_unfolding_all
  refine PS.imp (aa7 hp hc hi hg hb hs) fun D σ H ⟨ρ,o,en,q,k⟩=>?_;cases h1:fi ρ with
  |none=>simp[ZP,h1]at q
  | some ds=>
   have q':jY ga F ds ρ=some o:=by simpa[ZP,h1]using q
   refine⟨ρ,ds,en,h1,fun J H1 s1 Y=>?_⟩;refine⟨fun i m σ H2=>m=ds.length-i/\i<=ds.length/\jp H1 H2/\∃ρ2,EnvR X.K H2 ρ2 σ/\jY ga F (ds.drop i) ρ2=some o,⟨ds.length,by simp,Nat.zero_le _,jp.refl _,ρ,en.mono s1,by simpa using q'⟩,?_⟩
   rintro i m σ2 H2 ⟨rfl,hi,s2,ρ2,en2,q2⟩
   obtain⟨g1,g2,g3⟩:=Y i H2 (jp.a s2);by_cases hlt:i<ds.length
   ·right
    have hd:ds.drop i=ds[i]::ds.drop (i+1):=List.drop_eq_getElem_cons hlt;rw[hd]at q2;refine⟨g1 hlt,fun σ3 H3=>jp H1 H3/\∃ρ3,EnvR X.K H3 ρ3 σ3/\jY ga F (ds.drop (i+1)) ρ3=some o,fun σ3 H3 ⟨a1,ρ3,a2,a3⟩=>⟨ds.length-(i+1),by omega,rfl,hlt,a1,ρ3,a2,a3⟩,fun x H3 y=>?_⟩;obtain⟨s3,r3⟩:=g3 x H3 y;have r3':=r3 ds[i] (by simp[hlt]);cases h4:ga ds[i] ρ2 with
    |none=>simp[jY,h4]at q2
    | some ρ4=>
     refine⟨ρ2,ds[i],ρ4,en2.mono s3,r3',h4,fun σ5 H5 s5 en5=>?_⟩;cases h5:F ρ4 with
     |none=>simp[jY,h4,h5]at q2
     | some p=>
      refine⟨ρ4,p,en5,h5,?_⟩;have s15:=s2.trans (s3.trans s5);cases p with
      |nx ρ6=>exact fun σ6 H6 s6 en6=>⟨s15.trans s6,ρ6,en6,by simpa[jY,h4,h5]using q2⟩
      |ct ρ6=>exact fun σ6 H6 s6 en6=>⟨s15.trans s6,ρ6,en6,by simpa[jY,h4,h5]using q2⟩
      | bk ρ6=>
       have:Out.nx ρ6=o:=by simpa[jY,h4,h5]using q2
       subst this;exact fun σ6 H6 s6 en6=>k σ6 H6 (s1.trans (s15.trans s6)) en6
      | rt d=>
       have:Out.rt d=o:=by simpa[jY,h4,h5]using q2
       subst this;exact fun v H6 s6 r6=>k v H6 (s1.trans (s15.trans s6)) r6
   ·left
    have he:i=ds.length:=by omega
    have hn:ds.drop i=[]:=by rw[he];simp
    rw[hn]at q2;have:Out.nx ρ2=o:=by simpa[jY]using q2
    subst this;exact⟨g2 (by omega),k σ2 H2 (s1.trans s2) en2⟩
noncomputable def Z4(cap:List (Option Nat))(ρ:Rho):Rho:=cap.map fun o=>o.bind fun i=>(ρ[i]?).join
theorem EnvR.cap{K:Fg}{H:Hp}{ρ:Rho}{σ:St}(e:EnvR K H ρ σ)(cap:List (Option Nat)):EnvR K H (Z4 cap ρ) (abZ cap σ):=by
 refine⟨by simp[Z4,abZ],fun j d q=>?_⟩;unfold Z4 at q;unfold abZ;rw[List.getElem?_map]at q ⊢;cases h1:cap[j]? with
 |none=>rw[h1]at q;cases q
 | some o=>
  rw[h1]at q;cases o with
  |none=>cases q
  | some i=>
   have q':lkp i ρ=some d:=by simpa[lkp]using q
   obtain⟨v,e1,e2⟩:=e.at' i d (qF q');exact⟨v,by simp[e1],e2⟩
noncomputable def qD(ga:PyData->Rho->Option Rho)(ft:Rho->Option Bool)(fe:RP):LP->Rho->Option (LP)
 | [],_=>some []
 |d::r,τ=>(ga d τ).bind fun τ2=>(ft τ2).bind fun b=>if b=true then (fe τ2).bind fun y=>(qD ga ft fe r τ2).map fun ys=>y::ys else qD ga ft fe r τ2
noncomputable def zC(fi:Rho->Option (LP))(cap:List (Option Nat))(ga:PyData->Rho->Option Rho)(ft:Rho->Option Bool)(fe:RP):RP:=fun ρ=>(fi ρ).bind fun ds=>
 if few ds=true then (qD ga ft fe ds (Z4 cap ρ)).map PyData.list else none
@[irreducible] noncomputable def ani(X:Cx)(ts:List Expr)(f:Rho->Option Bool):Prop:=PTs X ts (tDT X.K f)
noncomputable def anj(_:Rho):Option Bool:=some true
theorem QU:ani X [] anj:=by
 with_unfolding_all exact(fun Kp s σ H Q I ⟨ρ,b,en,q,k⟩=>by cases q;exact ana Kp s σ H Q I (k H (jp.refl H)))
theorem afO{ft:Rho->Option Bool}(h:PTD X c ft):ani X [c] ft:=by
 with_unfolding_all exact(anb h)
theorem Zj{el:Expr}{ts:List Expr}{sc:Scope}{ps:Pos}{fi:Rho->Option (LP)}{ga:PyData->Rho->Option Rho}{ft:Rho->Option Bool}{fe:RP}(N':List Str)(cap:List (Option Nat))(hc:X.calm=true)(hi:PID X tg src fi)(ok:CompOk X sc N' cap)
  (body:∀cl C s0 H0 fp pn,PGD (blk X N' sc cl C s0 H0 fp pn) tg ga/\ani (blk X N' sc cl C s0 H0 fp pn) ts ft/\PD (blk X N' sc cl C s0 H0 fp pn) el fe)
  (hs:∀x,foldedSetIterable src X.env x=pure x:=by intro _;rfl):PD X (.ListComp el [⟨tg,src,ts,0⟩] sc ps) (zC fi cap ga ft fe):=by
 with_unfolding_all
  refine PE.imp (anc (g:=tDG X.K ga) (tt:=tDT X.K ft) (te:=tD X.K fe) hc hi ok (fun cl C s0 H0 fp pn=>body cl C s0 H0 fp pn) hs) fun σ H Q ⟨ρ,d,en,q,k⟩=>?_;cases h1:fi ρ with
  |none=>simp[zC,h1]at q
  | some ds=>
   by_cases hf:few ds=true
   ·cases h2:qD ga ft fe ds (Z4 cap ρ)with
    |none=>simp[zC,h1,hf,h2]at q
    | some ys=>
     have:PyData.list ys=d:=by simpa[zC,h1,hf,h2]using q
     subst this;refine⟨ρ,ds,en,h1,fun J H1 s1 Y=>?_⟩
     refine⟨fun i m τ us H2=>m=ds.length-i/\i<=ds.length/\jp H1 H2/\us.length<=i/\∃ρ2 zs ws,EnvR X.K H2 ρ2 τ/\Reps X.K H2 zs us/\qD ga ft fe (ds.drop i) ρ2=some ws/\ys=zs++ws,
      ⟨ds.length,by simp,Nat.zero_le _,jp.refl _,Nat.le_refl _,Z4 cap ρ,[],ys,(en.mono s1).cap cap,rfl,by simpa using h2,rfl⟩,?_⟩
     rintro i m τ us H2 ⟨rfl,hi',s2,hu,ρ2,zs,ws,en2,r2,q2,ey⟩
     have hsm:us.length<sizeLine:=Nat.lt_of_le_of_lt (Nat.le_trans hu hi') (Nat.lt_of_lt_of_le (by simpa[few]using hf) (by rw[sizeLine_eq];decide:1000000<=sizeLine));obtain⟨g1,g2,g3⟩:=Y i H2 (jp.a s2);refine⟨hsm,?_⟩;by_cases hlt:i<ds.length
     ·right
      have hd:ds.drop i=ds[i]::ds.drop (i+1):=List.drop_eq_getElem_cons hlt;rw[hd]at q2;refine⟨g1 hlt,fun x H3 y=>?_⟩;obtain⟨s3,r3⟩:=g3 x H3 y;have r3':=r3 ds[i] (by simp[hlt]);cases h4:ga ds[i] ρ2 with
      |none=>simp[qD,h4]at q2
      | some ρ4=>
       refine⟨ρ2,ds[i],ρ4,en2.mono s3,r3',h4,fun σ5 H5 s5 en5=>?_⟩;cases h5:ft ρ4 with
       |none=>simp[qD,h4,h5]at q2
       | some b=>
        refine⟨ρ4,b,en5,h5,fun H6 s6=>?_⟩;have s26:=s3.trans (s5.trans s6);cases b with
        | false=>
         refine aqM ?_;exact⟨ds.length-(i+1),by omega,rfl,hlt,s2.trans s26,by omega,ρ4,zs,ws,en5.mono s6,Reps.mono s26 _ _ r2,by simpa[qD,h4,h5]using q2,ey⟩
        | true=>
         refine aqN ?_;cases h6:fe ρ4 with
         |none=>simp[qD,h4,h5,h6]at q2
         | some y=>
          cases h7:qD ga ft fe (ds.drop (i+1)) ρ4 with
          |none=>simp[qD,h4,h5,h6,h7]at q2
          | some ws'=>
           have hw:y::ws'=ws:=by simpa[qD,h4,h5,h6,h7]using q2
           refine⟨ρ4,y,en5.mono s6,h6,fun v H7 s7 r7=>?_⟩;refine⟨ds.length-(i+1),by omega,rfl,hlt,s2.trans (s26.trans s7),by rw[List.length_append];simp;omega,ρ4,zs++[y],ws',(en5.mono s6).mono s7,(Reps.mono (s26.trans s7) _ _ r2).append ⟨v,[],rfl,r7,rfl⟩,h7,?_⟩;rw[ey,←hw];simp
     ·left
      have he:i=ds.length:=by omega
      have hn:ds.drop i=[]:=by rw[he];simp
      rw[hn]at q2;have hw:[]=ws:=by simpa[qD]using q2
      subst hw;have ey':ys=zs:=by simpa using ey
      subst ey';exact⟨g2 (by omega),fun l hl=>k _ _ (s1.trans (s2.trans (jE hl))) ⟨l,us,rfl,jq,Reps.mono (jE hl) _ _ r2⟩⟩
   ·simp[zC,h1,hf]at q
noncomputable def Pur(K:Fg)(n:Nat)(g:LP->OP):Sp:=fun vs H Q _=>∃ds d,ds.length=n/\Reps K H ds vs/\g ds=some d/\∀v H',jp H H'->Rep K H' d v->Q v H'
noncomputable def jB(g:LP->OP)(fr:Rho->Option (LP)):RP:=fun ρ=>(fr ρ).bind g
theorem ank{k n:Nat}{f:Addr}{fd:FuncData}{ps:List Str}{g:LP->OP}{x:Str}{p:Pos}{fr:Rho->Option (LP)}(FO:FnOk X.prog X.w X.K X.mg X.base CX0 k f fd ps (Pur X.K n g))(hr:Room k X.A)(hm:X.mg x=some (.ref f))(hk:PySem.W.keepIn X.K (.ref f)=true)
  (hb:zB X.K fd ps []) (hn:(e::es).length=n) (ha:PAD X (e::es) fr) (hl:∀ρ ds,fr ρ=some ds->ds.length=(e::es).length) (hg:Gl X x:=by rfl) (hdb:(x==("__debug__":Str))=false:=by decide) (he:starEach (e::es) X.env=(false,eval e X.env)::starEach es X.env:=by rfl)
  (hpl:(backTo pos (starEach es X.env)).any (·.1)=false:=by rfl):PD X (.Call (.Name x p) (e::es) [] pos) (jB g fr):=by
 with_unfolding_all
  refine PE.imp (aeC FO hr hg hm hk hb .nil acG ha hdb he hpl) fun σ H Q ⟨ρ,d,en,q,k⟩=>?_;cases h1:fr ρ with
  |none=>simp[jB,h1]at q
  | some ds=>
   refine⟨ρ,ds,en,h1,fun vs H1 s1 r1=>?_⟩;refine⟨ds,d,by rw[hl ρ ds h1,hn],by rw[List.append_nil];exact r1,by simpa[jB,h1]using q,fun v H' s r=>k v H' (s1.trans s) r⟩
noncomputable def ZT(X:Cx)(f:Value)(g:LP->OP):Prop:=∃r,JD X f r/\∀ds d xs H Q,g ds=some d->Reps X.K H ds xs->(∀v H',jp H H'->Rep X.K H' d v->Q v H')->r xs H Q
theorem jF{id:String}{g:LP->OP}{x:Str}{p:Pos}{fr:Rho->Option (LP)}(hc:ZT X (.builtin id) g)(hm:X.mg x=none)(hv:bootBuiltins x=some (.builtin id))(ha:PAD X (e::es) fr)(hg:Gl X x:=by rfl)(hn:x≠"__name__":=by decide)(hdb:(x==("__debug__":Str))=false:=by decide)
  (he:starEach (e::es) X.env=(false,eval e X.env)::starEach es X.env:=by rfl) (hpl:(backTo pos (starEach es X.env)).any (·.1)=false:=by rfl):PD X (.Call (.Name x p) (e::es) [] pos) (jB g fr):=by
 with_unfolding_all
  obtain⟨r,h1,h2⟩:=hc;refine PE.imp (acE h1 hg hm hv ha hn hdb he hpl) fun σ H Q ⟨ρ,d,en,q,k⟩=>?_;cases h3:fr ρ with
  |none=>simp[jB,h3]at q
  |some ds=>exact⟨ρ,ds,en,h3,fun vs H1 s1 r1=>h2 ds d vs H1 Q (by simpa[jB,h3]using q) r1 fun v H' s r=>k v H' (s1.trans s) r⟩
theorem adV{T:String}{g:LP->OP}{x:Str}{p:Pos}{fr:Rho->Option (LP)}(hc:ZT X (.type T) g)(hm:X.mg x=none)(hv:bootBuiltins x=some (.type T))(ha:PAD X (e::es) fr)(hg:Gl X x:=by rfl)(hn:x≠"__name__":=by decide)(hdb:(x==("__debug__":Str))=false:=by decide)
  (he:starEach (e::es) X.env=(false,eval e X.env)::starEach es X.env:=by rfl) (hpl:(backTo pos (starEach es X.env)).any (·.1)=false:=by rfl):PD X (.Call (.Name x p) (e::es) [] pos) (jB g fr):=by
 with_unfolding_all
  obtain⟨r,h1,h2⟩:=hc;refine PE.imp (adR h1 hg hm hv ha hn hdb he hpl) fun σ H Q ⟨ρ,d,en,q,k⟩=>?_;cases h3:fr ρ with
  |none=>simp[jB,h3]at q
  |some ds=>exact⟨ρ,ds,en,h3,fun vs H1 s1 r1=>h2 ds d vs H1 Q (by simpa[jB,h3]using q) r1 fun v H' s r=>k v H' (s1.trans s) r⟩
end
noncomputable def jI(N:List Str)(ds:LP):Rho:=ds.map some++List.replicate (N.length-ds.length) none
theorem zS{K:Fg}{H:Hp}{N:List Str}{ds:LP}{vs:List V}(r:Reps K H ds vs):EnvR K H (jI N ds) (L2.zj N vs):=by
 have hl:=r.length;refine⟨by simp[jI,L2.zj,hl],fun i d q=>?_⟩;unfold jI at q;by_cases hi:i<ds.length
 ·rw[List.getElem?_append_left (by simpa using hi),List.getElem?_map]at q
  cases e:ds[i]? with
  |none=>rw[e]at q;cases q
  | some c=>
   rw[e]at q;cases q;obtain⟨x,e1,e2⟩:=r.get e;refine⟨x,?_,e2⟩;unfold L2.zj;rw[List.getElem?_append_left (by simp;omega),List.getElem?_map,e1];rfl
 ·rw[List.getElem?_append_right (by simpa using hi),List.getElem?_replicate]at q
  split at q<;>cases q
noncomputable def jD(N:List Str)(n:Nat)(B:RO)(ds:LP):OP:=if ds.length=n then match B (jI N ds)with
 |some (.rt d)=>some d
 |some (.nx _)=>some .none
 |_=>none else none
section
variable {P:Program}{w:World}{K:Fg}{mg:SV}{base:Heap}
theorem jK{x qual:Str}{st:Stmt}{f:Addr}{fd:FuncData}{N ps:List Str}{k:Nat}{B:RO}(F:Fun K x qual st f fd)(S:FnScope N ps (je st))
  (body:∀(Kc:Value) (A:Around) (Ko:List Env) (s:Shared) (H:Hp) (E:XK),Room k (A.deeper (envOfC qual (je st) s.heap.objs.size f Kc))->
   aal (zL CX0 P w K mg base N qual (je st) f Kc A Ko s H E).nox (jG st) B):FnOk P w K mg base CX0 (k+1) f fd ps (Pur K ps.length (jD N ps.length B)):=by
 with_unfolding_all
  refine F.ok S (fun vs H Q E h=>?_) (fun Kc A Ko s H vs Q E hr h=>?_)
  ·obtain⟨ds,d,h1,h2,_⟩:=h
   rw[h2.length];exact h1
  ·obtain⟨ds,d,h1,h2,h3,h4⟩:=h
   refine⟨_,body Kc A Ko s H E hr,?_⟩;unfold jD at h3;rw[if_pos h1]at h3;cases hB:B (jI N ds)with
   |none=>rw[hB]at h3;cases h3
   | some o=>
    refine⟨jI N ds,o,zS h2,hB,?_⟩;rw[hB]at h3;cases o with
    |rt c=>cases h3;exact fun v H' s r=>h4 v H' s r
    |nx ρ=>cases h3;exact fun σ H' s r=>h4 .non H' s rfl
    |bk ρ=>cases h3
    |ct ρ=>cases h3
theorem aqT{k n:Nat}{f:Addr}{fd:FuncData}{ps:List Str}{g g':LP->OP}(F:FnOk P w K mg base CX0 k f fd ps (Pur K n g))(h:∀ds d,ds.length=n->g' ds=some d->g ds=some d):FnOk P w K mg base CX0 k f fd ps (Pur K n g'):=
 F.imp fun vs H Q E ⟨ds,d,h1,h2,h3,h4⟩=>⟨ds,d,h1,h2,h ds d h1 h3,h4⟩
end
section
variable {X:Cx}
noncomputable def aqU(K:Fg):R2:=fun x y H Q=>∃a b ys,x= .ref a/\y= .ref b/\SqT K H a []/\SqT K H b ys/\Q (.ref b) H
theorem anl:OpR X (binaryOp .Add) (aqU X.K):=by
 intro Kp s σ H x y v u Q I rx ry h;obtain⟨a,b,ys,rfl,rfl,ha,hb,q⟩:=h;cases rx;cases ry;obtain⟨its,r1,p1,_⟩:=I.tuple ha;obtain⟨its2,r2,p2,_⟩:=I.tuple hb;cases r1;obtain⟨⟨c1,d1,t1,l1⟩,ho,hc,n,hd⟩:=id p1;obtain⟨⟨c2,d2,t2,l2⟩,ho2,hc2,n2,hd2⟩:=id p2;simp only at hc hd hc2 hd2;subst hc hd hc2 hd2
 exact concat_meets ⟨_,ho,rfl⟩ ⟨_,ho2,rfl⟩ noFill_tuple_add seq_tuple_add PySem.F.slot_tuple_add PySem.F.entry_tuple_add (PySem.F.args_tuple_add_2 _ _)
  (tuple_addW0 a b _ _ n n2 d1 d2 l1 l2 (by simp)) ⟨ho,ho2,⟨.ref b,H,I,rfl,q⟩⟩
noncomputable def zM:PyData->PyData->OP
 |.int i,.int j=>some (.int (i+j))
 |.list xs,.list ys=>if few (xs++ys)=true then some (.list (xs++ys)) else none
 |.tuple [],.tuple ys=>some (.tuple ys)
 |.tuple (x::xs),.tuple ys=>if few ((x::xs)++ys)=true then some (.tuple ((x::xs)++ys)) else none
 |_,_=>none
theorem jL:OpD X (binaryOp .Add) zM:=by
 refine⟨_,ao7.or (api.or (anl.or am4)),fun p q d x y H Q h rx ry k=>?_⟩;unfold zM at h;split at h
 ·cases h
  cases (show x=_ from rx);cases (show y=_ from ry);exact .inl ⟨_,_,rfl,rfl,k _ H (jp.refl H) rfl⟩
 ·rename_i xs ys
  split at h
  ·rename_i hf
   cases h;obtain⟨a,us,e1,e2,e3⟩:=rx;obtain⟨b,ws,e4,e5,e6⟩:=ry
   have hl:us.length+ws.length<1000000:=by
    rw[e3.length,e6.length];simp[few]at hf
    try simp only[List.length_cons]
    omega
   exact .inr (.inl ⟨a,b,us,ws,e1,e4,e2,e5,abd hl,fun p hp=>k _ _ (jE hp) ⟨p,_,rfl,jq,Reps.mono (jE hp) _ _ (e3.append e6)⟩⟩)
  ·cases h
 ·rename_i ys
  cases h;obtain⟨a,us,e1,e2,e3⟩:=rx;cases (show us=[] from e3);obtain⟨b,ws,e4,e5,e6⟩:=ry;exact .inr (.inr (.inl ⟨a,b,ws,e1,e4,e2,e5,k _ H (jp.refl H) ⟨b,ws,rfl,e5,e6⟩⟩))
 ·rename_i z xs ys
  split at h
  ·rename_i hf
   cases h;obtain⟨a,us,e1,e2,e3⟩:=rx;obtain⟨b,ws,e4,e5,e6⟩:=ry
   have hl:us.length+ws.length<1000000:=by
    rw[e3.length,e6.length];simp[few]at hf
    try simp only[List.length_cons]
    omega
   refine .inr (.inr (.inr ⟨a,b,us,ws,e1,e4,e2,e5,fun z=>?_,abd hl,fun z=>?_,fun _ p hp=>?_⟩))
   ·have:=e3.length;rw[z]at this;simp at this
   ·subst z
    have:=e6.length;have hy:ys=[]:=List.length_eq_zero_iff.mp (by simpa using this.symm);subst hy;exact k _ H (jp.refl H) ⟨a,us,rfl,e2,by simpa using e3⟩
   ·exact k _ _ (jE hp) ⟨p,_,rfl,SqT.of jq,Reps.mono (jE hp) _ _ (e3.append e6)⟩
  ·cases h
 ·cases h
noncomputable def abe:PyData->PyData->OP
 |.int i,.int j=>some (.int (i-j))
 |_,_=>none
theorem zd:OpD X (binaryOp .Sub) abe:=by
 refine⟨_,ao8,fun p q d x y H Q h rx ry k=>?_⟩;unfold abe at h;split at h
 ·cases h;cases (show x=_ from rx);cases (show y=_ from ry);exact⟨_,_,rfl,rfl,k _ H (jp.refl H) rfl⟩
 ·cases h
theorem Reps.rep{K:Fg}{H:Hp}{ds:LP}{xs:List V}(h:Reps K H ds xs):∀(n:Nat),Reps K H (List.replicate n ds).flatten (List.replicate n xs).flatten
 |0=>rfl
 |n+1=>by rw[List.replicate_succ,List.replicate_succ,List.flatten_cons,List.flatten_cons];exact h.append (Reps.rep h n)
noncomputable def ZQ:PyData->PyData->OP
 |.int i,.int j=>if (-(2 ^ 64)<i/\i<2 ^ 64)∨(-(2 ^ 64)<j/\j<2 ^ 64) then some (.int (i*j)) else none
 |.list xs,.int k=>if k<1000/\xs.length<1000/\-1000<k then some (.list (List.replicate k.toNat xs).flatten) else none
 |_,_=>none
theorem qS:OpD X (binaryOp .Mult) ZQ:=by
 refine⟨_,ao9.or apj,fun p q d x y H Q h rx ry k=>?_⟩;unfold ZQ at h;split at h
 ·split at h
  ·rename_i hc
   cases h;cases (show x=_ from rx);cases (show y=_ from ry);exact .inl ⟨_,_,rfl,rfl,hc,k _ H (jp.refl H) rfl⟩
  ·cases h
 ·rename_i xs n
  split at h
  ·rename_i hc
   cases h;obtain⟨a,us,e1,e2,e3⟩:=rx;cases (show y=_ from ry);have hl:=e3.length
   have hs:us.length*n.toNat<=sizeLine:=by
    rw[sizeLine_eq];have h1:us.length<=1000:=by omega
    have h2:n.toNat<=1000:=by omega
    exact Nat.le_trans (Nat.mul_le_mul h1 h2) (by decide)
   exact .inr ⟨a,n,us,e1,rfl,e2,by omega,by omega,hs,fun p hp=>k _ _ (jE hp) ⟨p,_,rfl,jq,Reps.mono (jE hp) _ _ (Reps.rep e3 n.toNat)⟩⟩
  ·cases h
 ·cases h
noncomputable def abH:PyData->PyData->OP
 |.int i,.int j=>if 0<j/\j<1073741824 then some (.int (i / j)) else none
 |_,_=>none
theorem Jd:OpD X (binaryOp .FloorDiv) abH:=by
 refine⟨_,amY,fun p q d x y H Q h rx ry k=>?_⟩;unfold abH at h;split at h
 ·split at h
  ·rename_i hc
   cases h;cases (show x=_ from rx);cases (show y=_ from ry);exact⟨_,_,rfl,rfl,hc,k _ H (jp.refl H) rfl⟩
  ·cases h
 ·cases h
noncomputable def ajd:PyData->PyData->OP
 |.int i,.int j=>if 0<j then some (.int (i % j)) else none
 |_,_=>none
theorem JO:OpD X (binaryOp .Mod) ajd:=by
 refine⟨_,apa,fun p q d x y H Q h rx ry k=>?_⟩;unfold ajd at h;split at h
 ·split at h
  ·rename_i hc
   cases h;cases (show x=_ from rx);cases (show y=_ from ry);exact⟨_,_,rfl,rfl,hc,k _ H (jp.refl H) rfl⟩
  ·cases h
 ·cases h
noncomputable def okD(d:PyData):Bool:=d.canLay0&&decide (d.depth<30)
noncomputable def aqV(K:Fg)(neg:Bool):R2:=fun x y H Q=>∃p q,Rep K H p x/\Rep K H q y/\okD p=true/\okD q=true/\Q (.bl (if neg then !PyData.eqv p q else PyData.eqv p q)) H
theorem qv{d:PyData}(h:okD d=true):d.canLay0=true:=by simp[okD]at h;exact h.1
theorem aca{d:PyData}(h:okD d=true):d.depth<30:=by simp[okD]at h;exact h.2
theorem apn(hu:X.A.units+64<cLine):OpR X (compareOp .Eq) (aqV X.K false):=by
 intro Kp s σ H x y v u Q I rx ry ⟨p,q,h1,h2,h3,h4,k⟩;obtain⟨as,ra⟩:=qL I p x v h1 rx (qv h3);obtain⟨bs,rb⟩:=qL I q y u h2 ry (qv h4);have d1:=aca h3;exact SeqAt.compareEq_reads ra rb (qv h3) (qv h4) (by omega) ⟨.bl _,H,I,rfl,k⟩
theorem apo(hu:X.A.units+64<cLine):OpR X (compareOp .NotEq) (aqV X.K true):=by
 intro Kp s σ H x y v u Q I rx ry ⟨p,q,h1,h2,h3,h4,k⟩;obtain⟨as,ra⟩:=qL I p x v h1 rx (qv h3);obtain⟨bs,rb⟩:=qL I q y u h2 ry (qv h4);have d1:=aca h3;exact SeqAt.compareNe_reads ra rb (qv h3) (qv h4) (by omega) ⟨.bl _,H,I,rfl,k⟩
noncomputable def aqW(K:Fg):R2:=fun x y H Q=>∃a b ns,x= .ref a/\y= .ref b/\SqL K H a (List.map V.int ns)/\H b=some (.lst [])/\Q (.bl ns.isEmpty) H
theorem ZU(h:Heap):∀(ns:List Int) (us:List Value),jH (List.map V.int ns) us->∃as,ReadsAll h us (ns.map PyData.int) as
 | [],us,r=>by cases r;exact⟨_,.nil⟩
 | n::ns,us,r=>by
  cases r with
  | cons r1 r2=>
   obtain⟨t,rfl⟩:=r1;obtain⟨as,ra⟩:=ZU h ns _ r2;exact⟨_,.cons (.int n t) ra⟩
theorem afP:∀ns:List Int,PyData.canLayAll0 (ns.map PyData.int)=true
 | []=>rfl
 |n::ns=>by simp[PyData.canLayAll0,PyData.canLay0,afP ns]
theorem anm(hu:X.A.units+64<cLine):OpR X (compareOp .Eq) (aqW X.K):=by
 intro Kp s σ H x y v u Q I rx ry ⟨a,b,ns,e1,e2,h1,h2,k⟩;subst e1;subst e2;cases rx;cases ry;obtain⟨its,rv,⟨o,n,g1,g2,g3,g4⟩,_⟩:=I.list h1;obtain⟨as,ra⟩:=ZU s.heap ns its rv;obtain⟨bs,rb⟩:=qL I (.list []) (.ref b) (.ref b) ⟨b,[],rfl,h2,rfl⟩ rfl rfl;have ra':Reads s.heap (.ref a) (.list (ns.map PyData.int)) (a::as):= .list g1 g2 g4 (by simpa using ra);refine SeqAt.compareEq_reads ra' rb (by simpa[PyData.canLay0]using afP ns) rfl ?_ ⟨.bl _,H,I,rfl,?_⟩
 ·have:(PyData.list []).depth=1:=rfl
  rw[this];omega
 ·have:PyData.eqv (.list (ns.map PyData.int)) (.list [])=ns.isEmpty:=by cases ns<;>simp[PyData.eqv,PyData.eqvAll]
  rw[this];exact k
noncomputable def dEq:PyData->PyData->OP
 |.dict kvs,.list []=>if Jb kvs=true then some (.bool kvs.isEmpty) else none
 |p,q=>if okD p=true/\okD q=true then some (.bool (PyData.eqv p q)) else none
theorem zD(hu:X.A.units+64<cLine):OpD X (compareOp .Eq) dEq:=by
 refine⟨_,(anm hu).or (apn hu),fun p q d x y H Q h rx ry k=>?_⟩;unfold dEq at h;split at h
 ·split at h
  ·rename_i hs
   cases h;obtain⟨a,ns,e1,e2,e3⟩:=rx.scrOut hs;obtain⟨b,ws,e4,e5,e6⟩:=ry;cases (show ws=[] from e6);refine .inl ⟨a,b,ns,e1,e4,e2,e5,?_⟩;have:ns.isEmpty=(ns.map fun n=>(PyData.int n,PyData.none)).isEmpty:=by simp
   subst e3;rw[this];exact k _ H (jp.refl H) rfl
  ·cases h
 ·split at h
  ·rename_i hc
   cases h;exact .inr ⟨p,q,rx,ry,hc.1,hc.2,k _ H (jp.refl H) rfl⟩
  ·cases h
noncomputable def dNe:PyData->PyData->OP:=fun p q=>if okD p=true/\okD q=true then some (.bool (!PyData.eqv p q)) else none
theorem zu(hu:X.A.units+64<cLine):OpD X (compareOp .NotEq) dNe:=by
 refine⟨_,apo hu,fun p q d x y H Q h rx ry k=>?_⟩;unfold dNe at h;split at h
 ·rename_i hc
  cases h;exact⟨p,q,rx,ry,hc.1,hc.2,k _ H (jp.refl H) rfl⟩
 ·cases h
noncomputable def apq(K:Fg)(neg:Bool):R2:=fun x y H Q=>∃p ds,Rep K H p x/\(Rep K H (.list ds) y∨Rep K H (.tuple ds) y)/\okD p=true/\okD (.list ds)=true/\Q (.bl (if neg then !(ds.any fun z=>PyData.eqv z p) else ds.any fun z=>PyData.eqv z p)) H
theorem apr(hu:X.A.units+64<cLine):OpR X (compareOp .In) (apq X.K false):=by
 intro Kp s σ H x y v u Q I rx ry ⟨p,ds,h1,h2,h3,h4,k⟩;obtain⟨as,ra⟩:=qL I p x v h1 rx (qv h3);have d1:=aca h3;have hc:PyData.canLayAll0 ds=true:=by simpa[PyData.canLay0]using qv h4
 rcases h2 with h2 | h2
 ·obtain⟨bs,rb⟩:=qL I (.list ds) y u h2 ry (qv h4)
  exact SeqAt.in_list_reads rb ra hc (qv h3) (by omega) ⟨.bl _,H,I,rfl,k⟩
 ·obtain⟨bs,rb⟩:=qL I (.tuple ds) y u h2 ry (by simpa[PyData.canLay0]using hc)
  exact SeqAt.in_tuple_reads rb ra hc (qv h3) (by omega) ⟨.bl _,H,I,rfl,k⟩
theorem aje(hu:X.A.units+64<cLine):OpR X (compareOp .NotIn) (apq X.K true):=by
 intro Kp s σ H x y v u Q I rx ry ⟨p,ds,h1,h2,h3,h4,k⟩;obtain⟨as,ra⟩:=qL I p x v h1 rx (qv h3);have d1:=aca h3;have hc:PyData.canLayAll0 ds=true:=by simpa[PyData.canLay0]using qv h4
 rcases h2 with h2 | h2
 ·obtain⟨bs,rb⟩:=qL I (.list ds) y u h2 ry (qv h4)
  exact SeqAt.notIn_list_reads rb ra hc (qv h3) (by omega) ⟨.bl _,H,I,rfl,k⟩
 ·obtain⟨bs,rb⟩:=qL I (.tuple ds) y u h2 ry (by simpa[PyData.canLay0]using hc)
  exact SeqAt.notIn_tuple_reads rb ra hc (qv h3) (by omega) ⟨.bl _,H,I,rfl,k⟩
noncomputable def dIn(neg:Bool):PyData->PyData->OP:=fun p q=>match q with
 |.list ds=>if okD p=true/\okD (.list ds)=true then some (.bool (if neg then !(ds.any fun z=>PyData.eqv z p) else ds.any fun z=>PyData.eqv z p)) else none
 |.tuple ds=>if okD p=true/\okD (.list ds)=true then some (.bool (if neg then !(ds.any fun z=>PyData.eqv z p) else ds.any fun z=>PyData.eqv z p)) else none
 |_=>none
theorem aoC{neg:Bool}{p q d:PyData}{x y:V}{H:Hp}{Q:VK}{K:Fg}(h:dIn neg p q=some d)(rx:Rep K H p x)(ry:Rep K H q y)(k:∀v H',jp H H'->Rep K H' d v->Q v H'):apq K neg x y H Q:=by
 unfold dIn at h;split at h
 ·split at h
  ·rename_i ds hc
   cases h;exact⟨p,ds,rx,.inl ry,hc.1,hc.2,k _ H (jp.refl H) rfl⟩
  ·cases h
 ·split at h
  ·rename_i ds hc
   cases h;exact⟨p,ds,rx,.inr ry,hc.1,hc.2,k _ H (jp.refl H) rfl⟩
  ·cases h
 ·cases h
theorem aps(hu:X.A.units+64<cLine):OpD X (compareOp .In) (dIn false):=⟨_,apr hu,fun p q d x y H Q h rx ry k=>aoC h rx ry k⟩
theorem ajf(hu:X.A.units+64<cLine):OpD X (compareOp .NotIn) (dIn true):=⟨_,aje hu,fun p q d x y H Q h rx ry k=>aoC h rx ry k⟩
noncomputable def JF(f:Int->Int->Bool):PyData->PyData->OP
 |.int i,.int j=>some (.bool (f i j))
 |_,_=>none
theorem aeJ{f:Int->Int->Bool}{p q d:PyData}{x y:V}{H:Hp}{Q:VK}{K:Fg}(h:JF f p q=some d)(rx:Rep K H p x)(ry:Rep K H q y)(k:∀v H',jp H H'->Rep K H' d v->Q v H'):rI0 (fun i j=> .bl (f i j)) x y H Q:=by
 unfold JF at h;split at h
 ·cases h;cases (show x=_ from rx);cases (show y=_ from ry);exact⟨_,_,rfl,rfl,k _ H (jp.refl H) rfl⟩
 ·cases h
theorem acK:OpD X (compareOp .Lt) (JF fun i j=>decide (i<j)):=⟨_,aqB,fun p q d x y H Q h rx ry k=>aeJ h rx ry k⟩
theorem aeK:OpD X (compareOp .LtE) (JF fun i j=>decide (i<=j)):=⟨_,aqC,fun p q d x y H Q h rx ry k=>aeJ h rx ry k⟩
theorem akF:OpD X (compareOp .Gt) (JF fun i j=>decide (j<i)):=⟨_,aqD,fun p q d x y H Q h rx ry k=>aeJ h rx ry k⟩
theorem akG:OpD X (compareOp .GtE) (JF fun i j=>decide (j<=i)):=⟨_,aqE,fun p q d x y H Q h rx ry k=>aeJ h rx ry k⟩
noncomputable def chn(g g':PyData->PyData->OP)(fa fb fc:RP):RP:=fun ρ=>(fa ρ).bind fun x=>(fb ρ).bind fun y=>(g x y).bind fun z=>(asB z).bind fun t=>if t=true then (fc ρ).bind fun w=>g' y w else some (.bool false)
variable {a b c e:Expr}{fa fb fc:RP}{pos:Pos}
theorem aoD{g g':PyData->PyData->OP}{K:Fg}{r r':R2}(hr:∀p q d x y H Q,g p q=some d->Rep K H p x->Rep K H q y->(∀v H',jp H H'->Rep K H' d v->Q v H')->r x y H Q)
  (hr':∀p q d x y H Q,g' p q=some d->Rep K H p x->Rep K H q y->(∀v H',jp H H'->Rep K H' d v->Q v H')->r' x y H Q) {σ:St} {H:Hp} {Q:VK} (h:tD K (chn g g' fa fb fc) σ H Q):agX r r' (tD K fa) (tD K fb) (tD K fc) σ H Q:=by
 obtain⟨ρ,d,en,h,k⟩:=h;unfold chn at h;cases ha:fa ρ with
 |none=>rw[ha]at h;cases h
 | some p=>
  cases hb:fb ρ with
  |none=>rw[ha,hb]at h;cases h
  | some q=>
   rw[ha,hb]at h;cases hg:g p q with
   |none=>simp[hg]at h
   | some z=>
    cases ht:asB z with
    |none=>simp[hg,ht]at h
    | some t=>
     have hz:=Jc ht;subst hz;refine⟨ρ,p,en,ha,fun x H1 s1 r1=>⟨ρ,q,en.mono s1,hb,fun y H2 s2 r2=>?_⟩⟩;refine hr p q _ x y H2 _ hg (Rep.mono s2 p x r1) r2 fun v H3 s3 r3=>⟨t,r3,?_⟩;have s13:=s1.trans (s2.trans s3);cases t with
     | false=>
      rw[if_neg Bool.false_ne_true];have hd:PyData.bool false=d:=by simpa[hg,asB]using h
      subst hd;exact k _ H3 s13 rfl
     | true=>
      rw[if_pos rfl];cases hc:fc ρ with
      |none=>simp[hg,asB,hc]at h
      | some w=>
       refine⟨ρ,w,en.mono s13,hc,fun z H4 s4 r4=>?_⟩;exact hr' q w d y z H4 Q (by simpa[hg,asB,hc]using h) (Rep.mono (s3.trans s4) q y r2) r4 fun v H5 s5 r5=>k v H5 (s13.trans (s4.trans s5)) r5
theorem akH{op op':CmpOp}{g g':PyData->PyData->OP}(ho:OpD X (compareOp op) g)(ho':OpD X (compareOp op') g')(ha:PD X a fa)(hb:PD X b fb)(hc:PD X c fc)
  (hm:lastMarks [op,op'] [b,c]=false:=by with_unfolding_all rfl):PD X (.Compare a [op,op'] [b,c] pos) (chn g g' fa fb fc):=by
 with_unfolding_all
  obtain⟨r,h1,h2⟩:=ho;obtain⟨r',h3,h4⟩:=ho';exact PE.imp (akq h1 h3 ha hb hc hm) fun σ H Q h=>aoD h2 h4 h
theorem ajg{op op':CmpOp}{g g':PyData->PyData->OP}(ho:OpD X (compareOp op) g)(ho':OpD X (compareOp op') g')(ha:PD X a fa)(hb:PD X b fb)(hc:PD X c fc)
  (hm:lastMarks [op,op'] [b,c]=false:=by with_unfolding_all rfl):PTD X (.Compare a [op,op'] [b,c] pos) (tst (chn g g' fa fb fc)):=by
 with_unfolding_all
  obtain⟨r,h1,h2⟩:=ho;obtain⟨r',h3,h4⟩:=ho';refine PT.imp (akr h1 h3 ha hb hc hm) fun σ H Q ⟨ρ,t,en,h,k⟩=>?_;cases hd:chn g g' fa fb fc ρ with
  |none=>simp[tst,hd]at h
  | some d=>
   have ht:d= .bool t:=Jc (by simpa[tst,hd]using h);subst ht;exact aoD h2 h4 ⟨ρ,_,en,hd,fun v H' s r=>⟨t,r,k H' s⟩⟩
noncomputable def dIx:PyData->PyData->OP
 |.list ds,.int i=>if ds.length<1000000 then atI ds i else none
 |.tuple ds,.int i=>if ds.length<1000000 then atI ds i else none
 |.dict kvs,.int i=>if kvs.length<1000000/\Jb kvs=true then (atI kvs i).map (·.1) else none
 |_,_=>none
theorem aif{K:Fg}{H:Hp}{ds:LP}{xs:List V}{i:Int}{d:PyData}(r:Reps K H ds xs)(h:atI ds i=some d):∃x,atI xs i=some x/\Rep K H d x:=by
 have hl:=r.length;unfold atI at h ⊢;rw[hl];cases e:ixN ds.length i with
 |none=>rw[e]at h;cases h
 | some j=>
  rw[e]at h;obtain⟨x,e1,e2⟩:=r.get (show ds[j]?=some d from h);exact⟨x,e1,e2⟩
noncomputable def IxD(X:Cx)(g:PyData->PyData->OP):Prop:=∃r,IxR X r/\∀p q d x y H Q,g p q=some d->Rep X.K H p x->Rep X.K H q y->(∀v H',jp H H'->Rep X.K H' d v->Q v H')->r x y H Q
theorem ixd:IxD X dIx:=by
 refine⟨_,am5.or apg,fun p q d x y H Q h rx ry k=>?_⟩;unfold dIx at h;split at h
 ·split at h
  ·obtain⟨a,us,e1,e2,e3⟩:=rx
   cases (show y=_ from ry);obtain⟨z,g1,g2⟩:=aif e3 h;exact .inl ⟨a,us,_,z,e1,rfl,SqL.of e2,g1,k z H (jp.refl H) g2⟩
  ·cases h
 ·split at h
  ·obtain⟨a,us,e1,e2,e3⟩:=rx
   cases (show y=_ from ry);obtain⟨z,g1,g2⟩:=aif e3 h;exact .inr ⟨a,us,_,z,e1,rfl,e2,g1,k z H (jp.refl H) g2⟩
  ·cases h
 ·split at h
  ·rename_i hs
   obtain⟨a,ns,e1,e2,e3⟩:=rx.scrOut hs.2;cases (show y=_ from ry);subst e3;rename_i i;unfold atI at h;rw[List.length_map]at h;cases e:ixN ns.length i with
   |none=>rw[e]at h;cases h
   | some j=>
    rw[e]at h;have h':((ns.map fun n=>(PyData.int n,PyData.none))[j]?).map (·.1)=some d:=h;rw[List.getElem?_map]at h';cases e4:ns[j]? with
    |none=>rw[e4]at h';cases h'
    | some n=>
     rw[e4]at h';cases h';refine .inl ⟨a,List.map V.int ns,i,.int n,e1,rfl,e2,?_,k _ H (jp.refl H) rfl⟩;unfold atI;rw[List.length_map,e];show(List.map V.int ns)[j]?=_;rw[List.getElem?_map,e4];rfl
  ·cases h
 ·cases h
theorem jO(ha:PD X a fa)(hb:PD X b fb)(hs:ah9 b:=by intro _ _;rfl):PD X (.Subscript a b pos) (op2 dIx fa fb):=by
 with_unfolding_all
  obtain⟨r,h1,h2⟩:=ixd (X:=X);exact PE.imp (aqK h1 ha hb hs) fun σ H Q h=>anf h2 h
noncomputable def qM(ds:LP):OP:=match ds with
 | [.list xs]=>some (.int xs.length)
 | [.tuple xs]=>some (.int xs.length)
 | [.dict xs]=>if Jb xs=true then some (.int xs.length) else none
 |_=>none
theorem qh:ZT X (.builtin "len") qM:=by
 refine⟨_,aeF,fun ds d xs H Q h r k=>?_⟩;unfold qM at h;split at h
 ·cases h
  obtain⟨x,q,e1,e2,e3⟩:=r;cases (show q=[] from e3);obtain⟨a,us,g1,g2,g3⟩:=e2;subst g1;exact⟨a,us,e1,.inl (SqL.of g2),k _ H (jp.refl H) (by show _=_;rw[g3.length])⟩
 ·cases h
  obtain⟨x,q,e1,e2,e3⟩:=r;cases (show q=[] from e3);obtain⟨a,us,g1,g2,g3⟩:=e2;subst g1;exact⟨a,us,e1,.inr g2,k _ H (jp.refl H) (by show _=_;rw[g3.length])⟩
 ·split at h
  ·rename_i hs
   cases h;obtain⟨x,q,e1,e2,e3⟩:=r;cases (show q=[] from e3);obtain⟨a,ns,g1,g2,g3⟩:=e2.scrOut hs;subst g1;subst g3;exact⟨a,_,e1,.inl g2,k _ H (jp.refl H) (by show _=_;simp)⟩
  ·cases h
 ·cases h
noncomputable def acL(ds:LP):OP:=match ds with
 | [.int i,.int j]=>some (.int (if j>i then j else i))
 |_=>none
noncomputable def akI(ds:LP):OP:=match ds with
 | [.int i,.int j]=>some (.int (if j<i then j else i))
 |_=>none
theorem aig(hc:X.calm=true):ZT X (.builtin "max") acL:=by
 refine⟨_,ai4 hc,fun ds d xs H Q h r k=>?_⟩;unfold acL at h;split at h
 ·cases h
  obtain⟨x,q,e1,e2,y,q',e3,e4,e5⟩:=r;cases (show x=_ from e2);cases (show y=_ from e4);cases (show q'=[] from e5);subst e3;exact⟨_,_,e1,k _ H (jp.refl H) rfl⟩
 ·cases h
theorem ann(hc:X.calm=true):ZT X (.builtin "min") akI:=by
 refine⟨_,ai5 hc,fun ds d xs H Q h r k=>?_⟩;unfold akI at h;split at h
 ·cases h
  obtain⟨x,q,e1,e2,y,q',e3,e4,e5⟩:=r;cases (show x=_ from e2);cases (show y=_ from e4);cases (show q'=[] from e5);subst e3;exact⟨_,_,e1,k _ H (jp.refl H) rfl⟩
 ·cases h
end
section
variable {X:Cx}{Kp:List (Addr×Obj)}{σ:St}{H:Hp}{s:Shared}
theorem adW{prog:Program}{w:World}{A:Around}{E:Value->SP0}{l:Addr}{its:Array Value}{Q:Value->SP0}(hl:s.heap.IsList l its)
  (h:∀(h2:Heap) (it:Addr),(h2.IsListIter it l 0/\h2.IsList l its)->(∀b∈[it,l],b<h2.objs.size)->l≠it->(∀b o,s.heap.get? b=some o->h2.get? b=some o)->s.heap.get? it=none->Q (.ref it) { s with heap:=h2 }):
  wpAny (model prog w) A (pyIter (.ref l)) Q E s:=by
 have hlt:l<s.heap.objs.size:=by
  obtain⟨_,e,_⟩:=hl;exact Heap.lt_size e
 refine wpAny_pyIter_list hl (h _ _ ⟨⟨_,Heap.get?_push_size _ rfl,rfl,rfl⟩,hl.push _⟩ (fun b hb=>?_) (Nat.ne_of_lt hlt) (fun b o e=>Heap.get?_push_of_some _ e) (Heap.get?_none_of_le (Nat.le_refl _)));rw[Heap.size_push];rcases List.mem_cons.mp hb with e | hb
 ·rw[e];exact Nat.lt_succ_self _
 ·have e:b=l:=by simpa using hb
  rw[e];exact Nat.lt_succ_of_lt hlt
theorem ajh{prog:Program}{w:World}{A:Around}{E:Value->SP0}{l:Addr}{its:Array Value}{Q:Value->SP0}(hl:s.heap.IsTuple l its)
  (h:∀(h2:Heap) (it:Addr),(h2.IsTupleIter it l 0/\h2.IsTuple l its)->(∀b∈[it,l],b<h2.objs.size)->l≠it->(∀b o,s.heap.get? b=some o->h2.get? b=some o)->s.heap.get? it=none->Q (.ref it) { s with heap:=h2 }):
  wpAny (model prog w) A (pyIter (.ref l)) Q E s:=by
 have hlt:l<s.heap.objs.size:=by
  obtain⟨_,e,_⟩:=hl;exact Heap.lt_size e
 have hl2:∀o,(s.heap.push o).IsTuple l its:=fun o=>by
  obtain⟨ob,e,r⟩:=hl;exact⟨ob,Heap.get?_push_of_some _ e,r⟩
 refine wpAny_pyIter_tuple hl (h _ _ ⟨⟨_,Heap.get?_push_size _ rfl,rfl,rfl⟩,hl2 _⟩ (fun b hb=>?_) (Nat.ne_of_lt hlt) (fun b o e=>Heap.get?_push_of_some _ e) (Heap.get?_none_of_le (Nat.le_refl _)));rw[Heap.size_push];rcases List.mem_cons.mp hb with e | hb
 ·rw[e];exact Nat.lt_succ_self _
 ·have e:b=l:=by simpa using hb
  rw[e];exact Nat.lt_succ_of_lt hlt
theorem aeL{h h2 h3 : Heap}{it : Addr}(k1 : ∀b o, h.get? b = some o -> h2.get? b = some o)(hn : h.get? it = none)(k2 : ∀b o, b∉[it] -> h2.get? b = some o -> h3.get? b = some o) : ∀b o, h.get? b = some o -> h3.get? b = some o := fun b o e =>
  k2 b o (fun z => by have e1 : b = it := by simpa using z
                      rw [e1, hn] at e; cases e) (k1 b o e)
theorem aih:∀{bs:List Bool}{us:List Value},jH (bs.map V.bl) us->us=bs.map Value.bool
 | [],us,r=>by cases r;rfl
 | b::bs,us,r=>by
  cases r with
  |cons r1 r2=>cases (show _=_ from r1);rw[aih r2];rfl
theorem aji(bs:List Bool):(List.range bs.length).all (fun i=>bs.getD i false)=bs.all id:=by
 have:bs=(List.range bs.length).map (fun i=>bs.getD i false):=by
  apply List.ext_getElem?;intro i;rw[List.getElem?_map];by_cases h:i<bs.length
  ·rw[List.getElem?_range h];simp[List.getD,h]
  ·simp[h]
 conv=>rhs;rw[this]
 rw[List.all_map];rfl
noncomputable def asf(K:Fg):List V->Hp->VK->Prop:=fun xs H Q=>∃a bs,xs=[.ref a]/\SqL K H a (List.map V.bl bs)/\Q (.bl (bs.all id)) H
theorem ajj(hc:X.calm=true):JD X (.builtin "all") (asf X.K):=by
 intro Kp s σ H xs us Q I r ⟨a,bs,e,hq,q⟩;subst e;obtain⟨u,rfl,rx⟩:=adM r;cases rx;obtain⟨its,rv,pl,hz⟩:=I.list hq;have ei:=aih rv;have hh:=I.ok.hd hc;refine call_all_walk (adW pl.isList fun h2 it st hlt hne k1 hn=>?_);refine⟨it,[it,a],[it],its.toArray.size,(fun i v=>its.toArray[i]?=some v),_,fun i=>bs.getD i false,rfl,Walks.list (A:=X.A.in1) hh it a hne its.toArray,st,?_,fun h3 tk k2=>?_⟩
 ·intro i v s' Q' E' hP hq'
  have:v= .bool (bs.getD i false):=by
   have hP':its[i]?=some v:=by simpa using hP
   rw[ei,List.getElem?_map]at hP';cases hb:bs[i]? with
   |none=>rw[hb]at hP';cases hP'
   |some b=>rw[hb]at hP';cases hP';simp[List.getD,hb]
  subst this;exact wpAny_truthy_bool hq'
 ·have I3:=I.kept (t':=tk) (aeL k1 hn k2)
  have hl:its.toArray.size=bs.length:=by rw[ei];simp
  refine⟨.bl (bs.all id),H,I3,?_,q⟩;show _=_;rw[hl,aji]
noncomputable def bls:LP->Option (List Bool)
 | []=>some []
 |d::r=>(asB d).bind fun b=>(bls r).map fun q=>b::q
theorem Reps.bls{K:Fg}{H:Hp}:∀{ds:LP}{bs:List Bool}{xs:List V},BX.bls ds=some bs->Reps K H ds xs->xs=bs.map V.bl
 | [],bs,xs,h,r=>by simp[BX.bls]at h;subst h;exact r
 | d::ds,bs,xs,h,⟨x,q,e1,e2,e3⟩=>by
  subst e1;cases h1:asB d with
  |none=>simp[BX.bls,h1]at h
  | some b=>
   cases h2:BX.bls ds with
   |none=>simp[BX.bls,h1,h2]at h
   | some r=>
    have:b::r=bs:=by simpa[BX.bls,h1,h2]using h
    subst this;have hd:=Jc h1;subst hd;cases (show x=_ from e2);rw[Reps.bls h2 e3];rfl
noncomputable def akJ(ds:LP):OP:=match ds with
 | [.list xs]=>(bls xs).map fun bs=> .bool (bs.all id)
 |_=>none
theorem akK(hc:X.calm=true):ZT X (.builtin "all") akJ:=by
 refine⟨_,ajj hc,fun ds d xs H Q h r k=>?_⟩;unfold akJ at h;split at h
 ·rename_i ys
  cases hb:bls ys with
  |none=>simp[hb]at h
  | some bs=>
   have:PyData.bool (bs.all id)=d:=by simpa[hb]using h
   subst this;obtain⟨x,q,e1,e2,e3⟩:=r;cases (show q=[] from e3);obtain⟨a,us,g1,g2,g3⟩:=e2;subst g1;have:=Reps.bls hb g3;subst this;exact⟨a,bs,e1,SqL.of g2,k _ H (jp.refl H) rfl⟩
 ·cases h
noncomputable def QL:PyData->Option Int
 |.int i=>some i
 |_=>none
noncomputable def zO:LP->Option (List Int)
 | []=>some []
 |d::r=>(QL d).bind fun b=>(zO r).map fun q=>b::q
theorem Zk:∀{ds:LP}{ns:List Int},zO ds=some ns->ds=ns.map PyData.int
 | [],ns,h=>by simp[zO]at h;subst h;rfl
 | d::ds,ns,h=>by
  cases d with
  | int i=>
   cases h2:zO ds with
   |none=>simp[zO,QL,h2]at h
   | some r=>
    have:i::r=ns:=by simpa[zO,QL,h2]using h
    subst this;rw[Zk h2];rfl
  |_=>simp[zO,QL]at h
theorem abI{ns:List Int}{us:List Value}{i:Nat}{v:Value}(r:jH (ns.map V.int) us)(h:us.toArray[i]?=some v):∃t,v= .int (ns.getD i 0) t:=by
 have h':us[i]?=some v:=by simpa using h
 have hi:i<us.length:=(List.getElem?_eq_some_iff.mp h').1;have hl:=r.length;rw[List.length_map]at hl
 obtain⟨u,e1,e2⟩:=r.get (show(ns.map V.int)[i]?=some (V.int (ns.getD i 0)) by
  rw [List.getElem?_map];have:i<ns.length:=by omega
  simp [List.getD,this])
 rw[h']at e1;cases e1;exact e2
theorem abJ(ns:List Int):preSum (fun i=>ns.getD i 0) ns.length=ns.sum:=by
 have go:∀k,k<=ns.length->preSum (fun i=>ns.getD i 0) k=(ns.take k).sum:=by
  intro k
  induction k with
  |zero=>intro _;simp[preSum]
  | succ k ih=>
   intro hk;have hlt:k<ns.length:=by omega
   have h1:ns.take (k+1)=ns.take k++[ns[k]]:=by rw[List.take_succ];simp[hlt]
   rw[h1];simp only[preSum,ih (by omega),List.sum_append,List.sum_cons,List.sum_nil,Int.add_zero];simp[List.getD,hlt]
 have:=go ns.length (Nat.le_refl _);simpa using this
noncomputable def asg(K:Fg):List V->Hp->VK->Prop:=fun xs H Q=>∃a ns,xs=[.ref a]/\(SqL K H a (List.map V.int ns)∨SqT K H a (List.map V.int ns))/\Q (.int ns.sum) H
theorem ajk(hc:X.calm=true):JD X (.builtin "sum") (asg X.K):=by
 intro Kp s σ H xs us Q I r ⟨a,ns,e,hq,q⟩;subst e;obtain⟨u,rfl,rx⟩:=adM r;cases rx;have hh:=I.ok.hd hc;rcases hq with hq | hq
 ·obtain⟨its,rv,pl,hz⟩:=I.list hq
  have hl:its.toArray.size=ns.length:=by have:=rv.length;simp at this ⊢;omega
  refine call_sum_walkG (adW pl.isList fun h2 it st hlt hne k1 hn=>?_);refine⟨it,[it,a],[it],its.toArray.size,(fun i v=>its.toArray[i]?=some v),_,fun i=>ns.getD i 0,rfl,Walks.list (A:=X.A.in1) hh it a hne its.toArray,st,hlt,fun i v hP=>abI rv hP,fun h3 tk t' k2=>?_⟩;exact⟨.int ns.sum,H,I.kept (t':=tk) (aeL k1 hn k2),⟨t',by rw[hl,abJ]⟩,q⟩
 ·obtain⟨its,rv,pl,hz⟩:=I.tuple hq
  have hl:its.toArray.size=ns.length:=by have:=rv.length;simp at this ⊢;omega
  refine call_sum_walkG (ajh (show s.heap.IsTuple a its.toArray from pl) fun h2 it st hlt hne k1 hn=>?_);refine⟨it,[it,a],[it],its.toArray.size,(fun i v=>its.toArray[i]?=some v),_,fun i=>ns.getD i 0,rfl,Walks.tuple (A:=X.A.in1) hh it a hne its.toArray,st,hlt,fun i v hP=>abI rv hP,fun h3 tk t' k2=>?_⟩;exact⟨.int ns.sum,H,I.kept (t':=tk) (aeL k1 hn k2),⟨t',by rw[hl,abJ]⟩,q⟩
noncomputable def acM(ds:LP):OP:=match ds with
 | [.list xs]=>(zO xs).map fun ns=> .int ns.sum
 | [.tuple xs]=>(zO xs).map fun ns=> .int ns.sum
 |_=>none
theorem acN(hc:X.calm=true):ZT X (.builtin "sum") acM:=by
 refine⟨_,ajk hc,fun ds d xs H Q h r k=>?_⟩;unfold acM at h;split at h
 ·rename_i ys
  cases hb:zO ys with
  |none=>simp[hb]at h
  | some ns=>
   have:PyData.int ns.sum=d:=by simpa[hb]using h
   subst this;obtain⟨x,q,e1,e2,e3⟩:=r;cases (show q=[] from e3);obtain⟨a,us,g1,g2,g3⟩:=e2;subst g1;rw[Zk hb]at g3;have:=Reps.ints g3;subst this;exact⟨a,ns,e1,.inl (SqL.of g2),k _ H (jp.refl H) rfl⟩
 ·rename_i ys
  cases hb:zO ys with
  |none=>simp[hb]at h
  | some ns=>
   have:PyData.int ns.sum=d:=by simpa[hb]using h
   subst this;obtain⟨x,q,e1,e2,e3⟩:=r;cases (show q=[] from e3);obtain⟨a,us,g1,g2,g3⟩:=e2;subst g1;rw[Zk hb]at g3;have:=Reps.ints g3;subst this;exact⟨a,ns,e1,.inr g2,k _ H (jp.refl H) rfl⟩
 ·cases h
end
section
variable {prog:Program}{w:World}{A:Around}{E:Value->SP0}{s:Shared}
theorem Z5{it t:Addr}{i:Nat}{ys:Array Value}{x:Value}{Q:Value->SP0}(hit:s.heap.IsTupleIter it t i)(ht:s.heap.IsTuple t ys)(hx:ys[i]?=some x)
  (hQ:∀h',h'.IsTupleIter it t (i+1)->Heap.SameBut it s.heap h'->Q x { s with heap:=h' }):wpAny (model prog w) A (Builtin.SmallTypes.nextOf (.ref it)) Q E s:=by
 obtain⟨o,ho,hc,hd⟩:=id hit;obtain⟨ot,hot,_,nt,hdt⟩:=ht;unfold Builtin.SmallTypes.nextOf
 refine wpAny_bind (wpAny_callSpecial?_slot (name:=Str.ofString "__next__") hit.typeIs F.slot_tuple_iterator_next
  (wpAny_call_entry F.slot_tuple_iterator_next hit.typeIs F.entry_tuple_iterator_next ?_
   (F.args_tuple_iterator_next_1 _)))
 refine wpAny_bind (m:=field (.ref it) 0) (wpAny_field ho hd (x:= .ref t) rfl ?_);have no:¬ ((Value.ref t==Value.none)=true):=Bool.false_ne_true
 show wpAny _ _ (if (Value.ref t==Value.none)=true then _ else
  _) _ _ s
 rw[if_neg no];refine wpAny_bind (m:=field (.ref it) 1) (wpAny_field ho hd (x:= .int i 0) rfl ?_);refine wpAny_bind (m:=seqItems? (.ref t)) (wpAny_seqItems hot hdt ?_);simp only[Int.toNat_natCast,hx];refine wpAny_bind (wpAny_setField ho hd (by simp) (wpAny_pure ⟨x,rfl,wpAny_pure (hQ _ ?_ (Heap.SameBut.update ..))⟩));refine⟨_,Heap.get?_update_self _ ho (Obj.isFreed_of_fields (Obj.data_mapFields hd _)),(Obj.cls_mapFields ..).trans hc,?_⟩;rw[Obj.data_mapFields hd];simp[rawInt]
theorem ajl{it t:Addr}{i:Nat}{ys:Array Value}{Q:Value->SP0}(hh:A.handled=none)(hit:s.heap.IsTupleIter it t i)(ht:s.heap.IsTuple t ys)(hx:ys[i]?=none)
  (hE:∀h' e,Heap.ExtBut it s.heap h'->(∃o,h'.get? e=some o/\o.cls= .type "StopIteration")->E (.ref e) { s with heap:=h' }):wpAny (model prog w) A (Builtin.SmallTypes.nextOf (.ref it)) Q E s:=by
 obtain⟨o,ho,hc,hd⟩:=id hit;obtain⟨ot,hot,_,nt,hdt⟩:=ht;unfold Builtin.SmallTypes.nextOf
 refine wpAny_bind (wpAny_callSpecial?_slot (name:=Str.ofString "__next__") hit.typeIs F.slot_tuple_iterator_next
  (wpAny_call_entry F.slot_tuple_iterator_next hit.typeIs F.entry_tuple_iterator_next ?_
   (F.args_tuple_iterator_next_1 _)))
 refine wpAny_bind (m:=field (.ref it) 0) (wpAny_field ho hd (x:= .ref t) rfl ?_);have no:¬ ((Value.ref t==Value.none)=true):=Bool.false_ne_true
 show wpAny _ _ (if (Value.ref t==Value.none)=true then _ else
  _) _ _ s
 rw[if_neg no];refine wpAny_bind (m:=field (.ref it) 1) (wpAny_field ho hd (x:= .int i 0) rfl ?_);refine wpAny_bind (m:=seqItems? (.ref t)) (wpAny_seqItems hot hdt ?_);simp only[Int.toNat_natCast,hx];refine wpAny_bind (wpAny_rule (wpAny_bind (wpAny_setField ho hd (by simp) ?_)));refine wpAny_bind (m:=newExc (.type "StopIteration") []) ?_;simp only[newExc,newTuple];refine wpAny_bind (wpAny_newObj_type ?_ (by size_fits))
 refine wpAny_bind (m:=firstArgMember _ _) (wpAny_of_eq (a:=Value.none)
  (by first | rfl | (simp only [firstArgMember]; rfl)) ?_)
 refine wpAny_newObj_type ?_ (by size_fits);simp only[raiseNew];refine wpAny_bind (wpAny_handled ?_);rw[show A.in1.handled=none from hh];refine wpAny_bind (wpAny_pure (wpAny_throw ?_));exact hE _ _ (((Heap.SameBut.update ..).extBut.push _).push _) ⟨_,Heap.get?_push_size _ rfl,rfl⟩
noncomputable abbrev aam(h:Heap)(T:Addr)(a b c:Value):Prop:=h.get? T=some { cls:= .type "tuple",data:= .seq #[a,b,c] }
theorem acO{T:Addr}{a b c x:Value}{k:Nat}{Q:Unit->SP0}(hT:aam s.heap T a b c)
  (h:∀h',h'.get? T=some { cls:= .type "tuple",data:= .seq ((#[a,b,c]:Array Value).setIfInBounds k x) }->Heap.SameBut T s.heap h'->Q () { s with heap:=h' }):
  wpAny (model prog w) A (updateSeq T (·.setIfInBounds k x)) Q E s:=by
 refine wpAny_updateSeq hT rfl (h _ ?_ (Heap.SameBut.update ..));rw[Heap.get?_update_self _ hT rfl];simp[Obj.mapSeq]
structure Apart3(z TI TO i1 i2 i3 t1 t2 t3:Addr):Prop where
 nd:[z,TO,i1,i2,i3].Nodup
 ti:TI∉[z,TO,i1,i2,i3]
 s1:t1∉[z,TO,i1,i2,i3]
 s2:t2∉[z,TO,i1,i2,i3]
 s3:t3∉[z,TO,i1,i2,i3]
structure Zip3(h:Heap)(z TI TO i1 i2 i3 t1 t2 t3:Addr)(xs ys zs:Array Value)(f0:Value)(k:Nat):Prop where
 hz:IsZip h z TI TO f0
 hTI:aam h TI (.ref i1) (.ref i2) (.ref i3)
 hTO:∃a b c,aam h TO a b c
 g1:h.IsTupleIter i1 t1 k
 g2:h.IsTupleIter i2 t2 k
 g3:h.IsTupleIter i3 t3 k
 a1:h.IsTuple t1 xs
 a2:h.IsTuple t2 ys
 a3:h.IsTuple t3 zs
theorem Zip3.keep{h h':Heap}{z TI TO i1 i2 i3 t1 t2 t3:Addr}{xs ys zs:Array Value}{f0:Value}{k:Nat}(S:Zip3 h z TI TO i1 i2 i3 t1 t2 t3 xs ys zs f0 k)
  (kp:∀b∈[z,TI,TO,i1,i2,i3,t1,t2,t3],∀o,h.get? b=some o->h'.get? b=some o):Zip3 h' z TI TO i1 i2 i3 t1 t2 t3 xs ys zs f0 k:=by
 obtain⟨hz,hTI,⟨a,b,c,hTO⟩,⟨o1,e1,r1⟩,⟨o2,e2,r2⟩,⟨o3,e3,r3⟩,⟨p1,f1,q1⟩,⟨p2,f2,q2⟩,⟨p3,f3,q3⟩⟩:=S;exact⟨kp z (by simp) _ hz,kp TI (by simp) _ hTI,⟨a,b,c,kp TO (by simp) _ hTO⟩,⟨o1,kp i1 (by simp) _ e1,r1⟩,⟨o2,kp i2 (by simp) _ e2,r2⟩,⟨o3,kp i3 (by simp) _ e3,r3⟩,⟨p1,kp t1 (by simp) _ f1,q1⟩,⟨p2,kp t2 (by simp) _ f2,q2⟩,⟨p3,kp t3 (by simp) _ f3,q3⟩⟩
noncomputable def But(l:List Addr)(h h':Heap):Prop:=∀b o,b∉l->h.get? b=some o->h'.get? b=some o
theorem But.of{b:Addr}{l:List Addr}{h h':Heap}(x:Heap.ExtBut b h h')(hb:b∈l):But l h h':=fun c o hc e=>x c o (fun z=>hc (by rw[z];exact hb)) e
theorem But.trans{l:List Addr}{h h1 h2:Heap}(a:But l h h1)(b:But l h1 h2):But l h h2:=fun c o hc e=>b c o hc (a c o hc e)
theorem ajm{z TI TO i1 i2 i3 t1 t2 t3:Addr}{xs ys zs:Array Value}{k:Nat}{x y v:Value}{Q:Value->SP0}(D:Apart3 z TI TO i1 i2 i3 t1 t2 t3)(S:Zip3 s.heap z TI TO i1 i2 i3 t1 t2 t3 xs ys zs .none k)
  (hx:xs[k]?=some x) (hy:ys[k]?=some y) (hv:zs[k]?=some v)
  (hQ:∀h',Zip3 h' z TI TO i1 i2 i3 t1 t2 t3 xs ys zs (rawInt s.heap.objs.size) (k+1)->aam h' s.heap.objs.size x y v->But [z,TO,i1,i2,i3] s.heap h'->Q (.ref s.heap.objs.size) { s with heap:=h' }):
  wpAny (model prog w) A (Builtin.«zip.__next__» ⟨[.ref z],[]⟩) (fun fin s'=>∃v,fin= .done (.ret v)/\Q v s') E s:=by
 obtain⟨hz,hTI,⟨a,b,c,hTO⟩,g1,g2,g3,a1,a2,a3⟩:=S;obtain⟨nd,ti,s1,s2,s3⟩:=D;simp only[List.nodup_cons,List.mem_cons,List.not_mem_nil,or_false,not_or]at nd ti s1 s2 s3;obtain⟨⟨n1,n2,n3,n4⟩,⟨n5,n6,n7⟩,⟨n8,n9⟩,n10,_⟩:=nd;obtain⟨t1z,t1o,t11,t12,t13⟩:=s1;obtain⟨t2z,t2o,t21,t22,t23⟩:=s2;obtain⟨t3z,t3o,t31,t32,t33⟩:=s3;obtain⟨tiz,tio,ti1,ti2,ti3⟩:=ti;refine wpAny_bind (m:=field (.ref z) 2) (wpAny_field hz rfl (x:= .bool false) rfl ?_);refine wpAny_bind (m:=field (.ref z) 3) (wpAny_field hz rfl (x:= .ref TI) rfl ?_);refine wpAny_bind (wpAny_seqItems hTI rfl ?_);refine wpAny_bind (m:=Builtin.SmallTypes.ownedTupleIsFree (.ref z)) ?_;unfold Builtin.SmallTypes.ownedTupleIsFree;refine wpAny_bind (wpAny_field hz rfl (x:= .none) rfl (wpAny_pure ?_));simp only[zzM];refine wpAny_bind (wpAny_rule ?_);refine wpAny_bind (wpAny_field hz rfl (x:= .ref TO) rfl ?_);refine wpAny_bind (wpAny_setField_rec hz (by simp) fun h1 hz1 b1=>?_)
 replace hz1:IsZip h1 z TI TO .ellipsis:=hz1
 refine wpAny_bind ?_;simp only[List.zipIdx_cons,List.zipIdx_nil,List.forIn_cons,List.forIn_nil];refine wpAny_bind (wpAny_bind (wpAny_onRaise ?_));refine wpAny_bind (m:=Builtin.SmallTypes.nextOf (.ref i1)) ?_;refine Z5 (g1.extBut b1.extBut (Ne.symm n2)) (a1.extBut b1.extBut t1z) hx fun h2 g1' b2=>wpAny_pure ?_;have o2:aam h2 TO a b c:=b2.extBut _ _ n5 (b1.extBut _ _ (Ne.symm n1) hTO);refine wpAny_bind (wpAny_seqItems o2 rfl ?_);refine wpAny_bind (acO o2 fun h3 o3 b3=>?_)
 replace o3:aam h3 TO x b c:=o3
 refine wpAny_bind (wpAny_letGo (wpAny_pure ?_));refine wpAny_bind (wpAny_bind (wpAny_onRaise ?_));refine wpAny_bind (m:=Builtin.SmallTypes.nextOf (.ref i2)) ?_;refine Z5 (((g2.extBut b1.extBut (Ne.symm n3)).extBut b2.extBut (Ne.symm n8)).extBut b3.extBut (Ne.symm n6)) (((a2.extBut b1.extBut t2z).extBut b2.extBut t21).extBut b3.extBut t2o) hy fun h4 g2' b4=>wpAny_pure ?_;have o4:aam h4 TO x b c:=b4.extBut _ _ n6 o3;refine wpAny_bind (wpAny_seqItems o4 rfl ?_);refine wpAny_bind (acO o4 fun h5 o5 b5=>?_)
 replace o5:aam h5 TO x y c:=o5
 refine wpAny_bind (wpAny_letGo (wpAny_pure ?_));refine wpAny_bind (wpAny_bind (wpAny_onRaise ?_));refine wpAny_bind (m:=Builtin.SmallTypes.nextOf (.ref i3)) ?_
 refine Z5 (((((g3.extBut b1.extBut (Ne.symm n4)).extBut b2.extBut (Ne.symm n9)).extBut b3.extBut (Ne.symm n7)).extBut b4.extBut (Ne.symm n10)).extBut b5.extBut (Ne.symm n7))
  (((((a3.extBut b1.extBut t3z).extBut b2.extBut t31).extBut b3.extBut t3o).extBut b4.extBut t32).extBut b5.extBut t3o) hv fun h6 g3' b6=>wpAny_pure ?_
 have o6:aam h6 TO x y c:=b6.extBut _ _ n7 o5;refine wpAny_bind (wpAny_seqItems o6 rfl ?_);refine wpAny_bind (acO o6 fun h7 o7 b7=>?_)
 replace o7:aam h7 TO x y v:=o7
 refine wpAny_bind (wpAny_letGo (wpAny_pure (wpAny_pure ?_)));refine wpAny_bind (wpAny_seqItems o7 rfl ?_);refine wpAny_bind (wpAny_newTuple ?_);have sz:h7.objs.size=s.heap.objs.size:=by rw[b7.1,b6.1,b5.1,b4.1,b3.1,b2.1,b1.1]
 have B:But [z,TO,i1,i2,i3] s.heap h7:=
  ((((((But.of b1.extBut (by simp)).trans (But.of b2.extBut (by simp))).trans (But.of b3.extBut (by simp))).trans (But.of b4.extBut (by simp))).trans (But.of b5.extBut (by simp))).trans (But.of b6.extBut (by simp))).trans (But.of b7.extBut (by simp))
 have z7:IsZip h7 z TI TO .ellipsis:=b7.extBut _ _ n1 (b6.extBut _ _ n4 (b5.extBut _ _ n1 (b4.extBut _ _ n3 (b3.extBut _ _ n1 (b2.extBut _ _ n2 hz1)))));have i17:h7.IsTupleIter i1 t1 (k+1):=((((g1'.extBut b3.extBut (Ne.symm n5)).extBut b4.extBut n8).extBut b5.extBut (Ne.symm n5)).extBut b6.extBut n9).extBut b7.extBut (Ne.symm n5);have i27:h7.IsTupleIter i2 t2 (k+1):=((g2'.extBut b5.extBut (Ne.symm n6)).extBut b6.extBut n10).extBut b7.extBut (Ne.symm n6);have i37:h7.IsTupleIter i3 t3 (k+1):=g3'.extBut b7.extBut (Ne.symm n7);refine wpAny_bind (m:=Builtin.SmallTypes.ownedTupleHandOut (.ref z) (.ref h7.objs.size)) ?_;unfold Builtin.SmallTypes.ownedTupleHandOut;have z8:IsZip (h7.push { cls:= .type "tuple",data:= .seq #[x,y,v] }) z TI TO .ellipsis:=Heap.get?_push_of_some _ z7;refine wpAny_bind (wpAny_setField_rec z8 (by simp) fun h9 z9 b9=>?_)
 replace z9:IsZip h9 z TI TO (rawInt h7.objs.size):=z9
 refine wpAny_setField_rec z9 (by simp) fun h10 z10 b10=>?_
 replace z10:IsZip h10 z TI TO (rawInt h7.objs.size):=z10
 have up:∀c o,c≠z->h7.get? c=some o->h10.get? c=some o:=fun c o c1 e=>b10.extBut _ _ c1 (b9.extBut _ _ c1 (Heap.get?_push_of_some _ e));have zlt:z<h7.objs.size:=Heap.lt_size z7;have T10:aam h10 h7.objs.size x y v:=b10.extBut _ _ (Nat.ne_of_gt zlt) (b9.extBut _ _ (Nat.ne_of_gt zlt) (Heap.get?_push_size _ rfl));rw[sz]at z10 T10;refine wpAny_pure ⟨_,rfl,?_⟩;show Q (.ref h7.objs.size) _;rw[sz];have itk:∀{i t:Addr} {m:Nat},i≠z->h7.IsTupleIter i t m->h10.IsTupleIter i t m:=fun ne ⟨o,e,r⟩=>⟨o,up _ o ne e,r⟩;have tuk:∀{t:Addr} {us:Array Value},t∉[z,TO,i1,i2,i3]->s.heap.IsTuple t us->h10.IsTuple t us:=fun ne ⟨o,e,r⟩=>⟨o,up _ o (fun q=>ne (by simp[q])) (B _ o ne e),r⟩
 refine hQ h10 ⟨z10,up _ _ tiz (B _ _ (by simp[tiz,tio,ti1,ti2,ti3]) hTI),⟨x,y,v,up _ _ (Ne.symm n1) o7⟩,itk (Ne.symm n2) i17,itk (Ne.symm n3) i27,itk (Ne.symm n4) i37,
  tuk (by simp [t1z,t1o,t11,t12,t13]) a1,tuk (by simp [t2z,t2o,t21,t22,t23]) a2,tuk (by simp [t3z,t3o,t31,t32,t33]) a3⟩ T10 fun c o hc e=>up c o (fun q=>hc (by simp [q])) (B c o hc e)
theorem akL{z TI TO i1 i2 i3 t1 t2 t3:Addr}{xs ys zs:Array Value}{k:Nat}{Q:Fin->SP0}(hh:A.handled=none)(D:Apart3 z TI TO i1 i2 i3 t1 t2 t3)(S:Zip3 s.heap z TI TO i1 i2 i3 t1 t2 t3 xs ys zs .none k)(hx:xs[k]?=none)
  (hE:∀h' e,But [z,TO,i1,i2,i3] s.heap h'->(∃o,h'.get? e=some o/\o.cls= .type "StopIteration")->E (.ref e) { s with heap:=h' }):
  wpAny (model prog w) A (Builtin.«zip.__next__» ⟨[.ref z],[]⟩) Q E s:=by
 obtain⟨hz,hTI,⟨a,b,c,hTO⟩,g1,g2,g3,a1,a2,a3⟩:=S;obtain⟨nd,ti,s1,s2,s3⟩:=D;simp only[List.nodup_cons,List.mem_cons,List.not_mem_nil,or_false,not_or]at nd ti s1 s2 s3;obtain⟨⟨n1,n2,n3,n4⟩,⟨n5,n6,n7⟩,⟨n8,n9⟩,n10,_⟩:=nd;refine wpAny_bind (m:=field (.ref z) 2) (wpAny_field hz rfl (x:= .bool false) rfl ?_);refine wpAny_bind (m:=field (.ref z) 3) (wpAny_field hz rfl (x:= .ref TI) rfl ?_);refine wpAny_bind (wpAny_seqItems hTI rfl ?_);refine wpAny_bind (m:=Builtin.SmallTypes.ownedTupleIsFree (.ref z)) ?_;unfold Builtin.SmallTypes.ownedTupleIsFree;refine wpAny_bind (wpAny_field hz rfl (x:= .none) rfl (wpAny_pure ?_));simp only[zzM];refine wpAny_bind (wpAny_rule ?_);refine wpAny_bind (wpAny_field hz rfl (x:= .ref TO) rfl ?_);refine wpAny_bind (wpAny_setField_rec hz (by simp) fun h1 hz1 b1=>?_)
 replace hz1:IsZip h1 z TI TO .ellipsis:=hz1
 refine wpAny_bind ?_;simp only[List.zipIdx_cons,List.zipIdx_nil,List.forIn_cons,List.forIn_nil];refine wpAny_bind (wpAny_bind (wpAny_onRaise ?_));refine wpAny_bind (m:=Builtin.SmallTypes.nextOf (.ref i1)) ?_;refine ajl hh (g1.extBut b1.extBut (Ne.symm n2)) (a1.extBut b1.extBut s1.1) hx fun h2 e b2 he=>?_;obtain⟨oe,ho,hc⟩:=he;have z2:IsZip h2 z TI TO .ellipsis:=b2 _ _ n2 hz1;have ez:e≠z:=fun q=>by subst q;rw[z2]at ho;cases ho;simp at hc
 refine wpAny_setField_rec z2 (by simp) fun h3 _ b3=>?_;exact hE h3 e (((But.of b1.extBut (by simp)).trans (But.of b2 (by simp))).trans (But.of b3.extBut (by simp))) ⟨oe,b3.extBut _ _ ez ho,hc⟩
end
structure ZipC(h:Heap)(z TI TO i1 i2 i3 t1 t2 t3:Addr)(f0:Value)(k:Nat):Prop where
 hz:IsZip h z TI TO f0
 hTI:aam h TI (.ref i1) (.ref i2) (.ref i3)
 hTO:∃a b c,aam h TO a b c
 g1:h.IsTupleIter i1 t1 k
 g2:h.IsTupleIter i2 t2 k
 g3:h.IsTupleIter i3 t3 k
theorem ZipC.all{h:Heap}{z TI TO i1 i2 i3 t1 t2 t3:Addr}{f0:Value}{k:Nat}(S:ZipC h z TI TO i1 i2 i3 t1 t2 t3 f0 k){xs ys zs:Array Value}(a1:h.IsTuple t1 xs)(a2:h.IsTuple t2 ys)(a3:h.IsTuple t3 zs):
  Zip3 h z TI TO i1 i2 i3 t1 t2 t3 xs ys zs f0 k:=⟨S.hz,S.hTI,S.hTO,S.g1,S.g2,S.g3,a1,a2,a3⟩
theorem Zip3.c{h:Heap}{z TI TO i1 i2 i3 t1 t2 t3:Addr}{xs ys zs:Array Value}{f0:Value}{k:Nat}(S:Zip3 h z TI TO i1 i2 i3 t1 t2 t3 xs ys zs f0 k):ZipC h z TI TO i1 i2 i3 t1 t2 t3 f0 k:=⟨S.hz,S.hTI,S.hTO,S.g1,S.g2,S.g3⟩
theorem ZipC.keep{h h':Heap}{z TI TO i1 i2 i3 t1 t2 t3:Addr}{f0:Value}{k:Nat}(S:ZipC h z TI TO i1 i2 i3 t1 t2 t3 f0 k)(kp:∀b∈[z,TI,TO,i1,i2,i3],∀o,h.get? b=some o->h'.get? b=some o):
  ZipC h' z TI TO i1 i2 i3 t1 t2 t3 f0 k:=by
 obtain⟨hz,hTI,⟨a,b,c,hTO⟩,⟨o1,e1,r1⟩,⟨o2,e2,r2⟩,⟨o3,e3,r3⟩⟩:=S;exact⟨kp z (by simp) _ hz,kp TI (by simp) _ hTI,⟨a,b,c,kp TO (by simp) _ hTO⟩,⟨o1,kp i1 (by simp) _ e1,r1⟩,⟨o2,kp i2 (by simp) _ e2,r2⟩,⟨o3,kp i3 (by simp) _ e3,r3⟩⟩
noncomputable def Itz(K:Fg)(t1 t2 t3:Addr):It:=
 ⟨fun i H=>∃xs ys zs x y v,SqT K H t1 xs/\SqT K H t2 ys/\SqT K H t3 zs/\xs[i]?=some x/\ys[i]?=some y/\zs[i]?=some v,
  fun i H u H'=>∃ p x y v,u= .ref p/\H p=none/\H'=upd H p (.tup [x,y,v])/\∀ xs ys zs,SqT K H t1 xs->SqT K H t2 ys->SqT K H t3 zs->xs[i]?=some x/\ys[i]?=some y/\zs[i]?=some v,
  fun i H=>∃ xs ys zs,SqT K H t1 xs/\SqT K H t2 ys/\SqT K H t3 zs/\xs.length<=i⟩
theorem akM{P:Program}{w:World}{K:Fg}{elts:List Expr}{x1:Nat}{pos:Pos}{z TI TO i1 i2 i3 t1 t2 t3:Addr}(nd:[z,TO,i1,i2,i3].Nodup)(ti:TI∉[z,TO,i1,i2,i3]):
  Turn P w K (.Tuple elts x1 pos) (Itz K t1 t2 t3) [z,TI,TO,i1,i2,i3] z (fun i h=>ZipC h z TI TO i1 i2 i3 t1 t2 t3 .none i) where
 mem:=by simp
 obj:=fun i h st b hb=>by
  obtain⟨hz,hTI,⟨a,b',c,hTO⟩,⟨o1,e1,_,d1⟩,⟨o2,e2,_,d2⟩,⟨o3,e3,_,d3⟩⟩:=st;simp only[List.mem_cons,List.not_mem_nil,or_false]at hb;rcases hb with rfl|rfl|rfl|rfl|rfl|rfl
  ·exact⟨_,hz,fun v q=>by cases q⟩
  ·exact⟨_,hTI,fun v q=>by cases q⟩
  ·exact⟨_,hTO,fun v q=>by cases q⟩
  ·exact⟨o1,e1,fun v q=>by rw[d1]at q;cases q⟩
  ·exact⟨o2,e2,fun v q=>by rw[d2]at q;cases q⟩
  ·exact⟨o3,e3,fun v q=>by rw[d3]at q;cases q⟩
 keep:=fun i h h' st k=>st.keep k
 item:=by
  intro X hP hw hK hc i Kp s σ H E I hf st hg;subst hP hw hK;obtain⟨xs,ys,zs,x,y,v,q1,q2,q3,ex,ey,ev⟩:=hg;obtain⟨us1,r1,p1,z1⟩:=I.tuple q1;obtain⟨us2,r2,p2,z2⟩:=I.tuple q2;obtain⟨us3,r3,p3,z3⟩:=I.tuple q3;obtain⟨u1,m1,l1⟩:=r1.get ex;obtain⟨u2,m2,l2⟩:=r2.get ey;obtain⟨u3,m3,l3⟩:=r3.get ev
  have trk:∀{t:Addr} {ws:List V},SqT X.K H t ws->t∉[z,TO,i1,i2,i3]:=fun {t ws} hq hb=>by
   have hb':t∈[z,TI,TO,i1,i2,i3]:=by
    simp only[List.mem_cons,List.not_mem_nil,or_false]at hb ⊢;rcases hb with e | e | e | e | e<;>simp[e]
   rcases hq with (e | ⟨o,e⟩) | ⟨o,its,n,hk,hcl,hs,_,_⟩
   ·have:=(hf t hb').1;rw[e]at this;cases this
   ·have:=(hf t hb').1;rw[e]at this;cases this
   ·-- an object of the module is no iterator of ours
    obtain⟨f0,f1,f2,f3,f4,f5⟩:=hf t hb';have hbase:=I.mod.kin t o hk;rcases f3 with q | q
    ·exact I.ok.noex t o hbase q
    ·exact absurd (Nat.lt_of_lt_of_le (Heap.lt_size hbase) (Nat.le_trans I.ok.bsz q)) (Nat.lt_irrefl _)
  have D:Apart3 z TI TO i1 i2 i3 t1 t2 t3:=⟨nd,ti,trk q1,trk q2,trk q3⟩;have S:=st.all (xs:=us1.toArray) (ys:=us2.toArray) (zs:=us3.toArray) p1 p2 p3;have hT:s.TypeIs (.ref z) "zip":=⟨_,st.hz,rfl⟩;unfold pyNext
  refine wpAny_bind (wpAny_attempt (wpAny_callSpecial?_slot (name:=Str.ofString "__next__") hT F.slot_zip_next
   (wpAny_call_entry F.slot_zip_next hT F.entry_zip_next (ajm D S (by simpa using m1) (by simpa using m2) (by simpa using m3) fun h1 S1 T1 B1=>wpAny_pure ?_)
    (F.args_zip_next_1 _))))
  refine⟨_,rfl,?_⟩;refine wpAny_letOwnedTupleGo_zip (s:={ s with heap:=h1 }) S1.hz fun h2 z2' b2=>?_;have nT:H s.heap.objs.size=none:=I.hok.fresh (Nat.le_refl _);have zlt:z<s.heap.objs.size:=Heap.lt_size st.hz;have T2:aam h2 s.heap.objs.size u1 u2 u3:=b2.extBut _ _ (Nat.ne_of_gt zlt) T1;have B2:But [z,TO,i1,i2,i3] s.heap h2:=B1.trans (But.of b2.extBut (by simp))
  have inF:∀b∈[z,TO,i1,i2,i3],b∈[z,TI,TO,i1,i2,i3]:=fun b hb=>by
   simp only[List.mem_cons,List.not_mem_nil,or_false]at hb ⊢;rcases hb with e | e | e | e | e<;>simp[e]
  have ntr:∀b u,H b=some u->b∉[z,TO,i1,i2,i3]:=fun b u e hb=>by
   have:=(hf b (inF b hb)).1;rw[e]at this;cases this
  have neT:∀b u,H b=some u->b≠s.heap.objs.size:=fun b u e q=>by rw[q,nT]at e;cases e
  have hok2:HOk X.prog X.w (upd H s.heap.objs.size (.tup [x,y,v])) h2:=fun b u e=>by
   by_cases hb:b=s.heap.objs.size
   ·subst hb
    rw[jq]at e;cases e;exact⟨by show 3<=sizeLine;rw[sizeLine_eq];decide,[u1,u2,u3],.cons l1 (.cons l2 (.cons l3 .nil)),⟨_,T2,rfl,_,rfl⟩⟩
   ·rw[jr hb]at e
    refine(I.hok b u e).stay (fun c o hc' q=>B2 c o ?_ q) (fun c q=>by rw[jr (neT c _ q)];exact q) fun c ws q=>by rw[jr (neT c _ q)];exact q
    rcases hc' with q' | q'
    ·rw[q'];exact ntr b u e
    ·exact ntr c _ q'
  have I2:Inv X Kp σ (upd H s.heap.objs.size (.tup [x,y,v])) { s with heap:=h2,toks:=s.toks }:=by
   refine I.step (g':=s.gens) (d':=s.drawn) (ch:=[z,TO,i1,i2,i3]) (fun b hb=>?_) (fun b o _ _ hb e _=>B2 b o hb e) (fun b o _ _ hb e _=>⟨o.slots,B2 b o hb e⟩) (fun b o hb e n=>?_) (fun b o hb e=>⟨o,B2 b o hb e⟩)
    (fun b ws e=>by rw[jr (neT b _ e)];exact e) (fun b ob ws e=>by rw[jr (neT b _ e)];exact e) (fun b ps e=>⟨#[],by rw[jr (neT b _ e),e];simp⟩) (fun m hm=>?_) hok2 I.bare
   ·obtain⟨f0,f1,f2,f3,f4,f5⟩:=hf b (inF b hb)
    exact⟨f3,f1,f4,f5⟩
   ·rw[jr (Nat.ne_of_lt (Heap.lt_size e))];exact n
   ·obtain⟨o,es,ep,ho,r⟩:=hm
    refine⟨o,es,ep,B2 _ o (fun hb=>?_) ho,r⟩;exact(hf _ (inF _ hb)).2.1 rfl
  refine⟨.ref s.heap.objs.size,_,I2,rfl,⟨_,x,y,v,rfl,nT,rfl,fun as bs cs g1 g2 g3=>?_⟩,?_,fun b hb=>?_⟩
  ·rw[I.tuple_inj g1 q1,I.tuple_inj g2 q2,I.tuple_inj g3 q3]
   exact⟨ex,ey,ev⟩
  ·have c1:=S1.c
   obtain⟨_,hTI,⟨a,b,c,hTO⟩,⟨o1,e1,w1⟩,⟨o2,e2,w2⟩,⟨o3,e3,w3⟩⟩:=c1;simp only[List.nodup_cons,List.mem_cons,List.not_mem_nil,or_false,not_or]at nd ti;obtain⟨⟨n1,n2,n3,n4⟩,_⟩:=nd;exact⟨z2',b2.extBut _ _ ti.1 hTI,⟨a,b,c,b2.extBut _ _ (Ne.symm n1) hTO⟩,⟨o1,b2.extBut _ _ (Ne.symm n2) e1,w1⟩,⟨o2,b2.extBut _ _ (Ne.symm n3) e2,w2⟩,⟨o3,b2.extBut _ _ (Ne.symm n4) e3,w3⟩⟩
  ·obtain⟨o,ho,_⟩:∃o,s.heap.get? b=some o/\True:=by
    obtain⟨hz,hTI,⟨a,b',c,hTO⟩,⟨o1,e1,_⟩,⟨o2,e2,_⟩,⟨o3,e3,_⟩⟩:=st;simp only[List.mem_cons,List.not_mem_nil,or_false]at hb;rcases hb with rfl|rfl|rfl|rfl|rfl|rfl
    ·exact⟨_,hz,trivial⟩
    ·exact⟨_,hTI,trivial⟩
    ·exact⟨_,hTO,trivial⟩
    ·exact⟨_,e1,trivial⟩
    ·exact⟨_,e2,trivial⟩
    ·exact⟨_,e3,trivial⟩
   rw[jr (Nat.ne_of_lt (Heap.lt_size ho))];exact(hf b hb).1
 done:=by
  intro X hP hw hK hc i Kp s σ H E I hf st hg;subst hP hw hK;obtain⟨xs,ys,zs,q1,q2,q3,hl⟩:=hg;obtain⟨us1,r1,p1,z1⟩:=I.tuple q1;obtain⟨us2,r2,p2,z2⟩:=I.tuple q2;obtain⟨us3,r3,p3,z3⟩:=I.tuple q3
  have trk:∀{t:Addr} {ws:List V},SqT X.K H t ws->t∉[z,TO,i1,i2,i3]:=fun {t ws} hq hb=>by
   have hb':t∈[z,TI,TO,i1,i2,i3]:=by
    simp only[List.mem_cons,List.not_mem_nil,or_false]at hb ⊢;rcases hb with e | e | e | e | e<;>simp[e]
   rcases hq with (e | ⟨o,e⟩) | ⟨o,its,n,hk,hcl,hs,_,_⟩
   ·have:=(hf t hb').1;rw[e]at this;cases this
   ·have:=(hf t hb').1;rw[e]at this;cases this
   ·obtain⟨f0,f1,f2,f3,f4,f5⟩:=hf t hb'
    have hbase:=I.mod.kin t o hk;rcases f3 with q | q
    ·exact I.ok.noex t o hbase q
    ·exact absurd (Nat.lt_of_lt_of_le (Heap.lt_size hbase) (Nat.le_trans I.ok.bsz q)) (Nat.lt_irrefl _)
  have D:Apart3 z TI TO i1 i2 i3 t1 t2 t3:=⟨nd,ti,trk q1,trk q2,trk q3⟩;have S:=st.all (xs:=us1.toArray) (ys:=us2.toArray) (zs:=us3.toArray) p1 p2 p3;have hT:s.TypeIs (.ref z) "zip":=⟨_,st.hz,rfl⟩;have hlen:=r1.length;unfold pyNext
  refine wpAny_bind (wpAny_attempt (wpAny_callSpecial?_slot (name:=Str.ofString "__next__") hT F.slot_zip_next
   (wpAny_call_entry F.slot_zip_next hT F.entry_zip_next (akL (I.ok.hd hc) D S (by simp; omega) fun h1 e B1 he=>?_)
    (F.args_zip_next_1 _))))
  obtain⟨o,ho,hcl⟩:=he;refine wpAny_bind (wpAny_isInstance (T:="StopIteration") (b:=true) ⟨o,ho,hcl⟩ isSubtype_stop ?_);refine wpAny_pure ⟨rfl,?_⟩
  have inF:∀b∈[z,TO,i1,i2,i3],b∈[z,TI,TO,i1,i2,i3]:=fun b hb=>by
   simp only[List.mem_cons,List.not_mem_nil,or_false]at hb ⊢;rcases hb with e | e | e | e | e<;>simp[e]
  have ntr:∀b u,H b=some u->b∉[z,TO,i1,i2,i3]:=fun b u e hb=>by
   have:=(hf b (inF b hb)).1;rw[e]at this;cases this
  refine I.step (t':=s.toks) (g':=s.gens) (d':=s.drawn) (ch:=[z,TO,i1,i2,i3]) (fun b hb=>?_) (fun b o _ _ hb e _=>B1 b o hb e) (fun b o _ _ hb e _=>⟨o.slots,B1 b o hb e⟩) (fun b o hb e n=>n) (fun b o hb e=>⟨o,B1 b o hb e⟩)
   (fun b ws e=>e) (fun b ob ws e=>e) (fun b ps e=>⟨#[],by rw[e];simp⟩) (fun m hm=>?_) (fun b u e=>?_) I.bare
  ·obtain⟨f0,f1,f2,f3,f4,f5⟩:=hf b (inF b hb)
   exact⟨f3,f1,f4,f5⟩
  ·obtain⟨o,es,ep,ho,r⟩:=hm
   refine⟨o,es,ep,B1 _ o (fun hb=>?_) ho,r⟩;exact(hf _ (inF _ hb)).2.1 rfl
  ·refine(I.hok b u e).stay (fun c o hc' q=>B1 c o ?_ q) (fun c q=>q) fun c ws q=>q
   rcases hc' with q' | q'
   ·rw[q'];exact ntr b u e
   ·exact ntr c _ q'
 self:=fun _ _ _ _ _ st h=>wpAny_pyIter_zip st.hz h
theorem adz(a b c:Value):checkTypeCall "zip" ⟨[a,b,c],[]⟩=pure ():=by kernel_rfl
theorem aeM(a b c:Value):checkBuiltinCall "zip.__new__" ⟨[.type "zip",a,b,c],[]⟩=pure ():=by kernel_rfl
theorem aha(a b c d:Value):argsOk "object.__init__" ⟨[a,b,c,d],[]⟩:=by
 unfold argsOk
 rw[signature?_of (id:="object.__init__") (n:=['_','_','t','i','n','i','_','_'])
  (o:=['t','c','e','j','b','o']) (by kernel_rfl) F.owner_object]
 kernel_rfl
noncomputable abbrev apt(t:Addr):Obj:={ cls:= .type "tuple_iterator",data:= .fields #[.ref t,.int 0 0] }
noncomputable abbrev zh1(h:Heap)(a:Addr):Heap:=h.push (apt a)
noncomputable abbrev zh2(h:Heap)(a b:Addr):Heap:=(zh1 h a).push (apt b)
noncomputable abbrev zh3(h:Heap)(a b c:Addr):Heap:=(zh2 h a b).push (apt c)
noncomputable abbrev zh4(h:Heap)(a b c:Addr):Heap:=(zh3 h a b c).push { cls:= .type "tuple",data:= .seq #[.ref h.objs.size,.ref (zh1 h a).objs.size,.ref (zh2 h a b).objs.size] }
noncomputable abbrev zh5(h:Heap)(a b c:Addr):Heap:=(zh4 h a b c).push { cls:= .type "tuple",data:= .seq #[.none,.none,.none] }
noncomputable abbrev zh6(h:Heap)(a b c:Addr):Heap:=(zh5 h a b c).push { cls:= .type "zip",data:= .fields #[.none,.bool false,.bool false,.ref (zh3 h a b c).objs.size,.ref (zh4 h a b c).objs.size] }
theorem akN(a b c:Addr)(xs ys zs:Array Value):
  Meets (Builtin.«zip.__new__» ⟨[.type "zip",.ref a,.ref b,.ref c],[]⟩) (fun _ R s=>s.heap.IsTuple a xs/\s.heap.IsTuple b ys/\s.heap.IsTuple c zs/\
   R (.ok (.ret (.ref (zh5 s.heap a b c).objs.size))) { s with heap:=zh6 s.heap a b c }):=
 .of_wp fun prog w A R s h=>by
  obtain⟨hp,g,d,tk,os⟩:=s;obtain⟨h1,h2,h3,h⟩:=h;have hsub:=sub_zip;have k1:Heap.IsTuple (Shared.heap ⟨hp,g,d,tk,os⟩) a xs:=h1;have k2:Heap.IsTuple (Shared.heap ⟨zh1 hp a,g,d,tk,os⟩) b ys:=Heap.IsTuple.push h2 _;have k3:Heap.IsTuple (Shared.heap ⟨zh2 hp a b,g,d,tk,os⟩) c zs:=Heap.IsTuple.push (Heap.IsTuple.push h3 _) _
  wp_walk using wpAny_pyIter_tuple k1,wpAny_pyIter_tuple k2,wpAny_pyIter_tuple k3
  exact⟨_,rfl,h⟩
section
variable {X:Cx}
noncomputable def aqX(K:Fg)(ta:TA):TI:=fun σ H R=>ta σ H fun vs H1=>∃a b c xs ys zs,vs=[.ref a,.ref b,.ref c]/\SqT K H1 a xs/\SqT K H1 b ys/\SqT K H1 c zs/\R (Itz K a b c) H1
theorem ano{ea eb ec:Expr}{elts:List Expr}{x1:Nat}{tp:Pos}{ta:TA}{p pos:Pos}(hg:Gl X "zip")(hm:X.mg "zip"=none)(ha:PA X [ea,eb,ec] ta)
  (hs:starEach [ea,eb,ec] X.env=[(false,eval ea X.env),(false,eval eb X.env),(false,eval ec X.env)]:=by rfl) (hs2:starEach [eb,ec] X.env=[(false,eval eb X.env),(false,eval ec X.env)]:=by rfl):
  PI X (.Tuple elts x1 tp) (.Call (.Name "zip" p) [ea,eb,ec] [] pos) (aqX X.K ta):=by
 intro Kp s σ H R I h;refine Call_ (QM I hg hm boot_zip (PyProof.Rows.callWith_type1 (thn (ha pos Kp s σ H _ I h) fun us s1 ⟨vs,H1,I1,r1,q1⟩=>?_) (by rw[hs,hs2]) (by rw[hs2];rfl)));obtain⟨a,b,c,xs,ys,zs,e,q1,q2,q3,q⟩:=q1;subst e;cases r1 with
 | cons r1 rr=>
  cases rr with
  | cons r2 rr=>
   cases rr with
   | cons r3 rr=>
    cases rr;cases r1;cases r2;cases r3;obtain⟨us1,v1,p1,z1⟩:=I1.tuple q1;obtain⟨us2,v2,p2,z2⟩:=I1.tuple q2;obtain⟨us3,v3,p3,z3⟩:=I1.tuple q3
    refine callType_new F.called_zip (by decide) (adz _ _ _) (aeM _ _ _) (fun obj=>aha obj _ _ _) F.entry_zip_new
     (akN a b c us1.toArray us2.toArray us3.toArray) ⟨p1,p2,p3,?_⟩
    have n1:(zh1 s1.heap a).objs.size=s1.heap.objs.size+1:=Heap.size_push ..;have n2:(zh2 s1.heap a b).objs.size=s1.heap.objs.size+2:=by rw[Heap.size_push,n1]
    have n3:(zh3 s1.heap a b c).objs.size=s1.heap.objs.size+3:=by rw[Heap.size_push,n2]
    have n4:(zh4 s1.heap a b c).objs.size=s1.heap.objs.size+4:=by rw[Heap.size_push,n3]
    have n5:(zh5 s1.heap a b c).objs.size=s1.heap.objs.size+5:=by rw[Heap.size_push,n4]
    have g6:(zh6 s1.heap a b c).get? (zh5 s1.heap a b c).objs.size=some _:=Heap.get?_push_size _ rfl;have g5:(zh6 s1.heap a b c).get? (zh4 s1.heap a b c).objs.size=some _:=Heap.get?_push_of_some _ (Heap.get?_push_size _ rfl);have g4:(zh6 s1.heap a b c).get? (zh3 s1.heap a b c).objs.size=some _:=Heap.get?_push_of_some _ (Heap.get?_push_of_some _ (Heap.get?_push_size _ rfl));have up3:∀x o,(zh3 s1.heap a b c).get? x=some o->(zh6 s1.heap a b c).get? x=some o:=fun x o e=>Heap.get?_push_of_some _ (Heap.get?_push_of_some _ (Heap.get?_push_of_some _ e));have g3:(zh6 s1.heap a b c).get? (zh2 s1.heap a b).objs.size=some _:=up3 _ _ (Heap.get?_push_size _ rfl);have g2:(zh6 s1.heap a b c).get? (zh1 s1.heap a).objs.size=some _:=up3 _ _ (Heap.get?_push_of_some _ (Heap.get?_push_size _ rfl));have g1:(zh6 s1.heap a b c).get? s1.heap.objs.size=some _:=up3 _ _ (Heap.get?_push_of_some _ (Heap.get?_push_of_some _ (Heap.get?_push_size _ rfl)));have kp:∀x o,s1.heap.get? x=some o->(zh6 s1.heap a b c).get? x=some o:=fun x o e=>up3 _ _ (Heap.get?_push_of_some _ (Heap.get?_push_of_some _ (Heap.get?_push_of_some _ e)));show _/\_;refine⟨⟨_,g6,rfl⟩,?_⟩;refine wpAny_pyIter_zip g6 ?_;have I2:Inv X Kp σ H1 { s1 with heap:=zh6 s1.heap a b c }:=I1.kept (t':=s1.toks) kp
    refine⟨_,[(zh5 s1.heap a b c).objs.size,(zh3 s1.heap a b c).objs.size,(zh4 s1.heap a b c).objs.size,s1.heap.objs.size,(zh1 s1.heap a).objs.size,(zh2 s1.heap a b).objs.size],
     _,_,H1,rfl,I2,akM (z:=(zh5 s1.heap a b c).objs.size) (TI:=(zh3 s1.heap a b c).objs.size) (TO:=(zh4 s1.heap a b c).objs.size) (i1:=s1.heap.objs.size) (i2:=(zh1 s1.heap a).objs.size) (i3:=(zh2 s1.heap a b).objs.size) (t1:=a) (t2:=b) (t3:=c) ?_ ?_,
     ⟨g6,g4,⟨_,_,_,g5⟩,⟨_,g1,rfl,rfl⟩,⟨_,g2,rfl,rfl⟩,⟨_,g3,rfl,rfl⟩⟩,fun x hx=>?_,q⟩
    ·rw[n5,n4,n1,n2]
     simp[List.nodup_cons]
    ·rw[n3,n5,n4,n1,n2]
     simp
    ·have hle:s1.heap.objs.size<=x:=by
      rw[n5,n3,n4,n1,n2]at hx;simp only[List.mem_cons,List.not_mem_nil,or_false]at hx;rcases hx with e | e | e | e | e | e<;>rw[e]<;>first|exact Nat.le_refl _|exact Nat.le_add_right _ _
     exact I1.fpOk hle (I1.hok.fresh hle)
noncomputable def QV:LP->LP->LP->LP
 |x::xs,y::ys,z::zs=> .tuple [x,y,z]::QV xs ys zs
 |_,_,_=>[]
noncomputable def aii(ds:LP):Option (LP):=match ds with
 | [.tuple xs,.tuple ys,.tuple zs]=>if xs.length=ys.length/\ys.length=zs.length then some (QV xs ys zs) else none
 |_=>none
theorem adX:∀(xs ys zs:LP),xs.length=ys.length->ys.length=zs.length->(QV xs ys zs).length=xs.length
 | [],_,_,_,_=>by simp[QV]
 |x::xs,[],_,h,_=>by simp at h
 |x::xs,y::ys,[],_,h=>by simp at h
 |x::xs,y::ys,z::zs,h,g=>by simp[QV,adX xs ys zs (by simpa using h) (by simpa using g)]
theorem adY:∀(xs ys zs:LP) (i:Nat) (d:PyData),(QV xs ys zs)[i]?=some d->∃x y z,xs[i]?=some x/\ys[i]?=some y/\zs[i]?=some z/\d= .tuple [x,y,z]
 | [],_,_,i,d,h=>by simp[QV]at h
 |x::xs,[],_,i,d,h=>by simp[QV]at h
 |x::xs,y::ys,[],i,d,h=>by simp[QV]at h
 |x::xs,y::ys,z::zs,0,d,h=>by simp[QV]at h;exact⟨x,y,z,rfl,rfl,rfl,h.symm⟩
 | x::xs,y::ys,z::zs,i+1,d,h=>by
  obtain⟨a,b,c,e1,e2,e3,e4⟩:=adY xs ys zs i d (by simpa[QV]using h);exact⟨a,b,c,by simpa using e1,by simpa using e2,by simpa using e3,e4⟩
theorem akO{ea eb ec:Expr}{elts:List Expr}{x1:Nat}{tp:Pos}{p pos:Pos}{fr:Rho->Option (LP)}(hm:X.mg "zip"=none)(ha:PAD X [ea,eb,ec] fr)(hg:Gl X "zip":=by rfl)
  (hs:starEach [ea,eb,ec] X.env=[(false,eval ea X.env),(false,eval eb X.env),(false,eval ec X.env)]:=by rfl) (hs2:starEach [eb,ec] X.env=[(false,eval eb X.env),(false,eval ec X.env)]:=by rfl):
  PID X (.Tuple elts x1 tp) (.Call (.Name "zip" p) [ea,eb,ec] [] pos) (fun ρ=>(fr ρ).bind aii):=by
 with_unfolding_all
  refine PI.imp (ano hg hm ha hs hs2) fun σ H R ⟨ρ,ds,en,q,k⟩=>?_;cases h1:fr ρ with
  |none=>simp[h1]at q
  | some as=>
   have q':aii as=some ds:=by simpa[h1]using q
   refine⟨ρ,as,en,h1,fun vs H1 s1 r1=>?_⟩;unfold aii at q';split at q'
   ·rename_i xs ys zs
    split at q'
    ·rename_i hl
     cases q';obtain⟨v1,w1,e1,⟨a,us1,ea',qa,ra⟩,v2,w2,e2,⟨b,us2,eb',qb,rb⟩,v3,w3,e3,⟨c,us3,ec',qc,rc⟩,e4⟩:=r1;cases (show w3=[] from e4);subst ea';subst eb';subst ec';subst e3;subst e2;have l1:=ra.length;have l2:=rb.length;have l3:=rc.length;have lz:=adX xs ys zs hl.1 hl.2;refine⟨a,b,c,us1,us2,us3,e1,qa,qb,qc,k _ H1 s1 fun i H2 s2=>⟨fun hi=>?_,fun hi=>?_,fun u H3 y=>?_⟩⟩
     ·rw[lz]at hi
      exact⟨us1,us2,us3,us1[i]'(by omega),us2[i]'(by omega),us3[i]'(by omega),jv.tup s2 qa,jv.tup s2 qb,jv.tup s2 qc,by simp<;>omega,by simp<;>omega,by simp<;>omega⟩
     ·rw[lz]at hi
      exact⟨us1,us2,us3,jv.tup s2 qa,jv.tup s2 qb,jv.tup s2 qc,by omega⟩
     ·obtain⟨pp,x,y,v,e5,e6,e7,e8⟩:=y
      subst e5;subst e7;refine⟨jE e6,fun d hd=>?_⟩;obtain⟨dx,dy,dz,g1,g2,g3,g4⟩:=adY xs ys zs i d hd;subst g4;obtain⟨f1,f2,f3⟩:=e8 us1 us2 us3 (jv.tup s2 qa) (jv.tup s2 qb) (jv.tup s2 qc);have m:=s2.trans (jp.a (jE (o:= .tup [x,y,v]) e6));obtain⟨x',a1,a2⟩:=(Reps.monoA m _ _ ra).get g1;obtain⟨y',b1,b2⟩:=(Reps.monoA m _ _ rb).get g2;obtain⟨z',c1,c2⟩:=(Reps.monoA m _ _ rc).get g3;rw[f1]at a1;cases a1;rw[f2]at b1;cases b1;rw[f3]at c1;cases c1;exact⟨pp,[x,y,v],rfl,SqT.of jq,x,_,rfl,a2,y,_,rfl,b2,v,_,rfl,c2,rfl⟩
    ·cases q'
   ·cases q'
noncomputable def tyn:PyData->String
 |.none=>"NoneType"
 |.bool _=>"bool"
 |.int _=>"int"
 |.str _=>"str"
 |.tuple _=>"tuple"
 |.list _=>"list"
 |.dict kvs=>if Jb kvs then "list" else "dict"
noncomputable def isFn:PyData->Bool
 |.dict [(.str _,_)]=>true
 |.dict [(.bool _,_)]=>true
 |_=>false
noncomputable def ab1(T:String)(d:PyData):OP:=if isFn d=true then none else some (.bool (tyn d==T||(T=="int" && tyn d=="bool")))
theorem akP{Kp:List (Addr×Obj)}{σ:St}{H:Hp}{s:Shared}{E:Value->SP0}{Q:Value->SP0}{d:PyData}{v:V}{u c:Value}{b:Bool}(I:Inv X Kp σ H s)(r:Rep X.K H d v)(hF:isFn d=false)(rv:jV v u)
  (e:PySem.W.kitOne X.K (.type (tyn d)) c=some b) (h:∀tk,Q (.bool b) { s with toks:=tk }):wpAny (model X.prog X.w) X.A (call (.builtin "isinstance") [u,c]) Q E s:=by
 cases d with
 |none=>cases r;cases rv;exact PySem.W.kia_one PySem.W.kitx_none I.kIn True.intro e (fun z=>nomatch z) h
 |bool y=>cases r;cases rv;exact PySem.W.kia_one PySem.W.kitx_bool I.kIn True.intro e (fun z=>nomatch z) h
 |int i=>cases r;obtain⟨t,rfl⟩:=rv;exact PySem.W.kia_one PySem.W.kitx_int I.kIn True.intro e (fun z=>nomatch z) h
 |str y=>cases r;obtain⟨t,rfl⟩:=rv;exact PySem.W.kia_one PySem.W.kitx_str I.kIn True.intro e (fun z=>nomatch z) h
 | tuple ds=>
  obtain⟨a,xs,e1,e2,e3⟩:=r;subst e1;cases rv;obtain⟨its,_,⟨o,h1,h2,_⟩,_⟩:=I.tuple e2;exact PySem.W.kia_one PySem.W.kitx_tuple I.kIn ⟨o,h1,h2⟩ e (fun z=>nomatch z) h
 | list ds=>
  obtain⟨a,xs,e1,e2,e3⟩:=r;subst e1;cases rv;obtain⟨its,_,⟨o,n,h1,h2,_⟩,_⟩:=I.list (SqL.of e2);exact PySem.W.kia_one PySem.W.kitx_list I.kIn ⟨o,h1,h2⟩ e (fun z=>nomatch z) h
 | dict ds=>
  obtain⟨a,e1,⟨ns,e2,e3⟩ | ⟨ks,ob,e2,e3⟩ | ⟨x,e2,_⟩ | ⟨x,_,_,e2,_⟩ | e2⟩:=r
  ·subst e1;cases rv
   subst e3;have e:PySem.W.kitOne X.K (.type "list") c=some b:=by simpa[tyn,adU]using e
   obtain⟨its,_,⟨o,n,h1,h2,_⟩,_⟩:=I.list e2;exact PySem.W.kia_one PySem.W.kitx_list I.kIn ⟨o,h1,h2⟩ e (fun z=>nomatch z) h
  ·subst e1;cases rv
   obtain⟨cc,rr,rfl,e4⟩:=e3.out;have e:PySem.W.kitOne X.K (.type "dict") c=some b:=by simpa[tyn,Jb]using e
   obtain⟨_,_,vs,_,dd⟩:=aqP I.hok (.inr ⟨ob,e2⟩);obtain⟨o,es,ep,h1,h2,_⟩:=dd;exact PySem.W.kia_one PySem.W.kitx_dict I.kIn ⟨o,h1,h2.1⟩ e (fun z=>nomatch z) h
  ·subst e2;simp[isFn]at hF
  ·subst e2;simp[isFn]at hF
  ·subst e2;simp[isFn]at hF
noncomputable def ash(K:Fg)(T:String):List V->Hp->VK->Prop:=fun xs H Q=>∃x d b,xs=[x,.ty T]/\Rep K H d x/\isFn d=false/\PySem.W.kitOne K (.type (tyn d)) (.type T)=some b/\Q (.bl b) H
theorem akQ{T:String}:JD X (.builtin "isinstance") (ash X.K T):=by
 intro Kp s σ H xs us Q I r ⟨x,d,b,e,h1,hF,h2,q⟩;subst e;obtain⟨u,w',rfl,r1,r2⟩:=ah3 r;cases (show w'=_ from r2);exact akP I h1 hF r1 h2 fun tk=>⟨.bl b,H,I.tok tk,rfl,q⟩
noncomputable def Qb(T:String)(d:PyData):Bool:=tyn d==T||(T=="int" && tyn d=="bool")
@[simp] theorem aqn(T:String):ab1 T .none=some (.bool (Qb T .none)):=rfl
@[simp] theorem aqo(T:String)(b:Bool):ab1 T (.bool b)=some (.bool (Qb T (.bool b))):=rfl
@[simp] theorem aqY(T:String)(i:Int):ab1 T (.int i)=some (.bool (Qb T (.int i))):=rfl
@[simp] theorem aqZ(T:String)(x:Str):ab1 T (.str x)=some (.bool (Qb T (.str x))):=rfl
@[simp] theorem apu(T:String)(ds:LP):ab1 T (.tuple ds)=some (.bool (Qb T (.tuple ds))):=rfl
@[simp] theorem aqp(T:String)(ds:LP):ab1 T (.list ds)=some (.bool (Qb T (.list ds))):=rfl
theorem akR{T:String}{d e:PyData}(h:ab1 T d=some e):isFn d=false/\e= .bool (Qb T d):=by
 unfold ab1 at h;split at h
 ·cases h
 ·rename_i hf;cases h;exact⟨by simpa using hf,rfl⟩
theorem anp{K:Fg}{T:String}(hT:T="bool" ∨ T="int" ∨ T="tuple")(d:PyData):PySem.W.kitOne K (.type (tyn d)) (.type T)=some (Qb T d):=by
 rcases hT with rfl|rfl|rfl<;>cases d<;>first|rfl | (rename_i kvs;by_cases h:Jb kvs=true<;>simp only[tyn,Qb,h]<;>rfl)
theorem abf{a:Expr}{fa:RP}{T:Str}{Tn:String}{p p2 pos:Pos}(hT:Tn="bool" ∨ Tn="int" ∨ Tn="tuple")(hm1:X.mg "isinstance"=none)(hm2:X.mg T=none)(hv:bootBuiltins T=some (.type Tn))(ha:PD X a fa)
  (hg1:Gl X "isinstance":=by rfl) (hg2:Gl X T:=by rfl) (hn:T≠"__name__":=by decide) (hd:(T==("__debug__":Str))=false:=by decide)
  (he:starEach [a,.Name T p2] X.env=[(false,eval a X.env),(false,eval (.Name T p2) X.env)]:=by rfl) (he2:starEach [.Name T p2] X.env=[(false,eval (.Name T p2) X.env)]:=by rfl) (hpl:(backTo pos (starEach [.Name T p2] X.env)).any (·.1)=false:=by rfl):
  PD X (.Call (.Name "isinstance" p) [a,.Name T p2] [] pos) (fun ρ=>(fa ρ).bind fun d=>ab1 Tn d):=by
 with_unfolding_all
  have hT2:PE X (.Name T p2) (tC (.ty Tn)):=amV hg2 hm2 hv rfl hn hd;refine PE.imp (acE (akQ (T:=Tn)) hg1 hm1 (by decide +kernel) (qR ha (qR hT2 Jk (by rw[he2];rfl)) (by rw[he,he2])) (by decide) (by decide) (by rw[he,he2]) hpl) fun σ H Q ⟨ρ,d,en,q,k⟩=>?_;cases h1:fa ρ with
  |none=>simp[h1]at q
  | some c=>
   obtain⟨hF,rfl⟩:=akR (show ab1 Tn c=some d by simpa[h1]using q);exact⟨ρ,c,en,h1,fun v H1 s1 r1=>⟨v,c,_,rfl,r1,hF,anp hT c,k _ H1 s1 rfl⟩⟩
end
noncomputable def zP(H H':Hp):Prop:=∀b o,H b=some o->(∀xs,o ≠ .lst xs)->H' b=some o
theorem jp.n{H H':Hp}(e:jp H H'):zP H H':=fun b o h _=>e b o h
theorem zP.refl(H:Hp):zP H H:=fun _ _ h _=>h
theorem zP.trans{H H1 H2:Hp}(a:zP H H1)(b:zP H1 H2):zP H H2:=fun c o h n=>b c o (a c o h n) n
theorem zP.upd{H:Hp}{p:Addr}{xs ys:List V}(hp:H p=some (.lst xs)):zP H (upd H p (.lst ys)):=fun b o h n=>by
 have:b≠p:=fun e=>by subst e;rw[hp]at h;cases h;exact n _ rfl
 rw[jr this];exact h
mutual
noncomputable def noL:PyData->Bool
 |.none=>true
 |.bool _=>true
 |.int _=>true
 |.str _=>true
 |.tuple ds=>noLs ds
 |.list _=>false
 |.dict _=>false
noncomputable def noLs:LP->Bool
 | []=>true
 |d::ds=>noL d&&noLs ds
end
section
variable {K:Fg}{H H':Hp}
theorem zP.tup{a:Addr}{xs:List V}(e:zP H H')(h:SqT K H a xs):SqT K H' a xs:=by
 rcases h with (h | ⟨o,h⟩) | h
 ·exact .inl (.inl (e _ _ h fun _ z=>nomatch z))
 ·exact .inl (.inr ⟨o,e _ _ h fun _ z=>nomatch z⟩)
 ·exact .inr h
mutual
theorem Rep.monoN(e:zP H H'):∀(d:PyData) (v:V),noL d=true->Rep K H d v->Rep K H' d v
 |.none,v,_,h=>h
 |.bool _,v,_,h=>h
 |.int _,v,_,h=>h
 |.str _,v,_,h=>h
 |.tuple ds,v,n,⟨a,xs,h1,h2,h3⟩=>⟨a,xs,h1,zP.tup e h2,Reps.monoN e ds xs (by simpa[noL]using n) h3⟩
 |.list ds,v,n,h=>by simp[noL]at n
 |.dict ds,v,n,h=>by simp[noL]at n
theorem Reps.monoN(e:zP H H'):∀(ds:LP) (xs:List V),noLs ds=true->Reps K H ds xs->Reps K H' ds xs
 | [],xs,_,h=>h
 | d::ds,xs,n,⟨x,r,h1,h2,h3⟩=>by
  have n':noL d=true/\noLs ds=true:=by simpa[noLs]using n
  exact⟨x,r,h1,Rep.monoN e d x n'.1 h2,Reps.monoN e ds r n'.2 h3⟩
end
theorem QW:∀(ds es:LP),noLs (ds++es)=(noLs ds&&noLs es)
 | [],es=>by simp[noLs]
 |d::ds,es=>by simp[noLs,QW ds es,Bool.and_assoc]
theorem QY:∀{ds:LP},(∀d∈ds,noL d=true)->noLs ds=true
 | [],_=>rfl
 |d::ds,h=>by simp[noLs,h d List.mem_cons_self,QY fun x hx=>h x (List.mem_cons_of_mem _ hx)]
end
end BX
end
section
namespace BX
open PySem PySem.Spec L2
open PyProof.Rows hiding St
noncomputable def jh(P:Program)(w:World)(K:Fg)(mg:SV)(base:Heap)(x:Str)(ps:List Str)(k n:Nat)(g:LP->OP):Prop:=
 ∃(f:Addr) (fd:FuncData),FnOk P w K mg base CX0 k f fd ps (Pur K n g)/\mg x=some (.ref f)/\PySem.W.keepIn K (.ref f)=true/\zB K fd ps []
theorem jg:∀(ρ:Rho) (ds:LP),jA ρ=some ds->ds.length=0:=fun ρ ds h=>by cases h;rfl
theorem jc{fa:RP}{fr:Rho->Option (LP)}{n:Nat}(h:∀(ρ:Rho) (ds:LP),fr ρ=some ds->ds.length=n):∀(ρ:Rho) (ds:LP),jo fa fr ρ=some ds->ds.length=n+1:=fun ρ ds q=>by
 cases h1:fa ρ with
 |none=>simp[jo,h1]at q
 | some x=>
  cases h2:fr ρ with
  |none=>simp[jo,h1,h2]at q
  | some r=>
   have:x::r=ds:=by simpa[jo,h1,h2]using q
   subst this;simp[h ρ r h2]
section
variable {X:Cx}{e:Expr}{es:List Expr}{pos:Pos}
theorem ji{k j n:Nat}{ps:List Str}{g:LP->OP}{x:Str}{p:Pos}{fr:Rho->Option (LP)}(c:jh X.prog X.w X.K X.mg X.base x ps k n g)(hr:Room j X.A)(hkj:k<=j)(ha:PAD X (e::es) fr)
  (hl:∀(ρ:Rho) (ds:LP),fr ρ=some ds->ds.length=n) (hn:(e::es).length=n:=by rfl) (hg:Gl X x:=by rfl) (hdb:(x==("__debug__":Str))=false:=by decide) (he:starEach (e::es) X.env=(false,eval e X.env)::starEach es X.env:=by rfl)
  (hpl:(backTo pos (starEach es X.env)).any (·.1)=false:=by rfl):PD X (.Call (.Name x p) (e::es) [] pos) (jB g fr):=by
 with_unfolding_all
  obtain⟨f,fd,h1,h2,h3,h4⟩:=c;exact ank h1 (hr.mono hkj) h2 h3 h4 hn ha (fun ρ ds q=>by rw[hl ρ ds q,hn]) hg hdb he hpl
end
theorem aan{ft:Rho->Option Bool}{fe:RP}{i:Nat}(p:PyData->Bool)(h:PyData->PyData):∀(ds:LP) (τ:Rho),(∀d∈ds,ft (τ.set i (some d))=some (p d))->(∀d∈ds,p d=true->fe (τ.set i (some d))=some (h d))->
  qD (jS i) ft fe ds τ=some ((ds.filter p).map h)
 | [],τ,_,_=>rfl
 | d::ds,τ,h1,h2=>by
  have ih:=aan p h ds (τ.set i (some d)) (fun c hc=>by rw[List.set_set];exact h1 c (List.mem_cons_of_mem _ hc)) (fun c hc hp=>by rw[List.set_set];exact h2 c (List.mem_cons_of_mem _ hc) hp);simp only[qD,jS,zzD,h1 d List.mem_cons_self];by_cases hp:p d=true
  ·simp[hp,h2 d List.mem_cons_self hp,ih,List.filter_cons]
  ·simp[hp,ih,List.filter_cons]
theorem Qi{fe:RP}{i:Nat}(h:PyData->PyData)(ds:LP)(τ:Rho)(h2:∀d∈ds,fe (τ.set i (some d))=some (h d)):qD (jS i) anj fe ds τ=some (ds.map h):=by
 rw[aan (fun _=>true) h ds τ (fun _ _=>rfl) (fun d hd _=>h2 d hd),List.filter_eq_self.mpr (fun _ _=>rfl)]
noncomputable def aij(st:Scope)(N:List Str)(sc:Scope)(N':List Str)(cap:List (Option Nat)):Bool:=
 sc.names.all (fun x=>!decide (x.2= .free)||decide (st.names.lookup x.1=some .cell)||decide (st.names.lookup x.1=some .free))&&sc.names.all (fun x=>!decide (x.2= .cell))&&decide (sc.kind= .function) &&
 sc.names.all (fun x=>!decide (x.2= .local)||decide (sc.names.lookup x.1=some .local))&&decide (cap.length=N'.length) &&
 (List.range N'.length).all (fun j=>match N'[j]?,cap[j]? with
  | some x,some (some i)=>decide (N[i]?=some x) && decide (sc.names.lookup x=some .free)
  | _,_=>true)
theorem QA{X:Cx}{sc:Scope}{N':List Str}{cap:List (Option Nat)}(st:Scope)(N:List Str)(h:aij st N sc N' cap=true)(hst:X.env.scope=st:=by rfl)(hN:X.N=N:=by rfl):CompOk X sc N' cap:=by
 simp only[aij,Bool.and_eq_true,List.all_eq_true,Bool.or_eq_true,Bool.not_eq_true',decide_eq_true_eq,decide_eq_false_iff_not]at h;obtain⟨⟨⟨⟨⟨h1,h2⟩,h3⟩,h4⟩,h5⟩,h6⟩:=h;subst hst;subst hN;refine⟨fun x hx e=>?_,h2,h3,fun x hx e=>?_,h5,fun j i x e1 e2=>?_⟩
 ·rcases h1 x hx with (z | z) | z
  ·exact absurd e z
  ·exact .inl z
  ·exact .inr z
 ·rcases h4 x hx with z | z
  ·exact absurd e z
  ·exact z
 ·have hj:j<N'.length:=(List.getElem?_eq_some_iff.mp e1).1
  have:=h6 j (List.mem_range.mpr hj);rw[e1,e2]at this;simpa using this
noncomputable def Cx.inB(X:Cx):Cx:={ X with A:=X.A.in1,xe:=NoX }
theorem Cx.Ok.inB{X:Cx}(ok:X.Ok):(Cx.inB X).Ok:=
 ⟨ok.mod,ok.kind,ok.glob,ok.blt,ok.above,ok.inj,ok.has,ok.cab,fun h=>ok.hd h,ok.frames,ok.stk,ok.exf,ok.bs,ok.bsz,ok.noex,ok.exfs,ok.funs,ok.frf⟩
theorem Cx.Ok.outB{X:Cx}(ok:(Cx.inB X).Ok):X.Ok:=
 ⟨ok.mod,ok.kind,ok.glob,ok.blt,ok.above,ok.inj,ok.has,ok.cab,fun h=>ok.hd h,ok.frames,ok.stk,ok.exf,ok.bs,ok.bsz,ok.noex,ok.exfs,ok.funs,ok.frf⟩
section
variable {X:Cx}{Kp:List (Addr×Obj)}{σ:St}{H:Hp}{s:Shared}
theorem Inv.inB(I:Inv X Kp σ H s):Inv (Cx.inB X) Kp σ H s:=⟨Cx.Ok.inB I.ok,I.os,I.bare,I.base,I.loc,I.cell,I.free,I.freeC,I.pin,I.hok,I.len⟩
theorem Inv.outB(I:Inv (Cx.inB X) Kp σ H s):Inv X Kp σ H s:=⟨Cx.Ok.outB I.ok,I.os,I.bare,I.base,I.loc,I.cell,I.free,I.freeC,I.pin,I.hok,I.len⟩
end
theorem aq0{prog:Program}{w:World}{A:Around}{E:Value->SP0}{s:Shared}{a b:Int}{t u:Tok}{Q:Value->SP0}(h:Q (.bool (decide (a<b))) s):wpAny (model prog w) A (richCompare .Lt (.int a t) (.int b u)) Q E s:=
 CmpOf.ints_lt (prog:=prog) (w:=w) (A:=A) (P:=fun (i:Nat) v=>∃t,v= .int (if i=0 then a else b) t) (fun i=>if i=0 then a else b) (fun _ _ q=>q) 0 1 _ _ _ _ _ ⟨t,rfl⟩ ⟨u,rfl⟩ h
noncomputable def ZV(kf:PyData->Int):PyData->LP->PyData
 |b,[]=>b
 |b,d::r=>if kf d<kf b then ZV kf d r else ZV kf b r
noncomputable def adA(kf:PyData->Int):OP->LP->PyData
 |none,[]=> .none
 |none,d::r=>ZV kf d r
 |some b,r=>ZV kf b r
noncomputable def lob(us:Array Value)(c:Nat):Obj:={ cls:= .type "list",data:= .seq us c }
structure Own1(X:Cx)(Kp:List (Addr×Obj))(b:Addr):Prop where
 h1:b≠X.env.locals
 h2:b∉X.fs
 h3:X.s₀.heap.objs.size<=b
 h4:∀x c,X.env.cells.lookup x=some c->c≠b
 h5:∀p∈X.pn++Kp,p.1≠b
noncomputable def akS(K:Fg)(H:Hp)(h:Heap)(S:Addr)(kf:PyData->Int):OP->Prop
 |none=>∃c,h.get? S=some (lob #[] c)
 |some b=>∃x u t c,Rep K H b x/\jV x u/\h.get? S=some (lob #[u,.int (kf b) t] c)
theorem aik{h:Heap}{S:Addr}{us ws:Array Value}{c:Nat}(ho:h.get? S=some (lob us c)):∃c2,(h.update S (Obj.mapSeq fun _=>ws)).get? S=some (lob ws c2):=by
 have e:=Heap.get?_update_self (Obj.mapSeq fun _=>ws) ho rfl;exact⟨_,e⟩
theorem aao:(toString "min"++toString ".loop":String)="min.loop":=by decide
theorem ajn{X:Cx}{k:Nat}{f:Addr}{fd:FuncData}{ps:List Str}{g:LP->OP}{kf:PyData->Int}{ds:LP}{xs:List V}{l it S:Addr}{Kp:List (Addr×Obj)}{σ:St}{R:Result->SP0}(hc:X.calm=true)
  (FO:FnOk X.prog X.w X.K X.mg X.base CX0 k f fd ps (Pur X.K 1 g)) (hr:Room (k+1) X.A) (hb:zB X.K fd ps []) (hk:∀d∈ds,g [d]=some (.int (kf d))) (oI:Own1 X Kp it) (oS:Own1 X Kp S) (nIS:it≠S) (nlI:l≠it) (nlS:l≠S):
  ∀(r:LP) (i:Nat) (bo:OP) (s:Shared) (H:Hp),ds.drop i=r->Inv (Cx.inB X) Kp σ H s->H l=some (.lst xs)->Reps X.K H ds xs->H it=none->H S=none->s.heap.IsListIter it l i->akS X.K H s.heap S kf bo->
   (∀v u s' H',Inv (Cx.inB X) Kp σ H' s'->jp H H'->jV v u->Rep X.K H' (adA kf bo r) v->R (.ok (.ret u)) s')->
   codeAny (model X.prog X.w) X.A (.builtin "min.loop" ⟨[.ref it,.ref f,.ref S],[("default",.none)]⟩) R s:=by
 have fpo:∀{b:Addr} {H:Hp} {pl:List (Addr×Obj)},Own1 X Kp b->H b=none->(∀p∈pl,p.1≠b)->aa5 (Cx.inB X) (Kp++pl) H b:=fun {b H pl} o hn hp=>⟨hn,o.h1,o.h2,.inr o.h3,o.h4,fun p hq z=>by
  rcases List.mem_append.mp (show p ∈ X.pn++(Kp++pl) from hq) with q | q
  ·exact o.h5 p (List.mem_append_left _ q) z
  ·rcases List.mem_append.mp q with q | q
   ·exact o.h5 p (List.mem_append_right _ q) z
   ·exact hp p q z⟩
 intro r
 induction r with
 | nil=>
  intro i bo s H hd I hl hR hI hS st hB fin;obtain⟨its,rv,p,hz⟩:=I.list (SqL.of (K:=X.K) hl)
  have hle:ds.length<=i:=by
   have:=congrArg List.length hd;simp at this;omega
  have hlen:=hR.length;have hvl:=rv.length;have f0:=fpo (pl:=[]) oI hI (fun _ z=>nomatch z);obtain⟨q0,q1,q2,q3,q4,q5⟩:=f0;refine codeAny_builtin PySem.F.entry_min_loop ?_;rw[Around.under_plainId PySem.F.plain_min_loop _];cases bo with
  | none=>
   obtain⟨c,hSo⟩:=hB;refine wpAny_bind (m:=seqItems? (.ref S)) (wpAny_seqItems hSo rfl ?_);refine wpAny_bind (m:=tryCatch (pyNext (.ref it)) _) (wpAny_tryCatch (wpAny_pyNext_list_end (I.ok.hd hc) st p.isList (by simp;omega) fun h' eb=>?_));have I1:Inv (Cx.inB X) Kp σ H { s with heap:=h' }:=I.turned (t':=s.toks) (it:=it) (fun b o hb e=>eb b o hb e) hI oI.h1 (.inr oI.h3) oI.h4 oI.h5;refine wpAny_bind (m:=rule _) (wpAny_rule ?_);exact wpAny_pure (fin .non _ _ H I1 (jp.refl H) rfl rfl)
  | some b=>
   obtain⟨x,u,t,c,rx,ru,hSo⟩:=hB;refine wpAny_bind (m:=seqItems? (.ref S)) (wpAny_seqItems hSo rfl ?_);refine wpAny_bind (m:=tryCatch (pyNext (.ref it)) _) (wpAny_tryCatch (wpAny_pyNext_list_end (I.ok.hd hc) st p.isList (by simp;omega) fun h' eb=>?_));have I1:Inv (Cx.inB X) Kp σ H { s with heap:=h' }:=I.turned (t':=s.toks) (it:=it) (fun b o hb e=>eb b o hb e) hI oI.h1 (.inr oI.h3) oI.h4 oI.h5;have hS1:h'.get? S=some (lob #[u,.int (kf b) t] c):=eb S _ (Ne.symm nIS) hSo;refine wpAny_bind (m:=updateSeq S fun _=>#[]) ?_;refine wpAny_updateSeq hS1 rfl (wpAny_bind (wpAny_letGo (wpAny_pure ?_)));have I2:Inv (Cx.inB X) Kp σ H { s with heap:=h'.update S (Obj.mapSeq fun _=>(#[]:Array Value)) }:=Inv.turned (s:={ s with heap:=h' }) I1 (t':=s.toks) (it:=S) (fun b o hb e=>((Heap.SameBut.update h' S _).2 b hb).trans e) hS oS.h1 (.inr oS.h3) oS.h4 oS.h5;exact fin x u _ H I2 (jp.refl H) ru rx
 | cons d r ih=>
  intro i bo s H hd I hl hR hI hS st hB fin;obtain⟨its,rv,p,hz⟩:=I.list (SqL.of (K:=X.K) hl)
  have hi:ds[i]?=some d:=by
   have:(ds.drop i)[0]?=some d:=by rw[hd];rfl
   simpa using this
  have hd':ds.drop (i+1)=r:=by
   have:(ds.drop i).drop 1=r:=by rw[hd];rfl
   simpa[List.drop_drop,Nat.add_comm]using this
  have hmem:d∈ds:=List.mem_of_getElem? hi;obtain⟨x,hx,rx⟩:=hR.get hi;obtain⟨u,hu,ru⟩:=rv.get hx;refine codeAny_builtin PySem.F.entry_min_loop ?_;rw[Around.under_plainId PySem.F.plain_min_loop _]
  obtain⟨olds,hSo⟩:∃olds:Obj,s.heap.get? S=some olds/\(∀v,olds.data ≠ .cell v):=by
   cases bo with
   |none=>obtain⟨c,e⟩:=hB;exact⟨_,e,fun v z=>by cases z⟩
   |some b=>obtain⟨_,_,_,c,_,_,e⟩:=hB;exact⟨_,e,fun v z=>by cases z⟩
  obtain⟨hSo,hSc⟩:=hSo
  have nxt:∀{Q2:Option Value->SP0} {E2:Value->SP0},(∀h' oi,Inv (Cx.inB X) (Kp++[(S,olds),(it,oi)]) σ H { s with heap:=h' }->(oi.cls= .type "list_iterator"/\oi.data= .fields #[.ref l,.int ((i+1:Nat):Int) 0])->Q2 (some u) { s with heap:=h' })->
    wpAny (model X.prog X.w) X.A.in1 (pyNext (.ref it)) Q2 E2 s:=by
   intro Q2 E2 go;refine wpAny_pyNext_list_item st p.isList (x:=u) (by simpa using hu) fun h' st' sb=>?_;have I1:Inv (Cx.inB X) Kp σ H { s with heap:=h' }:=I.turned (t':=s.toks) (it:=it) (fun b o hb e=>(sb.2 b hb).trans e) hI oI.h1 (.inr oI.h3) oI.h4 oI.h5;have hS1:h'.get? S=some olds:=(sb.2 S (Ne.symm nIS)).trans hSo;obtain⟨oi,hoi,hci,hdi⟩:=id st';refine go h' oi (I1.pins_of fun q hq=>?_) ⟨hci,hdi⟩;rcases List.mem_append.mp hq with z | z
   ·exact I1.pin q (List.mem_append_right _ z)
   ·rcases List.mem_cons.mp z with e | z
    ·subst e;exact⟨hS1,hS,oS.h1,oS.h2,hSc⟩
    ·have e:q=(it,oi):=by simpa using z
     subst e;exact⟨hoi,hI,oI.h1,oI.h2,fun v z=>by rw[hdi]at z;cases z⟩
  have key:∀{Q3:Value->SP0} {E3:Value->SP0} {h':Heap} {oi:Obj},Inv (Cx.inB X) (Kp++[(S,olds),(it,oi)]) σ H { s with heap:=h' }->(oi.cls= .type "list_iterator"/\oi.data= .fields #[.ref l,.int ((i+1:Nat):Int) 0])->
    (∀t s2 H2,Inv (Cx.inB X) Kp σ H2 s2->jp H H2->H2 it=none->H2 S=none->s2.heap.IsListIter it l (i+1)->s2.heap.get? S=some olds->Q3 (.int (kf d) t) s2)->wpAny (model X.prog X.w) X.A.in1 (call (.ref f) [u]) Q3 E3 { s with heap:=h' }:=by
   intro Q3 E3 h' oi I1p ho go;have kk:(Pur X.K 1 g) [x] H (fun v H2=>v= .int (kf d)/\jp H H2) E0:=⟨[d],.int (kf d),rfl,⟨x,[],rfl,rx,rfl⟩,hk d hmem,fun v H2 s2 r2=>⟨r2,s2⟩⟩;refine wpAny_mono (aeB (X:=Cx.inB X) (dvs:=[]) (ds:=[]) (E:=E0) FO (Room.in1 hr) hb .nil acG I1p (.cons ru .nil) (by simpa using kk)) (fun kv s2 h2=>?_) fun _ _ z=>z.elim;obtain⟨v2,H2,I2,r2,e2,s2'⟩:=h2;subst e2;obtain⟨t,rfl⟩:=r2;have pS:=I2.pin (S,olds) (List.mem_append_right _ (List.mem_append_right _ (by simp)));have pI:=I2.pin (it,oi) (List.mem_append_right _ (List.mem_append_right _ (by simp)));have I2d:Inv (Cx.inB X) Kp σ H2 s2:=I2.pins_of fun q hq=>I2.pin q (List.mem_append_right _ (List.mem_append_left _ hq));exact go t s2 H2 I2d s2' pI.2.1 pS.2.1 ⟨oi,pI.1,ho.1,ho.2⟩ pS.1
  have back:∀{b2:PyData} {s2:Shared} {H2:Hp},Inv (Cx.inB X) Kp σ H2 s2->jp H H2->H2 it=none->H2 S=none->s2.heap.IsListIter it l (i+1)->akS X.K H2 s2.heap S kf (some b2)->adA kf bo (d::r)=adA kf (some b2) r->
    codeAny (model X.prog X.w) X.A (.builtin "min.loop" ⟨[.ref it,.ref f,.ref S],[("default",.none)]⟩) R s2:=fun {b2 s2 H2} I2 s12 hI2 hS2 st2 hB2 em=>
   ih (i+1) (some b2) s2 H2 hd' I2 (s12 _ _ hl) (Reps.mono s12 _ _ hR) hI2 hS2 st2 hB2 fun v u s' H' I' s' r' q'=>fin v u _ H' I' (s12.trans s') r' (by rw[em];exact q')
  cases bo with
  | none=>
   obtain⟨c,hSn⟩:=hB;rw[hSn]at hSo;cases hSo;refine wpAny_bind (m:=seqItems? (.ref S)) (wpAny_seqItems hSn rfl ?_);refine wpAny_bind (m:=tryCatch (pyNext (.ref it)) _) (wpAny_tryCatch (nxt fun h' oi I1p ho=>?_));refine wpAny_bind (m:=tryCatch (holding [u] (call (.ref f) [u])) _) (wpAny_tryCatch (wpAny_holding (key I1p ho fun t s2 H2 I2 s12 hI2 hS2 st2 hS2o=>?_)));refine wpAny_bind (m:=updateSeq S fun _=>#[u,.int (kf d) t]) ?_;refine wpAny_updateSeq hS2o rfl ?_;obtain⟨c2,hc2⟩:=aik (ws:=#[u,.int (kf d) t]) hS2o;have sb:=Heap.SameBut.update s2.heap S (Obj.mapSeq fun _=>#[u,.int (kf d) t]);have I3:Inv (Cx.inB X) Kp σ H2 { s2 with heap:=s2.heap.update S (Obj.mapSeq fun _=>#[u,.int (kf d) t]) }:=I2.turned (t':=s2.toks) (it:=S) (fun b o hb e=>(sb.2 b hb).trans e) hS2 oS.h1 (.inr oS.h3) oS.h4 oS.h5;obtain⟨oi,e1,e2⟩:=st2;rw[aao];exact wpAny_pure ⟨plainId_quiet PySem.F.plain_min_loop _,back (b2:=d) I3 s12 hI2 hS2 ⟨oi,(sb.2 it nIS).trans e1,e2⟩ ⟨x,u,t,c2,Rep.mono s12 _ _ rx,ru,hc2⟩ rfl⟩
  | some b=>
   obtain⟨xb,ub,tb,c,rb,rub,hSn⟩:=hB;rw[hSn]at hSo;cases hSo;refine wpAny_bind (m:=seqItems? (.ref S)) (wpAny_seqItems hSn rfl ?_);refine wpAny_bind (m:=tryCatch (pyNext (.ref it)) _) (wpAny_tryCatch (nxt fun h' oi I1p ho=>?_));refine wpAny_bind (m:=tryCatch (holding [u] (call (.ref f) [u])) _) (wpAny_tryCatch (wpAny_holding (key I1p ho fun t s2 H2 I2 s12 hI2 hS2 st2 hS2o=>?_)));refine wpAny_bind (m:=tryCatch (holding [u,.int (kf d) t] (richCompare .Lt (.int (kf d) t) (.int (kf b) tb) >>= _)) _) (wpAny_tryCatch (wpAny_holding (wpAny_bind (aq0 ?_))));refine wpAny_bind (wpAny_holding (wpAny_truthy_bool ?_));refine wpAny_bind (wpAny_letGo (wpAny_pure ?_));by_cases hlt:kf d<kf b
   ·simp only[hlt,decide_true,zzM]
    refine wpAny_bind (m:=updateSeq S fun _=>#[u,.int (kf d) t]) ?_;refine wpAny_updateSeq hS2o rfl (wpAny_bind (wpAny_letGo ?_));obtain⟨c2,hc2⟩:=aik (ws:=#[u,.int (kf d) t]) hS2o;have sb:=Heap.SameBut.update s2.heap S (Obj.mapSeq fun _=>#[u,.int (kf d) t]);have I3:Inv (Cx.inB X) Kp σ H2 { s2 with heap:=s2.heap.update S (Obj.mapSeq fun _=>#[u,.int (kf d) t]) }:=I2.turned (t':=s2.toks) (it:=S) (fun b o hb e=>(sb.2 b hb).trans e) hS2 oS.h1 (.inr oS.h3) oS.h4 oS.h5;obtain⟨oi,e1,e2⟩:=st2;rw[aao];exact wpAny_pure ⟨plainId_quiet PySem.F.plain_min_loop _,back (b2:=d) I3 s12 hI2 hS2 ⟨oi,(sb.2 it nIS).trans e1,e2⟩ ⟨x,u,t,c2,Rep.mono s12 _ _ rx,ru,hc2⟩ (by simp[adA,ZV,hlt])⟩
   ·simp only[hlt,decide_false,zzL,zzN]
    refine wpAny_bind (wpAny_letGo ?_);rw[aao];exact wpAny_pure ⟨plainId_quiet PySem.F.plain_min_loop _,back (b2:=b) I2 s12 hI2 hS2 st2 ⟨xb,ub,tb,c,Rep.mono s12 _ _ rb,rub,hS2o⟩ (by simp[adA,ZV,hlt])⟩
theorem ahb(a v d:Value):argsOk "min" ⟨[a],[("key",v),("default",d)]⟩:=by unfold argsOk;kernel_rfl
theorem afQ{X:Cx}{Kp:List (Addr×Obj)}{σ:St}{H:Hp}{s:Shared}(I:Inv X Kp σ H s){b:Addr}(hb:s.heap.objs.size<=b):Own1 X Kp b:=by
 obtain⟨_,h1,h2,h3,h4,h5⟩:=I.fpOk (H':=fun _=>none) hb rfl;exact⟨h1,h2,Nat.le_trans I.sz hb,h4,h5⟩
theorem ahc{X:Cx}{k:Nat}{f:Addr}{fd:FuncData}{ps:List Str}{g:LP->OP}{kf:PyData->Int}{ds:LP}{xs:List V}{l:Addr}{Kp:List (Addr×Obj)}{σ:St}{H:Hp}{s:Shared}{Q:VK}(hc:X.calm=true)
  (FO:FnOk X.prog X.w X.K X.mg X.base CX0 k f fd ps (Pur X.K 1 g)) (hr:Room (k+1) X.A) (hb:zB X.K fd ps []) (hk:∀d∈ds,g [d]=some (.int (kf d))) (I:Inv X Kp σ H s) (hl:H l=some (.lst xs)) (hR:Reps X.K H ds xs)
  (q:∀v H',jp H H'->Rep X.K H' (adA kf none ds) v->Q v H'):
  wpAny (model X.prog X.w) X.A (call (.builtin "min") [.ref l] [("key",.ref f),("default",.none)]) (EP X Kp σ Q) X.xe s:=by
 obtain⟨its,rv,p,hz⟩:=I.list (SqL.of (K:=X.K) hl);have hlt:l<s.heap.objs.size:=I.hok.lt hl;refine PyProof.Rows.kmk_tree PySem.F.kind_min PySem.F.plain_min PySem.F.entry_min (ahb _ _ _) ?_
 refine wpAny_bind (m:=Builtin.Builtins.bindParams "min" ["key","default"] 0 ⟨[],[("key",.ref f),("default",.none)]⟩)
  (wpAny_of_eq (show _=pure [some (.ref f),some .none] from rfl) ?_)
 refine wpAny_bind (wpAny_pure ?_);refine wpAny_bind (wpAny_pyIter_list p.isList ?_);refine wpAny_bind (wpAny_newList ?_ (Nat.zero_le _));rw[aao];refine wpAny_pure ⟨plainId_quiet PySem.F.plain_min_loop _,?_⟩;generalize hh1:s.heap.push { cls:= .type "list_iterator",data:= .fields #[.ref l,.int 0 0] }=h1;have n1:h1.objs.size=s.heap.objs.size+1:=by rw[←hh1];exact Heap.size_push ..
 have k2:∀b o,s.heap.get? b=some o->(h1.push { cls:= .type "list",data:= .seq ([]:List Value).toArray }).get? b=some o:=fun b o e=>Heap.get?_push_of_some _ (by rw[←hh1];exact Heap.get?_push_of_some _ e);have I2:Inv X Kp σ H { s with heap:=h1.push { cls:= .type "list",data:= .seq ([]:List Value).toArray } }:=I.kept (t':=s.toks) k2
 refine ajn (kf:=kf) hc FO hr hb hk (afQ I (Nat.le_refl _)) (afQ I (b:=h1.objs.size) (by rw[n1];exact Nat.le_succ _)) (by rw[n1];exact Nat.ne_of_lt (Nat.lt_succ_self _)) (Nat.ne_of_lt hlt) (by rw[n1];exact Nat.ne_of_lt (Nat.lt_succ_of_lt hlt))
  ds 0 none _ H rfl (Inv.inB I2) hl hR (I.hok.fresh (Nat.le_refl _)) (I.hok.fresh (by rw[n1];exact Nat.le_succ _)) ⟨_,Heap.get?_push_of_some _ (by rw[←hh1];exact Heap.get?_push_size _ rfl),rfl,rfl⟩ ⟨0,Heap.get?_push_size _ rfl⟩ fun v u s' H' I' s1 r' q'=>?_
 exact⟨v,H',Inv.outB I',r',q v H' s1 q'⟩
noncomputable def acP(g:LP->OP)(ds:LP):Bool:=ds.all fun d=>((g [d]).bind QL).isSome
noncomputable def aap(g:LP->OP)(d:PyData):Int:=((g [d]).bind QL).getD 0
noncomputable def abg(g:LP->OP):PyData->OP
 |.list ds=>if acP g ds=true then some (adA (aap g) none ds) else none
 |_=>none
theorem ajo{d:PyData}{i:Int}(h:QL d=some i):d= .int i:=by
 cases d<;>simp[QL]at h
 rw[h]
theorem akT{g:LP->OP}{ds:LP}(h:acP g ds=true):∀d∈ds,g [d]=some (.int (aap g d)):=fun d hd=>by
 have:=List.all_eq_true.mp h d hd;cases e:g [d]with
 |none=>simp[e]at this
 | some c=>
  cases e2:QL c with
  |none=>simp[e,e2]at this
  | some i=>
   have:=ajo e2;subst this;simp[aap,e,QL]
theorem ahd:bootBuiltins "min"=some (.builtin "min"):=by decide +kernel
theorem ahe:bootBuiltins "max"=some (.builtin "max"):=by decide +kernel
section
variable {X:Cx}{a:Expr}{fa:RP}{pos p p2 p3 kp kp2:Pos}{j3:Nat}
theorem akU{k j:Nat}{ps:List Str}{g:LP->OP}{x:Str}(hc:X.calm=true)(c:jh X.prog X.w X.K X.mg X.base x ps k 1 g)(hr:Room j X.A)(hkj:k+1<=j)(hm:X.mg "min"=none)(ha:PD X a fa)(hg:Gl X "min":=by rfl)(hgx:Gl X x:=by rfl)
  (hdb:(x==("__debug__":Str))=false:=by decide) (hs:starEach [a] X.env=[(false,eval a X.env)]:=by rfl):
  PD X (.Call (.Name "min" p) [a] [⟨some "key",.Name x p2,kp⟩,⟨some "default",.Constant .none j3 p3,kp2⟩] pos) (fun ρ=>(fa ρ).bind (abg g)):=by
 with_unfolding_all
  obtain⟨f,fd,FO,hmx,hkp,hb⟩:=c;intro Kp s σ H Q I h;obtain⟨ρ,d,en,q,kq⟩:=h;cases h1:fa ρ with
  |none=>simp[h1]at q
  | some y=>
   have q':abg g y=some d:=by simpa[h1]using q
   refine wpAny_Call_Name_kw (QM I hg hm ahd ?_);have hA:PA X [a] (afH (tD X.K fa) am2):=qR ha Jk (by rw[hs];rfl);have hK:PK X [⟨some "key",.Name x p2,kp⟩,⟨some "default",.Constant .none j3 p3,kp2⟩] (afH (tC (.ref f)) (afH (tC .non) am2)):=ah5 (aev hgx hmx rfl hdb) (ah5 akb ape);refine callWith_kw (thn (hA pos Kp s σ H (fun vs H1=>∃v,vs=[v]/\jp H H1/\Rep X.K H1 y v) I ⟨ρ,y,en,h1,fun v H1 s1 r1=>⟨v,rfl,s1,r1⟩⟩) fun us s1 ⟨vs,H1,I1,r1,v,e1,s1',rv⟩=>?_) (by rw[hs];rfl) (by rw[hs];rfl);subst e1;obtain⟨u,rfl,ru⟩:=adM r1;refine thn (hK pos Kp s1 σ H1 (fun zs H2=>zs=[.ref f,.non]/\H2=H1) I1 ⟨rfl,rfl⟩) fun ws s2 ⟨zs,H2,I2,r2,e2,e3⟩=>?_;subst e2;subst e3;obtain⟨w1,w2,rfl,a1,a2⟩:=ah3 r2;cases (show w1=_ from a1);cases (show w2=_ from a2);cases y with
   | list ds=>
    by_cases hko:acP g ds=true
    ·have:adA (aap g) none ds=d:=by simpa[abg,hko]using q'
     subst this;obtain⟨l,xs,e4,e5,e6⟩:=rv;subst e4;cases (show u=_ from ru);exact ahc (kf:=aap g) hc FO (hr.mono hkj) hb (akT hko) I2 e5 e6 fun v H' s' r'=>kq v H' (s1'.trans s') r'
    ·simp[abg,hko]at q'
   |_=>simp[abg]at q'
end
noncomputable def ail:Int->List Int->Int
 |b,[]=>b
 |b,d::r=>if d>b then ail d r else ail b r
noncomputable def apv:Option Int->List Int->PyData
 |none,[]=> .none
 |none,d::r=> .int (ail d r)
 |some b,r=> .int (ail b r)
section
variable {X:Cx}{a:Expr}{fa:RP}{pos p p3 kp2:Pos}{j3:Nat}
end
end BX
end
section
namespace BX.Srt
open PySem PySem.W
open PyProof.Rows (mirror bubble mirror_size mirror_perm bubble_size bubble_perm getElem?_mirror_all getElem?_bubble)
section
variable (rk:Nat->Int)(n:Nat)
noncomputable def val(p:Array Nat)(k:Nat):Int:=rk (p.getD k 0)
noncomputable def OKp(p:Array Nat):Prop:=p.Perm (List.range n).toArray
end
section
variable {rk:Nat->Int}{n:Nat}{p p':Array Nat}
theorem OKp.size(h:OKp n p):p.size=n:=by
 have:=h.size_eq;simpa using this
theorem OKp.lt(h:OKp n p){k:Nat}(hk:k<n):p.getD k 0<n:=by
 have hs:=h.size;have e:p.getD k 0=p[k]'(by omega):=by simp[Array.getD,hs,hk]
 have:p[k]'(by omega)∈(List.range n).toArray:=h.mem_iff.mp (Array.getElem_mem _);rw[e];simpa using this
theorem OKp.rev(h:OKp n p)(i j:Nat):OKp n (kas_rev p i j):=(mirror_perm p i j _).trans h
end
variable {rk:Nat->Int}{n:Nat}{cmp:Nat->Nat->(Bool->SP0)->SP0}
section
variable {s:Shared}(hc:∀i j (C:Bool->SP0),i<n->j<n->C (decide (rk i<rk j)) s->cmp i j C s)
include hc
end
end BX.Srt
end
section
namespace BX
open PySem PySem.Spec L2
open PyProof.Rows hiding St
section
variable {prog:Program}{w:World}{A:Around}{E:Value->SP0}{s:Shared}
end
theorem zh.there{P:Program}{w:World}{H:Hp}{h:Heap}{a:Addr}{o:HO}(x:zh P w H h a o):∃u,h.get? a=some u:=by
 cases o with
 |lst xs=>obtain⟨_,_,_,_,e⟩:=x;exact⟨_,e⟩
 |tup xs=>obtain⟨_,_,_,u,e,_⟩:=x;exact⟨_,e⟩
 |dK kvs=>obtain⟨_,_,_,_,o,_,_,e,_⟩:=x;exact⟨_,e⟩
 |dT kvs=>obtain⟨_,_,_,_,o,_,_,e,_⟩:=x;exact⟨_,e⟩
 |set S n=>obtain⟨o,_,_,_,e,_⟩:=x;exact⟨_,e⟩
 |ins C dx fs=>obtain⟨_,_,_,e,_⟩:=x;exact⟨_,e⟩
 |own y=>obtain⟨_,e⟩:=x;exact⟨_,e⟩
 |xd fs=>obtain⟨_,⟨_,_,_,e,_⟩,_⟩:=x;exact⟨_,e⟩
 |rng lo hi=>obtain⟨_,_,_,e⟩:=x;exact⟨_,e⟩
 |frz ob u=>obtain⟨e,_⟩:=x;exact⟨_,e⟩
 |tbl ps=>exact⟨_,(show h.get? a=some _ from x)⟩
 |met f y=>exact⟨_,(show h.get? a=some _ from x)⟩
 |ext φ=>obtain⟨_,⟨_,e⟩,_⟩:=x;exact⟨_,e⟩
noncomputable def aq1(p:Int×Int):PyData:= .tuple [.int p.1,.int p.2]
noncomputable def inB(p:Int×Int):Bool:=decide (0<=p.2)&&decide (p.2<1000000)
structure PairAt(h:Heap)(u:Value)(p:Int×Int):Prop where
 ex:∃a o k t t',u= .ref a/\h.get? a=some o/\o.cls= .type "tuple"/\o.data= .seq #[.int p.1 t,.int p.2 t'] k
section
variable {X:Cx}
variable {a b:Expr}{fa fb:RP}{pos p2:Pos}
noncomputable def apw:PyData->OP
 |.int i=>some (.int (-i))
 |_=>none
theorem akV(h:PD X a fa):PD X (.UnaryOp .USub a pos) (fun ρ=>(fa ρ).bind apw):=by
 with_unfolding_all
  refine PE.imp (aoz akp h) fun σ H Q ⟨ρ,d,en,q,k⟩=>?_;cases h1:fa ρ with
  |none=>simp[h1]at q
  | some y=>
   refine⟨ρ,y,en,h1,fun v H1 s1 r1=>?_⟩;have q':apw y=some d:=by simpa[h1]using q
   cases y with
   |int i=>cases q';cases (show v=_ from r1);exact⟨i,rfl,k _ H1 s1 rfl⟩
   |_=>cases q'
end
variable {X:Cx}
end BX
end
section
namespace BX
open PySem PySem.Spec L2
open PyProof.Rows hiding St
variable {X:Cx}
noncomputable def adB(f:Expr->OP):List Expr->Option (LP)
 | []=>some []
 |e::es=>(f e).bind fun d=>(adB f es).map fun ds=>d::ds
noncomputable def lit:Nat->Expr->OP
 |0,_=>none
 | n+1,e=>match e with
  |.Constant (.int i) _ _=>some (.int i)
  |.Constant (.bool b) _ _=>some (.bool b)
  |.Constant .none _ _=>some .none
  |.Constant (.str x) _ _=>some (.str x)
  |.Tuple es _ _=>(adB (lit n) es).bind fun ds=>if few ds=true then some (.tuple ds) else none
  |.List es _=>(adB (lit n) es).bind fun ds=>if few ds=true then some (.list ds) else none
  |_=>none
theorem PD.as{e:Expr}{F G:RP}(h:PD X e F)(hi:∀ρ d,G ρ=some d->F ρ=some d):PD X e G:=by
 with_unfolding_all exact(PE.imp h fun σ H Q ⟨ρ,d,en,q,k⟩=>⟨ρ,d,en,hi ρ d q,k⟩)
theorem PAD.as{es:List Expr}{F G:Rho->Option (LP)}(h:PAD X es F)(hi:∀ρ d,G ρ=some d->F ρ=some d):PAD X es G:=by
 with_unfolding_all exact(PA.imp h fun σ H Q ⟨ρ,d,en,q,k⟩=>⟨ρ,d,en,hi ρ d q,k⟩)
noncomputable def akW(e:Expr):Prop:=∀(es:List Expr) (env:Env),starEach (e::es) env=(false,eval e env)::starEach es env
theorem aeN{f:Expr->OP}(hf:∀e d,f e=some d->PD X e (cst d)/\akW e):∀(es:List Expr) (ds:LP),adB f es=some ds->PAD X es (fun _=>some ds)
 | [],ds,h=>by cases h;exact jd
 | e::es,ds,h=>by
  cases h1:f e with
  |none=>simp[adB,h1]at h
  | some d=>
   cases h2:adB f es with
   |none=>simp[adB,h1,h2]at h
   | some r=>
    have:d::r=ds:=by with_unfolding_all simpa[adB,h1,h2]using h
    subst this;obtain⟨p,st⟩:=hf e d h1;exact(ja p (aeN hf es r h2) (st es X.env)).as fun ρ d' q=>by cases q;simp[jo,cst]
theorem ahf:∀(n:Nat) (e:Expr) (d:PyData),lit n e=some d->PD X e (cst d)/\akW e
 |0,e,d,h=>by cases h
 | n+1,e,d,h=>by
  unfold lit at h;split at h
  ·cases h;exact⟨jj,fun _ _=>rfl⟩
  ·cases h;exact⟨zl,fun _ _=>rfl⟩
  ·cases h;exact⟨apl,fun _ _=>rfl⟩
  ·cases h;exact⟨akC,fun _ _=>rfl⟩
  ·rename_i es x1 pos
   cases h1:adB (lit n) es with
   |none=>simp[h1]at h
   | some ds=>
    by_cases hf:few ds=true
    ·have:PyData.tuple ds=d:=by with_unfolding_all simpa[h1,hf]using h
     subst this;exact⟨(QP (aeN (ahf n) es ds h1)).as fun ρ d' q=>by cases q;simp[ab0,hf],fun _ _=>rfl⟩
    ·simp[h1,hf]at h
  ·rename_i es pos
   cases h1:adB (lit n) es with
   |none=>simp[h1]at h
   | some ds=>
    by_cases hf:few ds=true
    ·have:PyData.list ds=d:=by simpa[h1,hf]using h
     subst this;exact⟨(Z3 (aeN (ahf n) es ds h1)).as fun ρ d' q=>by cases q;simp[Jo,hf],fun _ _=>rfl⟩
    ·simp[h1,hf]at h
  ·cases h
theorem ahg(n:Nat){e:Expr}(d:PyData)(h:lit n e=some d):PD X e (cst d):=by
 with_unfolding_all exact((ahf n e d h).1)
end BX
end
section
namespace BX
open PySem L2
open PyProof.Rows hiding St
noncomputable def jP(K:Fg)(x:Str)(st:Stmt):Prop:=
 ∃(f:Addr) (oc:Value) (od an:Option Addr) (kV doc pm Kc ct:Value) (osl:Array (Option Value)),PySem.W.nsIn K mainGlobals x=some (some (.ref f))/\
  K.lookup f=some ⟨oc,od,.func (PySem.W.fnOf x x (zZ st) (jG st) (je st) .none kV doc pm an Kc ct),osl⟩/\PySem.W.codeIn K Kc x=true/\PySem.W.keepIn K (.ref f)=true
theorem akX{K:Fg}{x:Str}{st:Stmt}{f:Addr}{oc:Value}{od an:Option Addr}{kV doc pm Kc ct:Value}{osl:Array (Option Value)}(a:PySem.W.nsIn K mainGlobals x=some (some (.ref f)))
  (l:K.lookup f=some ⟨oc,od,.func (PySem.W.fnOf x x (zZ st) (jG st) (je st) .none kV doc pm an Kc ct),osl⟩) (c:PySem.W.codeIn K Kc x=true) (k:PySem.W.keepIn K (.ref f)=true):jP K x st:=
 ⟨f,oc,od,an,kV,doc,pm,Kc,ct,osl,a,l,c,k⟩
noncomputable abbrev jt(x:Str)(st:Stmt)(ps:List Str):Prop:=∀(kV doc pm:Value) (an:Option Addr) (Kc ct:Value) (us:List Value),us.length=ps.length->bindArgs (PySem.W.fnOf x x (zZ st) (jG st) (je st) .none kV doc pm an Kc ct) ⟨us,[]⟩=pure (ps.zip us)
theorem jP.callee{P:Program}{w:World}{K:Fg}{mg:SV}{base h:Heap}{x:Str}{st:Stmt}{ps:List Str}{k n:Nat}{g:LP->OP}(T:jP K x st)(X:K.In h)(G:h.Ns mainGlobals mg)
  (hb:jt x st ps) (F:∀(f:Addr) (fd:FuncData),Fun K x x st f fd->FnOk P w K mg base CX0 k f fd ps (Pur K n g)):jh P w K mg base x ps k n g:=by
 obtain⟨f,oc,od,an,kV,doc,pm,Kc,ct,osl,a,l,c,kp⟩:=T;have F1:=QO (st:=st) l c kp;exact⟨f,_,F f _ F1,PySem.W.mg_of X G a,kp,F1.binds hb⟩
theorem jh.as{P:Program}{w:World}{K:Fg}{mg:SV}{base:Heap}{x:Str}{ps:List Str}{k n:Nat}{g g':LP->OP}(C:jh P w K mg base x ps k n g)(h:∀ds d,g' ds=some d->g ds=some d):jh P w K mg base x ps k n g':=by
 obtain⟨f,fd,F,a,b,c⟩:=C;exact⟨f,fd,aqT F fun ds d _ q=>h ds d q,a,b,c⟩
theorem acQ{K:Fg}{mg:SV}{h:Heap}{x:Str}{a:Addr}{ob:Obj}{ds:LP}(X:K.In h)(G:h.Ns mainGlobals mg)(e:PySem.W.nsIn K mainGlobals x=some (some (.ref a)))(l:K.lookup a=some ob)
  (hc:ob.cls= .type "tuple") (hi:∃(its:Array Value) (n:Nat) (xs:List V),ob.data= .seq its n/\its.size<=sizeLine/\jH xs its.toList/\∀H,Reps K H ds xs):∃v u,mg x=some u/\jV v u/\∀H,Rep K H (.tuple ds) v:=by
 obtain⟨its,n,xs,h1,h2,h3,h4⟩:=hi;exact⟨.ref a,.ref a,PySem.W.mg_of X G e,rfl,fun H=>⟨a,xs,rfl,.inr ⟨ob,its,n,l,hc,h1,h2,h3⟩,h4 H⟩⟩
end BX
end
section
namespace BX
open PySem PySem.Spec L2
open PyProof.Rows hiding St
noncomputable def qk(a:Addr)(xs:List V):HO:= .ext fun h=>xs.length<=sizeLine/\∃(its:List Value) (n:Nat),jH xs its/\h.get? a=some { cls:= .type "list",data:= .seq its.toArray n }
noncomputable def aoE(P:Program)(w:World)(a:Addr)(ob:Obj)(ks:List (Key×V)):HO:= .ext fun h=>h.get? a=some ob/\ks.length<=sizeLine/\(a==sysModules)=false/\∃vs,KV ks vs/\h.DictOf (aah P w) a vs
inductive Seal (P:Program) (w:World) (a:Addr):HO->HO->Prop where
 |l (xs:List V):Seal P w a (qk a xs) (.lst xs)
 |d (ob:Obj) (ks:List (Key×V)):Seal P w a (aoE P w a ob ks) (.frz ob (.dK ks))
theorem Seal.ext{P:Program}{w:World}{a:Addr}{c o:HO}(S:Seal P w a c o):∃φ,c= .ext φ:=by cases S<;>exact⟨_,rfl⟩
section
variable {X:Cx}{Kp:List (Addr×Obj)}{σ:St}{H:Hp}{s:Shared}{a:Addr}{c o:HO}
theorem Inv.opened(I:Inv X Kp σ H s)(S:Seal X.prog X.w a c o)(e:H a=some c):Inv X Kp σ (upd H a o) s:=by
 have q:=I.hok a c e;have mu:Mut (H a):=by rw[e];obtain⟨φ,rfl⟩:=S.ext;trivial
 cases S with
 | l xs=>
  obtain⟨h1,h2,_⟩:=q;exact I.write (x:=a) (e:=a) (h':=s.heap) (t':=s.toks) mu (.inl rfl) (fun _ _ _ z=>z) h2 h1
 | d ob ks=>
  obtain⟨h1,h2,_⟩:=q;exact I.write (x:=a) (e:=a) (h':=s.heap) (t':=s.toks) mu (.inl rfl) (fun _ _ _ z=>z) h2 ⟨h1.1,h1.2⟩
theorem Inv.redesc{o1 o2:HO}(I:Inv X Kp σ H s)(h1:H a=some o1)(n1:∀y,o1 ≠ .own y)(n2:∀xs,o1 ≠ .tup xs)(n3:∀ps,o1 ≠ .tbl ps)(nf:∀ob u,X.H₀ a≠some (.frz ob u))(new:zh X.prog X.w (upd H a o2) s.heap a o2):Inv X Kp σ (upd H a o2) s:=by
 have na:∀b,H b=none->upd H a o2 b=none:=fun b z=>by
  have:b≠a:=fun q=>by subst q;rw[h1]at z;cases z
  rw[jr this];exact z
 refine⟨I.ok,I.os,I.bare,⟨I.base.keep,I.base.slot,fun b u q n hx=>na b (I.base.free b u q n hx),I.base.there,fun b xs q=>?_,fun b ob u q=>?_,fun b ps q=>?_⟩,I.loc,I.cell,na _ I.free,fun x c' q=>na _ (I.freeC x c' q),fun p hp=>?_,fun b u q=>?_,I.len⟩
 ·have q':=I.base.tups b xs q
  have:b≠a:=fun z=>by subst z;rw[h1]at q';cases q';exact n2 _ rfl
  rw[jr this];exact q'
 ·have:b≠a:=fun z=>by subst z;exact nf _ _ q
  rw[jr this];exact I.base.frzs b ob u q
 ·obtain⟨more,q'⟩:=I.base.tbls b ps q
  have:b≠a:=fun z=>by subst z;rw[h1]at q';cases q';exact n3 _ rfl
  exact⟨more,by rw[jr this];exact q'⟩
 ·obtain⟨g1,g2,g3⟩:=I.pin p hp
  exact⟨g1,na _ g2,g3⟩
 ·by_cases hb:b=a
  ·subst hb
   rw[jq]at q;cases q;exact new
  ·rw[jr hb]at q
   refine(I.hok b u q).stay (fun c' v _ z=>z) (fun c' z=>?_) fun c' xs z=>?_
   ·have:c'≠a:=fun m=>by subst m;rw[h1]at z;cases z;exact n1 _ rfl
    rw[jr this];exact z
   ·have:c'≠a:=fun m=>by subst m;rw[h1]at z;cases z;exact n2 _ rfl
    rw[jr this];exact z
theorem Inv.nofrz{φ:Heap->Prop}(I:Inv X Kp σ H s)(e:H a=some (.ext φ)):∀ob u,X.H₀ a≠some (.frz ob u):=fun ob u z=>by
 have:=I.base.frzs _ _ _ z;rw[e]at this;cases this
theorem Inv.closed(I:Inv X Kp σ H s)(S:Seal X.prog X.w a c o)(e:H a=some o)(nf:∀ob u,X.H₀ a≠some (.frz ob u)):Inv X Kp σ (upd H a c) s:=by
 have q:=I.hok a o e;cases S with
 | l xs=>
  obtain⟨h1,its,n,h2,h3⟩:=q;refine I.write (x:=a) (e:=a) (h':=s.heap) (t':=s.toks) (by rw[e];trivial) (.inl rfl) (fun _ _ _ z=>z) ⟨_,h3⟩ ⟨⟨h1,its,n,h2,h3⟩,⟨_,h3⟩,?_⟩
  rintro g1 g2 ⟨z1,its,n,z2,z3⟩ k
  exact⟨z1,its,n,z2,k _ z3⟩
 | d ob ks=>
  obtain⟨h0,h1,h2,vs,h3,ob',es,ep,h4,h5⟩:=q;refine Inv.redesc I e (fun _ z=>nomatch z) (fun _ z=>nomatch z) (fun _ z=>nomatch z) nf ⟨⟨h0,h1,h2,vs,h3,ob',es,ep,h4,h5⟩,⟨_,h4⟩,?_⟩
  rintro g1 g2 ⟨z0,z1,z2,vs,z3,ob',es,ep,z4,z5⟩ k
  exact⟨k _ z0,z1,z2,vs,z3,ob',es,ep,k _ z4,z5⟩
end
mutual
noncomputable def noD:PyData->Bool
 |.tuple ds=>noDs ds
 |.list ds=>noDs ds
 |.dict _=>false
 |_=>true
noncomputable def noDs:LP->Bool
 | []=>true
 |d::ds=>noD d&&noDs ds
end
noncomputable def afR(H H':Hp):Prop:=∀b o,H b=some o->(∀ob ks,o ≠ .frz ob (.dK ks))->H' b=some o
section
variable {K:Fg}{H H':Hp}
theorem afR.tup{a:Addr}{xs:List V}(e:afR H H')(h:SqT K H a xs):SqT K H' a xs:=by
 rcases h with (h | ⟨o,h⟩) | h
 ·exact .inl (.inl (e _ _ h fun _ _ z=>nomatch z))
 ·exact .inl (.inr ⟨o,e _ _ h fun _ _ z=>nomatch z⟩)
 ·exact .inr h
mutual
theorem Rep.monoM(e:afR H H'):∀(d:PyData) (v:V),noD d=true->Rep K H d v->Rep K H' d v
 |.none,v,_,h=>h
 |.bool _,v,_,h=>h
 |.int _,v,_,h=>h
 |.str _,v,_,h=>h
 |.tuple ds,v,n,⟨a,xs,h1,h2,h3⟩=>⟨a,xs,h1,afR.tup e h2,Reps.monoM e ds xs (by simpa[noD]using n) h3⟩
 |.list ds,v,n,⟨a,xs,h1,h2,h3⟩=>⟨a,xs,h1,e _ _ h2 (fun _ _ z=>nomatch z),Reps.monoM e ds xs (by simpa[noD]using n) h3⟩
 |.dict ds,v,n,h=>by simp[noD]at n
theorem Reps.monoM(e:afR H H'):∀(ds:LP) (xs:List V),noDs ds=true->Reps K H ds xs->Reps K H' ds xs
 | [],xs,_,h=>h
 | d::ds,xs,n,⟨x,r,h1,h2,h3⟩=>by
  have n':noD d=true/\noDs ds=true:=by simpa[noDs]using n
  exact⟨x,r,h1,Rep.monoM e d x n'.1 h2,Reps.monoM e ds r n'.2 h3⟩
end
end
noncomputable def okB(c d:PyData):Bool:=match c with
 |.list _=>noL d
 |.dict _=>noD d
 |_=>false
noncomputable def aaq(P:Program)(w:World)(K:Fg)(H:Hp)(a:Addr):PyData->Prop
 |.list ds=>∃xs,H a=some (qk a xs)/\Reps K H ds xs
 |.dict kvs=>∃ks r ob,kvs=(.none,.none)::r/\H a=some (aoE P w a ob ks)/\RepM K H r ks
 |_=>False
theorem aaq.out{P:Program}{w:World}{K:Fg}{H:Hp}{a:Addr}{d:PyData}(h:aaq P w K H a d):∃c o,Seal P w a c o/\H a=some c/\
  (∀H',jW H H'->H' a=some o->Rep K H' d (.ref a))/\(∀H',jW H H'->H' a=some c->aaq P w K H' a d)/\
  ∀x H3 v,okB d x=true->H3 a=some o->Rep K H3 x v->Rep K (upd H3 a c) x v:=by
 cases d with
 | list ds=>
  obtain⟨xs,h1,h2⟩:=h
  exact⟨_,_,.l xs,h1,fun H' e q=>⟨a,xs,rfl,q,Reps.monoE e _ _ h2⟩,fun H' e q=>⟨xs,q,Reps.monoE e _ _ h2⟩,fun x H3 v n q r=>Rep.monoN (fun b u hb m=>by
   have:b ≠ a:=fun z=>by subst z; rw [q] at hb; cases hb; exact m _ rfl
   rw [jr this]; exact hb) x v n r⟩
 | dict kvs=>
  obtain⟨ks,r,ob,rfl,h1,h2⟩:=h
  exact⟨_,_,.d ob ks,h1,fun H' e q=>⟨a,rfl,.inr (.inl ⟨ks,ob,q,show RepM K H' r ks from RepM.monoE e _ _ h2⟩)⟩,fun H' e q=>⟨ks,r,ob,rfl,q,RepM.monoE e _ _ h2⟩,fun x H3 v n q r=>Rep.monoM (fun b u hb m=>by
   have:b ≠ a:=fun z=>by subst z; rw [q] at hb; cases hb; exact m _ _ rfl
   rw [jr this]; exact hb) x v n r⟩
 |none=>exact h.elim
 |bool _=>exact h.elim
 |int _=>exact h.elim
 |str _=>exact h.elim
 |tuple _=>exact h.elim
theorem jW.upd{H:Hp}{a:Addr}{φ:Heap->Prop}{o:HO}(e:H a=some (.ext φ)):jW H (upd H a o):=fun b u h n=>by
 have:b≠a:=fun z=>by subst z;rw[e]at h;cases h;exact n _ rfl
 rw[jr this];exact h
structure EnvO(P:Program)(w:World)(K:Fg)(Hs H:Hp)(own:Option Nat)(ρ:Rho)(σ:St):Prop where
 len:ρ.length=σ.length
 sm:jp Hs H
 pl:∀i d,ρ[i]?=some (some d)->own≠some i->∃v,σ[i]?=some (some v)/\Rep K H d v
 ow:∀i,own=some i->∃d a,ρ[i]?=some (some d)/\σ[i]?=some (some (.ref a))/\Hs a=none/\aaq P w K H a d
noncomputable def hid(own:Option Nat)(ρ:Rho):Rho:=match own with
 |none=>ρ
 |some i=>ρ.set i none
section
variable {P:Program}{w:World}{K:Fg}{Hs H H':Hp}{own:Option Nat}{ρ:Rho}{σ:St}
theorem EnvO.of(e:EnvR K H ρ σ)(s:jp Hs H):EnvO P w K Hs H none ρ σ:=⟨e.len,s,fun i d h _=>e.at' i d h,fun i z=>nomatch z⟩
theorem EnvO.to(e:EnvO P w K Hs H none ρ σ):EnvR K H ρ σ:=⟨e.len,fun i d h=>e.pl i d h (fun z=>nomatch z)⟩
theorem EnvO.hid(e:EnvO P w K Hs H own ρ σ):EnvR K H (hid own ρ) σ:=by
 cases own with
 |none=>exact e.to
 | some i=>
  refine⟨by simp[BX.hid,e.len],fun j d h=>?_⟩;by_cases hj:i=j
  ·subst hj
   simp only[BX.hid]at h;rw[List.getElem?_set]at h;simp at h
  ·simp only[BX.hid]at h
   rw[List.getElem?_set_ne hj]at h;exact e.pl j d h (fun z=>hj (Option.some.inj z))
theorem aaq.mono{a:Addr}{d:PyData}(h:aaq P w K H a d)(s:jp H H'):aaq P w K H' a d:=by
 obtain⟨c,o,_,h1,_,h2,_⟩:=h.out;exact h2 H' (jp.e s) (s _ _ h1)
theorem EnvO.mono(e:EnvO P w K Hs H own ρ σ)(s:jp H H'):EnvO P w K Hs H' own ρ σ:=
 ⟨e.len,e.sm.trans s,fun i d h n=>let ⟨v,h1,h2⟩:=e.pl i d h n;⟨v,h1,Rep.mono s d v h2⟩,fun i n=>let ⟨d,a,h1,h2,h3,h4⟩:=e.ow i n;⟨d,a,h1,h2,h3,h4.mono s⟩⟩
theorem EnvO.opn{i:Nat}(e:EnvO P w K Hs H (some i) ρ σ):∃d a c o,ρ[i]?=some (some d)/\σ[i]?=some (some (.ref a))/\Hs a=none/\Seal P w a c o/\H a=some c/\EnvR K (upd H a o) ρ σ/\jp Hs (upd H a o)/\
  (∀H3,jp (upd H a o) H3->jW H (upd H3 a c)/\EnvO P w K Hs (upd H3 a c) (some i) ρ σ)/\∀x H3 v,okB d x=true->H3 a=some o->Rep K H3 x v->Rep K (upd H3 a c) x v:=by
 obtain⟨d,a,h1,h2,h3,h4⟩:=e.ow i rfl;obtain⟨c,o,S,h5,h6,h7,h8⟩:=h4.out;obtain⟨φ,rfl⟩:=S.ext;have s1:jW H (upd H a o):=jW.upd h5;have sH:∀{H2:Hp},(∀b u,b≠a->H b=some u->H2 b=some u)->jp Hs H2:=fun {H2} k b u q=>k b u (fun z=>by subst z;rw[h3]at q;cases q) (e.sm b u q);refine⟨d,a,_,o,h1,h2,h3,S,h5,⟨e.len,fun j x q=>?_⟩,sH fun b u n q=>by rw[jr n];exact q,fun H3 s3=>⟨fun b u q m=>?_,e.len,sH fun b u n q=>by rw[jr n];exact s3 b u (by rw[jr n];exact q),fun j x q n=>?_,fun j n=>?_⟩,h8⟩
 ·by_cases hj:i=j
  ·subst hj
   rw[h1]at q;cases q;exact⟨.ref a,h2,h6 _ s1 jq⟩
  ·obtain⟨v,g1,g2⟩:=e.pl j x q (fun z=>hj (Option.some.inj z))
   exact⟨v,g1,Rep.monoE s1 _ _ g2⟩
 ·have:b≠a:=fun z=>by subst z;rw[h5]at q;cases q;exact m _ rfl
  rw[jr this];exact s3 b u (by rw[jr this];exact q)
 ·have s4:jW H (upd H3 a (.ext φ)):=fun b u q m=>by
   have:b≠a:=fun z=>by subst z;rw[h5]at q;cases q;exact m _ rfl
   rw[jr this];exact s3 b u (by rw[jr this];exact q)
  obtain⟨v,g1,g2⟩:=e.pl j x q n;exact⟨v,g1,Rep.monoE s4 _ _ g2⟩
 ·cases n
  have s4:jW H (upd H3 a (.ext φ)):=fun b u q m=>by
   have:b≠a:=fun z=>by subst z;rw[h5]at q;cases q;exact m _ rfl
   rw[jr this];exact s3 b u (by rw[jr this];exact q)
  exact⟨d,a,h1,h2,h3,h7 _ s4 jq⟩
end
end BX
end
section
namespace BX
open PySem PySem.Spec L2
open PyProof.Rows hiding St
noncomputable def brw(own:Option Nat)(f:RP):RP:=fun ρ=>match f (hid own ρ)with
 |some d=>some d
 | none=>match own with
  |none=>none
  | some i=>match f ρ,lkp i ρ with
   |some d,some c=>if okB c d=true then some d else none
   |_,_=>none
theorem anq{own:Option Nat}{f:RP}{ρ:Rho}{d:PyData}(h:brw own f ρ=some d):f (hid own ρ)=some d∨∃i c,own=some i/\f ρ=some d/\ρ[i]?=some (some c)/\okB c d=true:=by
 unfold brw at h;cases h1:f (hid own ρ)with
 |some x=>rw[h1]at h;exact .inl h
 | none=>
  rw[h1]at h;cases own with
  |none=>cases h
  | some i=>
   simp only at h;cases h2:f ρ with
   |none=>rw[h2]at h;cases h
   | some x=>
    rw[h2]at h;cases h3:lkp i ρ with
    |none=>rw[h3]at h;cases h
    | some c=>
     rw[h3]at h;simp only at h;split at h
     ·rename_i ok
      cases h;exact .inr ⟨i,c,rfl,rfl,qF h3,ok⟩
     ·cases h
section
variable {X:Cx}{e a b c tg src:Expr}{es:List Expr}{st:Stmt}{sts qg:List Stmt}{fa fb fc:RP}{F G:RO}{pos:Pos}{own:Option Nat}
noncomputable def tE(P:Program)(w:World)(K:Fg)(own:Option Nat)(f:RP):TE:=fun σ H Q=>∃Hs ρ d,EnvO P w K Hs H own ρ σ/\brw own f ρ=some d/\∀v H',jW H H'->EnvO P w K Hs H' own ρ σ->Rep K H' d v->Q v H'
theorem ahh(h:PD X e fa):PE X e (tE X.prog X.w X.K own fa):=by
 with_unfolding_all
  intro Kp s σ H Q I ⟨Hs,ρ,d,E,hb,k⟩;rcases anq hb with h1 | ⟨i,c,ho,h1,h2,ok⟩
  ·exact h Kp s σ H Q I ⟨hid own ρ,d,E.hid,h1,fun v H' s r=>k v H' (jp.e s) (E.mono s) r⟩
  ·subst ho
   obtain⟨d0,a,cl,o,g1,g2,g3,S,g4,env,sm,back,keep⟩:=E.opn;rw[h2]at g1;cases g1;refine thn (h Kp s σ (upd H a o) (fun v H3=>jp (upd H a o) H3/\Rep X.K H3 d v) (Inv.opened I S g4) ⟨ρ,d,env,h1,fun v H3 s3 r3=>⟨s3,r3⟩⟩) fun u s1 ⟨v,H3,I3,r,s3,r3⟩=>?_;have e3:H3 a=some o:=s3 _ _ jq;exact⟨v,upd H3 a cl,Inv.closed I3 S e3 (by obtain⟨φ,rfl⟩:=S.ext;exact Inv.nofrz I g4),r,k v _ (back H3 s3).1 (back H3 s3).2 (keep d H3 v ok e3 r3)⟩
noncomputable def tT(P:Program)(w:World)(K:Fg)(own:Option Nat)(f:Rho->Option Bool):TT:=fun σ H Q=>∃Hs ρ d,EnvO P w K Hs H own ρ σ/\f ρ=some d/\∀H',jW H H'->EnvO P w K Hs H' own ρ σ->Q d H'
theorem apx{tc:Rho->Option Bool}(h:PTD X e tc):PT X e (tT X.prog X.w X.K own tc):=by
 with_unfolding_all
  intro Kp s σ H Q I ⟨Hs,ρ,d,E,h1,k⟩;cases own with
  |none=>exact h Kp s σ H Q I ⟨ρ,d,E.to,h1,fun H' s=>k H' (jp.e s) (E.mono s)⟩
  | some i=>
   obtain⟨d0,a,cl,o,g1,g2,g3,S,g4,env,sm,back,keep⟩:=E.opn;refine thn (h Kp s σ (upd H a o) (fun b H3=>b=d/\jp (upd H a o) H3) (Inv.opened I S g4) ⟨ρ,d,env,h1,fun H3 s3=>⟨rfl,s3⟩⟩) fun b s1 ⟨H3,I3,hb,s3⟩=>?_;subst hb;exact⟨upd H3 a cl,Inv.closed I3 S (s3 _ _ jq) (by obtain⟨φ,rfl⟩:=S.ext;exact Inv.nofrz I g4),k _ (back H3 s3).1 (back H3 s3).2⟩
noncomputable def tF(P:Program)(w:World)(K:Fg)(own:Option Nat)(f:RP):TE:=fun σ H Q=>∃Hs ρ d,EnvO P w K Hs H own ρ σ/\f ρ=some d/\∀v H',jp Hs H'->Rep K H' d v->Q v H'
theorem apy(h:PD X e fa):PE X e (tF X.prog X.w X.K own fa):=by
 with_unfolding_all
  intro Kp s σ H Q I ⟨Hs,ρ,d,E,h1,k⟩;cases own with
  |none=>exact h Kp s σ H Q I ⟨ρ,d,E.to,h1,fun v H' s r=>k v H' (E.sm.trans s) r⟩
  | some i=>
   obtain⟨d0,a,cl,o,g1,g2,g3,S,g4,env,sm,back,keep⟩:=E.opn;exact h Kp s σ (upd H a o) Q (Inv.opened I S g4) ⟨ρ,d,env,h1,fun v H3 s3 r3=>k v H3 (sm.trans s3) r3⟩
noncomputable def aq2(P:Program)(w:World)(K:Fg)(Hs:Hp)(own:Option Nat)(D:Ends):Out->Prop
 |.nx ρ=>∀σ H,EnvO P w K Hs H own ρ σ->D.nx σ H
 |.rt d=>∀v H,jp Hs H->Rep K H d v->D.rt v H
 |.bk ρ=>∀σ H,EnvO P w K Hs H own ρ σ->D.bk σ H
 |.ct ρ=>∀σ H,EnvO P w K Hs H own ρ σ->D.ct σ H
noncomputable def tOS(P:Program)(w:World)(K:Fg)(own:Option Nat)(F:RO):TS:=fun D σ H=>∃Hs ρ o,EnvO P w K Hs H own ρ σ/\F ρ=some o/\aq2 P w K Hs own D o
@[irreducible] noncomputable def PSO(X:Cx)(own:Option Nat)(st:Stmt)(F:RO):Prop:=PS X st (tOS X.prog X.w X.K own F)
@[irreducible] noncomputable def adC(X:Cx)(own:Option Nat)(sts:List Stmt)(F:RO):Prop:=PSs X sts (tOS X.prog X.w X.K own F)
theorem aar(h:adC X none sts F):aal X sts F:=by
 with_unfolding_all
  refine PSs.imp h fun D σ H ⟨ρ,o,en,q,k⟩=>⟨H,ρ,o,EnvO.of en (jp.refl H),q,?_⟩;cases o with
  |nx ρ'=>exact fun σ' H' E=>k σ' H' E.sm E.to
  |rt d=>exact fun v H' s r=>k v H' s r
  |bk ρ'=>exact fun σ' H' E=>k σ' H' E.sm E.to
  |ct ρ'=>exact fun σ' H' E=>k σ' H' E.sm E.to
theorem zm:adC X own [] qE:=by
 with_unfolding_all
  refine PSs.imp ab8 fun D σ H ⟨Hs,ρ,o,E,q,k⟩=>?_;cases q;exact k σ H E
theorem jN(h1 : PSO X own st F)(h2 : adC X own qg G) : adC X own (st :: qg) (jR F G) := by
  with_unfolding_all
   refine PSs.imp (JC h1 h2) fun D σ H ⟨Hs, ρ, o, E, q, k⟩ => ?_;cases hf : F ρ with
   |none => simp[jR, hf]at q
   | some p =>
     refine⟨Hs, ρ, p, E, hf, ?_⟩;cases p with
     |nx ρ' => exact fun σ' H' E' => ⟨Hs, ρ', o, E', by simpa[jR, hf]using q, k⟩
     | rt d => have : Out.rt d = o := by simpa[jR, hf]using q
               subst this;exact k
     | bk d => have : Out.bk d = o := by simpa[jR, hf]using q
               subst this;exact k
     | ct d => have : Out.ct d = o := by simpa[jR, hf]using q
               subst this;exact k
theorem acb(h:PD X e fa):PSO X own (.Return (some e) pos) (qw fa):=by
 with_unfolding_all
  refine PS.imp (aex (apy (own:=own) h)) fun D σ H ⟨Hs,ρ,o,E,q,k⟩=>?_;cases h1:fa ρ with
  |none=>simp[qw,h1]at q
  | some d=>
   have:Out.rt d=o:=by simpa[qw,h1]using q
   subst this;exact⟨Hs,ρ,d,E,h1,k⟩
theorem EnvO.set{P:Program}{w:World}{K:Fg}{Hs H:Hp}{ρ:Rho}{σ:St}{i:Nat}{d:PyData}{v:V}(E:EnvO P w K Hs H own ρ σ)(hi:own≠some i)(r:Rep K H d v):EnvO P w K Hs H own (ρ.set i (some d)) (σ.set i (some v)):=by
 refine⟨by simp[E.len],E.sm,fun j x q n=>?_,fun j n=>?_⟩
 ·by_cases hj:i=j
  ·subst hj
   rw[List.getElem?_set]at q ⊢;simp only[zzM]at q ⊢;by_cases hl:i < ρ.length
   ·rw[if_pos hl]at q
    rw[if_pos (by rw[←E.len];exact hl)];cases q;exact⟨v,rfl,r⟩
   ·rw[if_neg hl]at q;cases q
  ·rw[List.getElem?_set_ne hj]at q ⊢
   exact E.pl j x q n
 ·have hj:i≠j:=fun z=>by subst z;exact hi n
  rw[List.getElem?_set_ne hj,List.getElem?_set_ne hj];exact E.ow j n
theorem JP(i:Nat){x:Str}{pos':Pos}(hN:X.N.Nodup)(he:PD X e fa)(ho:own≠some i:=by decide)(hi:X.N[i]?=some x:=by rfl)(hx:Loc X.env.scope x:=by first|exact Or.inl rfl|exact Or.inr rfl)(hs:swapsWith e (some (.Name x pos')) pos.line X.env=pure false:=by rfl)
  (hf:X.fn x=true∨X.env.scope.names.lookup x=some .local:=by first|exact .inl rfl|exact .inr rfl|assumption):PSO X own (.Assign [.Name x pos'] e pos) (qz (brw own fa) (jS i)):=by
 with_unfolding_all
  refine PS.imp (aa4 hN hi hx (ahh (own:=own) he) hs hf) fun D σ H ⟨Hs,ρ,o,E,q,k⟩=>?_;cases h1:brw own fa ρ with
  |none=>simp[qz,h1]at q
  | some d=>
   have:Out.nx (ρ.set i (some d))=o:=by simpa[qz,h1,jS]using q
   subst this;exact⟨Hs,ρ,d,E,h1,fun v H1 _ E1 r1=>k _ H1 (E1.set ho r1)⟩
end
section
variable {X:Cx}{e a b c tg src:Expr}{es:List Expr}{st:Stmt}{sts qg body:List Stmt}{fa fb fc:RP}{F G:RO}{pos:Pos}{own:Option Nat}
@[irreducible] noncomputable def PGO(X:Cx)(own:Option Nat)(tg:Expr)(ga:PyData->Rho->Option Rho):Prop:=
 PG X tg fun v σ H Q=>∃Hs ρ d ρ',EnvO X.prog X.w X.K Hs H own ρ σ/\Rep X.K H d v/\ga d ρ=some ρ'/\∀σ' H',EnvO X.prog X.w X.K Hs H' own ρ' σ'->Q σ' H'
@[irreducible] noncomputable def anr(X:Cx)(own:Option Nat)(ts:List Expr)(ga:LP->Rho->Option Rho):Prop:=
 PGs X ts fun vs σ H Q=>∃Hs ρ ds ρ',EnvO X.prog X.w X.K Hs H own ρ σ/\Reps X.K H ds vs/\ga ds ρ=some ρ'/\∀σ',EnvO X.prog X.w X.K Hs H own ρ' σ'->Q σ' H
theorem afS(i:Nat){x:Str}(hN:X.N.Nodup)(ho:own≠some i:=by decide)(hi:X.N[i]?=some x:=by rfl)(hx:Loc X.env.scope x:=by first|exact Or.inl rfl|exact Or.inr rfl)
  (hf:X.fn x=true∨X.env.scope.names.lookup x=some .local:=by first|exact .inl rfl|exact .inr rfl|assumption):PGO X own (.Name x pos) (jS i):=by
 with_unfolding_all
  refine PG.imp (aaj hN hi hx hf) fun v σ H Q ⟨Hs,ρ,d,ρ',E,r,q,k⟩=>?_;cases q;exact k _ H (E.set ho r)
theorem acR:anr X own [] Qa:=by
 with_unfolding_all
  refine PGs.imp ahZ fun vs σ H Q ⟨Hs,ρ,ds,ρ',E,r,q,k⟩=>?_;cases ds with
  |nil=>cases r;cases q;exact⟨rfl,k σ E⟩
  |cons d ds=>cases q
theorem Ju(i:Nat){x:Str}{gr:LP->Rho->Option Rho}(hN:X.N.Nodup)(h2:anr X own es gr)(ho:own≠some i:=by decide)(hi:X.N[i]?=some x:=by rfl)(hx:Loc X.env.scope x:=by first|exact Or.inl rfl|exact Or.inr rfl)
  (hf:X.fn x=true∨X.env.scope.names.lookup x=some .local:=by first|exact .inl rfl|exact .inr rfl|assumption)
  (hs:(assignEach (.Name x pos::es) X.env).map (·.2)=assign (.Name x pos) X.env::(assignEach es X.env).map (·.2):=by rfl):anr X own (.Name x pos::es) (qr (jS i) gr):=by
 with_unfolding_all
  refine PGs.imp (afG (aaj hN hi hx hf) h2 hs) fun vs σ H Q ⟨Hs,ρ,ds,ρ',E,r,q,k⟩=>?_;cases ds with
  |nil=>cases q
  | cons d ds=>
   obtain⟨y,rr,e1,r1,r2⟩:=r;subst e1;exact⟨y,rr,rfl,Hs,_,ds,ρ',E.set ho r1,r2,by simpa[qr,jS]using q,k⟩
theorem aeO{k n:Nat}{gr:LP->Rho->Option Rho}(hc:X.calm=true)(h:anr X own es gr)(hn:(assignEach es X.env).length=n:=by rfl)(hst:(assignEach es X.env).findIdx? (·.1)=none:=by rfl):
  PGO X own (.Tuple es k pos) (ZO n gr):=by
 with_unfolding_all
  refine PG.imp (akl hc h hn hst) fun v σ H Q ⟨Hs,ρ,d,ρ',E,r,q,k⟩=>?_;cases d with
  | tuple ds=>
   obtain⟨a,xs,e1,e2,e3⟩:=r;by_cases hl:ds.length=n
   ·exact⟨a,xs,e1,e2,by rw[e3.length];exact hl,Hs,ρ,ds,ρ',E,e3,by simpa[ZO,hl]using q,fun σ' E'=>k σ' H E'⟩
   ·simp[ZO,hl]at q
  |_=>simp[ZO]at q
theorem EnvO.rebase{P:Program}{w:World}{K:Fg}{Hs H:Hp}{ρ:Rho}{σ:St}(E:EnvO P w K Hs H own ρ σ):∃Hb,EnvO P w K Hb H own ρ σ/\(∀H3,jp Hb H3->jW H H3)/\
  (∀H3 ρ3 σ3,EnvO P w K Hb H3 own ρ3 σ3->EnvO P w K Hs H3 own ρ3 σ3)/\∀H3,jp Hb H3->jp Hs H3:=by
 cases own with
 |none=>exact⟨H,⟨E.len,jp.refl H,E.pl,fun i z=>nomatch z⟩,fun _ s=>jp.e s,fun H3 ρ3 σ3 E3=>⟨E3.len,E.sm.trans E3.sm,E3.pl,fun i z=>nomatch z⟩,fun _ s=>E.sm.trans s⟩
 | some i=>
  obtain⟨d,a,h1,h2,h3,h4⟩:=E.ow i rfl;obtain⟨c,o,S,h5,_⟩:=h4.out;obtain⟨φ,rfl⟩:=S.ext;let Hb:Hp:=fun b=>if b=a then none else H b
  have ha:Hb a=none:=if_pos rfl;have hb:∀b,b≠a->Hb b=H b:=fun b n=>if_neg n
  have sH:∀H3,jp Hb H3->jp Hs H3:=fun H3 s b u q=>by
   have n:b≠a:=fun z=>by subst z;rw[h3]at q;cases q
   exact s b u (by rw[hb b n];exact E.sm b u q)
  refine⟨Hb,⟨E.len,fun b u q=>?_,E.pl,fun j n=>?_⟩,fun H3 s b u q m=>?_,fun H3 ρ3 σ3 E3=>⟨E3.len,sH H3 E3.sm,E3.pl,fun j n=>?_⟩,sH⟩
  ·by_cases n:b=a
   ·subst n;rw[ha]at q;cases q
   ·rw[hb b n]at q;exact q
  ·cases n
   exact⟨d,a,h1,h2,ha,h4⟩
  ·have n:b≠a:=fun z=>by subst z;rw[h5]at q;cases q;exact m _ rfl
   exact s b u (by rw[hb b n];exact q)
  ·obtain⟨d3,a3,g1,g2,g3,g4⟩:=E3.ow j n
   refine⟨d3,a3,g1,g2,?_,g4⟩;by_cases z:a3=a
   ·rw[z];exact h3
   ·rw[hb a3 z]at g3
    cases q:Hs a3 with
    |none=>rfl
    |some u=>have:=E.sm _ _ q;rw[g3]at this;cases this
theorem acd{fi:Rho->Option (LP)}{ga:PyData->Rho->Option Rho}(hp:PassesOwn (model X.prog X.w) X.A X.env X.xe)(hc:X.calm=true)(hi:PID X tg src fi)(hg:PGO X own tg ga)(hb:adC X own body F)
  (hs:∀x,foldedSetIterable src X.env x=pure x:=by intro _;rfl):PSO X own (.For tg src body [] pos) (ZP (fun ρ=>fi (hid own ρ)) ga F):=by
 with_unfolding_all
  refine PS.imp (aa7 hp hc hi hg hb hs) fun D σ H ⟨Hs,ρ,o,E,q,k⟩=>?_;cases h1:fi (hid own ρ)with
  |none=>simp[ZP,h1]at q
  | some ds=>
   have q':jY ga F ds ρ=some o:=by simpa[ZP,h1]using q
   refine⟨hid own ρ,ds,E.hid,h1,fun J H1 s1 Y=>?_⟩;obtain⟨Hb,Eb,sE,back,sb⟩:=(E.mono s1).rebase;refine⟨fun i m σ H2=>m=ds.length-i/\i<=ds.length/\∃ρ2,EnvO X.prog X.w X.K Hb H2 own ρ2 σ/\jY ga F (ds.drop i) ρ2=some o,⟨ds.length,by simp,Nat.zero_le _,ρ,Eb,by simpa using q'⟩,?_⟩
   rintro i m σ2 H2 ⟨rfl,hi,ρ2,en2,q2⟩
   obtain⟨g1,g2,g3⟩:=Y i H2 (jW.a (sE H2 en2.sm));by_cases hlt:i<ds.length
   ·right
    have hd:ds.drop i=ds[i]::ds.drop (i+1):=List.drop_eq_getElem_cons hlt;rw[hd]at q2;refine⟨g1 hlt,fun σ3 H3=>∃ρ3,EnvO X.prog X.w X.K Hb H3 own ρ3 σ3/\jY ga F (ds.drop (i+1)) ρ3=some o,fun σ3 H3 ⟨ρ3,a2,a3⟩=>⟨ds.length-(i+1),by omega,rfl,hlt,ρ3,a2,a3⟩,fun x H3 y=>?_⟩;obtain⟨s3,r3⟩:=g3 x H3 y;have r3':=r3 ds[i] (by simp[hlt]);cases h4:ga ds[i] ρ2 with
    |none=>simp[jY,h4]at q2
    | some ρ4=>
     refine⟨Hb,ρ2,ds[i],ρ4,en2.mono s3,r3',h4,fun σ5 H5 en5=>?_⟩;cases h5:F ρ4 with
     |none=>simp[jY,h4,h5]at q2
     | some p=>
      refine⟨Hb,ρ4,p,en5,h5,?_⟩;cases p with
      |nx ρ6=>exact fun σ6 H6 en6=>⟨ρ6,en6,by simpa[jY,h4,h5]using q2⟩
      |ct ρ6=>exact fun σ6 H6 en6=>⟨ρ6,en6,by simpa[jY,h4,h5]using q2⟩
      | bk ρ6=>
       have:Out.nx ρ6=o:=by simpa[jY,h4,h5]using q2
       subst this;exact fun σ6 H6 en6=>k σ6 H6 (back _ _ _ en6)
      | rt d=>
       have:Out.rt d=o:=by simpa[jY,h4,h5]using q2
       subst this;exact fun v H6 s6 r6=>k v H6 (sb _ s6) r6
   ·left
    have he:i=ds.length:=by omega
    have hn:ds.drop i=[]:=by rw[he];simp
    rw[hn]at q2;have:Out.nx ρ2=o:=by simpa[jY]using q2
    subst this;exact⟨g2 (by omega),k σ2 H2 (back _ _ _ en2)⟩
noncomputable def zE(tc:Rho->Option Bool)(F:RO):Nat->RO
 |0,_=>none
 | n+1,ρ=>(tc ρ).bind fun x=>if x=true then (F ρ).bind fun o=>match o with
   |.nx ρ2=>zE tc F n ρ2
   |.ct ρ2=>zE tc F n ρ2
   |.bk ρ2=>some (.nx ρ2)
   |.rt d=>some (.rt d)
  else some (.nx ρ)
theorem ajp(n:Nat){tc:Rho->Option Bool}(hp:PassesOwn (model X.prog X.w) X.A X.env X.xe)(hc:PTD X c tc)(hb:adC X own body F):PSO X own (.While c body [] pos) (zE tc F n):=by
 with_unfolding_all
  refine PS.imp (akn hp (apx (own:=own) hc) hb) fun D σ H ⟨Hs,ρ,o,E,q,k⟩=>?_;refine⟨fun m σ H=>∃ρ,EnvO X.prog X.w X.K Hs H own ρ σ/\zE tc F m ρ=some o,⟨n,ρ,E,q⟩,?_⟩
  rintro m σ2 H2 ⟨ρ2,E2,q2⟩
  cases m with
  |zero=>cases q2
  | succ m=>
   cases h1:tc ρ2 with
   |none=>simp[zE,h1]at q2
   | some x=>
    refine⟨Hs,ρ2,x,E2,h1,fun H3 _ E3=>?_⟩;cases x with
    | false=>
     rw[if_neg Bool.false_ne_true];have:Out.nx ρ2=o:=by simpa[zE,h1]using q2
     subst this;exact k σ2 H3 E3
    | true=>
     rw[if_pos rfl];refine⟨fun σ4 H4=>∃ρ4,EnvO X.prog X.w X.K Hs H4 own ρ4 σ4/\zE tc F m ρ4=some o,fun σ4 H4 ⟨ρ4,a1,a2⟩=>⟨m,Nat.lt_succ_self m,ρ4,a1,a2⟩,?_⟩;cases h5:F ρ2 with
     |none=>simp[zE,h1,h5]at q2
     | some p=>
      refine⟨Hs,ρ2,p,E3,h5,?_⟩;cases p with
      |nx ρ6=>exact fun σ6 H6 en6=>⟨ρ6,en6,by simpa[zE,h1,h5]using q2⟩
      |ct ρ6=>exact fun σ6 H6 en6=>⟨ρ6,en6,by simpa[zE,h1,h5]using q2⟩
      | bk ρ6=>
       have:Out.nx ρ6=o:=by simpa[zE,h1,h5]using q2
       subst this;exact fun σ6 H6 en6=>k σ6 H6 en6
      | rt d=>
       have:Out.rt d=o:=by simpa[zE,h1,h5]using q2
       subst this;exact fun v H6 s6 r6=>k v H6 s6 r6
end
theorem Qw{H:Hp}{a:Addr}{o o':HO}:upd (upd H a o) a o'=upd H a o':=by
 funext b;by_cases h:b=a
 ·subst h;rw[jq,jq]
 ·rw[jr h,jr h,jr h]
section
variable {P:Program}{w:World}{K:Fg}{Hs H:Hp}{ρ:Rho}{σ:St}{i:Nat}
theorem EnvO.put{a:Addr}{d d':PyData}{φ:Heap->Prop}{H3:Hp}{c:HO}(E:EnvO P w K Hs H (some i) ρ σ)(h0:ρ[i]?=some (some d))(h2:σ[i]?=some (some (.ref a)))(h3:Hs a=none)(h5:H a=some (.ext φ))
  (s3:∀b u,b≠a->H b=some u->H3 b=some u) (ow:aaq P w K (upd H3 a c) a d'):EnvO P w K Hs (upd H3 a c) (some i) (ρ.set i (some d')) σ:=by
 have hi:i < ρ.length:=(List.getElem?_eq_some_iff.mp h0).1
 have s4:jW H (upd H3 a c):=fun b u q m=>by
  have:b≠a:=fun z=>by subst z;rw[h5]at q;cases q;exact m _ rfl
  rw[jr this];exact s3 b u this q
 refine⟨by simp[E.len],fun b u q=>?_,fun j x q n=>?_,fun j n=>?_⟩
 ·have:b≠a:=fun z=>by subst z;rw[h3]at q;cases q
  rw[jr this];exact s3 b u this (E.sm b u q)
 ·have hj:i≠j:=fun z=>n (by rw[z])
  rw[List.getElem?_set_ne hj]at q;obtain⟨v,g1,g2⟩:=E.pl j x q n;exact⟨v,g1,Rep.monoE s4 _ _ g2⟩
 ·cases n
  exact⟨d',a,by rw[List.getElem?_set_self hi],h2,h3,ow⟩
theorem EnvO.opnL{ds:LP}(E:EnvO P w K Hs H (some i) ρ σ)(h:ρ[i]?=some (some (.list ds))):∃a xs,σ[i]?=some (some (.ref a))/\Hs a=none/\H a=some (qk a xs)/\Reps K H ds xs/\EnvR K (upd H a (.lst xs)) ρ σ:=by
 obtain⟨d,a,h1,h2,h3,h4⟩:=E.ow i rfl;rw[h]at h1;cases h1;obtain⟨xs,h5,h6⟩:=h4;have s1:jW H (upd H a (.lst xs)):=jW.upd h5;refine⟨a,xs,h2,h3,h5,h6,E.len,fun j x q=>?_⟩;by_cases hj:i=j
 ·subst hj
  rw[h]at q;cases q;exact⟨.ref a,h2,a,xs,rfl,jq,Reps.monoE s1 _ _ h6⟩
 ·obtain⟨v,g1,g2⟩:=E.pl j x q (fun z=>hj (Option.some.inj z))
  exact⟨v,g1,Rep.monoE s1 _ _ g2⟩
end
section
variable {X:Cx}{e a b c tg src:Expr}{es:List Expr}{st:Stmt}{sts qg body:List Stmt}{fa fb fc:RP}{F G:RO}{pos:Pos}
noncomputable def apz(P:Program)(w:World)(K:Fg)(i:Nat)(g:RP):TE:=fun σ H Q=>∃Hs ρ d',EnvO P w K Hs H (some i) ρ σ/\g ρ=some d'/\∀H',EnvO P w K Hs H' (some i) (ρ.set i (some d')) σ->Q .non H'
noncomputable def aeP(i:Nat)(g:RP):RO:=fun ρ=>(g ρ).map fun d=> .nx (ρ.set i (some d))
theorem ace{i:Nat}{g:RP}(h:PE X e (apz X.prog X.w X.K i g))(hs:swapsWith e none pos.line X.env=pure false:=by rfl):PSO X (some i) (.Expr e pos) (aeP i g):=by
 with_unfolding_all
  refine PS.imp (aai h hs) fun D σ H ⟨Hs,ρ,o,E,q,k⟩=>?_;cases h1:g ρ with
  |none=>simp[aeP,h1]at q
  | some d=>
   have:Out.nx (ρ.set i (some d))=o:=by simpa[aeP,h1]using q
   subst this;exact⟨Hs,ρ,d,E,h1,fun H' E'=>k σ H' E'⟩
noncomputable def asi(c d:OP):OP:=match c,d with
 |some (.list ds),some d=>if noL d=true/\ds.length<1000000 then some (.list (ds++[d])) else none
 |_,_=>none
noncomputable def ans(i:Nat)(fa:RP):RP:=fun ρ=>asi (lkp i ρ) (fa ρ)
theorem Z6{n:Nat}(h:n<1000000):n<sizeLine:=Nat.lt_of_lt_of_le h (by rw[sizeLine_eq];decide)
end
section
variable {X:Cx}{e a b c tg src:Expr}{es:List Expr}{st:Stmt}{sts qg body:List Stmt}{fa fb fc:RP}{F G:RO}{pos:Pos}
@[irreducible] noncomputable def PN(X:Cx)(e:Expr)(f:RP):Prop:=
 PE X e fun σ H Q=>∃ρ d,EnvR X.K H ρ σ/\f ρ=some d/\∀a H',jp H H'->H a=none->aaq X.prog X.w X.K H' a d->Q (.ref a) H'
theorem abh{fr:Rho->Option (LP)}(h:PAD X es fr):PN X (.List es pos) (Jo fr):=by
 with_unfolding_all
  intro Kp s σ H Q I ⟨ρ,d,en,hf,k⟩;cases h1:fr ρ with
  |none=>simp[Jo,h1]at hf
  | some ds=>
   by_cases hfew:few ds=true
   ·have:PyData.list ds=d:=by simpa[Jo,h1,hfew]using hf
    subst this;refine thn (ag4 h Kp s σ H (fun v H2=>∃a xs H1,v= .ref a/\H1 a=none/\jp H H1/\H2=upd H1 a (.lst xs)/\Reps X.K H1 ds xs) I ⟨ρ,ds,en,h1,fun vs H1 s1 r1=>⟨by rw[r1.length];exact abd (by simpa[few]using hfew),fun l hl=>⟨l,vs,H1,rfl,hl,s1,rfl,r1⟩⟩⟩) fun u s1 ⟨v,H2,I2,r,a,xs,H1,e1,e2,s1',e3,r1⟩=>?_;subst e1;have e4:H2 a=some (.lst xs):=by rw[e3];exact jq
    have e5:upd H2 a (qk a xs)=upd H1 a (qk a xs):=by rw[e3,Qw]
    have s2:jp H1 (upd H2 a (qk a xs)):=by rw[e5];exact jE e2
    exact⟨.ref a,_,Inv.closed I2 (.l xs) e4 (fun ob u z=>by have:=I.base.frzs _ _ _ z;rw[s1'.free e2]at this;cases this),r,k a _ (s1'.trans s2) (s1'.free e2) ⟨xs,jq,Reps.mono s2 _ _ r1⟩⟩
   ·simp[Jo,h1,hfew]at hf
noncomputable def aas(i:Nat)(f:RP)(G:RO):RO:=fun ρ=>(f ρ).bind fun d=>if i < ρ.length then (G (ρ.set i (some d))).bind fun o=>match o with
  |.rt c=>some (.rt c)
  |_=>none
 else none
theorem aat(i:Nat){x:Str}{pos':Pos}(hN:X.N.Nodup)(he:PN X e fa)(h:adC X (some i) qg G)(hi:X.N[i]?=some x:=by rfl)(hx:Loc X.env.scope x:=by first|exact Or.inl rfl|exact Or.inr rfl)(hs:swapsWith e (some (.Name x pos')) pos.line X.env=pure false:=by rfl)
  (hf:X.fn x=true∨X.env.scope.names.lookup x=some .local:=by first|exact .inl rfl|exact .inr rfl|assumption):adC X none (.Assign [.Name x pos'] e pos::qg) (aas i fa G):=by
 with_unfolding_all
  refine PSs.imp (JC (aa4 hN hi hx he hs hf) h) fun D σ H ⟨Hs,ρ,o,E,q,k⟩=>?_;cases h1:fa ρ with
  |none=>simp[aas,h1]at q
  | some d=>
   by_cases hl:i < ρ.length
   ·cases h2:G (ρ.set i (some d))with
    |none=>simp[aas,h1,h2]at q
    | some p=>
     cases p with
     | rt c=>
      have:Out.rt c=o:=by simpa[aas,h1,h2,hl]using q
      subst this;refine⟨ρ,d,E.to,h1,fun a H' s hn ow=>⟨Hs,ρ.set i (some d),.rt c,⟨by simp[E.len],E.sm.trans s,fun j y q n=>?_,fun j n=>?_⟩,h2,k⟩⟩
      ·have hj:i≠j:=fun z=>n (by rw[z])
       rw[List.getElem?_set_ne hj]at q ⊢;obtain⟨v,g1,g2⟩:=E.pl j y q (fun z=>nomatch z);exact⟨v,g1,Rep.mono s _ _ g2⟩
      ·cases n
       refine⟨d,a,by rw[List.getElem?_set_self hl],by rw[List.getElem?_set_self (by rw[←E.len];exact hl)],E.sm.free hn,ow⟩
     |nx _=>simp[aas,h1,h2,hl]at q
     |bk _=>simp[aas,h1,h2,hl]at q
     |ct _=>simp[aas,h1,h2,hl]at q
   ·simp[aas,h1,hl]at q
noncomputable def isI(n:Int):PyData->Bool
 |.int m=>decide (m=n)
 |_=>false
noncomputable def isS(t:Str):PyData->Bool
 |.str m=>decide (m=t)
 |_=>false
noncomputable def afT(κ:Key)(d:PyData):Bool:=match κ with
 |.inl n=>isI n d
 |.inr t=>isS t d
theorem acS(κ κ':Key):afT κ (ag9 κ')=decide (κ'=κ):=by
 cases κ<;>cases κ'<;>simp[afT,isI,isS,ag9]
noncomputable def aoF(r:List (PyData×PyData))(κ:Key)(d:PyData):List (PyData×PyData):=if r.any (fun p=>afT κ p.1)=true then r.map (fun p=>if afT κ p.1=true then (p.1,d) else p) else r++[(ag9 κ,d)]
noncomputable def asj(r:List (PyData×PyData))(n:Int)(d:PyData):List (PyData×PyData):=if r.any (fun p=>isI n p.1)=true then r.map (fun p=>if isI n p.1=true then (p.1,d) else p) else r++[(.int n,d)]
theorem RepM.anyK{K:Fg}{H:Hp}(n:Key):∀{r:List (PyData×PyData)}{ks:List (Key×V)},RepM K H r ks->r.any (fun p=>afT n p.1)=ks.any fun kv=>decide (kv.1=n)
 | [],ks,h=>by cases (show ks=[] from h);rfl
 | (k,d)::r,ks,⟨i,x,s,h1,h2,h3,h4⟩=>by
  subst h1;subst h2;rw[List.any_cons,List.any_cons,RepM.anyK n h4,acS]
theorem RepM.any{K:Fg}{H:Hp}(n:Int){r:List (PyData×PyData)}{ks:List (Key×V)}(h:RepM K H r ks):r.any (fun p=>isI n p.1)=ks.any fun kv=>decide (kv.1=(Sum.inl n:Key)):=RepM.anyK (.inl n) h
theorem RepM.replK{K:Fg}{H:Hp}(n:Key){d':PyData}{x':V}(hr:Rep K H d' x'):∀{r:List (PyData×PyData)}{ks:List (Key×V)},RepM K H r ks->
  RepM K H (r.map fun p=>if afT n p.1=true then (p.1,d') else p) (ks.map fun kv=>if kv.1=n then (kv.1,x') else kv)
 | [],ks,h=>by cases (show ks=[] from h);exact rfl
 | (k,d)::r,ks,⟨i,x,s,h1,h2,h3,h4⟩=>by
  subst h1;subst h2;by_cases hn:i=n
  ·subst hn
   have c1:afT i ((ag9 i,d):PyData×PyData).1=true:=by simp[acS]
   rw[List.map_cons,List.map_cons,if_pos c1,if_pos rfl];exact⟨i,x',_,rfl,rfl,hr,RepM.replK i hr h4⟩
  ·have c1:¬ afT n ((ag9 i,d):PyData×PyData).1=true:=by simp[acS,hn]
   rw[List.map_cons,List.map_cons,if_neg c1,if_neg hn];exact⟨i,x,_,rfl,rfl,h3,RepM.replK n hr h4⟩
theorem RepM.snocK{K:Fg}{H:Hp}(n:Key){d':PyData}{x':V}(hr:Rep K H d' x'):∀{r:List (PyData×PyData)}{ks:List (Key×V)},RepM K H r ks->RepM K H (r++[(ag9 n,d')]) (ks++[(n,x')])
 | [],ks,h=>by cases (show ks=[] from h);exact⟨n,x',[],rfl,rfl,hr,rfl⟩
 | (k,d)::r,ks,⟨i,x,s,h1,h2,h3,h4⟩=>by
  subst h2;exact⟨i,x,_,h1,rfl,h3,RepM.snocK n hr h4⟩
theorem RepM.putK{K:Fg}{H:Hp}(n:Key){d':PyData}{x':V}(hr:Rep K H d' x'){r:List (PyData×PyData)}{ks:List (Key×V)}(h:RepM K H r ks):RepM K H (aoF r n d') (_root_.L2.putK ks n x'):=by
 unfold aoF _root_.L2.putK;rw[h.anyK n];by_cases c:(ks.any fun kv=>decide (kv.1=n))=true
 ·rw[if_pos c,if_pos c];exact h.replK n hr
 ·rw[if_neg c,if_neg c];exact h.snocK n hr
theorem RepM.put{K:Fg}{H:Hp}(n:Int){d':PyData}{x':V}(hr:Rep K H d' x'){r:List (PyData×PyData)}{ks:List (Key×V)}(h:RepM K H r ks):RepM K H (asj r n d') (_root_.L2.putK ks (Sum.inl n) x'):=RepM.putK (.inl n) hr h
theorem RepM.length{K:Fg}{H:Hp}:∀{r:List (PyData×PyData)}{ks:List (Key×V)},RepM K H r ks->ks.length=r.length
 | [],ks,h=>by cases (show ks=[] from h);rfl
 | (k,d)::r,ks,⟨i,x,s,h1,h2,h3,h4⟩=>by subst h2;simp[RepM.length h4]
end
section
variable {X:Cx}{e a b c tg src:Expr}{es:List Expr}{fa fb fc:RP}{pos:Pos}
end
section
variable {X:Cx}{e a b c tg src:Expr}{es:List Expr}{fa fb fc:RP}{pos:Pos}
end
end BX
end
section
namespace BX
open PySem PySem.Spec L2
theorem afU(l:Addr)(items:Array Value)(n:Nat)(u:Tok)(dd:Option Addr)(sl:Array (Option Value)):
  Meets (Builtin.«tuple.__mul__» ⟨[.ref l,.int 1 u],[]⟩) (fun _ R s=>s.heap.get? l=some { cls:= .type "tuple",dict:=dd,data:= .seq items n,slots:=sl }/\R (.ok (.ret (.ref l))) s):=
 .of_wp fun prog w A R s h=>by
  obtain⟨hp,g,d,tk,os⟩:=s;obtain⟨hl,h⟩:=h;have e1:(items.isEmpty||(1:Int)==1)=true:=by simp
  wp_walk
  exact⟨_,rfl,h⟩
theorem afV(l:Addr)(items:Array Value)(n:Nat)(x:Int)(u:Tok)(dd:Option Addr)(sl:Array (Option Value))(hx:x<=0)(hx2:-(2 ^ 63)<=x)(hi:items.isEmpty=false):
  Meets (Builtin.«tuple.__mul__» ⟨[.ref l,.int x u],[]⟩) (fun _ R s=>s.heap.get? l=some { cls:= .type "tuple",dict:=dd,data:= .seq items n,slots:=sl }/\R (.ok (.ret (.ref s.heap.objs.size))) { s with heap:=s.heap.push { cls:= .type "tuple",data:= .seq #[] } }):=
 .of_wp fun prog w A R s h=>by
  obtain⟨hp,g,d,tk,os⟩:=s;obtain⟨hl,h⟩:=h;have e0:(decide (x < -(2 ^ 63))||decide (x >= 2 ^ 63))=false:=by simp;omega
  have e1:(items.isEmpty||x==1)=false:=by rw[hi];simp;omega
  have e2:(decide (x<=0)||items.isEmpty)=true:=by simp[hx]
  wp_walk
  refine wpAny_ite_false (by rw[e0];rfl) ?_
  wp_walk
  refine wpAny_ite_false (by rw[e1];rfl) ?_
  wp_walk
  exact⟨_,rfl,h⟩
theorem afW(l:Addr)(items:Array Value)(n:Nat)(x:Int)(u:Tok)(dd:Option Addr)(sl:Array (Option Value))(hx:2<=x)(hx2:x<2 ^ 63)(hi:items.isEmpty=false)(hz:(items.size:Int)*x<=sizeLine)(hsz:(List.foldl (fun x1 x2=>x1++x2) #[] (List.replicate x.toNat items)).size<=sizeLine):
  Meets (Builtin.«tuple.__mul__» ⟨[.ref l,.int x u],[]⟩) (fun _ R s=>s.heap.get? l=some { cls:= .type "tuple",dict:=dd,data:= .seq items n,slots:=sl }/\R (.ok (.ret (.ref s.heap.objs.size))) { s with heap:=s.heap.push { cls:= .type "tuple",data:= .seq (List.foldl (fun x1 x2=>x1++x2) #[] (List.replicate x.toNat items)) } }):=
 .of_wp fun prog w A R s h=>by
  obtain⟨hp,g,d,tk,os⟩:=s;obtain⟨hl,h⟩:=h;have hs:((2 ^ 63-1) / 8:Int) >= (sizeLine:Int):=by rw[sizeLine_eq];decide
  have e0:(decide (x < -(2 ^ 63))||decide (x >= 2 ^ 63))=false:=by simp;omega
  have e1:(items.isEmpty||x==1)=false:=by rw[hi];simp;omega
  have e2:(decide (x<=0)||items.isEmpty)=false:=by rw[hi];simp;omega
  have e3:¬ (items.size:Int)*x>(2 ^ 63-1) / 8:=by omega
  have e4:Builtin.Tuple.tupleTooMany ((items.size:Int)*x)=false:=by simp[Builtin.Tuple.tupleTooMany];omega
  wp_walk
  refine wpAny_ite_false (by rw[e0];rfl) ?_
  wp_walk
  refine wpAny_ite_false (by rw[e1];rfl) ?_
  wp_walk
  refine wpAny_ite_false (by rw[e2];rfl) ?_
  wp_walk
  rw[if_neg e3];refine wpAny_ite_false (by rw[e4];rfl) ?_
  wp_walk
  exact⟨_,rfl,h⟩
theorem abi:fillsNumberSlot (.type "tuple") "mul"=pure false:=
 PySem.fillsNumberSlot_seq (id:="tuple.__mul__") (r:=some (.builtin "tuple.__rmul__")) F.slot_tuple_mul.lookup (by decide +kernel) F.slot_tuple_rmul.lookup (by decide +kernel)
theorem aeQ:seqRepeat? (.type "tuple")=pure (some (.builtin "tuple.__mul__")):=by
 unfold seqRepeat?;rw[PySem.seqSlot_of (T:="tuple") (name:="__mul__") (id:="tuple.__mul__") F.slot_tuple_mul.lookup (by decide +kernel),PySem.seqSlot_of (T:="tuple") (name:="__rmul__") (id:="tuple.__rmul__") F.slot_tuple_rmul.lookup (by decide +kernel)];rfl
theorem acT(a:Int)(t:Tok)(l:Addr)(items:Array Value)(n:Nat)(dd:Option Addr)(sl:Array (Option Value)):
  Meets (Builtin.«int.__rmul__» ⟨[.int a t,.ref l],[]⟩) (fun _ R s=>s.heap.get? l=some { cls:= .type "tuple",dict:=dd,data:= .seq items n,slots:=sl }/\R (.ok (.ret Value.notImplemented)) s):=
 .of_wp fun prog w A R s h=>by
  obtain⟨hp,g,d,tk,os⟩:=s;obtain⟨hl,h⟩:=h
  wp_walk
  exact⟨_,rfl,h⟩
section
open PyProof.Rows hiding St
variable {X:Cx}{e a b c tg src:Expr}{es:List Expr}{fa fb fc:RP}{pos:Pos}{qg:List Expr}
noncomputable def aq3(K:Fg):R2:=fun x y H Q=>∃l k xs,x= .ref l/\y= .int k/\SqT K H l xs/\0<xs.length/\-(2 ^ 63)<=k/\k<2 ^ 63/\(xs.length:Int)*k<=sizeLine/\
 (∀p,H p=none->Q (.ref p) (upd H p (.tup (List.replicate k.toNat xs).flatten)))/\(k=1->Q (.ref l) H)
theorem ant:OpR X (binaryOp .Mult) (aq3 X.K):=by
 intro Kp s σ H x y v u Q I rx ry h;obtain⟨l,k,xs,rfl,rfl,hH,hne,h1,h2,hz,q,q1⟩:=h;cases rx;obtain⟨t,rfl⟩:=ry;obtain⟨its,r,⟨⟨oc,od,odt,osl⟩,e,c,n,d⟩,hlz⟩:=I.tuple hH;have hl:=r.length;cases c;cases (show odt=_ from d)
 have hi:its.toArray.isEmpty=false:=by
  cases its with
  |nil=>rw[hl]at hne;simp at hne
  |cons a r'=>simp
 refine wpAny_binaryOp_repeat_ref (T:="tuple") (U:="int") (by decide) ⟨_,e,rfl⟩ (fun s'=>typeIs_int s' k t) abi F.fills_int_mul F.slot_int_rmul aeQ F.slot_int_index.lookup
  (call_meets F.slot_int_rmul (typeIs_int s k t) F.entry_int_rmul (F.args_int_rmul_2 _ _) (acT k t l its.toArray n od osl) ⟨e,rfl,⟨_,e,rfl⟩,?_⟩)
 have fresh:∀{ys:List V} {jts:List Value},jH ys jts->ys.length<=sizeLine->Inv X Kp σ (upd H s.heap.objs.size (.tup ys)) { s with heap:=s.heap.push { cls:= .type "tuple",data:= .seq jts.toArray } }:=fun {ys jts} rv hy=>
  I.laid (t':=s.toks) (fun b o e=>Heap.get?_push_of_some _ e) (Nat.le_refl _) (show zh X.prog X.w _ _ _ (.tup ys) from⟨hy,jts,rv,IsTup.new _ _⟩)
 by_cases k1:k=1
 ·subst k1
  exact call_meets F.slot_tuple_mul ⟨_,e,rfl⟩ F.entry_tuple_mul (F.args_tuple_mul_2 _ _) (afU l its.toArray n t od osl) ⟨e,.ref l,H,I,rfl,q1 rfl⟩
 ·by_cases k0:k<=0
  ·have hk:k.toNat=0:=by omega
   refine call_meets F.slot_tuple_mul ⟨_,e,rfl⟩ F.entry_tuple_mul (F.args_tuple_mul_2 _ _) (afV l its.toArray n k t od osl k0 h1 hi) ⟨e,.ref _,_,fresh (ys:=[]) (jts:=[]) .nil (Nat.zero_le _),rfl,?_⟩;have:=q _ (I.hok.fresh (Nat.le_refl _));rw[hk]at this;exact this
  ·have hnew:List.foldl (fun x1 x2=>x1++x2) #[] (List.replicate k.toNat its.toArray)=(List.replicate k.toNat its).flatten.toArray:=by
    have:=aba its k.toNat [];rw[List.nil_append]at this;exact this
   have hlen:((List.replicate k.toNat xs).flatten.length:Int)=xs.length*k:=by
    rw[aia,Int.natCast_mul,Int.mul_comm,Int.toNat_of_nonneg (by omega)]
   have hlen2:(List.replicate k.toNat xs).flatten.length<=sizeLine:=by omega
   have hl2:=(r.rep k.toNat).length;refine call_meets F.slot_tuple_mul ⟨_,e,rfl⟩ F.entry_tuple_mul (F.args_tuple_mul_2 _ _) (afW l its.toArray n k t od osl (by omega) h2 hi (by rw[List.size_toArray,←hl];exact hz) (by rw[hnew,List.size_toArray,←hl2];exact hlen2)) ⟨e,?_⟩;rw[hnew];exact⟨.ref _,_,fresh (r.rep k.toNat) hlen2,rfl,q _ (I.hok.fresh (Nat.le_refl _))⟩
end
end BX
end
section
namespace BX
open PySem PySem.Spec L2
open PyProof.Rows hiding St
section
variable {X:Cx}{e a b c tg src:Expr}{es:List Expr}{fa fb fc:RP}{pos:Pos}{qg:List Expr}
noncomputable def adZ(p q:PyData):OP:=match p,q with
 |.tuple ds,.int k=>if 0<ds.length/\ds.length<1000/\-1000<k/\k<1000 then some (.tuple (List.replicate k.toNat ds).flatten) else none
 |_,_=>none
theorem akY:OpD X (binaryOp .Mult) adZ:=by
 refine⟨_,ant,fun p q d x y H Q h rx ry k=>?_⟩;unfold adZ at h;split at h
 ·rename_i ds n
  split at h
  ·rename_i hc
   cases h;obtain⟨a,us,e1,e2,e3⟩:=rx;cases (show y=V.int n from ry);have hl:=e3.length
   have hz:(us.length:Int)*n<=1000000:=by
    have h1:(us.length:Int)*n<=us.length*1000:=Int.mul_le_mul_of_nonneg_left (by omega) (by omega);omega
   refine⟨a,n,us,e1,rfl,e2,by omega,by omega,by omega,Int.le_trans hz (by rw[sizeLine_eq];decide),fun p hp=>?_,fun h1=>?_⟩
   ·have s1:=jE (o:= .tup (List.replicate n.toNat us).flatten) hp
    exact k _ _ s1 ⟨p,_,rfl,SqT.of jq,Reps.mono s1 _ _ (e3.rep _)⟩
   ·subst h1
    refine k _ H (jp.refl H) ⟨a,us,rfl,e2,?_⟩;simpa using e3
  ·cases h
 ·cases h
noncomputable def aeR(fa fb:RP):RP:=fun ρ=>(fa ρ).bind fun x=>(asB x).bind fun t=>if t=true then fb ρ else some (.bool false)
theorem akZ{op:BoolOp}(ha:PD X a fa):PD X (.BoolOp op [a] pos) fa:=by
 with_unfolding_all exact(akg ha)
theorem ak0(ha:PD X a fa)(hb:PD X (.BoolOp .And (b::qg) pos) fb):PD X (.BoolOp .And (a::b::qg) pos) (aeR fa fb):=by
 with_unfolding_all
  refine PE.imp (akh ha hb) fun σ H Q ⟨ρ,d,en,h,k⟩=>?_;cases h1:fa ρ with
  |none=>simp[aeR,h1]at h
  | some x=>
   cases h2:asB x with
   |none=>simp[aeR,h1,h2]at h
   | some t=>
    have hx:=Jc h2;subst hx;refine⟨ρ,_,en,h1,fun v H1 s1 r1=>⟨t,r1,?_⟩⟩;cases t with
    |true=>rw[if_pos rfl];exact⟨ρ,d,en.mono s1,by simpa[aeR,h1,h2]using h,fun v H2 s2 r2=>k v H2 (s1.trans s2) r2⟩
    | false=>
     rw[if_neg Bool.false_ne_true];have:PyData.bool false=d:=by simpa[aeR,h1,h2]using h
     subst this;exact k _ H1 s1 rfl
end
section
variable {X:Cx}{e a b c tg src:Expr}{es:List Expr}{fa fb fc:RP}{pos:Pos}
noncomputable def ak1(c d:OP):OP:=match c,d with
 |some (.list ds),some (.list es)=>if noLs es=true/\ds.length+es.length<1000000 then some (.list (ds++es)) else none
 |_,_=>none
noncomputable def ajq(i:Nat)(fa:RP):RP:=fun ρ=>ak1 (lkp i ρ) (fa ρ)
theorem ak2{c d:OP}{r:PyData}(h:ak1 c d=some r):∃ds es,c=some (.list ds)/\d=some (.list es)/\noLs es=true/\ds.length+es.length<1000000/\r= .list (ds++es):=by
 unfold ak1 at h;split at h
 ·split at h
  ·rename_i hc
   cases h;exact⟨_,_,rfl,rfl,hc.1,hc.2,rfl⟩
  ·cases h
 ·cases h
theorem abj(i:Nat){x:Str}{p1 apos cpos:Pos}(h:PD X e fa)(hN:X.N[i]?=some x:=by rfl)(hv:Vis X.env.scope x:=by first|exact Or.inl rfl|exact Or.inr (Or.inl rfl)|exact Or.inr (Or.inr rfl))(hd:(x==("__debug__":Str))=false:=by decide)
  (hcd:(x==("__classdict__":Str))=false:=by decide) (hbase:attributeBase (.Name x p1) "extend" X.env (eval (.Name x p1) X.env)=eval (.Name x p1) X.env:=by rfl)
  (hfew:((backTo cpos (starEach [e] X.env)).all (fun x=>!x.1)&&(backToKw cpos (keywordEach [] X.env)).all (fun x=>x.1.isSome)&&decide ([e].length+([]:List Keyword).length+(if ([]:List Keyword).isEmpty then 0 else 1)<30))=true:=by rfl)
  (hline:(apos.endLine==cpos.line)=true:=by rfl) (hs:starEach [e] X.env=(false,eval e X.env)::starEach [] X.env:=by rfl) (hplain:(backTo cpos (starEach [] X.env)).any (·.1)=false:=by rfl):
  PE X (.Call (.Attribute (.Name x p1) "extend" apos) [e] [] cpos) (apz X.prog X.w X.K i (ajq i fa)):=by
 with_unfolding_all
  intro Kp s σ H Q I ⟨Hs,ρ,d',E,hg,k⟩;obtain⟨ds,es,q1,q2,hn,hl,rfl⟩:=ak2 hg;obtain⟨a,xs,g2,g3,g4,g5,env⟩:=E.opnL (qF q1);have hlen:=g5.length;have W:=aky (X:=X) (cpos:=cpos) (apos:=apos) PySem.F.plainAttrs_list PySem.F.slot_list_extend PySem.F.type_list_extend ai8 (ZZ hN hv hd hcd) (qR h Jk hs) hbase hfew hline hs hplain
  refine thn (W Kp s σ (upd H a (.lst xs)) (fun v H4=>∃H3 zs,v= .non/\H4=upd H3 a (.lst (xs++zs))/\jp (upd H a (.lst xs)) H3/\Reps X.K H3 es zs) (Inv.opened I (.l xs) g4)
   ⟨.ref a,g2,.inl ⟨rfl,_,SqL.of jq⟩,ρ,.list es,env,q2,fun y H3 s3 r3=>?_⟩) fun u s1 ⟨v,H4,I4,r,H3,zs,e1,e2,s3,r3⟩=>?_
  ·obtain⟨b,zs,z1,z2,z3⟩:=r3
   have hz:=z3.length;exact⟨a,b,xs,zs,rfl,by rw[z1],s3 _ _ jq,z2,by rw[hlen,hz];exact Nat.le_of_lt (Z6 hl),H3,zs,rfl,rfl,s3,z3⟩
  subst e1;have e4:H4 a=some (.lst (xs++zs)):=by rw[e2];exact jq
  have sb:∀b u,b≠a->H b=some u->H4 b=some u:=fun b u n q=>by rw[e2,jr n];exact s3 b u (by rw[jr n];exact q)
  refine⟨.non,upd H4 a (qk a (xs++zs)),Inv.closed I4 (.l _) e4 (Inv.nofrz I g4),r,k _ (E.put (qF q1) g2 g3 g4 sb ⟨xs++zs,jq,?_⟩)⟩
  have s5:jW H (upd H4 a (qk a (xs++zs))):=fun b u q m=>by
   have:b≠a:=fun z=>by subst z;rw[g4]at q;cases q;exact m _ rfl
   rw[jr this];exact sb b u this q
  have s6:zP H3 (upd H4 a (qk a (xs++zs))):=fun b u q m=>by
   have e3:H3 a=some (.lst xs):=s3 _ _ jq;have:b≠a:=fun z=>by subst z;rw[e3]at q;cases q;exact m _ rfl
   rw[jr this,e2,jr this];exact q
  exact(Reps.monoE s5 _ _ g5).append (Reps.monoN s6 _ _ hn r3)
noncomputable def aq4:V->List V->Hp->VK->Prop:=fun x vs H Q=>∃l xs y,x= .ref l/\vs=[.int 0,y]/\H l=some (.lst xs)/\xs.length<sizeLine/\Q .non (upd H l (.lst (y::xs)))
theorem ahi:MtM X "list.insert" aq4:=by
 intro Kp s σ H x vs v us Q I rx rv h;obtain⟨l,xs,y,rfl,rfl,hH,hz,q⟩:=h;cases rx;cases rv with
 | cons r0 rv=>
  obtain⟨t,rfl⟩:=r0;obtain⟨u,rfl,ru⟩:=jH.one rv;obtain⟨z,its,n,r,hl,e⟩:=I.lstM hH;refine call_meets F.slot_list_insert ⟨_,e,rfl⟩ F.entry_list_insert (F.args_list_insert_3 _ _ _) (AutoSeq1.list_insert_list_int_val_1 l its.toArray n 0 t u (by decide) (by rw[List.size_toArray];omega)) ⟨e,?_⟩;refine⟨.non,_,I.lset (its':=u::its) (t':=s.toks) hH e ?_ (.cons ru r) ?_,rfl,q⟩
  ·simp
  ·rw[List.length_cons];omega
noncomputable def anu(c z d:OP):OP:=match c,z,d with
 |some (.list ds),some (.int 0),some d=>if noL d=true/\ds.length<1000000 then some (.list (d::ds)) else none
 |_,_,_=>none
noncomputable def aq5(i:Nat)(fz fa:RP):RP:=fun ρ=>anu (lkp i ρ) (fz ρ) (fa ρ)
theorem ak3{c z d:OP}{r:PyData}(h:anu c z d=some r):∃ds x,c=some (.list ds)/\z=some (.int 0)/\d=some x/\noL x=true/\ds.length<1000000/\r= .list (x::ds):=by
 unfold anu at h;split at h
 ·split at h
  ·rename_i hc
   cases h;exact⟨_,_,rfl,rfl,rfl,hc.1,hc.2,rfl⟩
  ·cases h
 ·cases h
theorem ahj(i:Nat){x:Str}{p1 apos cpos:Pos}{fz:RP}(hz:PD X b fz)(h:PD X e fa)(hN:X.N[i]?=some x:=by rfl)(hv:Vis X.env.scope x:=by first|exact Or.inl rfl|exact Or.inr (Or.inl rfl)|exact Or.inr (Or.inr rfl))(hd:(x==("__debug__":Str))=false:=by decide)
  (hcd:(x==("__classdict__":Str))=false:=by decide) (hbase:attributeBase (.Name x p1) "insert" X.env (eval (.Name x p1) X.env)=eval (.Name x p1) X.env:=by rfl)
  (hfew:((backTo cpos (starEach [b,e] X.env)).all (fun x=>!x.1)&&(backToKw cpos (keywordEach [] X.env)).all (fun x=>x.1.isSome)&&decide ([b,e].length+([]:List Keyword).length+(if ([]:List Keyword).isEmpty then 0 else 1)<30))=true:=by rfl)
  (hline:(apos.endLine==cpos.line)=true:=by rfl) (hs:starEach [b,e] X.env=(false,eval b X.env)::starEach [e] X.env:=by rfl) (hs2:starEach [e] X.env=(false,eval e X.env)::starEach [] X.env:=by rfl) (hplain:(backTo cpos (starEach [e] X.env)).any (·.1)=false:=by rfl):
  PE X (.Call (.Attribute (.Name x p1) "insert" apos) [b,e] [] cpos) (apz X.prog X.w X.K i (aq5 i fz fa)):=by
 with_unfolding_all
  intro Kp s σ H Q I ⟨Hs,ρ,d',E,hg,k⟩;obtain⟨ds,d,q1,q0,q2,hn,hl,rfl⟩:=ak3 hg;obtain⟨a,xs,g2,g3,g4,g5,env⟩:=E.opnL (qF q1);have hlen:=g5.length;have W:=aky (X:=X) (cpos:=cpos) (apos:=apos) PySem.F.plainAttrs_list PySem.F.slot_list_insert PySem.F.type_list_insert ahi (ZZ hN hv hd hcd) (qR hz (qR h Jk hs2) hs) hbase hfew hline hs hplain
  refine thn (W Kp s σ (upd H a (.lst xs)) (fun v H4=>∃H3 y,v= .non/\H4=upd H3 a (.lst (y::xs))/\jp (upd H a (.lst xs)) H3/\Rep X.K H3 d y) (Inv.opened I (.l xs) g4)
   ⟨.ref a,g2,.inl ⟨rfl,_,SqL.of jq⟩,ρ,.int 0,env,q0,fun y0 H2 s2 r2=>⟨ρ,d,env.mono s2,q2,fun y H3 s3 r3=>?_⟩⟩) fun u s1 ⟨v,H4,I4,r,H3,y,e1,e2,s3,r3⟩=>?_
  ·cases (show y0=V.int 0 from r2)
   exact⟨a,xs,y,rfl,rfl,s3 _ _ (s2 _ _ jq),by rw[hlen];exact Z6 hl,H3,y,rfl,rfl,s2.trans s3,r3⟩
  subst e1;have e4:H4 a=some (.lst (y::xs)):=by rw[e2];exact jq
  have sb:∀b u,b≠a->H b=some u->H4 b=some u:=fun b u n q=>by rw[e2,jr n];exact s3 b u (by rw[jr n];exact q)
  refine⟨.non,upd H4 a (qk a (y::xs)),Inv.closed I4 (.l _) e4 (Inv.nofrz I g4),r,k _ (E.put (qF q1) g2 g3 g4 sb ⟨y::xs,jq,?_⟩)⟩
  have s5:jW H (upd H4 a (qk a (y::xs))):=fun b u q m=>by
   have:b≠a:=fun z=>by subst z;rw[g4]at q;cases q;exact m _ rfl
   rw[jr this];exact sb b u this q
  have s6:zP H3 (upd H4 a (qk a (y::xs))):=fun b u q m=>by
   have e3:H3 a=some (.lst xs):=s3 _ _ jq;have:b≠a:=fun z=>by subst z;rw[e3]at q;cases q;exact m _ rfl
   rw[jr this,e2,jr this];exact q
  exact⟨y,xs,rfl,Rep.monoN s6 _ _ hn r3,Reps.monoE s5 _ _ g5⟩
end
section
variable {X:Cx}{e a b c tg src:Expr}{es:List Expr}{fa fb fc:RP}{pos:Pos}
noncomputable def aq6:V->V->V->Hp->(Hp->Prop)->Prop:=fun o k v H Q=>∃a xs n j,o= .ref a/\k= .int n/\H a=some (qk a xs)/\ixN xs.length n=some j/\Q (upd H a (qk a (xs.set j v)))
theorem ak4:ao0 X aq6:=by
 intro Kp s σ H o k v ov iv u Q I ro rk rv ⟨a,xs,n,j,e1,e2,h1,h2,q⟩;subst e1;subst e2;refine thn (akw Kp s σ (upd H a (.lst xs)) (.ref a) (.int n) v ov iv u (fun H'=>H'=upd (upd H a (.lst xs)) a (.lst (xs.set j v))) (Inv.opened I (.l xs) h1) ro rk rv ⟨a,xs,n,j,rfl,rfl,jq,h2,rfl⟩) fun _ s1 ⟨H',I',e⟩=>?_;subst e;have I2:=Inv.closed I' (.l (xs.set j v)) jq (Inv.nofrz I h1);rw[Qw,Qw]at I2;exact⟨_,I2,q⟩
noncomputable def ak5(c v k:OP):OP:=match c,v,k with
 |some (.list ds),some d,some (.int n)=>(ixN ds.length n).map fun j=> .list (ds.set j d)
 |_,_,_=>none
theorem ak6{c v k:OP}{o:PyData}(h:ak5 c v k=some o):∃ds d n j,c=some (.list ds)/\v=some d/\k=some (.int n)/\ixN ds.length n=some j/\o= .list (ds.set j d):=by
 unfold ak5 at h;split at h
 ·rename_i ds d n
  cases q:ixN ds.length n with
  |none=>rw[q]at h;cases h
  |some j=>rw[q]at h;cases h;exact⟨_,_,_,_,rfl,rfl,rfl,q,rfl⟩
 ·cases h
theorem Reps.set{K:Fg}{H:Hp}{d:PyData}{v:V}(r:Rep K H d v):∀{ds:LP}{xs:List V} (j:Nat),Reps K H ds xs->Reps K H (ds.set j d) (xs.set j v)
 | [],xs,j,h=>by cases (show xs=[] from h);exact rfl
 |_::ds,xs,0,⟨x,q,h1,h2,h3⟩=>by subst h1;exact⟨v,q,rfl,r,h3⟩
 |_::ds,xs,j+1,⟨x,q,h1,h2,h3⟩=>by subst h1;exact⟨x,_,rfl,h2,Reps.set r j h3⟩
noncomputable def anv(i:Nat)(fk fv:RP):RO:=fun ρ=>(ak5 (lkp i ρ) (brw (some i) fv ρ) (brw (some i) fk ρ)).map fun d=> .nx (ρ.set i (some d))
theorem ak7(i:Nat){x:Str}{p1 p2:Pos}{fk fv:RP}(hk:PD X b fk)(he:PD X e fv)(hN:X.N[i]?=some x:=by rfl)(hv:Vis X.env.scope x:=by first|exact Or.inl rfl|exact Or.inr (Or.inl rfl)|exact Or.inr (Or.inr rfl))
  (hd:(x==("__debug__":Str))=false:=by decide) (hcd:(x==("__classdict__":Str))=false:=by decide)
  (ha:∀v,assign (.Subscript (.Name x p1) b p2) X.env v=(do
   let ov ←holding [v] (eval (.Name x p1) X.env)
   let iv ←holding [v,ov] (eval b X.env)
   standAt p2
   holding [v,ov,iv] (setItem ov iv v)
   release [v,ov,iv] []):=by intro _; rfl)
  (hs:swapsWithSole [.Subscript (.Name x p1) b p2] e pos.line X.env=pure false:=by rfl) (hw:swappedStores [.Subscript (.Name x p1) b p2] e X.env=pure none:=by rfl)
  (h1:(assignEach [.Subscript (.Name x p1) b p2] X.env).map (·.2)=[assign (.Subscript (.Name x p1) b p2) X.env]:=by rfl):PSO X (some i) (.Assign [.Subscript (.Name x p1) b p2] e pos) (anv i fk fv):=by
 with_unfolding_all
  refine PS.imp (akm (ahh (own:=some i) he) (ao1 (ZZ hN hv hd hcd) (ahh (own:=some i) hk) ak4 ha) hs hw h1) fun D σ H ⟨Hs,ρ,o,E,q,k⟩=>?_;cases hp:ak5 (lkp i ρ) (brw (some i) fv ρ) (brw (some i) fk ρ)with
  |none=>simp[anv,hp]at q
  | some nw=>
   have:Out.nx (ρ.set i (some nw))=o:=by simpa[anv,hp]using q
   subst this;obtain⟨ds,d,n,j,q1,q2,q3,hl,rfl⟩:=ak6 hp;refine⟨Hs,ρ,d,E,q2,fun v H1 s1 E1 r1=>?_⟩;obtain⟨d0,a,g1,g2,g3,g4⟩:=E1.ow i rfl;rw[qF q1]at g1;cases g1;refine⟨.ref a,g2,Hs,ρ,.int n,E1,q3,fun kv H2 s2 E2 r2=>?_⟩;cases (show kv=V.int n from r2);obtain⟨d1,a1,f1,f2,f3,f4⟩:=E2.ow i rfl;rw[qF q1]at f1;cases f1;rw[g2]at f2;cases f2;obtain⟨xs,e2,e3⟩:=f4;refine⟨a,xs,n,j,rfl,rfl,e2,by rw[e3.length];exact hl,k _ _ (E2.put (qF q1) g2 f3 e2 (fun _ _ _ z=>z) ⟨_,jq,?_⟩)⟩;have s5:jW H2 (upd H2 a (qk a (xs.set j v))):=jW.upd e2;exact Reps.set (Rep.monoE (s2.trans s5) _ _ r1) j (Reps.monoE s5 _ _ e3)
noncomputable def acf(ds:LP):OP:=match ds with
 | [.list xs]=>some (.list xs)
 | [.tuple xs]=>some (.list xs)
 |_=>none
noncomputable def aeS(ds:LP):OP:=match ds with
 | [.list xs]=>some (.tuple xs)
 | [.tuple xs]=>some (.tuple xs)
 |_=>none
theorem afX:ZT X (.type "tuple") aeS:=by
 refine⟨_,ady,fun ds d xs H Q h r k=>?_⟩;unfold aeS at h;split at h
 ·cases h
  obtain⟨x,q,e1,e2,e3⟩:=r;cases (show q=[] from e3);obtain⟨a,us,g1,g2,g3⟩:=e2;subst g1;refine⟨a,us,e1,.inl ⟨SqL.of g2,fun l hl=>?_⟩⟩;have s1:=jE (o:= .tup us) hl;exact k _ _ s1 ⟨l,us,rfl,SqT.of jq,Reps.mono s1 _ _ g3⟩
 ·cases h
  obtain⟨x,q,e1,e2,e3⟩:=r;cases (show q=[] from e3);obtain⟨a,us,g1,g2,g3⟩:=e2;subst g1;exact⟨a,us,e1,.inr ⟨g2,k _ H (jp.refl H) ⟨a,us,rfl,g2,g3⟩⟩⟩
 ·cases h
theorem ajr{p:Pos}{fr:Rho->Option (LP)}(hm:X.mg "list"=none)(hv:bootBuiltins "list"=some (.type "list"))(ha:PAD X [e] fr)(hg:Gl X "list":=by rfl)
  (he:starEach [e] X.env=(false,eval e X.env)::starEach [] X.env:=by rfl) (hpl:(backTo pos (starEach [] X.env)).any (·.1)=false:=by rfl):PN X (.Call (.Name "list" p) [e] [] pos) (jB acf fr):=by
 with_unfolding_all
  intro Kp s σ H Q I ⟨ρ,d,en,hf,k⟩;cases h1:fr ρ with
  |none=>simp[jB,h1]at hf
  | some as=>
   have q':acf as=some d:=by simpa[jB,h1]using hf
   have W:=adR (X:=X) (pos:=pos) (p:=p) aeG hg hm hv ha (by decide) (by decide) he hpl;refine thn (W Kp s σ H (fun v H2=>∃a ys H1 ds,v= .ref a/\H1 a=none/\jp H H1/\H2=upd H1 a (.lst ys)/\d= .list ds/\Reps X.K H1 ds ys) I ⟨ρ,as,en,h1,fun vs H1 s1 r1=>?_⟩) fun u s1 ⟨v,H2,I2,r,a,ys,H1,ds,e1,e2,s1',e3,e0,r1⟩=>?_
   ·unfold acf at q'
    split at q'
    ·cases q'
     obtain⟨x,q,z1,z2,z3⟩:=r1;cases (show q=[] from z3);obtain⟨a,us,g1,g2,g3⟩:=z2;subst g1;exact⟨a,us,z1,.inl (SqL.of g2),fun l hl=>⟨l,us,H1,_,rfl,hl,s1,rfl,rfl,g3⟩⟩
    ·cases q'
     obtain⟨x,q,z1,z2,z3⟩:=r1;cases (show q=[] from z3);obtain⟨a,us,g1,g2,g3⟩:=z2;subst g1;exact⟨a,us,z1,.inr g2,fun l hl=>⟨l,us,H1,_,rfl,hl,s1,rfl,rfl,g3⟩⟩
    ·cases q'
   ·subst e1;subst e0
    have e4:H2 a=some (.lst ys):=by rw[e3];exact jq
    have e5:upd H2 a (qk a ys)=upd H1 a (qk a ys):=by rw[e3,Qw]
    have s2:jp H1 (upd H2 a (qk a ys)):=by rw[e5];exact jE e2
    exact⟨.ref a,_,Inv.closed I2 (.l ys) e4 (fun ob u z=>by have:=I.base.frzs _ _ _ z;rw[s1'.free e2]at this;cases this),r,k a _ (s1'.trans s2) (s1'.free e2) ⟨ys,jq,Reps.mono s2 _ _ r1⟩⟩
end
section
variable {X:Cx}{e a b c:Expr}{fa fb fc:RP}{pos p2:Pos}
noncomputable def abk(ds:LP)(lo hi:Option Int):LP:=(ds.drop (HT.sIx ds.length 0 lo)).take (HT.sIx ds.length ds.length hi-HT.sIx ds.length 0 lo)
noncomputable def inI:PyData->Option Int
 |.int i=>some i
 |_=>none
theorem acU{d:PyData}{i:Int}(h:inI d=some i):d= .int i:=by cases d<;>simp[inI]at h;rw[h]
end
section
variable {prog:Program}{w:World}{A:Around}{E:Value->SP0}{s:Shared}
noncomputable def ItA(g:Bool)(h:Heap)(i t:Addr)(k:Nat):Prop:=match g with
 |true=>h.IsListIter i t k
 |false=>h.IsTupleIter i t k
noncomputable def SrA(g:Bool)(h:Heap)(t:Addr)(xs:Array Value):Prop:=match g with
 |true=>h.IsList t xs
 |false=>h.IsTuple t xs
theorem ItA.to{g:Bool}{h h':Heap}{i t:Addr}{k:Nat}(x:ItA g h i t k)(kp:∀o,h.get? i=some o->h'.get? i=some o):ItA g h' i t k:=by
 cases g<;>exact(let ⟨o,e,r⟩:=x;⟨o,kp o e,r⟩)
theorem SrA.to{g:Bool}{h h':Heap}{t:Addr}{xs:Array Value}(x:SrA g h t xs)(kp:∀o,h.get? t=some o->h'.get? t=some o):SrA g h' t xs:=by
 cases g<;>exact(let ⟨o,e,r⟩:=x;⟨o,kp o e,r⟩)
theorem ItA.extBut{g:Bool}{h h':Heap}{i t b:Addr}{k:Nat}(x:ItA g h i t k)(e:Heap.ExtBut b h h')(n:i≠b):ItA g h' i t k:=x.to fun o q=>e i o n q
theorem SrA.extBut{g:Bool}{h h':Heap}{t b:Addr}{xs:Array Value}(x:SrA g h t xs)(e:Heap.ExtBut b h h')(n:t≠b):SrA g h' t xs:=x.to fun o q=>e t o n q
theorem ItA.obj{g:Bool}{h:Heap}{i t:Addr}{k:Nat}(x:ItA g h i t k):∃o vs,h.get? i=some o/\o.data= .fields vs:=by
 cases g<;>exact(let ⟨o,e,_,d⟩:=x;⟨o,_,e,d⟩)
structure Apart2(z TI TO i1 i2 t1 t2:Addr):Prop where
 nd:[z,TO,i1,i2].Nodup
 ti:TI∉[z,TO,i1,i2]
 s1:t1∉[z,TO,i1,i2]
 s2:t2∉[z,TO,i1,i2]
structure Zip2(ga gb:Bool)(h:Heap)(z TI TO i1 i2 t1 t2:Addr)(f0:Value)(k:Nat):Prop where
 hz:IsZip h z TI TO f0
 hTI:IsPair h TI (.ref i1) (.ref i2)
 hTO:∃a b,IsPair h TO a b
 g1:ItA ga h i1 t1 k
 g2:ItA gb h i2 t2 k
theorem Zip2.keep{ga gb:Bool}{h h':Heap}{z TI TO i1 i2 t1 t2:Addr}{f0:Value}{k:Nat}(S:Zip2 ga gb h z TI TO i1 i2 t1 t2 f0 k)(kp:∀b∈[z,TI,TO,i1,i2],∀o,h.get? b=some o->h'.get? b=some o):
  Zip2 ga gb h' z TI TO i1 i2 t1 t2 f0 k:=by
 obtain⟨hz,hTI,⟨a,b,hTO⟩,g1,g2⟩:=S;exact⟨kp z (by simp) _ hz,kp TI (by simp) _ hTI,⟨a,b,kp TO (by simp) _ hTO⟩,g1.to (kp i1 (by simp)),g2.to (kp i2 (by simp))⟩
end
noncomputable def Sq(g:Bool)(K:Fg)(H:Hp)(t:Addr)(xs:List V):Prop:=match g with
 |true=>SqL K H t xs
 |false=>SqT K H t xs
theorem Sq.inj{g:Bool}{X:Cx}{Kp:List (Addr×Obj)}{σ:St}{H:Hp}{s:Shared}{a:Addr}{xs ys:List V}(I:Inv X Kp σ H s)(q:Sq g X.K H a xs)(q':Sq g X.K H a ys):xs=ys:=by
 cases g with
 |true=>exact I.list_inj q q'
 |false=>exact I.tuple_inj q q'
theorem Sq.monoE{g:Bool}{K:Fg}{H H':Hp}{a:Addr}{xs:List V}(e:jW H H')(h:Sq g K H a xs):Sq g K H' a xs:=by
 cases g with
 |true=>exact jW.sql e h
 |false=>exact jW.tup e h
theorem Sq.monoA{g:Bool}{K:Fg}{H H':Hp}{a:Addr}{xs:List V}(e:jv H H')(h:Sq g K H a xs):Sq g K H' a xs:=by
 cases g with
 |true=>exact jv.sql e h
 |false=>exact jv.tup e h
theorem Sq.at{g:Bool}{K:Fg}{H:Hp}{a:Addr}{xs:List V}(h:Sq g K H a xs):(∃u,H a=some u)∨∃o,K.lookup a=some o:=by
 cases g with
 |true=>rcases h with (e | ⟨o,e⟩) | ⟨o,its,n,hk,_⟩<;>first|exact .inl ⟨_,e⟩|exact .inr ⟨_,hk⟩
 |false=>rcases h with (e | ⟨o,e⟩) | ⟨o,its,n,hk,_⟩<;>first|exact .inl ⟨_,e⟩|exact .inr ⟨_,hk⟩
section
variable {X:Cx}
end
section
variable {X:Cx}{e a b c:Expr}{fa fb fc:RP}{pos p2:Pos}
noncomputable def anw(p:PyData)(lo hi:Option Int):OP:=match p with
 |.list ds=>some (.list (abk ds lo hi))
 |_=>none
theorem Zh:∀{is:List Int}{us:List Value},jH (is.map V.int) us->∀(j:Nat) (i:Int),is[j]?=some i->∃t,us[j]?=some (.int i t)
 | [],us,r,j,i,h=>by simp at h
 | i0::is,u::us,.cons r rr,j,i,h=>by
  cases j with
  |zero=>cases h;obtain⟨t,rfl⟩:=r;exact⟨t,rfl⟩
  |succ j=>exact Zh rr j i (by simpa using h)
end
structure OneCell(sc:Scope)(y0:Str)(pre post:List (Str×NameKind)):Prop where
 split:sc.names=pre++(y0,.cell)::post
 pre:∀x∈pre,x.2 ≠ .cell
 post:∀x∈post,x.2 ≠ .cell
structure CompOk1(X:Cx)(sc:Scope)(N':List Str)(cap:List (Option Nat))(y0:Str):Prop where
 fr:∀x∈sc.names,x.2= .free->X.env.kindOf x.1=some .cell∨X.env.kindOf x.1=some .free
 one:∃pre post,OneCell sc y0 pre post
 lk:sc.names.lookup y0=some .cell
 kind:sc.kind= .function
 nm:∀x∈sc.names,x.2= .local->sc.names.lookup x.1=some .local
 len:cap.length=N'.length
 cp:∀(j i:Nat) (x:Str),N'[j]?=some x->cap[j]?=some (some i)->X.N[i]?=some x/\sc.names.lookup x=some .free
section
variable {X:Cx}{e:Expr}{fa:RP}
end
theorem anx{X : Cx}{i0 : Nat}{x0 : Str}{pos0 pos1 : Pos}{el tg src : Expr}{ts : List Expr}{sc : Scope}{ps : Pos}{wi : TI}{g : TG}{tt : TT}{te : TE}{N' : List Str}{cap : List (Option Nat)}(hc : X.calm = true)(hi : PI X tg src wi)(ok : CompOk X sc N' cap)
    (body : ∀cl C s0 H0 fp pn, PG (blk X N' sc cl C s0 H0 fp pn) tg g /\ PTs (blk X N' sc cl C s0 H0 fp pn) ts tt /\ PE (blk X N' sc cl C s0 H0 fp pn) el te)
    (hN : X.N.Nodup) (hi0 : X.N[i0]? = some x0) (hx0 : Loc X.env.scope x0) (hsw : swapsWith (.ListComp el [⟨tg, src, ts, 0⟩] sc ps) (some (.Name x0 pos0)) pos1.line X.env = pure true)
    (hf0 : X.fn x0 = true∨X.env.scope.names.lookup x0 = some .local)
    (hs : ∀x, foldedSetIterable src X.env x = pure x := by intro _;rfl) : PS X (.Assign [.Name x0 pos0] (.ListComp el [⟨tg, src, ts, 0⟩] sc ps) pos1) (ao2 (akA wi cap g tt te) (akk i0)) := by
  intro Kp s σ H Dn I h;have hfr : ∀x∈sc.names, x.2 = .free -> ∃c, X.env.cells.lookup x.1 = some c := fun x hx e => I.ok.has x.1 (ok.fr x hx e);have hcl := aic sc X.env hfr
  have clm : ∀x c, (QH X.env sc.names []).lookup x = some c -> X.env.cells.lookup x = some c := fun x c e =>
    abb X.env sc.names [] hfr (fun _ z => nomatch z) (x, c) (PySem.mem_of_lookup e)
  generalize hgl : QH X.env sc.names [] = cl at hcl clm;rw[exec_Assign_Name_used _ _ _ _ hsw];refine wpAny_bind (wpAny_standAt (wpAny_bind ?_));show wpAny _ X.A (do let _ ← comprehension (.ListComp el [⟨tg, src, ts, 0⟩] sc ps) sc X.env _ (newList []) false (eval src X.env) (some (assign (.Name x0 pos0) X.env))) _ _ s;refine wpAny_bind (wpAny_mono (wpAny_comprehension_free (use := some (assign (.Name x0 pos0) X.env)) (Q := fun _ s' => SP X Kp Dn .next s') rfl hs hcl ok.kind ok.nm ?_) (fun _ s' hq => wpAny_pure (wpAny_pure hq)) fun _ _ e => e);refine thn (hi Kp s σ H _ I h) fun v s1 h1 => thn h1 fun itv s2 h2 => ?_;obtain⟨it, fp, tn, J, H2, e, I2, T, st2, f2, W, ⟨m0, w0⟩, turn⟩ := h2;subst e;refine wpAny_newObj_type (wpAny_newFunctionEnv ok.nc (by intro y hy;simp at hy) (fun h4 hns hsb => ?_) ok.kind);dsimp only at hns hsb ⊢;generalize hH3 : s2.heap.push { cls := .type "list", dict := none, data := .seq ([] : List Value).toArray } = h3 at hns hsb ⊢;have hC : h3.objs.size = s2.heap.objs.size + 1 := by rw[← hH3, Heap.size_push]
  generalize hCC : h3.objs.size = C at hns hsb hC ⊢;generalize hDD : s2.heap.objs.size = D at hC ⊢;have hDC : D≠C := by rw[hC];exact Nat.ne_of_lt (Nat.lt_succ_self _)
  have old : ∀b o, s2.heap.get? b = some o -> h4.get? b = some o := fun b o e => hsb.extBut b o (by have := Heap.lt_size e;rw[hDD]at this;rw[hC];exact Nat.ne_of_lt (Nat.lt_succ_of_lt this)) (Heap.get?_push_of_some _ (hH3▸Heap.get?_push_of_some _ e));have accO : h4.get? D = some { cls := .type "list", data := .seq ([] : List Value).toArray 0 } := hsb.extBut _ _ hDC (Heap.get?_push_of_some _ (by rw[← hH3, ← hDD];exact Heap.get?_push_size _ rfl));have H2D : H2 D = none := I2.hok.fresh (by rw[hDD];exact Nat.le_refl _);have H2C : H2 C = none := I2.hok.fresh (by rw[hDD, hC];exact Nat.le_succ _)
  have cellsLt : ∀x c, X.env.cells.lookup x = some c -> c<D := fun x c e => by
    obtain⟨v, q⟩ := I2.cell x c e;rw[← hDD];exact q.lt
  have pinLt : ∀p∈X.pn ++ Kp, p.1<D := fun p hp => by rw[← hDD];exact Heap.lt_size (I2.pin p hp).1
  have stkLt : ∀b∈frs X.stack, b<D := fun b hb => by
    obtain⟨_, o, ho, _⟩ := I2.stack.mem hb;rw[← hDD];exact Heap.lt_size ho
  have fpLt : ∀b∈fp, b<D := fun b hb => by
    obtain⟨o, ho, _⟩ := T.obj _ _ st2 b hb;rw[← hDD];exact Heap.lt_size ho
  have ltC : ∀{b : Addr}, b<D -> b≠C := fun hb => by rw[hC];exact Nat.ne_of_lt (Nat.lt_succ_of_lt hb)
  have locLt : X.env.locals<D := by rw[← hDD];exact I2.lt
  have hDge : s2.heap.objs.size <= D := by rw[hDD];exact Nat.le_refl _
  have hCge : s2.heap.objs.size <= C := by rw[hDD, hC];exact Nat.le_succ _
  have bok : (blk X N' sc cl C s2 H2 fp (X.pn ++ Kp)).Ok := by
    refine⟨I2.ok.mod, ok.kind, I2.ok.glob, I2.ok.blt, hCge, fun x y c e1 e2 => I2.ok.inj x y c (clm x c e1) (clm y c e2), fun x hx => ?_, fun x c z _ => ?_, I2.ok.hd, I2.ok.frames, .inl rfl, fun b hb => ?_, I2.bs, Nat.le_trans I2.ok.bsz I2.sz, fun b o e hb => ?_, fun b hb z => ?_, I2.stack, I2.stkFree⟩
    · have hx' : (relabel sc X.env).names.lookup x = some .cell∨(relabel sc X.env).names.lookup x = some .free := hx
      have hm : (x, NameKind.free)∈sc.names := by
        rcases hx' with z | z
        · exact JN (PySem.mem_of_lookup z) ok.nc (.inl rfl)
        · exact JN (PySem.mem_of_lookup z) ok.nc (.inr rfl)
      obtain⟨c, hc⟩ := Qg X.env sc.names [] x hm;rw[hgl]at hc;exact zk hc
    · exact absurd (show false = true from z) Bool.false_ne_true
    · exact⟨ltC (fpLt b hb), fun x c e => (f2 b hb).2.2.2.2.1 x c (clm x c e)⟩
    · rcases (f2 b hb).2.2.2.1 with z | z
      · exact I2.ok.noex b o e z
      · have := Heap.lt_size e
        exact absurd (Nat.lt_of_lt_of_le this (Nat.le_trans I2.ok.bsz z)) (Nat.lt_irrefl _)
    · rcases List.mem_cons.mp (I2.stkSub b z)with q | q
      · exact(f2 b hb).2.1 q
      · exact(f2 b hb).2.2.1 q
  have pinB : ∀p∈X.pn ++ Kp, p.1≠C /\ p.1∉frs X.stack := fun p hp => ⟨ltC (pinLt p hp), fun z => by
    rcases List.mem_cons.mp (I2.stkSub p.1 z) with q | q
    · exact (I2.pin p hp).2.2.1 q
    · exact (I2.pin p hp).2.2.2.1 q⟩
  have I4 : Inv (blk X N' sc cl C s2 H2 fp (X.pn ++ Kp)) [] (abZ cap σ) H2 { s2 with heap := h4, toks := s2.toks + ([] : List (Str×Value)).length } := by
    refine⟨bok, rfl, I2.bare, Un.kept old, ⟨_, hns, fun j x v e1 e2 e3 => ?_⟩, fun x c e => ?_, H2C, fun x c e => I2.freeC x c (clm x c e), fun p hp => ?_, I2.hok.kept old, ?_⟩
    · unfold abZ at e2
      rw[List.getElem?_map]at e2;cases e4 : cap[j]? with
      |none => rw[e4]at e2;cases e2
      | some o =>
        rw[e4]at e2;cases o with
        |none => cases e2
        | some i =>
          obtain⟨hNi, hf⟩ := ok.cp j i x e1 e4
          have e5 : (σ[i]?).join = some v := by
            have := Option.some.inj e2;simpa using this
          have e6 : σ[i]? = some (some v) := by
            cases e7 : σ[i]? with
            |none => rw[e7]at e5;cases e5
            | some z => rw[e7]at e5;cases z with
              |none => cases e5
              |some z => cases e5;rfl
          have hk := ok.fr (x, .free) (PySem.mem_of_lookup hf) rfl;obtain⟨m, hn, hl⟩ := I2.loc
          have hv : Vis X.env.scope x := by
            rcases hk with z | z
            · exact .inr (.inl z)
            · exact .inr (.inr z)
          obtain⟨u, r, lk⟩ := hl i x v hNi e6 hv
          have cellX : ∃c, X.env.cells.lookup x = some c /\ s2.heap.IsCell c (some u) := by
            rcases lk with ⟨k1, _⟩ | ⟨_, c, e, z⟩
            · rcases hk with z | z
              · have z' : X.env.kindOf x = some .cell := z
                rw[k1]at z';cases z'
              · have z' : X.env.kindOf x = some .free := z
                rw[k1]at z';cases z'
            · exact⟨c, e, z⟩
          obtain⟨c, hc1, ob, hc2, hc3⟩ := cellX;obtain⟨c', hc'⟩ := Qg X.env sc.names [] x (PySem.mem_of_lookup hf);rw[hgl]at hc';obtain⟨d, hd⟩ := zk hc'
          have ed : d = c := by
            have := clm x d hd;rw[hc1]at this;cases this;rfl
          subst ed;refine⟨u, r, .inr ⟨?_, d, hd, ob, old _ _ hc2, hc3⟩⟩;exact Qz hf
    · obtain⟨v, ob, ho, hd⟩ := I2.cell x c (clm x c e)
      exact⟨v, ob, old _ _ ho, hd⟩
    · have hp' : p∈X.pn ++ Kp := by simpa[blk]using hp
      obtain⟨e1, e2, e3, e4, e5⟩ := I2.pin p hp';exact⟨old _ _ e1, e2, (pinB p hp').1, (pinB p hp').2, e5⟩
    · show(abZ cap σ).length = N'.length
      unfold abZ;rw[List.length_map];exact ok.len
  have fpB : ∀{H' : Hp} {pl : List (Addr×Obj)}, (∀b∈fp, H' b = none) -> (∀p∈pl, p.1∉fp) -> ∀b∈fp, aa5 (blk X N' sc cl C s2 H2 fp (X.pn ++ Kp)) pl H' b := fun {H' pl} hn hpl b hb =>
    ⟨hn b hb, ltC (fpLt b hb), bok.exfs b hb, .inl hb, fun x c e => (f2 b hb).2.2.2.2.1 x c (clm x c e), fun p hp z => by
      rcases List.mem_append.mp (show p ∈ (X.pn ++ Kp) ++ pl from hp) with q | q
      · exact (f2 b hb).2.2.2.2.2 p q z
      · exact hpl p q (by rw [z]; exact hb)⟩
  have Dfp : ∀(o : Obj), ∀p∈[(D, o)], p.1∉fp := fun o p hp z => by
    have e : p = (D, o) := by simpa using hp
    subst e;exact Nat.lt_irrefl _ (fpLt D z)
  have Dfs : D∉frs X.stack := fun z => Nat.lt_irrefl _ (stkLt D z);obtain⟨bG, bT, bE⟩ := body cl C s2 H2 fp (X.pn ++ Kp)
  have loop : codeAny (model X.prog X.w) X.A (.compLoop (.ListComp el [⟨tg, src, ts, 0⟩] sc ps) 0 (.ref it) (.ref D) (compEnvC sc cl C X.env)) (compPost (model X.prog X.w) X.A X.xe (some (assign (.Name x0 pos0) X.env)) (fun _ s' => SP X Kp Dn .next s') (.ref D) C)
      { s2 with heap := h4, toks := s2.toks + ([] : List (Str×Value)).length } := by
    refine adT (fun n s' => ∃i τ ys us k H', Inv (blk X N' sc cl C s2 H2 fp (X.pn ++ Kp)) [] τ H' s' /\ tn i s'.heap /\ (∀b∈fp, H' b = none) /\ jH ys us /\ s'.heap.get? D = some { cls := .type "list", data := .seq us.toArray k } /\ H' D = none /\ W i n τ ys H') ?_ m0
      ⟨0, _, [], [], 0, H2, I4, T.keep _ _ _ st2 (fun b _ o e => old b o e), fun b hb => (f2 b hb).1, .nil, accO, H2D, w0⟩
    rintro n s5 ⟨i, τ, ys, us, k, H5, I5, st5, fr5, rv5, ho5, hD5, w5⟩
    obtain⟨hsz, alt⟩ := turn i n τ ys H5 w5
    have I5p : Inv (blk X N' sc cl C s2 H2 fp (X.pn ++ Kp)) [(D, { cls := .type "list", data := .seq us.toArray k })] τ H5 s5 := I5.pins_of fun p hp => by
      have e : p = (D, { cls := .type "list", data := .seq us.toArray k }) := by simpa using hp
      subst e;exact⟨ho5, hD5, hDC, Dfs, fun v z => by cases z⟩
    rcases alt with ⟨stop, fin⟩ | ⟨go, step⟩
    · refine thn (T.done (blk X N' sc cl C s2 H2 fp (X.pn ++ Kp)) rfl rfl rfl hc i _ s5 τ H5 NoX I5p (fpB fr5 (Dfp _)) st5 stop) fun r s6 ⟨hr, I6⟩ => ?_
      subst hr;have ho6 := (I6.pin (D, _) (List.mem_append_right _ (List.mem_singleton.mpr rfl))).1;obtain⟨m6, hn6, _⟩ := I6.loc;have J6 : Inv X Kp σ H5 s6 := I2.call' (ch := fp) I6.os I6.base I6.hok I6.bare fun b hb => ⟨(f2 b hb).2.2.2.1, (f2 b hb).2.1, (f2 b hb).2.2.2.2.1, (f2 b hb).2.2.2.2.2⟩;have H5C : H5 C = none := I6.free;have J7 : Inv X Kp σ (upd H5 D (.lst ys)) s6 := Inv.track J6 hD5 (Nat.le_trans I2.sz hDge) (Ne.symm (Nat.ne_of_lt locLt)) (fun x c e => Nat.ne_of_lt (cellsLt x c e)) (fun p hp => Nat.ne_of_lt (pinLt p hp)) ⟨Nat.le_of_lt hsz, us, k, rv5, ho6⟩;refine wpAny_assign_Name (adK J7 hN hi0 hx0 (show jV (.ref D) (.ref D) from rfl) (fun s8 I8 ⟨a, sb, ha⟩ => ?_) hf0)
      have aC : C≠a := by
        rcases ha with z | z
        · rw[z];exact Ne.symm (ltC locLt)
        · exact Ne.symm (ltC (cellsLt _ _ z))
      refine⟨m6, hn6.sameBut sb aC, fun h7 hs7 => ?_⟩;have J8 : Inv X Kp (σ.set i0 (some (.ref D))) (upd H5 D (.lst ys)) { s8 with heap := h7, toks := s8.toks } := I8.turned (it := C) (fun b o hb e => hs7.extBut b o hb e) (by rw[jr (Ne.symm hDC)];exact H5C) (Ne.symm (ltC locLt)) (.inr (Nat.le_trans I2.sz hCge)) (fun x c e => ltC (cellsLt x c e)) (fun p hp => ltC (pinLt p hp));exact⟨_, _, J8, fin D hD5⟩
    · refine thn (T.item (blk X N' sc cl C s2 H2 fp (X.pn ++ Kp)) rfl rfl rfl hc i _ s5 τ H5 NoX I5p (fpB fr5 (Dfp _)) st5 go) fun r s6 ⟨u, hr, h6⟩ => ?_
      subst hr;refine thn h6 fun _ s7 ⟨x, H7, I7, r7, y7, st7, fr7⟩ => ?_;have I7p := I7.pinned (fpB fr7 (Dfp _)) (T.obj _ _ st7);refine thn (bG _ s7 τ H7 x u _ I7p r7 (step x H7 y7)) fun _ s8 ⟨τ8, H8, I8, q8⟩ => ?_
      have back : ∀{τ9 : St} {H9 : Hp} {s9 : Shared}, Inv (blk X N' sc cl C s2 H2 fp (X.pn ++ Kp)) ([(D, { cls := .type "list", data := .seq us.toArray k })] ++ Z0 fp s7.heap) τ9 H9 s9 ->
          tn (i + 1) s9.heap /\ (∀b∈fp, H9 b = none) /\ s9.heap.get? D = some { cls := .type "list", data := .seq us.toArray k } /\ H9 D = none := fun {τ9 H9 s9} I9 => by
        have pD := I9.pin (D, { cls := .type "list", data := .seq us.toArray k }) (List.mem_append_right _ (List.mem_append_left _ (List.mem_singleton.mpr rfl)));refine⟨T.keep _ _ _ st7 fun b hb o e => (I9.pin (b, o) (List.mem_append_right _ (List.mem_append_right _ (qU hb e)))).1, fun b hb => ?_, pD.1, pD.2.1⟩;obtain⟨o, e, _⟩ := T.obj _ _ st7 b hb;exact(I9.pin (b, o) (List.mem_append_right _ (List.mem_append_right _ (qU hb e)))).2.1
      have drop : ∀{τ9 : St} {H9 : Hp} {s9 : Shared} {pl : List (Addr×Obj)}, Inv (blk X N' sc cl C s2 H2 fp (X.pn ++ Kp)) pl τ9 H9 s9 -> Inv (blk X N' sc cl C s2 H2 fp (X.pn ++ Kp)) [] τ9 H9 s9 := fun I9 => I9.pins_of fun p hp => nomatch hp
      refine thn (bT _ s8 τ8 H8 _ I8 q8) fun b s9 ⟨H9, I9, q9⟩ => ?_;cases b with
      | false =>
        rw[if_neg Bool.false_ne_true]at q9 ⊢;obtain⟨m', hm, w9⟩ := q9;obtain⟨t9, f9, o9, d9⟩ := back I9;exact⟨m', hm, i + 1, τ8, ys, us, k, H9, drop I9, t9, f9, rv5, o9, d9, w9⟩
      | true =>
        rw[if_pos rfl]at q9 ⊢;refine thn (bE _ s9 τ8 H9 _ I9 q9) fun y s10 ⟨z, H10, I10, r10, q10⟩ => ?_;obtain⟨m', hm, w10⟩ := q10;obtain⟨t10, f10, o10, d10⟩ := back I10;have hl := rv5.length;refine append_at (hsz := by show us.toArray.size <= sizeLine;rw[List.size_toArray, ← hl];exact Nat.le_of_lt hsz) o10 fun h11 hs11 hD11 => ?_
        have I11 : Inv (blk X N' sc cl C s2 H2 fp (X.pn ++ Kp)) [] τ8 H10 { s10 with heap := h11, toks := s10.toks } := (drop I10).turned (it := D) (fun b o hb e => hs11.extBut b o hb e) d10 hDC (.inr hDge) (fun x c e => Nat.ne_of_lt (cellsLt x c (clm x c e)))
          (fun p hp => by have hp' : p∈X.pn ++ Kp := by simpa[blk]using hp
                          exact Nat.ne_of_lt (pinLt p hp'))
        refine⟨m', hm, i + 1, τ8, ys ++ [z], us ++ [y], k + 1, H10, I11, T.keep _ _ _ t10 (fun b hb o e => hs11.extBut b o (Nat.ne_of_lt (fpLt b hb)) e), f10, rv5.append (.cons r10 .nil), ?_, d10, w10⟩;rw[hD11];simp
  refine codeAny_compStart_list loop ?_;exact T.self _ 0 _ _ _ (T.keep _ _ _ st2 (fun b _ o e => old b o e)) loop
theorem ak8{K:Fg}{fi:Rho->Option (LP)}{cap:List (Option Nat)}{ga:PyData->Rho->Option Rho}{ft:Rho->Option Bool}{fe:RP}{σ:St}{H:Hp}{Q:VK}(h:tD K (zC fi cap ga ft fe) σ H Q):
  akA (tDI K fi) cap (tDG K ga) (tDT K ft) (tD K fe) σ H Q:=by
 obtain⟨ρ,d,en,q,k⟩:=h;cases h1:fi ρ with
 |none=>simp[zC,h1]at q
 | some ds=>
  by_cases hf:few ds=true
  ·cases h2:qD ga ft fe ds (Z4 cap ρ)with
   |none=>simp[zC,h1,hf,h2]at q
   | some ys=>
    have:PyData.list ys=d:=by simpa[zC,h1,hf,h2]using q
    subst this;refine⟨ρ,ds,en,h1,fun J H1 s1 Y=>?_⟩
    refine⟨fun i m τ us H2=>m=ds.length-i/\i<=ds.length/\jp H1 H2/\us.length<=i/\∃ρ2 zs ws,EnvR K H2 ρ2 τ/\Reps K H2 zs us/\qD ga ft fe (ds.drop i) ρ2=some ws/\ys=zs++ws,
     ⟨ds.length,by simp,Nat.zero_le _,jp.refl _,Nat.le_refl _,Z4 cap ρ,[],ys,(en.mono s1).cap cap,rfl,by simpa using h2,rfl⟩,?_⟩
    rintro i m τ us H2 ⟨rfl,hi',s2,hu,ρ2,zs,ws,en2,r2,q2,ey⟩
    have hsm:us.length<sizeLine:=Nat.lt_of_le_of_lt (Nat.le_trans hu hi') (Nat.lt_of_lt_of_le (by simpa[few]using hf) (by rw[sizeLine_eq];decide:1000000<=sizeLine));obtain⟨g1,g2,g3⟩:=Y i H2 (jp.a s2);refine⟨hsm,?_⟩;by_cases hlt:i<ds.length
    ·right
     have hd:ds.drop i=ds[i]::ds.drop (i+1):=List.drop_eq_getElem_cons hlt;rw[hd]at q2;refine⟨g1 hlt,fun x H3 y=>?_⟩;obtain⟨s3,r3⟩:=g3 x H3 y;have r3':=r3 ds[i] (by simp[hlt]);cases h4:ga ds[i] ρ2 with
     |none=>simp[qD,h4]at q2
     | some ρ4=>
      refine⟨ρ2,ds[i],ρ4,en2.mono s3,r3',h4,fun σ5 H5 s5 en5=>?_⟩;cases h5:ft ρ4 with
      |none=>simp[qD,h4,h5]at q2
      | some b=>
       refine⟨ρ4,b,en5,h5,fun H6 s6=>?_⟩;have s26:=s3.trans (s5.trans s6);cases b with
       | false=>
        refine aqM ?_;exact⟨ds.length-(i+1),by omega,rfl,hlt,s2.trans s26,by omega,ρ4,zs,ws,en5.mono s6,Reps.mono s26 _ _ r2,by simpa[qD,h4,h5]using q2,ey⟩
       | true=>
        refine aqN ?_;cases h6:fe ρ4 with
        |none=>simp[qD,h4,h5,h6]at q2
        | some y=>
         cases h7:qD ga ft fe (ds.drop (i+1)) ρ4 with
         |none=>simp[qD,h4,h5,h6,h7]at q2
         | some ws'=>
          have hw:y::ws'=ws:=by simpa[qD,h4,h5,h6,h7]using q2
          refine⟨ρ4,y,en5.mono s6,h6,fun v H7 s7 r7=>?_⟩;refine⟨ds.length-(i+1),by omega,rfl,hlt,s2.trans (s26.trans s7),by rw[List.length_append];simp;omega,ρ4,zs++[y],ws',(en5.mono s6).mono s7,(Reps.mono (s26.trans s7) _ _ r2).append ⟨v,[],rfl,r7,rfl⟩,h7,?_⟩;rw[ey,←hw];simp
    ·left
     have he:i=ds.length:=by omega
     have hn:ds.drop i=[]:=by rw[he];simp
     rw[hn]at q2;have hw:[]=ws:=by simpa[qD]using q2
     subst hw;have ey':ys=zs:=by simpa using ey
     subst ey';exact⟨g2 (by omega),fun l hl=>k _ _ (s1.trans (s2.trans (jE hl))) ⟨l,us,rfl,jq,Reps.mono (jE hl) _ _ r2⟩⟩
  ·simp[zC,h1,hf]at q
section
variable {X:Cx}{tg src:Expr}{pos pos':Pos}
end
structure Mine(X:Cx)(H:Hp)(b:Addr):Prop where
 un:H b=none
 new:X.s₀.heap.get? b=none
 loc:b≠X.env.locals
 cel:∀x c,X.env.cells.lookup x=some c->c≠b
 pin:∀p∈X.pn,p.1≠b
structure Xc(X:Cx)(H:Hp)(h:Heap)(e C:Addr):Prop where
 mine:Mine X H e
 ob:∃oe vs,h.get? e=some oe/\(oe.cls= .ref C/\oe.dict=none/\vs[2]?=some .none)/\oe.data= .fields vs/\1<vs.size/\
  (vs[1]?=some .none∨∃T oT ts,vs[1]?=some (.ref T)/\T≠e/\Mine X H T/\h.get? T=some oT/\oT.data= .fields ts/\3<ts.size)
theorem Inv.exIn{X:Cx}{Kp:List (Addr×Obj)}{σ:St}{H:Hp}{s:Shared}{ch:List Addr}(I:Inv X Kp σ H s)(hn:∀b∈ch,X.s₀.heap.get? b=none/\b≠X.env.locals/\∀x c,X.env.cells.lookup x=some c->c≠b):Inv { X with ex:=ch++X.ex } Kp σ H s:=by
 have no:∀b,b∉ch++X.ex->b∉X.ex:=fun b h z=>h (List.mem_append_right _ z)
 refine⟨⟨I.ok.mod,I.ok.kind,I.ok.glob,I.ok.blt,I.ok.above,I.ok.inj,I.ok.has,I.ok.cab,I.ok.hd,I.ok.frames,I.ok.stk,fun b hb=>?_,I.ok.bs,I.ok.bsz,fun b o e hb=>?_,fun b hb z=>?_,I.ok.funs,I.ok.frf⟩,I.os,I.bare,
  ⟨fun b o e n hf hx=>I.base.keep b o e n hf (no b hx),fun b o e n hf hx=>I.base.slot b o e n hf (no b hx),fun b o e n hx=>I.base.free b o e n (no b hx),fun b o e hx=>I.base.there b o e (no b hx),I.base.tups,I.base.frzs,I.base.tbls⟩,I.loc,I.cell,I.free,I.freeC,I.pin,I.hok,I.len⟩
 ·rcases List.mem_append.mp hb with q | q
  ·exact(hn b q).2
  ·exact I.ok.exf b q
 ·rcases List.mem_append.mp hb with q | q
  ·have:=(I.ok.bs b o e).1
   rw[(hn b q).1]at this;cases this
  ·exact I.ok.noex b o e q
 ·rcases List.mem_append.mp hb with q | q
  ·obtain⟨_,o,ho,_⟩:=I.ok.funs.mem z
   rw[(hn b q).1]at ho;cases ho
  ·exact I.ok.exfs b q z
theorem Inv.exOut{X:Cx}{Kp:List (Addr×Obj)}{σ:St}{H:Hp}{s:Shared}{ch:List Addr}(I:Inv { X with ex:=ch++X.ex } Kp σ H s)(ok:X.Ok)(hn:∀b∈ch,X.s₀.heap.get? b=none):Inv X Kp σ H s:=by
 have no:∀b o,X.s₀.heap.get? b=some o->b∉X.ex->b∉ch++X.ex:=fun b o e h z=>by
  rcases List.mem_append.mp z with q | q
  ·rw[hn b q]at e;cases e
  ·exact h q
 exact⟨ok,I.os,I.bare,⟨fun b o e n hf hx=>I.base.keep b o e n hf (no b o e hx),fun b o e n hf hx=>I.base.slot b o e n hf (no b o e hx),fun b o e n hx=>I.base.free b o e n (no b o e hx),fun b o e hx=>I.base.there b o e (no b o e hx),I.base.tups,I.base.frzs,I.base.tbls⟩,I.loc,I.cell,I.free,I.freeC,I.pin,I.hok,I.len⟩
section
variable {X:Cx}{σ:St}{H:Hp}{s:Shared}{h':Heap}{e C:Addr}{E:Value->SP0}{A:Around}
theorem Inv.shake{ch:List Addr}(I:Inv X [] σ H s)(hm:∀b∈ch,Mine X H b)(keep:∀b o,b∉frs X.stack->b∉ch->s.heap.get? b=some o->h'.get? b=some o)
  (slot:∀b o,b∈frs X.stack->b∉ch->s.heap.get? b=some o->∃sl,h'.get? b=some { o with slots:=sl }):Inv X [] σ H { s with heap:=h' }:=by
 have u:Un (frs X.stack) ch H H s.heap h':=⟨fun b o q _ nf nc=>keep b o nf nc q,fun b o q _ hf nc=>slot b o hf nc q,fun _ _ _ n _=>n,fun b o q nc=>by
  by_cases hf:b ∈ frs X.stack
  ·obtain ⟨sl,z⟩:=slot b o hf nc q; exact ⟨_,z⟩
  ·exact ⟨o,keep b o hf nc q⟩,fun _ _ q=>q,fun _ _ _ q=>q,fun _ ps q=>⟨#[],by rw [q]; simp⟩⟩
 have hok:HOk X.prog X.w H h':=fun b o q=>(I.hok b o q).stay (fun c v hc r=>by
  have hb:H c ≠ none:=by
   rcases hc with rfl | hc
   ·rw [q]; exact fun z=>nomatch z
   ·rw [hc]; exact fun z=>nomatch z
  exact keep c v (fun z=>hb (I.stkFree c z)) (fun z=>hb (hm c z).un) r) (fun _ r=>r) fun _ _ r=>r
 exact Inv.exOut (Inv.call (X:={ X with ex:=ch++X.ex }) (g':=s.gens) (d':=s.drawn) (t':=s.toks) (Inv.exIn I fun b hb=>⟨(hm b hb).new,(hm b hb).loc,(hm b hb).cel⟩) u hok I.bare fun b hb=>⟨.inl (List.mem_append_left _ hb),(hm b hb).loc,(hm b hb).cel,fun p hp=>(hm b hb).pin p (by simpa using hp)⟩) I.ok fun b hb=>(hm b hb).new
structure XcT(X:Cx)(H:Hp)(h:Heap)(e C:Addr):Prop where
 mine:Mine X H e
 ob:∃oe vs T oT ts,h.get? e=some oe/\(oe.cls= .ref C/\oe.dict=none/\vs[2]?=some .none)/\oe.data= .fields vs/\vs[1]?=some (.ref T)/\T≠e/\Mine X H T/\h.get? T=some oT/\oT.data= .fields ts/\3<ts.size
theorem XcT.c{h:Heap}(x:XcT X H h e C):Xc X H h e C:=by
 obtain⟨oe,vs,T,oT,ts,h1,h2,h3,h4,h5,h6,h7,h8,h9⟩:=x.ob;exact⟨x.mine,oe,vs,h1,h2,h3,(Array.getElem?_eq_some_iff.mp h4).1,.inr ⟨T,oT,ts,h4,h5,h6,h7,h8,h9⟩⟩
structure Top0(X:Cx):Prop where
 st:X.stack=X.env::X.Ko
 fr:X.env.frame=some X.env.locals
 ex:X.ex=[]
theorem Mine.nofr{b:Addr}(m:Mine X H b)(I:Inv X [] σ H s):b∉frs X.stack:=fun z=>by
 rcases List.mem_cons.mp (I.stkSub b z)with q | q
 ·exact m.loc q
 ·obtain⟨_,o,ho,_⟩:=I.ok.funs.mem q
  rw[m.new]at ho;cases ho
theorem anz{P:Program}{w:World}{h:Heap}{b:Addr}{u:HO}(hok:HOk P w H h)(hH:H b=some u)(hb:h.get? b=none):False:=by
 have x:=hok b u hH;have no:∀{o:Obj},h.get? b=some o->False:=fun {o} q=>by rw[hb]at q;cases q
 cases u with
 |lst xs=>obtain⟨_,_,_,_,e⟩:=x;exact no e
 |tup xs=>obtain⟨_,_,_,⟨_,e,_⟩⟩:=x;exact no e
 |dK kvs=>obtain⟨_,_,_,_,o,_,_,e,_⟩:=x;exact no e
 |dT kvs=>obtain⟨_,_,_,_,o,_,_,e,_⟩:=x;exact no e
 |set S n=>obtain⟨o,_,_,_,e,_⟩:=x;exact no e
 |ins C dx fs=>obtain⟨_,_,_,e,_⟩:=x;exact no e
 |own y=>obtain⟨_,e⟩:=x;exact no e
 |xd fs=>obtain⟨_,⟨_,_,_,e,_⟩,_⟩:=x;exact no e
 |rng lo hi=>obtain⟨_,_,_,e⟩:=x;exact no e
 |frz ob u=>obtain⟨e,_⟩:=x;exact no e
 |tbl ps=>exact no (show h.get? b=some _ from x)
 |met f y=>exact no (show h.get? b=some _ from x)
 |ext φ=>obtain⟨_,⟨_,e⟩,_⟩:=x;exact no e
theorem aau(hx:X.ex=[])(I:Inv X [] σ H s){b:Addr}(hb:s.heap.get? b=none):Mine X H b:=by
 have no:∀{o:Obj},s.heap.get? b=some o->False:=fun {o} q=>by rw[hb]at q;cases q
 refine⟨?_,?_,fun z=>?_,fun x c q z=>?_,fun p hp z=>?_⟩
 ·cases hH:H b with
  |none=>rfl
  |some u=>exact(anz I.hok hH hb).elim
 ·cases h0:X.s₀.heap.get? b with
  |none=>rfl
  | some o=>
   obtain⟨o',q⟩:=I.base.there b o h0 (by rw[hx];simp);exact(no q).elim
 ·subst z
  obtain⟨m,⟨o,_,_,ho,_⟩,_⟩:=I.loc;exact no ho
 ·obtain⟨v,o,ho,_⟩:=I.cell x c q
  subst z;exact no ho
 ·have:=(I.pin p (List.mem_append_left _ hp)).1
  rw[z]at this;exact no this
theorem afY{oe:Obj}{vs:Array Value}{head:Value}{hadNext:Bool}(T0:Top0 X)(hA:A.frames=some X.stack)(I:Inv X [] σ H s)(me:Mine X H e)(he:s.heap.get? e=some oe)(hc:oe.cls= .ref C/\oe.dict=none/\vs[2]?=some .none)(hd:oe.data= .fields vs)(hsz:1<vs.size):
  wpAny (model X.prog X.w) A (do let a ←frameOf X.env;let pl ←entryPlaceOf X.env.locals hadNext;let b ←EntryCells.newEntry head a .none (rawInt X.env.locals) .none pl;setField (.ref e) 1 b) (fun _ s'=>Inv X [] σ H s'/\XcT X H s'.heap e C) E s:=by
 have hst:=T0.st;have hfn:=I.stack;rw[hst]at hfn hA
 have hene:e∉(X.env::X.Ko).filterMap (·.frame):=by
  have:=me.nofr I;rw[hst]at this;exact this
 refine wpAny_bind (wpAny_frameOf_fun hA hfn T0.fr fun h₁ hs₁=>?_);refine wpAny_bind (wpAny_entryPlaceOf fun pl hpl=>?_);unfold EntryCells.newEntry newFields;refine wpAny_bind (wpAny_newObj_type ?_ (hpl.sizeOk5 _ _ _ _ _));have he₁:h₁.get? e=some oe:=(hs₁.2.1 e hene).trans he;generalize hob:({ cls:= .type "traceback",dict:=none,data:= .fields ([head,Value.ref X.env.locals,.none,rawInt X.env.locals,.none]++(if pl.isEmpty then List.replicate 6 Value.none else pl)).toArray }:Obj)=ob;have obd:ob.data= .fields ([head,Value.ref X.env.locals,.none,rawInt X.env.locals,.none]++(if pl.isEmpty then List.replicate 6 Value.none else pl)).toArray:=by rw[←hob]
 have obf:ob.isFreed=false:=by rw[←hob];rfl
 have he₂:(h₁.push ob).get? e=some oe:=Heap.get?_push_of_some ob he₁;refine wpAny_setField he₂ hd hsz ?_;have hTe:h₁.objs.size≠e:=Nat.ne_of_gt (Heap.lt_size he₁);have hd₃:=Obj.data_mapFields hd (·.setIfInBounds 1 (Value.ref h₁.objs.size));have he₃:=Heap.get?_update_self (Obj.mapFields (·.setIfInBounds 1 (Value.ref h₁.objs.size))) he₂ (Obj.isFreed_of_fields hd₃);have hT₃:((h₁.push ob).update e (Obj.mapFields (·.setIfInBounds 1 (Value.ref h₁.objs.size)))).get? h₁.objs.size=some ob:=(Heap.get?_update_other _ _ (Ne.symm hTe)).trans (Heap.get?_push_size h₁ obf)
 have keep:∀b o,b≠e->h₁.get? b=some o->((h₁.push ob).update e (Obj.mapFields (·.setIfInBounds 1 (Value.ref h₁.objs.size)))).get? b=some o:=fun b o hb q=>by
  rw[Heap.get?_update_other _ _ (Ne.symm hb)];exact Heap.get?_push_of_some _ q
 have hfr:frs X.stack=(X.env::X.Ko).filterMap (·.frame):=by rw[hst];rfl
 have sz:h₁.objs.size=s.heap.objs.size:=hs₁.1
 have J:Inv X [] σ H { s with heap:=(h₁.push ob).update e (Obj.mapFields (·.setIfInBounds 1 (Value.ref h₁.objs.size))) }:=by
  refine Inv.shake (s:=s) (ch:=[e]) I (fun b hb=>by rw[List.mem_singleton.mp hb];exact me) (fun b o nf nc q=>keep b o (fun z=>nc (by simp[z])) ((hs₁.2.1 b (by rw[←hfr];exact nf)).trans q)) (fun b o _ nc q=>?_);obtain⟨sl,z⟩:=hs₁.2.2 b o q;exact⟨sl,keep b _ (fun w=>nc (by simp[w])) z⟩
 refine⟨J,me,_,_,h₁.objs.size,ob,_,he₃,?_,hd₃,by simp[hsz],hTe,?_,hT₃,obd,?_⟩
 ·rw[Obj.cls_mapFields];exact⟨hc.1,by unfold Obj.mapFields;split<;>exact hc.2.1,by rw[Array.getElem?_setIfInBounds_ne (by decide)];exact hc.2.2⟩
 ·exact aau T0.ex I (Heap.get?_none_of_le (by rw[sz];exact Nat.le_refl _))
 ·simp only[List.size_toArray,List.length_append,List.length_cons,List.length_nil];omega
theorem acg(T0:Top0 X)(hA:A.frames=some X.stack)(I:Inv X [] σ H s)(x:Xc X H s.heap e C):wpAny (model X.prog X.w) A (noteFrame (.ref e) X.env) (fun _ s'=>Inv X [] σ H s'/\XcT X H s'.heap e C) E s:=by
 obtain⟨oe,vs,he,hc,hd,hsz,hT⟩:=x.ob;unfold noteFrame;simp only[T0.fr];rcases hT with h1 | ⟨T,oT,ts,h1,hTe,mT,hT,hdT,h3⟩
 ·refine wpAny_bind (wpAny_field he hd h1 ?_)
  rw[if_neg (by decide)];exact afY T0 hA I x.mine he hc hd hsz
 ·refine wpAny_bind (wpAny_field he hd h1 ?_)
  rw[if_pos (show(Value.ref T != Value.none)=true from by simp)];refine wpAny_bind (wpAny_field hT hdT (x:=ts[3]) (by simp[h3]) ?_);by_cases hq:(ts[3]==rawInt X.env.locals)=true
  ·rw[if_pos hq]
   exact wpAny_pure ⟨I,x.mine,oe,vs,T,oT,ts,he,hc,hd,h1,hTe,mT,hT,hdT,h3⟩
  ·rw[if_neg hq]
   refine wpAny_bind (wpAny_setField hT hdT h3 ?_);have other:∀b,b≠T->(s.heap.update T (Obj.mapFields (·.setIfInBounds 3 Value.none))).get? b=s.heap.get? b:=fun b hb=>Heap.get?_update_other _ _ (Ne.symm hb)
   have J:Inv X [] σ H { s with heap:=s.heap.update T (Obj.mapFields (·.setIfInBounds 3 Value.none)) }:=
    Inv.shake (s:=s) (ch:=[T]) I (fun b hb=>by rw[List.mem_singleton.mp hb];exact mT) (fun b o _ nc q=>(other b fun z=>nc (by simp[z])).trans q) fun b o _ nc q=>⟨o.slots,(other b fun z=>nc (by simp[z])).trans q⟩
   exact afY (s:={ s with heap:=s.heap.update T (Obj.mapFields (·.setIfInBounds 3 Value.none)) }) T0 hA J x.mine ((other e (Ne.symm hTe)).trans he) hc hd hsz
theorem Jv(fl:Option Addr)(I:Inv X [] σ H s)(x:XcT X H s.heap e C):wpAny (model X.prog X.w) A (setFlight (.ref e) fl) (fun _ s'=>Inv X [] σ H s'/\XcT X H s'.heap e C) E s:=by
 obtain⟨oe,vs,T,oT,ts,he,hc,hd,h1,hTe,mT,hT,hdT,h3⟩:=x.ob;unfold setFlight;refine wpAny_bind (wpAny_field he hd h1 ?_);rw[if_pos (show(Value.ref T != Value.none)=true from by simp)];refine wpAny_setField hT hdT h3 ?_;have other:∀b,b≠T->(s.heap.update T (Obj.mapFields (·.setIfInBounds 3 (fl.elim Value.none fun f=>rawInt f)))).get? b=s.heap.get? b:=fun b hb=>Heap.get?_update_other _ _ (Ne.symm hb)
 have J:Inv X [] σ H { s with heap:=s.heap.update T (Obj.mapFields (·.setIfInBounds 3 (fl.elim Value.none fun f=>rawInt f))) }:=
  Inv.shake (s:=s) (ch:=[T]) I (fun b hb=>by rw[List.mem_singleton.mp hb];exact mT) (fun b o _ nc q=>(other b fun z=>nc (by simp[z])).trans q) fun b o _ nc q=>⟨o.slots,(other b fun z=>nc (by simp[z])).trans q⟩
 exact⟨J,x.mine,oe,vs,T,_,_,(other e (Ne.symm hTe)).trans he,hc,hd,h1,hTe,mT,Heap.get?_update_self _ hT (Obj.isFreed_of_fields (Obj.data_mapFields hdT _)),Obj.data_mapFields hdT _,by simpa using h3⟩
theorem apA{P:Value->SP0}(T0:Top0 X)(hA:A.frames=some X.stack)(hP:∀e s,P e s->∃a C σ H,e= .ref a/\Inv X [] σ H s/\Xc X H s.heap a C/\∀s',Inv X [] σ H s'->XcT X H s'.heap a C->P e s'):PassesOwn (model X.prog X.w) A X.env P:=fun ev s' h=>by
 obtain⟨a,C,σ,H,rfl,I,x,back⟩:=hP ev s' h;refine wpAny_mono (acg (E:=fun _ _=>False) T0 hA I x) (fun _ s2 ⟨I2,x2⟩=>?_) fun _ _ z=>z.elim;obtain⟨oe,vs,T,oT,ts,he,hc,hd,h1,r⟩:=id x2.ob;unfold cameBackBy;refine wpAny_bind (wpAny_field he hd h1 ?_);rw[if_neg (by simp)]
 first
  |exact wpAny_mono (Jv (E:=fun _ _=>False) _ I2 x2) (fun _ s3 ⟨I3,x3⟩=>back s3 I3 x3) fun _ _ z=>z.elim
  |exact wpAny_bind (wpAny_pure (wpAny_mono (Jv (E:=fun _ _=>False) _ I2 x2) (fun _ s3 ⟨I3,x3⟩=>back s3 I3 x3) fun _ _ z=>z.elim))
end
structure XcO(h0:Heap)(H:Hp)(h:Heap)(e C:Addr):Prop where
 un:H e=none
 new:h0.get? e=none
 ob:∃oe vs T oT ts,h.get? e=some oe/\(oe.cls= .ref C/\oe.dict=none/\vs[2]?=some .none)/\oe.data= .fields vs/\vs[1]?=some (.ref T)/\T≠e/\H T=none/\h0.get? T=none/\h.get? T=some oT/\oT.data= .fields ts/\3<ts.size
noncomputable def CXt(P:Program)(w:World):CXT:=fun Ko H s E ev s'=>∃e C H',ev= .ref e/\s'.os=s.os/\AllBare s'.gens/\Un (frs Ko) [] H H' s.heap s'.heap/\HOk P w H' s'.heap/\XcO s.heap H' s'.heap e C/\E (.ref C) none H'
section
variable {X:Cx}
theorem Xc.of(hx:X.ex=[]){Kp:List (Addr×Obj)}{σ:St}{H H':Hp}{s s':Shared}{e0 C:Addr}(I:Inv X Kp σ H s)(x:XcO s.heap H' s'.heap e0 C):Xc X H' s'.heap e0 C:=by
 have J:Inv X [] σ H s:=I.pins_of fun p hp=>nomatch hp
 obtain⟨oe,ws,T,oT,ts,h1,h2,h3,h4,h5,h6,h7,h8,h9,h10⟩:=x.ob;have m1:=aau hx J x.new;have m2:=aau hx J h7;exact⟨⟨x.un,m1.new,m1.loc,m1.cel,m1.pin⟩,oe,ws,h1,h2,h3,(Array.getElem?_eq_some_iff.mp h4).1,.inr ⟨T,oT,ts,h4,h5,⟨h6,m2.new,m2.loc,m2.cel,m2.pin⟩,h8,h9,h10⟩⟩
end
noncomputable def Thr(X:Cx)(H:Hp)(c:Str)(ev:Value)(s':Shared):Prop:=∃e C σ' H',ev= .ref e/\X.mg c=some (.ref C)/\Inv X [] σ' H' s'/\jp H H'/\Xc X H' s'.heap e C
theorem Thr.mono{X:Cx}{H H1:Hp}{c:Str}{ev:Value}{s':Shared}(s:jp H H1)(h:Thr X H1 c ev s'):Thr X H c ev s':=by
 obtain⟨e,C,σ',H',h1,h2,h3,h4,h5⟩:=h;exact⟨e,C,σ',H',h1,h2,h3,s.trans h4,h5⟩
@[irreducible] noncomputable def PDX(X:Cx)(e:Expr)(fx:Rho->Option Str):Prop:=∀(s:Shared) (σ:St) (H:Hp) (ρ:Rho) (c:Str),Inv X [] σ H s->EnvR X.K H ρ σ->fx ρ=some c->(∀ev s',Thr X H c ev s'->X.xe ev s')->wpAny (model X.prog X.w) X.A (eval e X.env) (fun _ _=>False) X.xe s
@[irreducible] noncomputable def PSX(X:Cx)(st:Stmt)(fx:Rho->Option Str):Prop:=∀(s:Shared) (σ:St) (H:Hp) (ρ:Rho) (c:Str),Inv X [] σ H s->EnvR X.K H ρ σ->fx ρ=some c->(∀ev s',Thr X H c ev s'->X.xe ev s')->wpAny (model X.prog X.w) X.A (exec st X.env) (fun _ _=>False) X.xe s
@[irreducible] noncomputable def ab2(X:Cx)(sts:List Stmt)(fx:Rho->Option Str):Prop:=∀(s:Shared) (σ:St) (H:Hp) (ρ:Rho) (c:Str),Inv X [] σ H s->EnvR X.K H ρ σ->fx ρ=some c->(∀ev s',Thr X H c ev s'->X.xe ev s')->wpAny (model X.prog X.w) X.A (execs sts X.env) (fun _ _=>False) X.xe s
noncomputable def vB:List Value:=[.type "ValueError",.type "Exception",.type "BaseException",.type "object"]
noncomputable def acV(K:Fg)(mg:SV)(x:Str):Prop:=∃C,mg x=some (.ref C)/\PySem.W.excIn K C vB "ValueError.__new__"=true
theorem anA{K:Fg}{h:Heap}{C:Addr}(X:K.In h)(q:PySem.W.excIn K C vB "ValueError.__new__"=true):
  ∃bm N nm qn bs hdct sn sub ab col dd k0 k1 k2 k3 k5 mN,h.get? C=some (excClassObj nm qn C N bs bm hdct sn sub ab col dd k0 k1 k2 k3 k5 "ValueError.__new__")/\h.Ns N mN/\mN "__init__"=none/\OwnTail h vB bm:=by
 unfold PySem.W.excIn at q;split at q
 ·rename_i dd cd sl ho
  split at q
  ·rename_i C' bm k0 k1 k2 k3 n k5 hm hs
   simp only[Bool.and_eq_true,beq_iff_eq,Bool.not_eq_true']at q;obtain⟨⟨⟨⟨⟨rfl,rfl⟩,hdel⟩,ht⟩,hok⟩,hni⟩:=q;obtain⟨nm,bs,mro,ns,qn,hd,sn,sub,ab,col,del⟩:=cd;dsimp only at hm hdel hok hni;subst hm hdel
   have hsl:sl=#[k0,k1,k2,k3,some (.builtin "ValueError.__new__"),k5]:=by
    obtain⟨l⟩:=sl;simp only at hs;rw[hs]
   subst hsl;exact⟨bm,ns,nm,qn,bs,hd,sn,sub,ab,col,dd,k0,k1,k2,k3,k5,_,X _ _ ho,.of_isNs (PySem.W.isNs_of_in X hok),PySem.W.nsMap_none_of_in X hok hni,PySem.W.tail_of_in X ht⟩
  ·cases q
 ·cases q
section
variable {X:Cx}{e a b c:Expr}{es:List Expr}{st:Stmt}{sts qg:List Stmt}{fx gx:Rho->Option Str}{F:RO}{pos:Pos}
theorem jC(h:PSX X st fx):ab2 X (st::qg) fx:=by
 with_unfolding_all
  intro s σ H ρ c I en q k;exact wpAny_execs_cons (wpAny_mono (h s σ H ρ c I en q k) (fun _ _ z=>z.elim) fun _ _ z=>z)
noncomputable def nxX(F:RO)(gx:Rho->Option Str):Rho->Option Str:=fun ρ=>(F ρ).bind fun o=>match o with
 |.nx ρ'=>gx ρ'
 |_=>none
theorem ql(h1:PSD X st F)(h2:ab2 X qg gx):ab2 X (st::qg) (nxX F gx):=by
 with_unfolding_all
  intro s σ H ρ c I en q k;cases hF:F ρ with
  |none=>simp[nxX,hF]at q
  | some o=>
   cases o with
   | nx ρ'=>
    have q':gx ρ'=some c:=by simpa[nxX,hF]using q
    refine wpAny_execs_cons (wpAny_mono (h1 [] s σ H { nx:=fun σ' H'=>jp H H'/\EnvR X.K H' ρ' σ',rt:=fun _ _=>False,bk:=fun _ _=>False,ct:=fun _ _=>False } I ⟨ρ,.nx ρ',en,hF,fun σ' H' s1 e1=>⟨s1,e1⟩⟩) (fun f s1 z=>?_) fun _ _ z=>z);cases f with
    | next=>
     obtain⟨σ',H',I',sm,e1⟩:=z;exact wpAny_mono (h2 s1 σ' H' ρ' c I' e1 q' fun ev s' t=>k ev s' (t.mono sm)) (fun _ _ z=>z.elim) fun _ _ z=>z
    |brk=>obtain⟨_,_,_,z⟩:=z;exact z.elim
    |cont=>obtain⟨_,_,_,z⟩:=z;exact z.elim
    |ret u=>obtain⟨_,_,_,_,_,z⟩:=z;exact z.elim
   |_=>simp[nxX,hF]at q
noncomputable def ifX(tc:Rho->Option Bool)(fx gx:Rho->Option Str):Rho->Option Str:=fun ρ=>(tc ρ).bind fun x=>if x=true then fx ρ else gx ρ
noncomputable def afZ:Rho->Option Str:=fun _=>none
theorem qW:ab2 X sts afZ:=by
 with_unfolding_all
  intro s σ H ρ c I en q k;cases q
theorem QZ{l r:List Stmt}{tc:Rho->Option Bool}(hc:PTD X a tc)(hl:ab2 X l fx)(hr:ab2 X r gx):PSX X (.If a l r pos) (ifX tc fx gx):=by
 with_unfolding_all
  intro s σ H ρ c I en q k;cases ht:tc ρ with
  |none=>simp[ifX,ht]at q
  | some x=>
   refine wpAny_If (wpAny_mono (hc [] s σ H (fun b H'=>b=x/\jp H H') I ⟨ρ,x,en,ht,fun H' s1=>⟨rfl,s1⟩⟩) (fun d s1 z=>?_) fun _ _ z=>z);obtain⟨H1,I1,rfl,s1'⟩:=z;cases d with
   |true=>exact hl s1 σ H1 ρ c I1 (en.mono s1') (by simpa[ifX,ht]using q) fun ev s' t=>k ev s' (t.mono s1')
   |false=>exact hr s1 σ H1 ρ c I1 (en.mono s1') (by simpa[ifX,ht]using q) fun ev s' t=>k ev s' (t.mono s1')
theorem aav(h:PDX X e fx):PSX X (.Return (some e) pos) fx:=by
 with_unfolding_all
  intro s σ H ρ c I en q k;exact wpAny_Return_some (wpAny_mono (h s σ H ρ c I en q k) (fun _ _ z=>z.elim) fun _ _ z=>z)
theorem qX(h:PDX X e fx)(hs:swapsWith e none pos.line X.env=pure false:=by rfl):PSX X (.Expr e pos) fx:=by
 with_unfolding_all
  intro s σ H ρ c I en q k;exact wpAny_Expr_any (wpAny_mono (h s σ H ρ c I en q k) (fun _ _ z=>z.elim) fun _ _ z=>z) I.quiet hs
theorem anB{x:Str}{pos':Pos}(h:PDX X e fx)(hs:swapsWith e (some (.Name x pos')) pos.line X.env=pure false:=by rfl):PSX X (.Assign [.Name x pos'] e pos) fx:=by
 with_unfolding_all
  intro s σ H ρ c I en q k;exact wpAny_Assign_Name (wpAny_mono (h s σ H ρ c I en q k) (fun _ _ z=>z.elim) fun _ _ z=>z) hs
end
noncomputable def ahk(K:Fg)(mg:SV)(n:Nat)(gx:LP->Option Str):Sp:=fun vs H _ E=>∃ds c,ds.length=n/\Reps K H ds vs/\gx ds=some c/\∀C H',mg c=some (.ref C)->jp H H'->E (.ref C) none H'
noncomputable def qA(P:Program)(w:World)(K:Fg)(mg:SV)(base:Heap)(x:Str)(ps:List Str)(k n:Nat)(gx:LP->Option Str):Prop:=
 ∃(f:Addr) (fd:FuncData),FnOk P w K mg base (CXt P w) k f fd ps (ahk K mg n gx)/\mg x=some (.ref f)/\PySem.W.keepIn K (.ref f)=true/\zB K fd ps []
section
variable {X:Cx}{e a b c:Expr}{es:List Expr}{st:Stmt}{sts qg:List Stmt}{fx gx:Rho->Option Str}{F:RO}{pos:Pos}
theorem j8{k j n:Nat}{ps:List Str}{g:LP->Option Str}{x:Str}{p:Pos}{fr:Rho->Option (LP)}(hxe:X.ex=[])(C:qA X.prog X.w X.K X.mg X.base x ps k n g)(hr:Room j X.A)(hkj:k<=j)(ha:PAD X (e::es) fr)(hl:∀ρ ds,fr ρ=some ds->ds.length=n)
  (hg:Gl X x:=by rfl) (hdb:(x==("__debug__":Str))=false:=by decide) (he:starEach (e::es) X.env=(false,eval e X.env)::starEach es X.env:=by rfl)
  (hpl:(backTo pos (starEach es X.env)).any (·.1)=false:=by rfl):PDX X (.Call (.Name x p) (e::es) [] pos) (fun ρ=>(fr ρ).bind g):=by
 with_unfolding_all
  intro s σ H ρ c I en q k';obtain⟨f,fd,F,hm,hk,hb⟩:=C;cases hd:fr ρ with
  |none=>simp[hd]at q
  | some ds=>
   have q':g ds=some c:=by simpa[hd]using q
   refine wpAny_Call_Name_kw (Jn I hg hm ?_ hdb);refine PySem.W.callWith_K (h₀:=X.base) I.ok.mod.kin hk (thn (ha pos [] s σ H (fun vs H1=>jp H H1/\Reps X.K H1 ds vs) I ⟨ρ,ds,en,hd,fun vs H1 s1 r1=>⟨s1,r1⟩⟩) fun us s1 ⟨vs,H1,I1,r,sm,rd⟩=>⟨I1.kIn,?_⟩) he hpl;have hsp:ahk X.K X.mg n g vs H1 (fun _ _=>False) (fun cls _ H'=>X.mg c=some cls/\jp H1 H')->vs.length=ps.length:=fun z=>F.len _ _ _ _ z;by_cases hn:ds.length=n
   ·have sp:ahk X.K X.mg n g vs H1 (fun _ _=>False) (fun cls _ H'=>X.mg c=some cls/\jp H1 H'):=⟨ds,c,hn,rd,q',fun C H' hC s2=>⟨hC,s2⟩⟩
    have hlu:(us++[]).length=ps.length:=by rw[List.append_nil,←r.length];exact hsp sp
    have hbd:=hb s1 us I1.kIn hlu;rw[List.append_nil]at hbd;refine wpAny_call (codeAny_mono (F.run X.A X.stack s1 H1 ⟨us,[]⟩ us vs _ _ (hr.mono hkj) I1.env0 hbd r sp) fun rs s' hq=>?_);cases rs with
    | error ev=>
     obtain⟨e0,C,H',rfl,os,bare,un,hok,xc,hC,sm2⟩:=hq;have J':Inv X [] σ H' s':=I1.call' (ch:=[]) os un hok bare fun b z=>nomatch z
     exact k' _ _ ⟨e0,C,σ,H',rfl,hC,J',sm.trans sm2,Xc.of hxe I1 xc⟩
    | ok fl=>
     cases fl with
     |ret u=>obtain⟨v,H',_,_,_,_,_,z⟩:=hq;exact z.elim
     |next=>exact False.elim hq
     |brk=>exact False.elim hq
     |cont=>exact False.elim hq
   ·exact absurd (hl ρ ds hd) hn
theorem ze{x m:Str}{k0:_}{np p3 cpos:Pos}(hxe:X.ex=[])(hE:acV X.K X.mg x)(hc:X.calm=true)(hg:Gl X x:=by rfl)(hdb:(x==("__debug__":Str))=false:=by decide)
  (he:starEach [.Constant (.str m) k0 p3] X.env=[(false,eval (.Constant (.str m) k0 p3) X.env)]:=by rfl):PSX X (.Raise (some (.Call (.Name x np) [.Constant (.str m) k0 p3] [] cpos)) none pos) (fun _=>some x):=by
 with_unfolding_all
  intro s σ H ρ c I en q k;cases q;obtain⟨C,hm,hex⟩:=hE;obtain⟨bm,N,nm,qn,bs,hdct,sn,sub,ab,col,dd,k0',k1,k2,k3,k5,mN,hC,hN,hni,TL⟩:=anA (h:=X.base) I.ok.mod.kin hex;have hpl:(backTo cpos (starEach [.Constant (.str m) k0 p3] X.env)).any (·.1)=false:=by rw[he];rfl
  refine wpAny_Raise_call_subT (C:=C) (nm:=nm) (q:=qn) (N:=N) (bs:=bs) (bm:=bm) (hdct:=hdct) (sn:=sn) (sub:=sub) (ab:=ab) (col:=col) (dd:=dd) (k0:=k0') (k1:=k1) (k2:=k2) (k3:=k3) (k5:=k5) PySem.F.excBase_ValueError (mN:=mN) (TL.hasType rfl) (I.ok.hd hc) hpl hni ?_;refine wpAny_mono (aev (pos:=np) hg hm (show jV (.ref C) (.ref C) from rfl) hdb [] s σ H (fun v H'=>v= .ref C/\H'=H) I ⟨rfl,rfl⟩) (fun v s1 ⟨y,H1,I1,r1,e1,e2⟩=>?_) fun _ _ z=>z;subst e1;subst e2;obtain rfl:v=Value.ref C:=r1;refine⟨rfl,?_⟩;have pa:PA X [.Constant (.str m) k0 p3] _:=qR (X:=X) akc Jk he;have hsp:=pa cpos [] s1 σ H1 (fun vs H'=>vs.length=1/\H'=H1) I1 ⟨rfl,rfl⟩;rw[he]at hsp ⊢;refine Calls.evalArgs_plain (wpAny_mono hsp (fun us s2 ⟨vs,H2,I2,r2,l2,e2⟩=>?_) fun _ _ z=>z);subst e2;have kp:∀b o,X.base.get? b=some o->s2.heap.get? b=some o:=fun b o e=>(I2.bs b o e).1;refine⟨rfl,?_,kp _ _ hC,hN.keeps kp,TL.keeps kp,fun h' e0 md=>?_⟩
  ·show us.length<=sizeLine
   rw[←r2.length,l2,sizeLine_eq];decide
  ·obtain⟨t,h1,h2,h3⟩:=md.there
   have I3:Inv X [] σ H2 { s2 with heap:=h' }:=I2.kept (t':=s2.toks) md.keeps;have m0:=aau hxe I2 md.new;exact k _ _ ⟨e0,C,σ,H2,rfl,hm,I3,jp.refl _,m0,_,_,h1,⟨rfl,rfl,rfl⟩,rfl,by simp,.inl rfl⟩
end
theorem ahl{CX:CXT}{P:Program}{w:World}{K:Fg}{mg:SV}{base:Heap}{k:Nat}{f:Addr}{name qual:Str}{params:Arguments}{body:List Stmt}{scope:Scope}{dV kV doc pm Kc ct oc:Value}{an od:Option Addr}
  {osl:Array (Option Value)} {N ps:List Str} {sp:Sp} (lk:K.lookup f=some ⟨oc,od,.func (PySem.W.fnOf name qual params body scope dV kV doc pm an Kc ct),osl⟩) (hcd:PySem.W.codeIn K Kc qual=true) (S:FnScope N ps scope)
  (len:∀vs H Q E,sp vs H Q E->vs.length=ps.length)
  (hbody:∀(A:Around) (Ko:List Env) (s:Shared) (H:Hp) (vs:List V) (Q:VK) (E:XK) (s1:Shared),Room k (A.deeper (envOfC qual scope s.heap.objs.size f Kc))->sp vs H Q E->
   Inv (zL CX P w K mg base N qual scope f Kc A Ko s H E) [] (L2.zj N vs) H s1->
   wpAny (model P w) (A.deeper (envOfC qual scope s.heap.objs.size f Kc)) (execs body (envOfC qual scope s.heap.objs.size f Kc)) (SP (zL CX P w K mg base N qual scope f Kc A Ko s H E) [] { nx:=fun _ H'=>Q .non H',rt:=Q }) (zL CX P w K mg base N qual scope f Kc A Ko s H E).xe s1):
  FnOk P w K mg base CX (k+1) f (PySem.W.fnOf name qual params body scope dV kV doc pm an Kc ct) ps sp:=by
 refine⟨len,fun A Ko s H args us vs Q E hr e0 hb r hsp=>?_⟩;have hl:=len _ _ _ _ hsp;have KX:K.In s.heap:=e0.mod.kin.keeps fun b o e=>(e0.bs b o e).1;have lim:s.heap.NoLimit:=e0.mod.nolimit.keeps fun b o e=>(e0.bs b o e).1
 have hkind:∀y∈ps.zip us,scope.names.lookup y.1=some .local∨(scope.names.lookup y.1=some .cell/\((cellsFrom (s.heap.objs.size+1) scope.names []).lookup y.1).isSome=true):=fun⟨n,v⟩ hy=>by
  rcases S.par n (List.of_mem_zip hy).1 with q | q
  ·exact .inl q
  ·exact .inr ⟨q,PySem.W.cellsFrom_some _ _ _ (.inl q)⟩
 refine codeAny_call_function hr.depth (KX _ _ lk) rfl S.co S.gen rfl (PySem.W.codeRec_of KX hcd) (hb _ _ _ _ ?_);refine wpAny_newFunctionEnv_cells S.kind hkind fun env he s1 x=>?_;subst he;refine⟨lim.keeps x.toInCall.keep,codeAny_func ?_⟩;have I:Inv (zL CX P w K mg base N qual scope f Kc A Ko s H E) [] (L2.zj N vs) H s1:=aa9 S hr.hd e0 hl r x;refine wpAny_mono (hbody A Ko s H vs Q E s1 (hr.deeper _) hsp I) (fun fl s' hs=>?_) fun e s' hs=>hs
 have fin:∀{σ':St} {H':Hp} {v:V} {u:Value},Inv (zL CX P w K mg base N qual scope f Kc A Ko s H E) [] σ' H' s'->jV v u->Q v H'->CE Ko P w H s Q u s':=
  fun {σ' H' v u} J rv q=>⟨v,H',J.os,J.bare,J.base,J.hok,rv,q⟩
 cases fl with
 | ret u=>
  obtain⟨v,σ',H',J,rv,q⟩:=hs;exact fin J rv q
 | next=>
  obtain⟨σ',H',J,q⟩:=hs;exact fin (v:=V.non) (u:=Value.none) J rfl q
 | brk=>
  obtain⟨_,_,_,q⟩:=hs;exact False.elim q
 | cont=>
  obtain⟨_,_,_,q⟩:=hs;exact False.elim q
theorem aeT{CX:CXT}{P:Program}{w:World}{K:Fg}{mg:SV}{base:Heap}{N:List Str}{qual:Str}{scope:Scope}{f:Addr}{cd:Value}{A:Around}{Ko:List Env}{s:Shared}{H:Hp}{E:XK}:Top0 (zL CX P w K mg base N qual scope f cd A Ko s H E):=⟨rfl,rfl,rfl⟩
section
variable {P:Program}{w:World}{K:Fg}{mg:SV}{base:Heap}
noncomputable def zn(N:List Str)(n:Nat)(Fx:Rho->Option Str)(ds:LP):Option Str:=if ds.length=n then Fx (jI N ds) else none
theorem zi{x qual:Str}{st:Stmt}{f:Addr}{fd:FuncData}{N ps:List Str}{k:Nat}{Fx:Rho->Option Str}(F:Fun K x qual st f fd)(S:FnScope N ps (je st))
  (body:∀(Kc:Value) (A:Around) (Ko:List Env) (s:Shared) (H:Hp) (E:XK),Room k (A.deeper (envOfC qual (je st) s.heap.objs.size f Kc))->ab2 (zL (CXt P w) P w K mg base N qual (je st) f Kc A Ko s H E) (jG st) Fx):
  FnOk P w K mg base (CXt P w) (k+1) f fd ps (ahk K mg ps.length (zn N ps.length Fx)):=by
 with_unfolding_all
  obtain⟨oc,od,kV,doc,pm,an,Kc,ct,osl,rfl,lk,hcd⟩:=F.ex;refine ahl lk hcd S (fun vs H Q E h=>?_) fun A Ko s H vs Q E s1 hr h I=>?_
  ·obtain⟨ds,c,h1,h2,_⟩:=h
   rw[h2.length];exact h1
  ·obtain⟨ds,c,h1,h2,h3,h4⟩:=h
   unfold zn at h3;rw[if_pos h1]at h3;refine wpAny_mono (body Kc A Ko s H E hr s1 (L2.zj N vs) H (jI N ds) c I (zS h2) h3 fun ev s' t=>?_) (fun _ _ z=>z.elim) fun _ _ z=>z;obtain⟨e,C,σ',H',rfl,hC,J,sm,xc⟩:=t;have T0:Top0 (zL (CXt P w) P w K mg base N qual (je st) f Kc A Ko s H E):=aeT;show wpAny (model P w) (A.deeper (envOfC qual (je st) s.heap.objs.size f Kc)) (leaving (envOfC qual (je st) s.heap.objs.size f Kc) (.ref e)) (fun _ s''=>CXt P w Ko H s E (.ref e) s'') (fun e' s''=>CXt P w Ko H s E e' s'') s';have n1:=acg (E:=fun _ _=>False) (A:=A.deeper (envOfC qual (je st) s.heap.objs.size f Kc)) T0 J.ok.frames J xc;unfold leaving;refine wpAny_bind (wpAny_mono n1 (fun _ s2 ⟨J2,t2⟩=>?_) fun _ _ z=>z.elim);have n2:=Jv (E:=fun _ _=>False) (A:=A.deeper (envOfC qual (je st) s.heap.objs.size f Kc)) none J2 t2;refine wpAny_mono n2 (fun _ s3 ⟨J3,t3⟩=>?_) fun _ _ z=>z.elim;obtain⟨oe,ws,T,oT,ts,g1,g2,g3,g4,g5,g6,g7,g8,g9⟩:=t3.ob;exact⟨e,C,H',rfl,J3.os,J3.bare,J3.base,J3.hok,⟨t3.mine.un,t3.mine.new,oe,ws,T,oT,ts,g1,g2,g3,g4,g5,g6.un,g6.new,g7,g8,g9⟩,h4 C H' hC sm⟩
end
theorem Inv.asA{X:Cx}{Kp:List (Addr×Obj)}{σ:St}{H:Hp}{s:Shared}{A:Around}{cm:Bool}{xe:Value->SP0}(I:Inv X Kp σ H s)(hf:A.frames=some X.stack)(hd:cm=true->A.handled=none):Inv { X with A:=A,calm:=cm,xe:=xe } Kp σ H s:=
 ⟨⟨I.ok.mod,I.ok.kind,I.ok.glob,I.ok.blt,I.ok.above,I.ok.inj,I.ok.has,I.ok.cab,hd,hf,I.ok.stk,I.ok.exf,I.ok.bs,I.ok.bsz,I.ok.noex,I.ok.exfs,I.ok.funs,I.ok.frf⟩,I.os,I.bare,I.base,I.loc,I.cell,I.free,I.freeC,I.pin,I.hok,I.len⟩
theorem Mine.unwish{X:Cx}{E:Value->SP0}{H:Hp}{b:Addr}(m:Mine (X.wish E) H b):Mine X H b:=⟨m.un,m.new,m.loc,m.cel,m.pin⟩
theorem Xc.unwish{X:Cx}{E:Value->SP0}{H:Hp}{h:Heap}{e C:Addr}(x:Xc (X.wish E) H h e C):Xc X H h e C:=by
 obtain⟨oe,vs,h1,h2,h3,h4,h5⟩:=x.ob;refine⟨x.mine.unwish,oe,vs,h1,h2,h3,h4,?_⟩;rcases h5 with q | ⟨T,oT,ts,q1,q2,q3,q4⟩
 ·exact .inl q
 ·exact .inr ⟨T,oT,ts,q1,q2,q3.unwish,q4⟩
section
variable {X:Cx}{st:Stmt}{sts qg tb hb:List Stmt}{F G:RO}{pos:Pos}
end
section
variable {X:Cx}{st b0:Stmt}{sts qg tb hb:List Stmt}{F G:RO}{fx:Rho->Option Str}{pos:Pos}
noncomputable abbrev hX(X:Cx)(e:Addr):Cx:={ X with A:=X.A.mark (some (.ref e)),calm:=false,xe:=fun _ _=>False }
end
section
variable {P:Program}{w:World}{K:Fg}{mg:SV}{base:Heap}
end
theorem aaw{t sl:Addr}{items:Array Value}{vl vu:Value}{lo hi:Option Int}{Q:Value->SP0}(ht:IsTup s.heap t items)(hs:s.heap.IsSliceOf sl vl vu .none)(pl:IsPart vl lo)(pu:IsPart vu hi)
  (hw:HT.sIx items.size 0 lo=0/\HT.sIx items.size items.size hi=items.size) (h:Q (.ref t) s):wpAny (model prog w) A (getItem (.ref t) (.ref sl)) Q E s:=by
 obtain⟨os,hos,hcs,hds⟩:=id hs;have hTs:s.TypeIs (.ref sl) "slice":=⟨os,hos,hcs⟩;unfold getItem
 first | (with_reducible refine wpAny_holding ?_) | skip
 first | refine wpAny_bind (wpAny_pure ?_) | skip
 refine wpAny_bind (wpAny_sequenceKey ht.typeIs (by decide) ?_);refine wpAny_bind (wpAny_callSpecial?_slot (name:=Str.ofString "__getitem__") ht.typeIs PyProof.Rows.slot_tuple_getitem (wpAny_call_entry PyProof.Rows.slot_tuple_getitem ht.typeIs entry_tuple_getitem ?_ (args_tuple_getitem _ _)));show wpAny _ _ (Builtin.Tuple.tupleItemsOf (.ref t) >>= _) _ _ s;refine wpAny_bind (tupleItemsOf_ ht (wpAny_bind (wpAny_typeOf hTs ?_)));rw[if_pos (show(Value.type "slice" == Value.type "slice")=true by decide)];refine wpAny_bind (HT.sliceApplied_gen hs pl pu ?_);rw[hw.1,hw.2];have hyes:((((0:Nat):Int)==0&&(1:Int)==1&&(items.size-0)==items.size)=true):=by simp
 show wpAny _ _ (if ((((0:Nat):Int)==0&&(1:Int)==1&&(items.size-0)==items.size)=true) then _ else _) _ _ s;rw[if_pos hyes];obtain⟨o,ho,hc,hd⟩:=id ht;have hT:s.TypeIs (.ref t) "tuple":=⟨o,ho,hc⟩
 have ex:∀{R:Bool->SP0} {A':Around} {E':Value->SP0},R true s->wpAny (model prog w) A' (Builtin.Tuple.tupleIsExact (.ref t)) R E' s:=fun {R A' E'} hR=>by
  unfold Builtin.Tuple.tupleIsExact
  first
   |exact wpAny_bind (wpAny_typeOf hT (wpAny_pure hR))
   | (wp_walk;exact hR)
 first
  |exact wpAny_bind (ex (wpAny_bind (wpAny_rule (wpAny_pure ⟨_,rfl,wpAny_pure h⟩))))
  |exact wpAny_bind (ex (by rw[if_pos rfl];exact wpAny_bind (wpAny_rule (wpAny_pure ⟨_,rfl,wpAny_pure h⟩))))
  | (refine wpAny_bind (ex ?_);wp_walk;exact⟨_,rfl,wpAny_pure h⟩)
  | (refine wpAny_bind (wpAny_bind (ex ?_));wp_walk;exact⟨_,rfl,wpAny_pure h⟩)
section
variable {X:Cx}{e a b c:Expr}{fa fb fc:RP}{pos p2:Pos}
noncomputable def aq7(K:Fg):V->Option Int->Option Int->Hp->VK->Prop:=fun x lo hi H Q=>∃a xs,x= .ref a/\SqT K H a xs/\(HT.sIx xs.length 0 lo=0/\HT.sIx xs.length xs.length hi=xs.length)/\Q (.ref a) H
theorem af0:SlR X (aq7 X.K):=by
 intro Kp s σ H x v vl vu lo hi sl Q I rx hs pl pu h;obtain⟨a,xs,rfl,hx,hw,q⟩:=h;cases rx;obtain⟨its,r,ht,hz⟩:=I.tuple hx;have hlen:its.toArray.size=xs.length:=by rw[List.size_toArray];exact r.length.symm
 exact⟨"tuple",_,PyProof.Rows.slot_tuple_getitem.lookup,ht.typeIs,aaw ht hs pl pu (by rw[hlen];exact hw) ⟨.ref a,H,I,rfl,q⟩⟩
noncomputable def af1(p:PyData)(lo hi:Option Int):OP:=match p with
 |.tuple ds=>some (.tuple (abk ds lo hi))
 |_=>none
theorem ak9{K:Fg}{p d:PyData}{lo hi:Option Int}{x:V}{H:Hp}{Q:VK}(h:af1 p lo hi=some d)(r:Rep K H p x)(k:∀v H',jp H H'->Rep K H' d v->Q v H'):aqI K x lo hi H Q∨aq7 K x lo hi H Q:=by
 unfold af1 at h;split at h
 ·rename_i ds
  cases h;obtain⟨a,xs,e1,e2,e3⟩:=r;have hl:=e3.length
  have rr:Reps K H (abk ds lo hi) (aak xs lo hi):=by
   unfold aak abk;rw[hl];exact(e3.drop _).take _
  by_cases hw:HT.sIx xs.length 0 lo=0/\HT.sIx xs.length xs.length hi=xs.length
  ·refine .inr ⟨a,xs,e1,e2,hw,k _ H (jp.refl H) ⟨a,xs,rfl,e2,?_⟩⟩
   have ex:aak xs lo hi=xs:=by unfold aak;rw[hw.1,hw.2];simp
   rw[ex]at rr;exact rr
  ·refine .inl ⟨a,xs,e1,e2,hw,fun q hq=>?_⟩
   have s1:=jE (o:= .tup (aak xs lo hi)) hq;exact k _ _ s1 ⟨q,_,rfl,SqT.of jq,Reps.mono s1 _ _ rr⟩
 ·cases h
noncomputable def ad0(fa fb:RP):RP:=fun ρ=>(fa ρ).bind fun p=>(fb ρ).bind fun q=>(inI q).bind fun i=>af1 p none (some i)
theorem ala(ha:PD X a fa)(hb:PD X b fb):PD X (.Subscript a (.Slice none (some b) none p2) pos) (ad0 fa fb):=by
 with_unfolding_all
  refine PE.imp (acF (akv.or af0) ha aeD (ab9 hb)) fun σ H Q ⟨ρ,d,en,q,k⟩=>?_;cases h1:fa ρ with
  |none=>simp[ad0,h1]at q
  | some y=>
   cases h2:fb ρ with
   |none=>simp[ad0,h1,h2]at q
   | some z=>
    cases h3:inI z with
    |none=>simp[ad0,h1,h2,h3]at q
    | some i=>
     have q':af1 y none (some i)=some d:=by simpa[ad0,h1,h2,h3]using q
     have hz:=acU h3;subst hz;refine⟨ρ,y,en,h1,fun v H1 s1 r1=>⟨ρ,_,en.mono s1,h2,fun u H2 s2 r2=>?_⟩⟩;cases (show u=_ from r2);exact⟨i,rfl,ak9 q' (Rep.mono s2 _ _ r1) fun v H' s r=>k v H' (s1.trans (s2.trans s)) r⟩
noncomputable def Zl(fa fb:RP):RP:=fun ρ=>(fa ρ).bind fun p=>(fb ρ).bind fun q=>(inI q).bind fun i=>af1 p (some i) none
theorem ahm(ha:PD X a fa)(hb:PD X b fb):PD X (.Subscript a (.Slice (some b) none none p2) pos) (Zl fa fb):=by
 with_unfolding_all
  refine PE.imp (acF (akv.or af0) ha (ab9 hb) aeD) fun σ H Q ⟨ρ,d,en,q,k⟩=>?_;cases h1:fa ρ with
  |none=>simp[Zl,h1]at q
  | some y=>
   cases h2:fb ρ with
   |none=>simp[Zl,h1,h2]at q
   | some z=>
    cases h3:inI z with
    |none=>simp[Zl,h1,h2,h3]at q
    | some i=>
     have q':af1 y (some i) none=some d:=by simpa[Zl,h1,h2,h3]using q
     have hz:=acU h3;subst hz;refine⟨ρ,y,en,h1,fun v H1 s1 r1=>⟨ρ,_,en.mono s1,h2,fun u H2 s2 r2=>?_⟩⟩;cases (show u=_ from r2);exact⟨i,rfl,ak9 q' (Rep.mono s2 _ _ r1) fun v H' s r=>k v H' (s1.trans (s2.trans s)) r⟩
end
section
variable {X:Cx}
end
section
variable {X:Cx}
end
section
variable {X:Cx}{e a b c:Expr}{fa fb fc:RP}{pos p2:Pos}
noncomputable def acW(fa fb:RP):RP:=fun ρ=>(fa ρ).bind fun p=>(fb ρ).bind fun q=>(inI q).bind fun i=>anw p none (some i)
theorem alb(ha:PD X a fa)(hb:PD X b fb):PD X (.Subscript a (.Slice none (some b) none p2) pos) (acW fa fb):=by
 with_unfolding_all
  refine PE.imp (acF am6 ha aeD (ab9 hb)) fun σ H Q ⟨ρ,d,en,q,k⟩=>?_;cases h1:fa ρ with
  |none=>simp[acW,h1]at q
  | some y=>
   cases h2:fb ρ with
   |none=>simp[acW,h1,h2]at q
   | some z=>
    cases h3:inI z with
    |none=>simp[acW,h1,h2,h3]at q
    | some i=>
     have q':anw y none (some i)=some d:=by simpa[acW,h1,h2,h3]using q
     have hz:=acU h3;subst hz;refine⟨ρ,y,en,h1,fun v H1 s1 r1=>⟨ρ,_,en.mono s1,h2,fun u H2 s2 r2=>?_⟩⟩;cases (show u=_ from r2);unfold anw at q';split at q'
     ·rename_i ds
      cases q';obtain⟨l,xs,e1,e2,e3⟩:=Rep.mono s2 _ _ r1;have hl:=e3.length;refine⟨i,rfl,l,xs,e1,SqL.of e2,fun p hp=>?_⟩;have s3:=jE (o:= .lst (aak xs none (some i))) hp
      have rr:Reps X.K H2 (abk ds none (some i)) (aak xs none (some i)):=by
       unfold aak abk;rw[hl];exact(e3.drop _).take _
      exact k _ _ (s1.trans (s2.trans s3)) ⟨p,_,rfl,jq,Reps.mono s3 _ _ rr⟩
     ·cases q'
end
noncomputable def Ite(K:Fg)(l:Addr):It:=
 ⟨fun i H=>∃xs x,SqL K H l xs/\xs[i]?=some x,
  fun i H u H'=>∃ p x,u= .ref p/\H p=none/\H'=upd H p (.tup [.int (i:Int),x])/\∀ xs,SqL K H l xs->xs[i]?=some x,
  fun i H=>∃ xs,SqL K H l xs/\xs.length<=i⟩
theorem ajs{P:Program}{w:World}{K:Fg}{elts:List Expr}{x1:Nat}{pos:Pos}{e it l:Addr}(hei:e≠it):
  Turn P w K (.Tuple elts x1 pos) (Ite K l) [e,it] e (fun i h=>(∃old,IsEnum h e it i old)/\h.IsListIter it l i) where
 mem:=by simp
 obj:=fun i h st b hb=>by
  obtain⟨⟨old,he⟩,⟨o,ho,hc,hd⟩⟩:=st;simp only[List.mem_cons,List.not_mem_nil,or_false]at hb;rcases hb with rfl|rfl
  ·exact⟨_,he,fun v q=>by cases q⟩
  ·exact⟨o,ho,fun v q=>by rw[hd]at q;cases q⟩
 keep:=fun i h h' st k=>by
  obtain⟨⟨old,he⟩,⟨o,ho,r⟩⟩:=st;exact⟨⟨old,k e (by simp) _ he⟩,o,k it (by simp) o ho,r⟩
 item:=by
  intro X hP hw hK hc i Kp s σ H E I hf st hg;subst hP hw hK;obtain⟨xs,x,q1,ex⟩:=hg;obtain⟨us1,r1,p1,_⟩:=I.list q1;have p1:=p1.isList;obtain⟨u1,m1,l1⟩:=r1.get ex;obtain⟨⟨old,he⟩,hit⟩:=st;refine wpAny_pyNext_enum_item he hit p1 (by simpa using m1) hei fun h1 ho hit1 hT hsz hk=>⟨_,rfl,?_⟩;refine wpAny_letOwnedTupleGo_enum (s:={ s with heap:=h1,toks:=s.toks+1 }) ho fun h2 he2 hs2=>?_;have nT:H s.heap.objs.size=none:=I.hok.fresh (Nat.le_refl _);have elt:e<s.heap.objs.size:=Heap.lt_size he
  have B2:∀b o,b∉[e,it]->s.heap.get? b=some o->h2.get? b=some o:=fun b o hb q=>by
   simp only[List.mem_cons,List.not_mem_nil,or_false,not_or]at hb;exact(hs2.2 b hb.1).trans (hk b o hb.1 hb.2 q)
  have T2:h2.get? s.heap.objs.size=some { cls:= .type "tuple",data:= .seq #[.int i s.toks,u1] }:=(hs2.2 _ (Nat.ne_of_gt elt)).trans hT
  have hit2:h2.IsListIter it l (i+1):=by
   obtain⟨o,ho',r⟩:=hit1;exact⟨o,(hs2.2 it hei.symm).trans ho',r⟩
  have ntr:∀b u,H b=some u->b∉[e,it]:=fun b u q hb=>by
   have:=(hf b hb).1;rw[q]at this;cases this
  have neT:∀b u,H b=some u->b≠s.heap.objs.size:=fun b u e q=>by rw[q,nT]at e;cases e
  have hok2:HOk X.prog X.w (upd H s.heap.objs.size (.tup [.int (i:Int),x])) h2:=fun b u q=>by
   by_cases hb:b=s.heap.objs.size
   ·subst hb
    rw[jq]at q;cases q;exact⟨by show 2<=sizeLine;rw[sizeLine_eq];decide,[.int i s.toks,u1],.cons ⟨_,rfl⟩ (.cons l1 .nil),⟨_,T2,rfl,_,rfl⟩⟩
   ·rw[jr hb]at q
    refine(I.hok b u q).stay (fun c o hc' z=>B2 c o ?_ z) (fun c z=>by rw[jr (neT c _ z)];exact z) fun c ws z=>by rw[jr (neT c _ z)];exact z
    rcases hc' with q' | q'
    ·rw[q'];exact ntr b u q
    ·exact ntr c _ q'
  have I2:Inv X Kp σ (upd H s.heap.objs.size (.tup [.int (i:Int),x])) { s with heap:=h2,toks:=s.toks+1 }:=by
   refine I.step (g':=s.gens) (d':=s.drawn) (ch:=[e,it]) (fun b hb=>?_) (fun b o _ _ hb q _=>B2 b o hb q) (fun b o _ _ hb q _=>⟨o.slots,B2 b o hb q⟩) (fun b o hb q n=>?_) (fun b o hb q=>⟨o,B2 b o hb q⟩)
    (fun b ws q=>by rw[jr (neT b _ q)];exact q) (fun b ob ws q=>by rw[jr (neT b _ q)];exact q) (fun b ps q=>⟨#[],by rw[jr (neT b _ q),q];simp⟩) (fun m hm=>?_) hok2 I.bare
   ·obtain⟨f0,f1,f2,f3,f4,f5⟩:=hf b hb
    exact⟨f3,f1,f4,f5⟩
   ·rw[jr (Nat.ne_of_lt (Heap.lt_size q))];exact n
   ·obtain⟨o,es,ep,ho',r⟩:=hm
    refine⟨o,es,ep,B2 _ o (fun hb=>?_) ho',r⟩;exact(hf _ hb).2.1 rfl
  refine⟨.ref s.heap.objs.size,_,I2,rfl,⟨_,x,rfl,nT,rfl,fun as g1=>?_⟩,⟨⟨_,by simpa using he2⟩,hit2⟩,fun b hb=>?_⟩
  ·rw[I.list_inj g1 q1];exact ex
  ·have hlt:b<s.heap.objs.size:=by
    simp only[List.mem_cons,List.not_mem_nil,or_false]at hb;rcases hb with rfl|rfl
    ·exact elt
    ·obtain⟨o,ho',_⟩:=hit;exact Heap.lt_size ho'
   rw[jr (Nat.ne_of_lt hlt)];exact(hf b hb).1
 done:=by
  intro X hP hw hK hc i Kp s σ H E I hf st hg;subst hP hw hK;obtain⟨xs,q1,hl⟩:=hg;obtain⟨us1,r1,p1,_⟩:=I.list q1;have p1:=p1.isList;have hlen:=r1.length;obtain⟨⟨old,he⟩,hit⟩:=st;refine wpAny_pyNext_enum_end (I.ok.hd hc) he hit p1 (by simp;omega) fun h1 hx=>⟨rfl,?_⟩
  have ntr:∀b u,H b=some u->b≠it:=fun b u q hb=>by
   have:=(hf it (by simp)).1;rw[hb]at q;rw[q]at this;cases this
  refine I.step (t':=s.toks) (g':=s.gens) (d':=s.drawn) (ch:=[it]) (fun b hb=>?_) (fun b o _ _ hb q _=>hx b o (by simpa using hb) q) (fun b o _ _ hb q _=>⟨o.slots,hx b o (by simpa using hb) q⟩) (fun b o hb q n=>n) (fun b o hb q=>⟨o,hx b o (by simpa using hb) q⟩)
   (fun b ws q=>q) (fun b ob ws q=>q) (fun b ps q=>⟨#[],by rw[q];simp⟩) (fun m hm=>?_) (fun b u q=>?_) I.bare
  ·obtain⟨f0,f1,f2,f3,f4,f5⟩:=hf b (by simp only[List.mem_cons,List.not_mem_nil,or_false]at hb ⊢;exact .inr hb)
   exact⟨f3,f1,f4,f5⟩
  ·obtain⟨o,es,ep,ho,r⟩:=hm
   refine⟨o,es,ep,hx _ o (fun hb=>?_) ho,r⟩;exact(hf it (by simp)).2.1 hb.symm
  ·refine(I.hok b u q).stay (fun c o hc' z=>hx c o ?_ z) (fun c z=>z) fun c ws z=>z
   rcases hc' with q' | q'
   ·rw[q'];exact ntr b u q
   ·exact ntr c _ q'
 self:=fun _ _ _ _ _ st h=>by
  obtain⟨⟨old,he⟩,_⟩:=st;exact wpAny_pyIter_enum he h
section
variable {X:Cx}
noncomputable def aq8(K:Fg)(ta:TA):TI:=fun σ H R=>ta σ H fun vs H1=>∃a xs,vs=[.ref a]/\SqL K H1 a xs/\R (Ite K a) H1
theorem anC{ea:Expr}{elts:List Expr}{x1:Nat}{tp:Pos}{ta:TA}{p pos:Pos}(hg:Gl X "enumerate")(hm:X.mg "enumerate"=none)(ha:PA X [ea] ta)
  (hs:starEach [ea] X.env=[(false,eval ea X.env)]:=by rfl):
  PI X (.Tuple elts x1 tp) (.Call (.Name "enumerate" p) [ea] [] pos) (aq8 X.K ta):=by
 intro Kp s σ H R I h;refine Call_ (QM I hg hm boot_enumerate (PyProof.Rows.callWith_type1 (thn (ha pos Kp s σ H _ I h) fun us s1 ⟨vs,H1,I1,r1,q1⟩=>?_) (by rw[hs];rfl) (by rfl)));obtain⟨a,xs,e,q1,q⟩:=q1;subst e;cases r1 with
 | cons r1 rr=>
  cases rr;cases r1;obtain⟨us1,v1,p1,_⟩:=I1.list q1;refine call_enumerate_list p1.isList fun h' he hit hz kp=>?_;refine wpAny_pyIter_enum he ?_;have I2:Inv X Kp σ H1 { s1 with heap:=h' }:=I1.kept (t':=s1.toks) kp;refine⟨_,[s1.heap.objs.size+1,s1.heap.objs.size],_,_,H1,rfl,I2,ajs (e:=s1.heap.objs.size+1) (it:=s1.heap.objs.size) (l:=a) (Nat.succ_ne_self _),⟨⟨_,he⟩,hit⟩,fun x hx=>?_,q⟩
  have hle:s1.heap.objs.size<=x:=by
   simp only[List.mem_cons,List.not_mem_nil,or_false]at hx;rcases hx with e | e<;>rw[e]<;>omega
  exact I1.fpOk hle (I1.hok.fresh hle)
noncomputable def ZW:Nat->LP->LP
 |_,[]=>[]
 |i,d::ds=> .tuple [.int (i:Int),d]::ZW (i+1) ds
noncomputable def af2(ds:LP):Option (LP):=match ds with
 | [.list xs]=>some (ZW 0 xs)
 |_=>none
theorem abl:∀(xs:LP) (k:Nat),(ZW k xs).length=xs.length
 | [],_=>rfl
 |_::xs,k=>by simp[ZW,abl xs]
theorem abm:∀(xs:LP) (k i:Nat) (d:PyData),(ZW k xs)[i]?=some d->∃x,xs[i]?=some x/\d= .tuple [.int ((k+i:Nat):Int),x]
 | [],_,_,_,h=>by simp[ZW]at h
 |x::xs,k,0,d,h=>by simp[ZW]at h;exact⟨x,rfl,h.symm⟩
 | x::xs,k,i+1,d,h=>by
  simp only[ZW,zzB]at h;obtain⟨y,h1,h2⟩:=abm xs (k+1) i d h;exact⟨y,by simpa using h1,by rw[h2,show k+1+i=k+(i+1) by omega]⟩
theorem af3{ea:Expr}{elts:List Expr}{x1:Nat}{tp:Pos}{p pos:Pos}{fr:Rho->Option (LP)}(hm:X.mg "enumerate"=none)(ha:PAD X [ea] fr)(hg:Gl X "enumerate":=by rfl)
  (hs:starEach [ea] X.env=[(false,eval ea X.env)]:=by rfl):
  PID X (.Tuple elts x1 tp) (.Call (.Name "enumerate" p) [ea] [] pos) (fun ρ=>(fr ρ).bind af2):=by
 with_unfolding_all
  refine PI.imp (anC hg hm ha hs) fun σ H R ⟨ρ,ds,en,q,k⟩=>?_;cases h1:fr ρ with
  |none=>simp[h1]at q
  | some as=>
   have q':af2 as=some ds:=by simpa[h1]using q
   refine⟨ρ,as,en,h1,fun vs H1 s1 r1=>?_⟩;unfold af2 at q';split at q'
   ·rename_i xs
    cases q';obtain⟨v1,w1,e1,rp,e4⟩:=r1;cases (show w1=[] from e4);obtain⟨a,us,g1,g2,ra⟩:=rp;subst g1;have l1:=ra.length;have lz:=abl xs 0;have qa:SqL X.K H1 a us:=SqL.of g2;refine⟨a,us,e1,qa,k _ H1 s1 fun i H2 s2=>⟨fun hi=>?_,fun hi=>?_,fun u H3 y=>?_⟩⟩
    ·rw[lz]at hi
     exact⟨us,us[i]'(by omega),jv.sql s2 qa,by simp<;>omega⟩
    ·rw[lz]at hi
     exact⟨us,jv.sql s2 qa,by omega⟩
    ·obtain⟨pp,x,e5,e6,e7,e8⟩:=y
     subst e5;subst e7;refine⟨jE e6,fun d hd=>?_⟩;obtain⟨dx,g3,g4⟩:=abm xs 0 i d hd;subst g4;have f1:=e8 us (jv.sql s2 qa);have m:=s2.trans (jp.a (jE (o:= .tup [.int (i:Int),x]) e6));obtain⟨x',a1,a2⟩:=(Reps.monoA m _ _ ra).get g3;rw[f1]at a1;cases a1;exact⟨pp,[.int (i:Int),x],rfl,SqT.of jq,_,_,rfl,by show V.int (i:Int)=V.int ((0+i:Nat):Int);rw[Nat.zero_add],x,_,rfl,a2,rfl⟩
   ·cases q'
end
section
variable {X:Cx}{e:Expr}{es:List Expr}{pos p:Pos}
theorem alc{CX:CXT}{k i:Nat}{f:Addr}{fd:FuncData}{ps:List Str}{sp:Sp}{E:XK}{x y:Str}{t:TA}(F:FnOk X.prog X.w X.K X.mg X.base CX k f fd ps sp)(hr:Room k X.A)(hm:X.mg x=some (.ref f))(hk:PySem.W.keepIn X.K (.ref f)=true)(hb:zB X.K fd ps [])(hx:aeA CX X E)
  (hN:X.N[i]?=some y) (hv:Vis X.env.scope y) (ha:PA X (e::es) t) (hdb:(y==("__debug__":Str))=false:=by decide) (hcd:(y==("__classdict__":Str))=false:=by decide) (he:starEach (e::es) X.env=(false,eval e X.env)::starEach es X.env:=by rfl) (hpl:(backTo pos (starEach es X.env)).any (·.1)=false:=by rfl):
  PE X (.Call (.Name y p) (e::es) [] pos) (fun σ H Q=>aoY i σ H fun v H1=>(∃a,v= .ref a/\PySem.W.nsIn X.K mainGlobals x=some (some (.ref a)))/\ah4 sp [] E t σ H1 Q):=by
 intro Kp s σ H Q I h;refine wpAny_Call_Name_kw (thn (ZZ hN hv hdb hcd Kp s σ H _ I h) fun u s1 ⟨v,H1,I1,rv,⟨a,ev,ea⟩,q⟩=>?_);subst ev;cases rv;have hf:=(PySem.W.mg_of I1.mod.kin I1.mod.glob ea).symm.trans hm;cases hf;refine PySem.W.callWith_K (h₀:=X.base) I1.ok.mod.kin hk (thn (ha pos Kp s1 σ H1 _ I1 q) fun us s2 ⟨vs,H2,I2,r,q2⟩=>⟨I2.kIn,?_⟩) he hpl;exact aeB F hr hb .nil hx I2 r q2
noncomputable def abK(x:Str):PyData->Bool
 |.dict [(.str y,.none)]=>decide (y=x)
 |_=>false
theorem af4{x:Str}{d:PyData}(h:abK x d=true):d=fnD x:=by
 unfold abK at h;split at h
 ·rw[of_decide_eq_true h];rfl
 ·cases h
@[simp] theorem ahn(x:Str):abK x (fnD x)=true:=by simp[abK,fnD]
noncomputable def ajt(i:Nat)(x:Str)(g:LP->OP)(fr:Rho->Option (LP)):RP:=fun ρ=>(lkp i ρ).bind fun d=>if abK x d=true then (fr ρ).bind g else none
theorem aim{K:Fg}{H:Hp}{x:Str}{v:V}(h:Rep K H (fnD x) v):∃a,v= .ref a/\PySem.W.nsIn K mainGlobals x=some (some (.ref a)):=by
 obtain⟨a,h1,⟨ns,h2,h3⟩ | ⟨ks,ob,h2,h3⟩ | ⟨y,h2,h3⟩ | ⟨y,_,_,h2,_⟩ | h2⟩:=h
 ·cases ns with
  |nil=>cases h3
  |cons n ns=>cases h3
 ·exact h3.elim
 ·cases h2
  exact⟨a,h1,h3⟩
 ·cases h2
 ·cases h2
theorem af5{k j n:Nat}(i:Nat){ps:List Str}{g:LP->OP}{x y:Str}{fr:Rho->Option (LP)}(c:jh X.prog X.w X.K X.mg X.base x ps k n g)(hr:Room j X.A)(hkj:k<=j)(ha:PAD X (e::es) fr)
  (hl:∀(ρ:Rho) (ds:LP),fr ρ=some ds->ds.length=n) (hn:(e::es).length=n:=by rfl) (hN:X.N[i]?=some y:=by rfl) (hv:Vis X.env.scope y:=by first|exact Or.inl rfl|exact Or.inr (Or.inl rfl)|exact Or.inr (Or.inr rfl))
  (hdb:(y==("__debug__":Str))=false:=by decide) (hcd:(y==("__classdict__":Str))=false:=by decide) (he:starEach (e::es) X.env=(false,eval e X.env)::starEach es X.env:=by rfl)
  (hpl:(backTo pos (starEach es X.env)).any (·.1)=false:=by rfl):PD X (.Call (.Name y p) (e::es) [] pos) (ajt i x g fr):=by
 with_unfolding_all
  obtain⟨f,fd,c1,c2,c3,c4⟩:=c;refine PE.imp (alc c1 (hr.mono hkj) c2 c3 c4 acG hN hv ha hdb hcd he hpl) fun σ H Q ⟨ρ,d,en,q,k⟩=>?_;cases h0:lkp i ρ with
  |none=>simp[ajt,h0]at q
  | some d0=>
   cases hF:abK x d0 with
   |false=>simp[ajt,h0,hF]at q
   | true=>
    have:=af4 hF;subst this;cases h1:fr ρ with
    |none=>simp[ajt,h0,hF,h1]at q
    | some ds=>
     have q':g ds=some d:=by simpa[ajt,h0,hF,h1]using q
     obtain⟨v,e1,e2⟩:=en.at' i _ (qF h0);refine⟨v,e1,aim e2,ρ,ds,en,h1,fun vs H1 s1 r1=>?_⟩;exact⟨ds,d,hl ρ ds h1,by rw[List.append_nil];exact r1,q',fun v H' s r=>k v H' (s1.trans s) r⟩
end
@[irreducible] noncomputable def PAX(X:Cx)(es:List Expr)(fx:Rho->Option Str):Prop:=∀(pos:Pos) (s:Shared) (σ:St) (H:Hp) (ρ:Rho) (c:Str),Inv X [] σ H s->EnvR X.K H ρ σ->fx ρ=some c->(∀ev s',Thr X H c ev s'->X.xe ev s')->wpAny (model X.prog X.w) X.A (spliced (backTo pos (starEach es X.env))) (fun _ _=>False) X.xe s
section
variable {X:Cx}{e a b c:Expr}{es:List Expr}{fa:RP}{fx gx:Rho->Option Str}{pos:Pos}
theorem ald(h:PDX X e fx)(hs:starEach (e::es) X.env=(false,eval e X.env)::starEach es X.env:=by rfl):PAX X (e::es) fx:=by
 with_unfolding_all
  intro pos s σ H ρ c I en q k;rw[hs];show wpAny _ _ (spliced ((false,eval e X.env)::backTo pos (starEach es X.env))) _ _ s;exact Calls.spliced_cons (wpAny_mono (h s σ H ρ c I en q k) (fun _ _ z=>z.elim) fun _ _ z=>z)
noncomputable def apB(fa:RP)(gx:Rho->Option Str):Rho->Option Str:=fun ρ=>(fa ρ).bind fun _=>gx ρ
theorem ale(ha:PD X e fa)(h:PAX X es gx)(hs:starEach (e::es) X.env=(false,eval e X.env)::starEach es X.env:=by rfl):PAX X (e::es) (apB fa gx):=by
 with_unfolding_all
  intro pos s σ H ρ c I en q k;cases h1:fa ρ with
  |none=>simp[apB,h1]at q
  | some d=>
   have q':gx ρ=some c:=by simpa[apB,h1]using q
   rw[hs];show wpAny _ _ (spliced ((false,eval e X.env)::backTo pos (starEach es X.env))) _ _ s;refine Calls.spliced_cons (wpAny_mono (ha [] s σ H (fun v H'=>jp H H'/\Rep X.K H' d v) I ⟨ρ,d,en,h1,fun v H' s1 r=>⟨s1,r⟩⟩) (fun u s1 z=>?_) fun _ _ z=>z);obtain⟨v,H1,I1,_,sm,_⟩:=z;exact wpAny_mono (h pos s1 σ H1 ρ c I1 (en.mono sm) q' fun ev s' t=>k ev s' (t.mono sm)) (fun _ _ z=>z.elim) fun _ _ z=>z
theorem alf{k n:Nat}{ps:List Str}{g:LP->OP}{x:Str}{p:Pos}(C:jh X.prog X.w X.K X.mg X.base x ps k n g)(ha:PAX X (e::es) fx)
  (hg:Gl X x:=by rfl) (hdb:(x==("__debug__":Str))=false:=by decide) (he:starEach (e::es) X.env=(false,eval e X.env)::starEach es X.env:=by rfl)
  (hpl:(backTo pos (starEach es X.env)).any (·.1)=false:=by rfl):PDX X (.Call (.Name x p) (e::es) [] pos) fx:=by
 with_unfolding_all
  intro s σ H ρ c I en q k';obtain⟨f,fd,_,hm,hk,_⟩:=C;refine wpAny_Call_Name_kw (Jn I hg hm ?_ hdb);exact PySem.W.callWith_K (h₀:=X.base) I.ok.mod.kin hk (wpAny_mono (ha pos s σ H ρ c I en q k') (fun _ _ z=>z.elim) fun _ _ z=>z) he hpl
end
@[irreducible] noncomputable def apC(X:Cx)(own:Option Nat)(st:Stmt)(fx:Rho->Option Str):Prop:=∀(s:Shared) (σ:St) (H Hs:Hp) (ρ:Rho) (c:Str),Inv X [] σ H s->EnvO X.prog X.w X.K Hs H own ρ σ->fx ρ=some c->(∀ev s',Thr X Hs c ev s'->X.xe ev s')->wpAny (model X.prog X.w) X.A (exec st X.env) (fun _ _=>False) X.xe s
@[irreducible] noncomputable def acX(X:Cx)(own:Option Nat)(sts:List Stmt)(fx:Rho->Option Str):Prop:=∀(s:Shared) (σ:St) (H Hs:Hp) (ρ:Rho) (c:Str),Inv X [] σ H s->EnvO X.prog X.w X.K Hs H own ρ σ->fx ρ=some c->(∀ev s',Thr X Hs c ev s'->X.xe ev s')->wpAny (model X.prog X.w) X.A (execs sts X.env) (fun _ _=>False) X.xe s
section
variable {X:Cx}{own:Option Nat}{e a b c tg src:Expr}{es:List Expr}{st:Stmt}{sts qg body:List Stmt}{fx gx:Rho->Option Str}{F:RO}{fa:RP}{pos:Pos}
theorem acY(h:apC X own st fx):acX X own (st::qg) fx:=by
 with_unfolding_all
  intro s σ H Hs ρ c I E q k;exact wpAny_execs_cons (wpAny_mono (h s σ H Hs ρ c I E q k) (fun _ _ z=>z.elim) fun _ _ z=>z)
theorem aho(h1:PSO X own st F)(h2:acX X own qg gx):acX X own (st::qg) (nxX F gx):=by
 with_unfolding_all
  intro s σ H Hs ρ c I E q k;cases hF:F ρ with
  |none=>simp[nxX,hF]at q
  | some o=>
   cases o with
   | nx ρ'=>
    have q':gx ρ'=some c:=by simpa[nxX,hF]using q
    refine wpAny_execs_cons (wpAny_mono (h1 [] s σ H { nx:=fun σ' H'=>EnvO X.prog X.w X.K Hs H' own ρ' σ',rt:=fun _ _=>False,bk:=fun _ _=>False,ct:=fun _ _=>False } I ⟨Hs,ρ,.nx ρ',E,hF,fun σ' H' e1=>e1⟩) (fun f s1 z=>?_) fun _ _ z=>z);cases f with
    | next=>
     obtain⟨σ',H',I',e1⟩:=z;exact wpAny_mono (h2 s1 σ' H' Hs ρ' c I' e1 q' k) (fun _ _ z=>z.elim) fun _ _ z=>z
    |brk=>obtain⟨_,_,_,z⟩:=z;exact z.elim
    |cont=>obtain⟨_,_,_,z⟩:=z;exact z.elim
    |ret u=>obtain⟨_,_,_,_,_,z⟩:=z;exact z.elim
   |_=>simp[nxX,hF]at q
noncomputable def ask(own:Option Nat)(fx:Rho->Option Str):Rho->Option Str:=fun ρ=>fx (hid own ρ)
theorem alg{x:Str}{pos':Pos}(h:PDX X e fx)(hs:swapsWith e (some (.Name x pos')) pos.line X.env=pure false:=by rfl):apC X own (.Assign [.Name x pos'] e pos) (ask own fx):=by
 with_unfolding_all
  intro s σ H Hs ρ c I E q k;exact wpAny_Assign_Name (wpAny_mono (h s σ H (hid own ρ) c I E.hid q fun ev s' t=>k ev s' (t.mono E.sm)) (fun _ _ z=>z.elim) fun _ _ z=>z) hs
theorem alh(h:acX X none sts fx):ab2 X sts fx:=by
 with_unfolding_all
  intro s σ H ρ c I en q k;exact h s σ H H ρ c I (EnvO.of en (jp.refl H)) q k
noncomputable def anD(i:Nat)(f:RP)(gx:Rho->Option Str):Rho->Option Str:=fun ρ=>(f ρ).bind fun d=>if i < ρ.length then gx (ρ.set i (some d)) else none
theorem aju(i:Nat){x:Str}{pos':Pos}(hN:X.N.Nodup)(he:PN X e fa)(h:acX X (some i) qg gx)(hi:X.N[i]?=some x:=by rfl)(hx:Loc X.env.scope x:=by first|exact Or.inl rfl|exact Or.inr rfl)(hs:swapsWith e (some (.Name x pos')) pos.line X.env=pure false:=by rfl)
  (hf:X.fn x=true∨X.env.scope.names.lookup x=some .local:=by first|exact .inl rfl|exact .inr rfl|assumption):acX X none (.Assign [.Name x pos'] e pos::qg) (anD i fa gx):=by
 with_unfolding_all
  intro s σ H Hs ρ c I E q k;cases h1:fa ρ with
  |none=>simp[anD,h1]at q
  | some d=>
   by_cases hl:i < ρ.length
   ·have q':gx (ρ.set i (some d))=some c:=by simpa[anD,h1,hl]using q
    refine wpAny_execs_cons (wpAny_mono (aa4 hN hi hx he hs hf [] s σ H { nx:=fun σ' H'=>EnvO X.prog X.w X.K Hs H' (some i) (ρ.set i (some d)) σ',rt:=fun _ _=>False,bk:=fun _ _=>False,ct:=fun _ _=>False } I
     ⟨ρ,d,E.to,h1,fun a H' s hn ow=>⟨by simp [E.len],E.sm.trans s,fun j y q n=>?_,fun j n=>?_⟩⟩) (fun f s1 z=>?_) fun _ _ z=>z)
    ·have hj:i≠j:=fun z=>n (by rw[z])
     rw[List.getElem?_set_ne hj]at q ⊢;obtain⟨v,g1,g2⟩:=E.pl j y q (fun z=>nomatch z);exact⟨v,g1,Rep.mono s _ _ g2⟩
    ·cases n
     refine⟨d,a,by rw[List.getElem?_set_self hl],by rw[List.getElem?_set_self (by rw[←E.len];exact hl)],E.sm.free hn,ow⟩
    ·cases f with
     | next=>
      obtain⟨σ',H',I',e1⟩:=z;exact wpAny_mono (h s1 σ' H' Hs _ c I' e1 q' k) (fun _ _ z=>z.elim) fun _ _ z=>z
     |brk=>obtain⟨_,_,_,z⟩:=z;exact z.elim
     |cont=>obtain⟨_,_,_,z⟩:=z;exact z.elim
     |ret u=>obtain⟨_,_,_,_,_,z⟩:=z;exact z.elim
   ·simp[anD,h1,hl]at q
theorem Thr.unwish{W:Value->SP0}{Hb Hs:Hp}{c:Str}{ev:Value}{s':Shared}(sb:∀H3,jp Hb H3->jp Hs H3)(h:Thr (X.wish W) Hb c ev s'):Thr X Hs c ev s':=by
 obtain⟨e,C,σ',H',h1,h2,h3,h4,h5⟩:=h;exact⟨e,C,σ',H',h1,h2,h3.unwish,sb _ h4,h5.unwish⟩
noncomputable def aax(ga:PyData->Rho->Option Rho)(F:RO)(fx:Rho->Option Str):LP->Rho->Option Str
 | [],_=>none
 | d::r,ρ=>(ga d ρ).bind fun ρ1=>match F ρ1 with
  |some (.nx ρ2)=>aax ga F fx r ρ2
  |some _=>none
  |none=>fx ρ1
noncomputable def apD(fi:Rho->Option (LP))(ga:PyData->Rho->Option Rho)(F:RO)(fx:Rho->Option Str):Rho->Option Str:=fun ρ=>(fi ρ).bind fun ds=>aax ga F fx ds ρ
theorem ali{fi:Rho->Option (LP)}{ga:PyData->Rho->Option Rho}(T0:Top0 X)(hc:X.calm=true)(hi:∀W,PID (X.wish W) tg src fi)(hg:∀W,PGO (X.wish W) own tg ga)(hb:∀W,adC (X.wish W) own body F)(hx:∀W,acX (X.wish W) own body fx)
  (hs:∀x,foldedSetIterable src X.env x=pure x:=by intro _;rfl):apC X own (.For tg src body [] pos) (apD (fun ρ=>fi (hid own ρ)) ga F fx):=by
 with_unfolding_all
  intro s σ H Hs ρ c I E q k;cases h1:fi (hid own ρ)with
  |none=>simp[apD,h1]at q
  | some ds=>
   have q':aax ga F fx ds ρ=some c:=by simpa[apD,h1]using q
   let W:Value->SP0:=fun ev s'=>Thr X Hs c ev s'
   have hp:PassesOwn (model X.prog X.w) X.A X.env W:=apA (X:=X) T0 I.ok.frames fun ev s' t=>by
    obtain⟨e,C,σ',H',h1,h2,h3,h4,h5⟩:=t;exact⟨e,C,σ',H',h1,h3,h5,fun s'' J xt=>⟨e,C,σ',H',h1,h2,J,h4,xt.c⟩⟩
   have hb':PSs (X.wish W) body (fun D σ H=>(∃Hs ρ o,EnvO X.prog X.w X.K Hs H own ρ σ/\F ρ=some o/\(match o with
     | .nx ρ'=>∀ σ' H',EnvO X.prog X.w X.K Hs H' own ρ' σ'->D.nx σ' H'
     | _=>False)) ∨ ∃ Hs ρ c,EnvO X.prog X.w X.K Hs H own ρ σ/\fx ρ=some c/\∀ ev s',Thr (X.wish W) Hs c ev s'->W ev s'):=by
    intro Kp s σ H D I h;rcases h with ⟨Hs,ρ,o,E,q,k⟩ | ⟨Hs,ρ,c,E,q,k⟩
    ·cases o with
     |nx ρ'=>exact hb W Kp s σ H D I ⟨Hs,ρ,.nx ρ',E,q,k⟩
     |_=>exact k.elim
    ·exact wpAny_mono (hx W s σ H Hs ρ c (I.pins_of fun p hp=>nomatch hp) E q k) (fun _ _ z=>z.elim) fun _ _ z=>z
   refine wpAny_mono (aa7 (X:=X.wish W) hp hc (hi W) (hg W) hb' hs [] s σ H { nx:=fun _ _=>False,rt:=fun _ _=>False,bk:=fun _ _=>False,ct:=fun _ _=>False } (I.wish W)
    ⟨hid own ρ,ds,E.hid,h1,fun J H1 s1 Y=>?_⟩) (fun f s1 z=>?_) fun ev s' z=>k ev s' z
   ·obtain⟨Hb,Eb,sE,back,sb⟩:=(E.mono s1).rebase
    refine⟨fun i m σ H2=>m=ds.length-i/\i<=ds.length/\∃ρ2,EnvO X.prog X.w X.K Hb H2 own ρ2 σ/\aax ga F fx (ds.drop i) ρ2=some c,⟨ds.length,by simp,Nat.zero_le _,ρ,Eb,by simpa using q'⟩,?_⟩
    rintro i m σ2 H2 ⟨rfl,hi,ρ2,en2,q2⟩
    obtain⟨g1,g2,g3⟩:=Y i H2 (jW.a (sE H2 en2.sm));by_cases hlt:i<ds.length
    ·right
     have hd:ds.drop i=ds[i]::ds.drop (i+1):=List.drop_eq_getElem_cons hlt;rw[hd]at q2;refine⟨g1 hlt,fun σ3 H3=>∃ρ3,EnvO X.prog X.w X.K Hb H3 own ρ3 σ3/\aax ga F fx (ds.drop (i+1)) ρ3=some c,fun σ3 H3 ⟨ρ3,a2,a3⟩=>⟨ds.length-(i+1),by omega,rfl,hlt,ρ3,a2,a3⟩,fun x H3 y=>?_⟩;obtain⟨s3,r3⟩:=g3 x H3 y;have r3':=r3 ds[i] (by simp[hlt]);cases h4:ga ds[i] ρ2 with
     |none=>simp[aax,h4]at q2
     | some ρ4=>
      refine⟨Hb,ρ2,ds[i],ρ4,en2.mono s3,r3',h4,fun σ5 H5 en5=>?_⟩;cases h5:F ρ4 with
      | none=>
       have q3:fx ρ4=some c:=by simpa[aax,h4,h5]using q2
       exact .inr ⟨Hb,ρ4,c,en5,q3,fun ev s' t=>Thr.unwish sb t⟩
      | some p=>
       cases p with
       |nx ρ6=>exact .inl ⟨Hb,ρ4,.nx ρ6,en5,h5,fun σ6 H6 en6=>⟨ρ6,en6,by simpa[aax,h4,h5]using q2⟩⟩
       |_=>simp[aax,h4,h5]at q2
    ·exfalso
     have he:i=ds.length:=by omega
     have hn:ds.drop i=[]:=by rw[he];simp
     rw[hn]at q2;cases q2
   ·cases f with
    |next=>obtain⟨_,_,_,z⟩:=z;exact z.elim
    |brk=>obtain⟨_,_,_,z⟩:=z;exact z.elim
    |cont=>obtain⟨_,_,_,z⟩:=z;exact z.elim
    |ret u=>obtain⟨_,_,_,_,_,z⟩:=z;exact z.elim
end
section
variable {X:Cx}{e a b c:Expr}{es:List Expr}{st:Stmt}{sts qg:List Stmt}{fx gx:Rho->Option Str}{F:RO}{pos p:Pos}
noncomputable def orX(fx gx:Rho->Option Str):Rho->Option Str:=fun ρ=>match fx ρ with
 |some c=>some c
 |none=>gx ρ
theorem Ja(h1:ab2 X sts fx)(h2:ab2 X sts gx):ab2 X sts (orX fx gx):=by
 with_unfolding_all
  intro s σ H ρ c I en q k;cases hf:fx ρ with
  | some c'=>
   have:c'=c:=by simpa[orX,hf]using q
   subst this;exact h1 s σ H ρ c' I en hf k
  |none=>exact h2 s σ H ρ c I en (by simpa[orX,hf]using q) k
noncomputable def af6(i:Nat)(x:Str)(g:LP->Option Str)(fr:Rho->Option (LP)):Rho->Option Str:=fun ρ=>(lkp i ρ).bind fun d=>if abK x d=true then (fr ρ).bind g else none
theorem ajv{k j n:Nat}(i:Nat){ps:List Str}{g:LP->Option Str}{x y:Str}{fr:Rho->Option (LP)}(hxe:X.ex=[])(C:qA X.prog X.w X.K X.mg X.base x ps k n g)(hr:Room j X.A)(hkj:k<=j)(ha:PAD X (e::es) fr)(hl:∀ρ ds,fr ρ=some ds->ds.length=n)
  (hN:X.N[i]?=some y:=by rfl) (hv:Vis X.env.scope y:=by first|exact Or.inl rfl|exact Or.inr (Or.inl rfl)|exact Or.inr (Or.inr rfl))
  (hdb:(y==("__debug__":Str))=false:=by decide) (hcd:(y==("__classdict__":Str))=false:=by decide) (he:starEach (e::es) X.env=(false,eval e X.env)::starEach es X.env:=by rfl)
  (hpl:(backTo pos (starEach es X.env)).any (·.1)=false:=by rfl):PDX X (.Call (.Name y p) (e::es) [] pos) (af6 i x g fr):=by
 with_unfolding_all
  intro s σ H ρ c I en q k';obtain⟨f,fd,F,hm,hk,hb⟩:=C;cases h0:lkp i ρ with
  |none=>simp[af6,h0]at q
  | some d0=>
   cases hF:abK x d0 with
   |false=>simp[af6,h0,hF]at q
   | true=>
    have:=af4 hF;subst this;cases hd:fr ρ with
    |none=>simp[af6,h0,hF,hd]at q
    | some ds=>
     have q':g ds=some c:=by simpa[af6,h0,hF,hd]using q
     obtain⟨v0,e1,e2⟩:=en.at' i _ (qF h0);refine wpAny_Call_Name_kw (thn (ZZ hN hv hdb hcd [] s σ H (fun v H1=>v=v0/\H1=H) I ⟨v0,e1,rfl,rfl⟩) fun u s1 ⟨v,H1,I1,rv,ev,eH⟩=>?_);subst ev;subst eH;obtain⟨a,ea,na⟩:=aim e2;subst ea;cases rv;have hf:=(PySem.W.mg_of I1.mod.kin I1.mod.glob na).symm.trans hm;cases hf;refine PySem.W.callWith_K (h₀:=X.base) I1.ok.mod.kin hk (thn (ha pos [] s1 σ H1 (fun vs H2=>jp H1 H2/\Reps X.K H2 ds vs) I1 ⟨ρ,ds,en,hd,fun vs H2 s1 r1=>⟨s1,r1⟩⟩) fun us s2 ⟨vs,H2,I2,r,sm,rd⟩=>⟨I2.kIn,?_⟩) he hpl;have hn:ds.length=n:=hl ρ ds hd;have sp:ahk X.K X.mg n g vs H2 (fun _ _=>False) (fun cls _ H'=>X.mg c=some cls/\jp H2 H'):=⟨ds,c,hn,rd,q',fun C H' hC s2=>⟨hC,s2⟩⟩;have hlu:(us++[]).length=ps.length:=by rw[List.append_nil,←r.length];exact F.len _ _ _ _ sp
     have hbd:=hb s2 us I2.kIn hlu;rw[List.append_nil]at hbd;refine wpAny_call (codeAny_mono (F.run X.A X.stack s2 H2 ⟨us,[]⟩ us vs _ _ (hr.mono hkj) I2.env0 hbd r sp) fun rs s' hq=>?_);cases rs with
     | error ev=>
      obtain⟨e0,C,H',rfl,os,bare,un,hok,xc,hC,sm2⟩:=hq;have J':Inv X [] σ H' s':=I2.call' (ch:=[]) os un hok bare fun b z=>nomatch z
      exact k' _ _ ⟨e0,C,σ,H',rfl,hC,J',sm.trans sm2,Xc.of hxe I2 xc⟩
     | ok fl=>
      cases fl with
      |ret u=>obtain⟨v,H',_,_,_,_,_,z⟩:=hq;exact z.elim
      |next=>exact False.elim hq
      |brk=>exact False.elim hq
      |cont=>exact False.elim hq
end
section
variable {X:Cx}{a b c:Expr}{tc ta tb:Rho->Option Bool}{pos:Pos}
end
section
variable {X:Cx}{a b:Expr}{fa fb:RP}
end
structure RoomH(k:Nat)(A:Around):Prop where
 dp:A.depth+3*k+5<recursionLimit
 un:A.units+16*k+200<cLine
theorem RoomH.deeper{k:Nat}{A:Around}(r:RoomH (k+1) A)(env:Env):RoomH k (A.deeper env):=
 ⟨by have:=r.dp;show A.depth+1+3*k+5<_;omega,by have:=r.un;show A.units+3+16*k+200<_;omega⟩
theorem Room.h{k:Nat}{A:Around}(r:Room k A):RoomH k A:=⟨r.dp,r.un⟩
theorem RoomH.mark{k:Nat}{A:Around}{v:Option Value}(r:RoomH k A):RoomH k (A.mark v):=⟨r.dp,r.un⟩
structure FnH(P:Program)(w:World)(K:Fg)(mg:SV)(base:Heap)(k:Nat)(f:Addr)(fd:FuncData)(ps:List Str)(sp:Sp):Prop where
 len:∀vs H Q E,sp vs H Q E->vs.length=ps.length
 run:∀(A:Around) (Ko:List Env) (s:Shared) (H:Hp) (args:Args) (us:List Value) (vs:List V) (Q:VK) (E:XK),RoomH k A->Env0 P w K mg base A Ko s H->BindsTo s fd args (ps.zip us)->jH vs us->sp vs H Q E->
  codeAny (model P w) A (.call (.ref f) args) (CR CX0 Ko P w H s Q E) s
noncomputable abbrev cxH(P:Program)(w:World)(K:Fg)(mg:SV)(base:Heap)(N:List Str)(qual:Str)(scope:Scope)(f:Addr)(cd:Value)(A:Around)(Ko:List Env)(s:Shared)(H:Hp)(E:XK):Cx:=
 { zL CX0 P w K mg base N qual scope f cd { A with handled:=none } Ko s H E with A:=A.deeper (envOfC qual scope s.heap.objs.size f cd),calm:=false,xe:=fun _ _=>False }
noncomputable def arP(P:Program)(w:World)(K:Fg)(mg:SV)(base:Heap)(x:Str)(ps:List Str)(k n:Nat)(g:LP->OP):Prop:=
 ∃(f:Addr) (fd:FuncData),FnH P w K mg base k f fd ps (Pur K n g)/\mg x=some (.ref f)/\PySem.W.keepIn K (.ref f)=true/\zB K fd ps []
section
variable {P:Program}{w:World}{K:Fg}{mg:SV}{base:Heap}
end
section
variable {X:Cx}{e:Expr}{es:List Expr}{pos:Pos}
end
structure ExcK(K:Fg)(C:Addr):Prop where
 exc:PySem.W.excIn K C vB "ValueError.__new__"=true
 ga:PySem.W.findIn K (.ref C) "__getattribute__"=some (some (.builtin "BaseException.__getattribute__"))
 gt:PySem.W.findIn K (.ref C) "__getattr__"=some none
 cl:PySem.W.findIn K (.ref C) "__class__"=some (some (.builtin "object.__class__"))
 mo:PySem.W.mroIn K C (.type "object")=some true
 mb:PySem.W.mroIn K C (.type "BaseException")=some true
theorem alj{K:Fg}{C:Addr}{t:Value}{b:Bool}(h:PySem.W.mroIn K C t=some b):(PySem.W.clsIn K C).isSome=true:=by
 unfold PySem.W.mroIn at h;cases hc:PySem.W.clsIn K C with
 |none=>rw[hc]at h;cases h
 |some cd=>rfl
structure ClsG(K:Fg):Prop where
 gt:PySem.W.specialIn K (.builtin "object.__class__") "__get__"=some (some (.builtin "getset_descriptor.__get__"))
 tk:PySem.W.takesIn K (.builtin "object.__class__")=some true
section
variable {prog:Program}{w:World}{A:Around}{E:Value->SP0}{s:Shared}{K:Fg}{a C:Addr}{oe:Obj}
end
noncomputable def adr(K:Fg)(c:Str):Option Addr:=match PySem.W.nsIn K mainGlobals c with
 |some (some (.ref C))=>some C
 |_=>none
theorem anE{K:Fg}{c:Str}{C:Addr}(h:adr K c=some C):PySem.W.nsIn K mainGlobals c=some (some (.ref C)):=by
 unfold adr at h;split at h
 ·rename_i q;cases h;exact q
 ·cases h
noncomputable def apE(K:Fg)(C:Addr):Bool:=PySem.W.excIn K C vB "ValueError.__new__" && ((PySem.W.findIn K (.ref C) "__getattribute__" == some (some (.builtin "BaseException.__getattribute__")))&&((PySem.W.findIn K (.ref C) "__getattr__" == some none)&&((PySem.W.findIn K (.ref C) "__class__" == some (some (.builtin "object.__class__")))&&((PySem.W.mroIn K C (.type "object")==some true)&&(PySem.W.mroIn K C (.type "BaseException")==some true)))))
theorem alk{K:Fg}{C:Addr}(h:apE K C=true):ExcK K C:=by
 unfold apE at h;simp only[Bool.and_eq_true,beq_iff_eq]at h;obtain⟨h1,h2,h3,h4,h5,h6⟩:=h;exact⟨h1,h2,h3,h4,h5,h6⟩
noncomputable def aeU(K:Fg)(y:Str)(cs:List Str):Bool:=(PySem.W.specialIn K (.builtin "object.__class__") "__get__" == some (some (.builtin "getset_descriptor.__get__")))&&((PySem.W.takesIn K (.builtin "object.__class__")==some true)&&(match adr K y with
 | none=>false
 | some B=>(PySem.W.typeIn K (.ref B) == some (.type "type")) && ((PySem.W.mroIn K B (.type "BaseException") == some true) && cs.all fun c=>match adr K c with
  | none=>false
  | some C=>apE K C && ((PySem.W.mroIn K C (.ref B) == some true) && ((PySem.W.kitOne K (.ref C) (.type "ValueError") == some true) && cs.all fun d=>match adr K d with
   | none=>false
   | some D=>PySem.W.kitOne K (.ref C) (.ref D) == some (c == d))))))
structure ErrT(K:Fg)(mg:SV)(y:Str)(cs:List Str):Prop where
 tab:aeU K y cs=true
 mgs:∀c C,adr K c=some C->mg c=some (.ref C)
section
variable {K:Fg}{mg:SV}{y:Str}{cs:List Str}
theorem ErrT.g(h:ErrT K mg y cs):ClsG K:=by
 have:=h.tab;unfold aeU at this;simp only[Bool.and_eq_true,beq_iff_eq]at this;exact⟨this.1,this.2.1⟩
theorem ErrT.par(h:ErrT K mg y cs):∃B,adr K y=some B/\mg y=some (.ref B)/\PySem.W.typeIn K (.ref B)=some (.type "type")/\PySem.W.mroIn K B (.type "BaseException")=some true/\
  ∀c∈cs,∃C,adr K c=some C/\mg c=some (.ref C)/\ExcK K C/\PySem.W.mroIn K C (.ref B)=some true/\PySem.W.kitOne K (.ref C) (.type "ValueError")=some true/\∀d∈cs,∃D,adr K d=some D/\mg d=some (.ref D)/\PySem.W.kitOne K (.ref C) (.ref D)=some (c==d):=by
 have q:=h.tab;unfold aeU at q;simp only[Bool.and_eq_true,beq_iff_eq]at q;obtain⟨_,_,q⟩:=q;cases hB:adr K y with
 |none=>rw[hB]at q;cases q
 | some B=>
  rw[hB]at q;simp only[Bool.and_eq_true,beq_iff_eq,List.all_eq_true]at q;obtain⟨q1,q2,q3⟩:=q;refine⟨B,rfl,h.mgs y B hB,q1,q2,fun c hc=>?_⟩;have z:=q3 c hc;cases hC:adr K c with
  |none=>rw[hC]at z;cases z
  | some C=>
   rw[hC]at z;simp only[Bool.and_eq_true,beq_iff_eq,List.all_eq_true]at z;obtain⟨z1,z2,z3,z4⟩:=z;refine⟨C,rfl,h.mgs c C hC,alk z1,z2,z3,fun d hd=>?_⟩;have v:=z4 d hd;cases hD:adr K d with
   |none=>rw[hD]at v;cases v
   | some D=>
    rw[hD]at v;exact⟨D,rfl,h.mgs d D hD,beq_iff_eq.mp v⟩
theorem ErrT.err(h:ErrT K mg y cs){c:Str}(hc:c∈cs):acV K mg c:=by
 obtain⟨B,_,_,_,_,q⟩:=h.par;obtain⟨C,_,q2,q3,_⟩:=q c hc;exact⟨C,q2,q3.exc⟩
end
noncomputable def aq9:PyData->Option Str
 |.dict [(.str c,.bool true)]=>some c
 |_=>none
@[simp] theorem apF(c:Str):aq9 (ase c)=some c:=rfl
section
variable {X:Cx}{a:Expr}{fa:RP}{pos p p2:Pos}{y:Str}{cs:List Str}
end
section
variable {X:Cx}{σ:St}{H:Hp}{s:Shared}{e C:Addr}
theorem Inv.take{oe:Obj}(I:Inv X [] σ H s)(m:Mine X H e)(he:s.heap.get? e=some oe):Inv X [] σ (upd H e (.frz oe (.own e))) s/\jp H (upd H e (.frz oe (.own e))):=by
 have ne:∀b o,H b=some o->b≠e:=fun b o q z=>by subst z;rw[m.un]at q;cases q
 have sm:jp H (upd H e (.frz oe (.own e))):=fun b o q=>by rw[jr (ne b o q)];exact q
 have u:Un (frs X.stack) [e] H (upd H e (.frz oe (.own e))) s.heap s.heap:=⟨fun b o q _ _ _=>q,fun b o q _ _ _=>⟨o.slots,q⟩,fun b o q n nc=>by rw[jr (fun z=>nc (by simp[z]))];exact n,fun b o q _=>⟨o,q⟩,fun b xs q=>sm b _ q,fun b o v q=>sm b _ q,fun b ps q=>⟨#[],by rw[sm b _ q];simp⟩⟩
 have hok:HOk X.prog X.w (upd H e (.frz oe (.own e))) s.heap:=fun b o q=>by
  by_cases hb:b=e
  ·subst hb
   rw[jq]at q;cases q;exact⟨he,_,he⟩
  ·rw[jr hb]at q
   exact(I.hok b o q).stay (fun c v hc r=>r) (fun c r=>sm _ _ r) fun c v r=>sm _ _ r
 refine⟨?_,sm⟩
 have J:=Inv.call (X:={ X with ex:=[e]++X.ex }) (g':=s.gens) (d':=s.drawn) (t':=s.toks) (Inv.exIn I fun b hb=>by rw[List.mem_singleton.mp hb];exact⟨m.new,m.loc,m.cel⟩) u hok I.bare fun b hb=>by
  rw[List.mem_singleton.mp hb];exact⟨.inl (List.mem_append_left _ (by simp)),m.loc,m.cel,fun p hp=>m.pin p (by simpa using hp)⟩
 exact Inv.exOut J I.ok fun b hb=>by rw[List.mem_singleton.mp hb];exact m.new
theorem af7{M:Model}{A:Around}{E:Value->SP0}{K:Fg}{B:Addr}{oe:Obj}{Q:Bool->SP0}(X:K.In s.heap)(he:s.heap.get? e=some oe)(hc:oe.cls= .ref C)
  (ht:PySem.W.typeIn K (.ref B)=some (.type "type")) (hB:PySem.W.mroIn K B (.type "BaseException")=some true) (hm:PySem.W.mroIn K C (.ref B)=some true) (hq:Q true s):wpAny M A (excMatches (.ref e) (.ref B)) Q E s:=by
 have L0:=PySem.W.looks_typeIn (M:=M) X ht;have L1:=PySem.W.looks_mroIn (M:=M) X hB;have L2':=PySem.W.looks_mroIn (M:=M) X hm
 have Lt:PySem.W.Looks M s.heap (isType (.ref B)) true:=by
  obtain⟨cdD,hcD⟩:=Option.isSome_iff_exists.mp (alj hB);unfold PySem.W.clsIn at hcD;split at hcD
  ·rename_i ho
   intro A' Q' E' s' k q;unfold isType loadHead;exact wpAny_bind (wpAny_loadPart (k _ _ (X _ _ ho)) (wpAny_pure q))
  ·cases hcD
 have f:=tc_notTuple;obtain⟨hp,g,d,tk,os⟩:=s;unfold excMatches isInstance isExcClass
 repeat (first | (with_reducible refine wpAny_loadPart_at he ?_;rw[hc]) | with_reducible refine L0.at ?_ | with_reducible refine L1.at ?_ | with_reducible refine L2'.at ?_ | with_reducible refine Lt.at ?_ | wp_step)
 exact hq
end
section
variable {X:Cx}{st b0:Stmt}{sts qg tb hb:List Stmt}{F G:RO}{fx:Rho->Option Str}{pos:Pos}
end
noncomputable abbrev asl:=Int×(Int×Int)
structure TripAt(h:Heap)(u:Value)(t:asl):Prop where
 ex:∃a o k tk a2,u= .ref a/\h.get? a=some o/\o.cls= .type "tuple"/\o.data= .seq #[.int t.1 tk,.ref a2] k/\PairAt h (.ref a2) t.2
section
variable {X:Cx}
end
section
variable {α:Type}
end
section
variable {X:Cx}{e a b c:Expr}{es qg:List Expr}{st:Stmt}{sts srest:List Stmt}{fx gx:Rho->Option Str}{fa fb:RP}{F:RO}{pos:Pos}
theorem apG(h1:PSX X st fx)(h2:PSX X st gx):PSX X st (orX fx gx):=by
 with_unfolding_all
  intro s σ H ρ c I en q k;cases hf:fx ρ with
  | some c'=>
   have:c'=c:=by simpa[orX,hf]using q
   subst this;exact h1 s σ H ρ c' I en hf k
  |none=>exact h2 s σ H ρ c I en (by simpa[orX,hf]using q) k
noncomputable def items:PyData->Option (LP)
 |.list ds=>some ds
 |.tuple ds=>some ds
 |_=>none
noncomputable def itS(fa:RP):Rho->Option (LP):=fun ρ=>(fa ρ).bind items
theorem aay{tg:Expr}(h:PD X e fa):PID X tg e (itS fa):=by
 with_unfolding_all
  intro Kp s σ H R I ⟨ρ,ds,en,q,k⟩;cases hf:fa ρ with
  |none=>simp[itS,hf]at q
  | some d=>
   have q':items d=some ds:=by simpa[itS,hf]using q
   cases d with
   | list es=>
    cases q';exact QS (tg:=tg) h Kp s σ H R I ⟨ρ,ds,en,by simp[itL,hf,QQ],k⟩
   | tuple es=>
    cases q';exact aeH (tg:=tg) h Kp s σ H R I ⟨ρ,ds,en,by simp[itT,hf,QR],k⟩
   |_=>cases q'
end
theorem RoomH.units{k:Nat}{A:Around}(r:RoomH k A):A.units+64<cLine:=by have:=r.un;omega
theorem RoomH.mono{j k:Nat}{A:Around}(r:RoomH k A)(h:j<=k):RoomH j A:=⟨by have:=r.dp;omega,by have:=r.un;omega⟩
section
variable {X:Cx}{a b:Expr}{pos:Pos}
end
@[irreducible] noncomputable def PTX(X:Cx)(e:Expr)(fx:Rho->Option Str):Prop:=∀(s:Shared) (σ:St) (H:Hp) (ρ:Rho) (c:Str),Inv X [] σ H s->EnvR X.K H ρ σ->fx ρ=some c->(∀ev s',Thr X H c ev s'->X.xe ev s')->wpAny (model X.prog X.w) X.A (isTrue e X.env (eval e X.env)) (fun _ _=>False) X.xe s
section
variable {X:Cx}{e a b c:Expr}{l r:List Stmt}{fx gx:Rho->Option Str}{pos:Pos}
theorem anF(h:PDX X e fx)(he:∀whole,isTrue e X.env whole=(do let v ←whole;standAt e.pos;holding [v] (truthy v)):=by intro _;rfl):PTX X e fx:=by
 with_unfolding_all
  intro s σ H ρ c I en q k;exact isTrue_plain (wpAny_mono (h s σ H ρ c I en q k) (fun _ _ z=>z.elim) fun _ _ z=>z) (he _)
theorem anG(h:PTX X e fx):PTX X (.UnaryOp .Not e pos) fx:=by
 with_unfolding_all
  intro s σ H ρ c I en q k;exact isTrue_not (wpAny_mono (h s σ H ρ c I en q k) (fun _ _ z=>z.elim) fun _ _ z=>z)
theorem anH(h:PTX X e fx):PSX X (.If e l r pos) fx:=by
 with_unfolding_all
  intro s σ H ρ c I en q k;exact wpAny_If (wpAny_mono (h s σ H ρ c I en q k) (fun _ _ z=>z.elim) fun _ _ z=>z)
end
section
variable {X:Cx}{own:Option Nat}{tg:Expr}{st:Stmt}{sts:List Stmt}{fx:Rho->Option Str}{F:RO}
end
section
variable {X:Cx}{a i e:Expr}{es:List Expr}{pos fp:Pos}
end
section
variable {X:Cx}{own:Option Nat}{e a b c:Expr}{es:List Expr}{st:Stmt}{sts qg:List Stmt}{fa fb fc:RP}{F G:RO}{pos:Pos}
end
section
variable {X:Cx}{tg src:Expr}{pos pos':Pos}{own:Option Nat}
theorem alm(i:Nat){x:Str}{el:Expr}{ts:List Expr}{sc:Scope}{ps:Pos}{fi:Rho->Option (LP)}{ga:PyData->Rho->Option Rho}{ft:Rho->Option Bool}{fe:RP}(N':List Str)(cap:List (Option Nat))(hc:X.calm=true)(hN:X.N.Nodup)(hi:PID X tg src fi)(ok:CompOk X sc N' cap)
  (body:∀cl C s0 H0 fp pn,PGD (blk X N' sc cl C s0 H0 fp pn) tg ga/\ani (blk X N' sc cl C s0 H0 fp pn) ts ft/\PD (blk X N' sc cl C s0 H0 fp pn) el fe)
  (ho:own≠some i:=by decide) (hi0:X.N[i]?=some x:=by rfl) (hx:Loc X.env.scope x:=by first|exact Or.inl rfl|exact Or.inr rfl) (hsw:swapsWith (.ListComp el [⟨tg,src,ts,0⟩] sc ps) (some (.Name x pos')) pos.line X.env=pure true:=by rfl)
  (hf:X.fn x=true∨X.env.scope.names.lookup x=some .local:=by first|exact .inl rfl|exact .inr rfl|assumption)
  (hs:∀x,foldedSetIterable src X.env x=pure x:=by intro _;rfl):PSO X own (.Assign [.Name x pos'] (.ListComp el [⟨tg,src,ts,0⟩] sc ps) pos) (qz (fun ρ=>zC fi cap ga ft fe (hid own ρ)) (jS i)):=by
 with_unfolding_all
  refine PS.imp (anx (g:=tDG X.K ga) (tt:=tDT X.K ft) (te:=tD X.K fe) hc hi ok (fun cl C s0 H0 fp pn=>body cl C s0 H0 fp pn) hN hi0 hx hsw hf hs) fun D σ H ⟨Hs,ρ,o,E,q,k⟩=>ak8 ?_;cases h1:zC fi cap ga ft fe (hid own ρ)with
  |none=>simp[qz,h1]at q
  | some d=>
   have:Out.nx (ρ.set i (some d))=o:=by simpa[qz,h1,jS]using q
   subst this;exact⟨hid own ρ,d,E.hid,h1,fun v H1 s1 r1=>k _ H1 ((E.mono s1).set ho r1)⟩
end
noncomputable def asC(ps:List (Int×Int)):PyData:= .tuple (ps.map aq1)
noncomputable def ach(h:Heap):List Value->List (Int×Int)->Prop
 | [],ps=>ps=[]
 |v::vs,ps=>∃p r a,ps=p::r/\v= .ref a/\PairAt h (.ref a) p/\ach h vs r
theorem ach.len{h:Heap}:∀{vs:List Value}{ps:List (Int×Int)},ach h vs ps->vs.length=ps.length
 | [],ps,e=>by cases (show ps=[] from e);rfl
 |v::vs,ps,⟨p,r,a,e,_,_,k⟩=>by rw[e,List.length_cons,List.length_cons,k.len]
structure SetAt(h:Heap)(u:Value)(ps:List (Int×Int)):Prop where
 ex:∃a o k vs,u= .ref a/\h.get? a=some o/\o.cls= .type "tuple"/\o.data= .seq (List.toArray vs) k/\ach h vs ps
section
variable {X:Cx}
end
set_option maxHeartbeats 4000000 in
section
variable {X:Cx}
end
section
variable {prog:Program}{w:World}{A:Around}{E:Value->SP0}{s:Shared}
theorem af8{sl:Addr}{vk:Value}{n:Nat}{Q:Int×Int×Nat->SP0}(hs:s.heap.IsSliceOf sl .none .none vk)(pk:IsPart vk (some (-1)))
  (h:Q ((n:Int)-1,-1,n) s):wpAny (model prog w) A (Builtin.Slice.sliceApplied (.ref sl) (pure (n:Int))) Q E s:=by
 obtain⟨os,hos,hcs,hds⟩:=id hs;unfold Builtin.Slice.sliceApplied Builtin.Slice.sliceFields;refine wpAny_bind (wpAny_bind (wpAny_field hos hds (x:= .none) rfl (wpAny_bind (wpAny_field hos hds (x:= .none) rfl (wpAny_bind (wpAny_field hos hds (x:=vk) rfl (wpAny_pure ?_)))))));refine wpAny_bind (HT.slicePart_ pk ?_);show wpAny _ _ (if (((-1:Int))==0)=true then _ else _) _ _ s;rw[if_neg (by decide)];refine wpAny_bind (PyProof.Rows.slicePart_none (wpAny_bind (PyProof.Rows.slicePart_none (wpAny_bind (wpAny_pure ?_)))));show wpAny _ _ (pure (((n:Int)-1),(-1:Int),Builtin.Slice.slicePlaces ((n:Int)-1) (-1) (-1))) _ _ s
 have e:Builtin.Slice.slicePlaces ((n:Int)-1) (-1) (-1)=n:=by
  unfold Builtin.Slice.slicePlaces;rw[if_neg (by decide)];by_cases hn:(n:Int)-1 > -1
  ·rw[if_pos hn,show(- -1:Int)=1 by decide,Int.ediv_one];omega
  ·rw[if_neg hn];omega
 rw[e];exact wpAny_pure h
theorem ajw(xs:Array Value):((List.range xs.size).filterMap fun (k:Nat)=>xs[(((xs.size:Int)-1)+(k:Int)*(-1)).toNat]?).toArray=xs.toList.reverse.toArray:=by
 have e:((List.range xs.size).filterMap fun (k:Nat)=>xs[(((xs.size:Int)-1)+(k:Int)*(-1)).toNat]?)=((List.range xs.size).map fun k=>xs.size-1-k).filterMap (xs[·]?):=by
  rw[List.filterMap_map]
  have key:∀l:List Nat,(∀k∈l,k<xs.size)->l.filterMap (fun (k:Nat)=>xs[(((xs.size:Int)-1)+(k:Int)*(-1)).toNat]?)=l.filterMap ((fun x=>xs[x]?)∘fun k=>xs.size-1-k):=by
   intro l
   induction l with
   |nil=>intro _;rfl
   | cons k l ih=>
    intro hl;have hk:=hl k List.mem_cons_self;have e1:(((xs.size:Int)-1)+(k:Int)*(-1)).toNat=xs.size-1-k:=by omega
    simp only[List.filterMap_cons,Function.comp_apply,e1,ih fun j hj=>hl j (List.mem_cons_of_mem _ hj)]
  exact key _ fun k hk=>List.mem_range.mp hk
 rw[e,PySem.W.krv_range,List.filterMap_reverse,PySem.W.krv_all]
theorem ab3{t sl:Addr}{items:Array Value}{vk:Value}{Q:Value->SP0}(ht:IsTup s.heap t items)(hs:s.heap.IsSliceOf sl .none .none vk)(pk:IsPart vk (some (-1)))
  (h:Q (.ref s.heap.objs.size) { s with heap:=s.heap.push { cls:= .type "tuple",data:= .seq items.toList.reverse.toArray } }) (hsz:items.size<=sizeLine):wpAny (model prog w) A (getItem (.ref t) (.ref sl)) Q E s:=by
 obtain⟨os,hos,hcs,hds⟩:=id hs;have hTs:s.TypeIs (.ref sl) "slice":=⟨os,hos,hcs⟩
 have hz:sizeOk (.seq items.toList.reverse.toArray):=by
  show items.toList.reverse.toArray.size<=sizeLine;rw[List.size_toArray,List.length_reverse,Array.length_toList];exact hsz
 unfold getItem
 first | (with_reducible refine wpAny_holding ?_) | skip
 first | refine wpAny_bind (wpAny_pure ?_) | skip
 refine wpAny_bind (wpAny_sequenceKey ht.typeIs (by decide) ?_);refine wpAny_bind (wpAny_callSpecial?_slot (name:=Str.ofString "__getitem__") ht.typeIs PyProof.Rows.slot_tuple_getitem (wpAny_call_entry PyProof.Rows.slot_tuple_getitem ht.typeIs entry_tuple_getitem ?_ (args_tuple_getitem _ _)));show wpAny _ _ (Builtin.Tuple.tupleItemsOf (.ref t) >>= _) _ _ s;refine wpAny_bind (tupleItemsOf_ ht (wpAny_bind (wpAny_typeOf hTs ?_)));rw[if_pos (show(Value.type "slice" == Value.type "slice")=true by decide)];refine wpAny_bind (af8 hs pk ?_);show wpAny _ _ (if (((items.size:Int)-1)==0&&((-1:Int))==1&&items.size==items.size)=true then _ else _) _ _ s;rw[if_neg (by simp),ajw]
 first
  |exact wpAny_bind (m:=Builtin.Tuple.tupleExact _) (wpAny_newObj_type (wpAny_pure ⟨_,rfl,wpAny_pure h⟩) hz)
  |exact wpAny_bind (m:=Builtin.Tuple.tupleExact _) (wpAny_newObj_type (wpAny_bind (wpAny_pure (wpAny_pure ⟨_,rfl,wpAny_pure h⟩))) hz)
  |exact wpAny_bind (wpAny_bind (m:=Builtin.Tuple.tupleExact _) (wpAny_newObj_type (wpAny_pure (wpAny_pure ⟨_,rfl,wpAny_pure h⟩)) hz))
  |exact wpAny_bind (wpAny_bind (m:=Builtin.Tuple.tupleExact _) (wpAny_newObj_type (wpAny_pure ⟨_,rfl,wpAny_pure h⟩) hz))
end
section
variable {X:Cx}{a:Expr}{fa:RP}{pos p1 p2 p3:Pos}{j:Nat}
noncomputable def apH(p:PyData):OP:=match p with
 |.tuple ds=>some (.tuple ds.reverse)
 |.list ds=>some (.list ds.reverse)
 |_=>none
theorem Reps.rev{K:Fg}{H:Hp}{ds:LP}{xs:List V}(h:Reps K H ds xs):Reps K H ds.reverse xs.reverse:=by
 have app:∀{as bs:LP} {us vs:List V},Reps K H as us->Reps K H bs vs->Reps K H (as++bs) (us++vs):=by
  intro as
  induction as with
  |nil=>intro bs us vs h1 h2;cases (show us=[] from h1);exact h2
  | cons d as ih=>
   intro bs us vs ⟨x,r,e,h1,h2⟩ h3;subst e;exact⟨x,r++vs,rfl,h1,ih h2 h3⟩
 induction ds generalizing xs with
 |nil=>cases (show xs=[] from h);rfl
 | cons d ds ih=>
  obtain⟨x,r,rfl,h1,h2⟩:=h;rw[List.reverse_cons,List.reverse_cons];exact app (ih h2) ⟨x,[],rfl,h1,rfl⟩
theorem apI(ha:PD X a fa):PD X (.Subscript a (.Slice none none (some (.UnaryOp .USub (.Constant (.int 1) j p1) p2)) p3) pos) (fun ρ=>(fa ρ).bind apH):=by
 with_unfolding_all
  intro Kp s σ H Q I ⟨ρ,d,en,q,k⟩;cases h1:fa ρ with
  |none=>simp[h1]at q
  | some p=>
   have q':apH p=some d:=by simpa[h1]using q
   refine Subscript_ (thn (ha Kp s σ H (fun v H1=>jp H H1/\Rep X.K H1 p v) I ⟨ρ,p,en,h1,fun v H1 s1 r1=>⟨s1,r1⟩⟩) fun v s1 ⟨x,H1,I1,r1,sm,rp⟩=>?_);refine wpAny_Slice ?_;rw[evalPart_none];refine wpAny_pure (wpAny_pure ?_);refine thn (ab9 (X:=X) (aoz akp aka) Kp s1 σ H1 (fun o H2=>o=some (-1)/\H2=H1) I1 ⟨1,rfl,-1,rfl,rfl,rfl⟩) fun vk s2 ⟨o,H2,I2,pk,e1,e2⟩=>?_;subst e1;subst e2;have I4:Inv X Kp σ H2 { s2 with heap:=s2.heap.push { cls:= .type "slice",data:= .fields #[.none,.none,vk] } }:=I2.kept (t':=s2.toks) fun b ob q=>Heap.get?_push_of_some _ q;unfold apH at q';split at q'
   ·rename_i ds
    cases q';obtain⟨t,xs,rfl,hx,rr⟩:=rp;cases r1;obtain⟨its,r,ht,hz⟩:=I4.tuple hx;have hlen:its.toArray.size=xs.length:=by rw[List.size_toArray];exact r.length.symm
    refine tail_any (ops:=[.ref t,.ref s2.heap.objs.size]) ht.typeIs PyProof.Rows.slot_tuple_getitem.lookup (ab3 ht (Heap.IsSliceOf.new ..) pk ?_ (by rw[hlen];exact hz)) (by with_unfolding_all rfl);have hn:=I4.hok.fresh (Nat.le_refl _);refine⟨.ref _,_,I4.laid (t':=s2.toks) (o:= .tup xs.reverse) (fun b ob q=>Heap.get?_push_of_some _ q) (Nat.le_refl _) ?_,rfl,k _ _ (sm.trans (jE hn)) ⟨_,_,rfl,SqT.of jq,Reps.mono (jE hn) _ _ rr.rev⟩⟩;exact⟨by rw[List.length_reverse];exact hz,_,r.reverse,IsTup.new _ _⟩
   ·rename_i ds
    cases q';obtain⟨t,xs,rfl,hx,rr⟩:=rp;cases r1;obtain⟨its,r,ht,hz⟩:=I4.list (SqL.of hx);have hlen:=r.length;refine tail_any (ops:=[.ref t,.ref s2.heap.objs.size]) ht.isList.typeIs slot_list_getitem.lookup (wpAny_getItem_list_slice ht.isList (Heap.IsSliceOf.new ..) .none .none pk (by decide) ?_ (by rw[List.size_toArray]<;>omega)) (by with_unfolding_all rfl);rw[PySem.W.krv_pick];have hn:=I4.hok.fresh (Nat.le_refl _);refine⟨.ref _,_,I4.laid (t':=s2.toks) (o:= .lst xs.reverse) (fun b ob q=>Heap.get?_push_of_some _ q) (Nat.le_refl _) ?_,rfl,k _ _ (sm.trans (jE hn)) ⟨_,_,rfl,jq,Reps.mono (jE hn) _ _ rr.rev⟩⟩;exact⟨by rw[List.length_reverse];exact hz,_,0,r.reverse,Heap.get?_push_size _ rfl⟩
   ·cases q'
end
section
variable {X:Cx}{e b ev:Expr}{qg:List Stmt}{fe fk fv:RP}{G:RO}{pos pos2:Pos}
end
section
variable {X:Cx}
theorem abL:∀ns:List Int,zO (ns.map PyData.int)=some ns
 | []=>rfl
 |n::ns=>by simp[zO,QL,abL ns]
theorem RepM.ints{K:Fg}{H:Hp}:∀{r:List (PyData×PyData)}{ks:List (Key×V)}{ns:List Int},RepM K H r ks->zO (r.map (·.1))=some ns->ks.map (·.1)=ns.map (fun n=>(Sum.inl n:Key))
 | [],ks,ns,h,e=>by cases (show ks=[] from h);cases e;rfl
 | (k,c)::r,ks,ns,⟨i,x,s,h1,h2,h3,h4⟩,e=>by
  subst h1;subst h2;have e':=Zk e;cases ns with
  |nil=>simp at e'
  | cons n ns=>
   rw[List.map_cons,List.map_cons]at e';obtain⟨e1,e2⟩:=List.cons.inj e'
   have e1:i=Sum.inl n:=by
    cases i with
    |inl i=>exact congrArg _ (by injection e1)
    |inr t=>cases e1
   have e3:zO (r.map (·.1))=some ns:=by rw[e2];exact abL ns
   rw[List.map_cons,List.map_cons,RepM.ints h4 e3,e1]
end
section
variable {X:Cx}{σ:St}{H:Hp}{s:Shared}{h':Heap}{e C:Addr}{E:Value->SP0}{A:Around}
end
section
variable {X:Cx}{e a b c:Expr}{es:List Expr}{pos:Pos}
end
section
variable {prog:Program}{w:World}{A:Around}{s:Shared}{R:Result->SP0}
end
section
variable {X:Cx}{tg src:Expr}
end
section
variable {X:Cx}{e:Expr}{st:Stmt}{qg:List Stmt}{fa:RP}{G F:RO}{pos:Pos}
end
section
variable {X:Cx}{e a b c:Expr}{fa fb fc:RP}{pos p2:Pos}
end
section
variable {X:Cx}{own:Option Nat}{e a b c tg src:Expr}{body:List Stmt}{F:RO}{pos:Pos}
variable {es:List Expr}
end
inductive Cell where
 |lst (ds:LP)
 |ins (x:Str) (fs:List (Str×PyData))
noncomputable abbrev jy:=Addr->Option Cell
noncomputable def JM(μ:jy)(a:Addr)(c:Cell):jy:=fun b=>if b=a then some c else μ b
theorem j6{μ:jy}{a:Addr}{c:Cell}:JM μ a c a=some c:=if_pos rfl
theorem j5{μ:jy}{a b:Addr}{c:Cell}(h:b≠a):JM μ a c b=μ b:=if_neg h
noncomputable def Qj(K:Fg)(H:Hp):List (Str×PyData)->List (Str×V)->Prop
 | [],vs=>vs=[]
 | (f,d)::fs,vs=>∃v r,vs=(f,v)::r/\Rep K H d v/\Qj K H fs r
noncomputable def anI(f:Str)(d:PyData):List (Str×PyData)->List (Str×PyData)
 | []=>[(f,d)]
 | (k,x)::r=>if k=f then (k,d)::r else (k,x)::anI f d r
section
variable {K:Fg}{H H':Hp}
theorem Qj.monoA(s:jv H H'):∀{fs:List (Str×PyData)}{vs:List (Str×V)},Qj K H fs vs->Qj K H' fs vs
 | [],_,h=>h
 | (f,d)::fs,_,⟨v,r,h1,h2,h3⟩=>⟨v,r,h1,Rep.monoA s d v h2,Qj.monoA s h3⟩
theorem Qj.length:∀{fs:List (Str×PyData)}{vs:List (Str×V)},Qj K H fs vs->vs.length=fs.length
 | [],_,h=>by cases h;rfl
 | (f,d)::fs,_,⟨v,r,h1,h2,h3⟩=>by subst h1;simp[Qj.length h3]
theorem Qj.look{f:Str}{d:PyData}:∀{fs:List (Str×PyData)}{vs:List (Str×V)},Qj K H fs vs->fs.lookup f=some d->∃v,vs.lookup f=some v/\Rep K H d v
 | [],_,_,q=>by cases q
 | (k,x)::fs,_,⟨v,r,h1,h2,h3⟩,q=>by
  subst h1;simp only[List.lookup]at q ⊢;cases hb:f==k with
  |true=>rw[hb]at q;cases q;exact⟨v,rfl,h2⟩
  |false=>rw[hb]at q;exact Qj.look h3 q
theorem Qj.lookN{f:Str}:∀{fs:List (Str×PyData)}{vs:List (Str×V)},Qj K H fs vs->fs.lookup f=none->vs.lookup f=none
 | [],_,h,q=>by cases h;rfl
 | (k,x)::fs,_,⟨v,r,h1,h2,h3⟩,q=>by
  subst h1;simp only[List.lookup]at q ⊢;cases hb:f==k with
  |true=>rw[hb]at q;cases q
  |false=>rw[hb]at q;exact Qj.lookN h3 q
theorem Qj.put{f:Str}{d:PyData}{v:V}(rv:Rep K H d v):∀{fs:List (Str×PyData)}{vs:List (Str×V)},Qj K H fs vs->Qj K H (anI f d fs) (Qx f v vs)
 | [],_,h=>by cases h;exact⟨v,[],rfl,rv,rfl⟩
 | (k,x)::fs,_,⟨w,r,h1,h2,h3⟩=>by
  subst h1;show Qj K H (if k=f then (k,d)::fs else (k,x)::anI f d fs) (if k=f then (k,v)::r else (k,w)::Qx f v r);by_cases hk:k=f
  ·rw[if_pos hk,if_pos hk];exact⟨v,r,rfl,rv,h3⟩
  ·rw[if_neg hk,if_neg hk];exact⟨w,_,rfl,h2,Qj.put rv h3⟩
end
noncomputable def Q0(K:Fg)(H:Hp)(a:Addr):Cell->Prop
 |.lst ds=>∃xs,H a=some (qk a xs)/\Reps K H ds xs
 |.ins x fs=>∃C dx vs,PySem.W.nsIn K mainGlobals x=some (some (.ref C))/\H a=some (.ins C dx vs)/\Qj K H fs vs
noncomputable def j7(K:Fg)(H:Hp)(μ:jy):Prop:=∀a c,μ a=some c->Q0 K H a c
section
variable {K:Fg}{H H':Hp}{μ:jy}{a:Addr}{c:Cell}{ρ:Rho}{σ:St}
theorem EnvR.monoA(e:EnvR K H ρ σ)(h:jv H H'):EnvR K H' ρ σ:=⟨e.len,fun i d q=>let ⟨v,e1,e2⟩:=e.at' i d q;⟨v,e1,Rep.monoA h d v e2⟩⟩
theorem Q0.to(h:Q0 K H a c)(s:jv H H')(e:H' a=H a):Q0 K H' a c:=by
 cases c with
 |lst ds=>obtain⟨xs,h1,h2⟩:=h;exact⟨xs,e.trans h1,Reps.monoA s _ _ h2⟩
 |ins x fs=>obtain⟨C,dx,vs,h1,h2,h3⟩:=h;exact⟨C,dx,vs,h1,e.trans h2,h3.monoA s⟩
theorem Q0.there(h:Q0 K H a c):∃o,H a=some o/\akB o=false:=by
 cases c with
 |lst ds=>obtain⟨xs,h1,h2⟩:=h;exact⟨_,h1,rfl⟩
 |ins x fs=>obtain⟨C,dx,vs,h1,h2,h3⟩:=h;exact⟨_,h2,rfl⟩
theorem j7.mono(cs:j7 K H μ)(s:jp H H'):j7 K H' μ:=fun a c h=>by
 obtain⟨o,h1,_⟩:=(cs a c h).there;exact(cs a c h).to (jp.a s) ((s _ _ h1).trans h1.symm)
theorem j7.free(cs:j7 K H μ)(h:H a=none):μ a=none:=by
 cases q:μ a with
 |none=>rfl
 |some c=>obtain⟨o,h1,_⟩:=(cs a c q).there;rw[h]at h1;cases h1
theorem j7.put(cs:j7 K H μ)(s:jv H H')(k:∀b,b≠a->∀o,H b=some o->H' b=some o)(new:Q0 K H' a c):j7 K H' (JM μ a c):=fun b d h=>by
 by_cases hb:b=a
 ·subst hb;rw[j6]at h;cases h;exact new
 ·rw[j5 hb]at h
  obtain⟨o,h1,_⟩:=(cs b d h).there;exact(cs b d h).to s ((k b hb o h1).trans h1.symm)
theorem j7.upd{o:HO}(cs:j7 K H μ)(s:jv H (L2.upd H a o))(new:Q0 K (L2.upd H a o) a c):j7 K (L2.upd H a o) (JM μ a c):=
 cs.put s (fun b hb o h=>by rw[jr hb];exact h) new
theorem jv.upd{o u:HO}(h:H a=some u)(hu:akB u=false):jv H (L2.upd H a o):=fun b x q d=>by
 have:b≠a:=fun z=>by subst z;rw[h]at q;cases q;rw[hu]at d;cases d
 rw[jr this];exact q
end
inductive Res (α:Type) where
 |ok (d:α) | er (c:Str)
noncomputable abbrev TR(α:Type):=Rho->jy->(Res α->jy->Prop)->Prop
inductive OutC where
 |nx (ρ:Rho) | rt (d:PyData) | bk (ρ:Rho) | ct (ρ:Rho) | er (c:Str)
noncomputable abbrev TRS:=Rho->jy->(OutC->jy->Prop)->Prop
noncomputable def aeV(X:Cx)(H:Hp)(μ:jy)(c:Str)(ev:Value)(s':Shared):Prop:=∃e C σ' H',ev= .ref e/\X.mg c=some (.ref C)/\Inv X [] σ' H' s'/\jv H H'/\j7 X.K H' μ/\Xc X H' s'.heap e C
theorem aeV.mono{X:Cx}{H H1:Hp}{μ:jy}{c:Str}{ev:Value}{s':Shared}(s:jv H H1)(h:aeV X H1 μ c ev s'):aeV X H μ c ev s':=by
 obtain⟨e,C,σ',H',h1,h2,h3,h4,h5⟩:=h;exact⟨e,C,σ',H',h1,h2,h3,s.trans h4,h5⟩
noncomputable def zQ{α:Type}(X:Cx)(H:Hp)(P:α->Hp->Prop):Res α->jy->Prop
 |.ok d,μ=>∀H',jv H H'->j7 X.K H' μ->P d H'
 |.er c,μ=>∀ev s',aeV X H μ c ev s'->X.xe ev s'
noncomputable def JQ(X:Cx)(H:Hp)(D:Ends):OutC->jy->Prop
 |.nx ρ,μ=>∀σ H',jv H H'->EnvR X.K H' ρ σ->j7 X.K H' μ->D.nx σ H'
 |.rt d,μ=>∀v H',jv H H'->Rep X.K H' d v->j7 X.K H' μ->D.rt v H'
 |.bk ρ,μ=>∀σ H',jv H H'->EnvR X.K H' ρ σ->j7 X.K H' μ->D.bk σ H'
 |.ct ρ,μ=>∀σ H',jv H H'->EnvR X.K H' ρ σ->j7 X.K H' μ->D.ct σ H'
 |.er c,μ=>∀ev s',aeV X H μ c ev s'->X.xe ev s'
section
variable {X:Cx}{α β:Type}{H H1:Hp}{σ:St}
theorem zQ.mono{P:α->Hp->Prop}{o:Res α}{μ:jy}(h:zQ X H P o μ)(s:jv H H1):zQ X H1 P o μ:=by
 cases o with
 |ok d=>exact fun H' s1 c=>h H' (s.trans s1) c
 |er c=>exact fun ev s' t=>h ev s' (t.mono s)
theorem JQ.mono{D:Ends}{o:OutC}{μ:jy}(h:JQ X H D o μ)(s:jv H H1):JQ X H1 D o μ:=by
 cases o with
 |nx ρ=>exact fun σ H' s1 e c=>h σ H' (s.trans s1) e c
 |rt d=>exact fun v H' s1 e c=>h v H' (s.trans s1) e c
 |bk ρ=>exact fun σ H' s1 e c=>h σ H' (s.trans s1) e c
 |ct ρ=>exact fun σ H' s1 e c=>h σ H' (s.trans s1) e c
 |er c=>exact fun ev s' t=>h ev s' (t.mono s)
noncomputable def AtC(X:Cx)(σ:St)(H:Hp)(T:TR α)(P:α->Hp->Prop):Prop:=∃ρ μ R,EnvR X.K H ρ σ/\j7 X.K H μ/\T ρ μ R/\∀o μ',R o μ'->zQ X H P o μ'
noncomputable def AtS(X:Cx)(σ:St)(H:Hp)(T:TRS)(D:Ends):Prop:=∃ρ μ R,EnvR X.K H ρ σ/\j7 X.K H μ/\T ρ μ R/\∀o μ',R o μ'->JQ X H D o μ'
noncomputable def bindC(T:TR α)(k:α->TR β):TR β:=fun ρ μ R=>T ρ μ fun o μ'=>match o with
 |.ok d=>k d ρ μ' R
 |.er c=>R (.er c) μ'
noncomputable def zR(T:TR α)(k:α->TRS):TRS:=fun ρ μ R=>T ρ μ fun o μ'=>match o with
 |.ok d=>k d ρ μ' R
 |.er c=>R (.er c) μ'
noncomputable def Qk(f:Rho->Option α):TR α:=fun ρ μ R=>∃d,f ρ=some d/\R (.ok d) μ
noncomputable def Je(o:Option α):TR α:=fun _ μ R=>∃d,o=some d/\R (.ok d) μ
theorem AtC.bind{T:TR α}{k:α->TR β}{P:β->Hp->Prop}(h:AtC X σ H (bindC T k) P):AtC X σ H T fun d H1=>jv H H1/\AtC X σ H1 (k d) P:=by
 obtain⟨ρ,μ,R,en,cs,t,kk⟩:=h;refine⟨ρ,μ,_,en,cs,t,fun o μ1 r=>?_⟩;cases o with
 |ok d=>exact fun H1 s1 cs1=>⟨s1,ρ,μ1,R,en.monoA s1,cs1,r,fun o μ' q=>(kk o μ' q).mono s1⟩
 |er c=>exact kk (.er c) μ1 r
theorem AtS.bind{T:TR α}{k:α->TRS}{D:Ends}(h:AtS X σ H (zR T k) D):AtC X σ H T fun d H1=>jv H H1/\AtS X σ H1 (k d) D:=by
 obtain⟨ρ,μ,R,en,cs,t,kk⟩:=h;refine⟨ρ,μ,_,en,cs,t,fun o μ1 r=>?_⟩;cases o with
 |ok d=>exact fun H1 s1 cs1=>⟨s1,ρ,μ1,R,en.monoA s1,cs1,r,fun o μ' q=>(kk o μ' q).mono s1⟩
 |er c=>exact kk (.er c) μ1 r
theorem AtC.imp{T:TR α}{P P':α->Hp->Prop}(h:AtC X σ H T P)(hp:∀d H1,jv H H1->P d H1->P' d H1):AtC X σ H T P':=by
 obtain⟨ρ,μ,R,en,cs,t,kk⟩:=h;refine⟨ρ,μ,R,en,cs,t,fun o μ1 r=>?_⟩;have q:=kk o μ1 r;cases o with
 |ok d=>exact fun H1 s1 c1=>hp d H1 s1 (q H1 s1 c1)
 |er c=>exact q
theorem AtC.pure{f:Rho->Option α}{P:α->Hp->Prop}(h:AtC X σ H (Qk f) P):∃ρ d,EnvR X.K H ρ σ/\f ρ=some d/\∀H',jp H H'->P d H':=by
 obtain⟨ρ,μ,R,en,cs,⟨d,hf,hR⟩,kk⟩:=h;exact⟨ρ,d,en,hf,fun H' s=>kk _ _ hR H' (jp.a s) (cs.mono s)⟩
theorem AtC.ret{o:Option α}{P:α->Hp->Prop}(h:AtC X σ H (Je o) P):∃d,o=some d/\∀H',jp H H'->P d H':=by
 obtain⟨ρ,μ,R,en,cs,⟨d,hf,hR⟩,kk⟩:=h;exact⟨d,hf,fun H' s=>kk _ _ hR H' (jp.a s) (cs.mono s)⟩
end
noncomputable def tC(X:Cx)(T:TR PyData):TE:=fun σ H Q=>AtC X σ H T fun d H'=>∀v,Rep X.K H' d v->Q v H'
noncomputable def tCT(X:Cx)(T:TR Bool):TT:=fun σ H Q=>AtC X σ H T Q
noncomputable def tCA(X:Cx)(T:TR (LP)):TA:=fun σ H Q=>AtC X σ H T fun ds H'=>∀vs,Reps X.K H' ds vs->Q vs H'
noncomputable def tCS(X:Cx)(T:TRS):TS:=fun D σ H=>AtS X σ H T D
@[irreducible] noncomputable def PEC(X:Cx)(e:Expr)(T:TR PyData):Prop:=PE X e (tC X T)
@[irreducible] noncomputable def PTC(X:Cx)(e:Expr)(T:TR Bool):Prop:=PT X e (tCT X T)
@[irreducible] noncomputable def PWC(X:Cx)(e:Expr)(T:TR Bool):Prop:=PW X e (tCT X T)
@[irreducible] noncomputable def PAC(X:Cx)(es:List Expr)(T:TR (LP)):Prop:=PA X es (tCA X T)
@[irreducible] noncomputable def PSC(X:Cx)(st:Stmt)(T:TRS):Prop:=PS X st (tCS X T)
@[irreducible] noncomputable def ZR(X:Cx)(sts:List Stmt)(T:TRS):Prop:=PSs X sts (tCS X T)
section
variable {X:Cx}{e a b c:Expr}{es:List Expr}{st:Stmt}{sts qg:List Stmt}{fa:RP}{Ta Tb To:TR PyData}{Tt Tu:TR Bool}{F:RO}{S S':TRS}{pos:Pos}
theorem jn(h:PD X e fa):PEC X e (Qk fa):=by
 with_unfolding_all
  exact PE.imp h fun σ H Q h=>let ⟨ρ,d,en,hf,k⟩:=h.pure;⟨ρ,d,en,hf,fun v H' s r=>k H' s v r⟩
theorem jT:PAC X [] (Je (some [])):=by
 with_unfolding_all
  exact PA.imp Jk fun σ H Q h=>by
   obtain⟨d,hd,k⟩:=AtC.ret h;cases hd;exact k H (jp.refl H) [] rfl
noncomputable def QI(Ta:TR PyData)(Tr:TR (LP)):TR (LP):=bindC Ta fun d=>bindC Tr fun ds=>Je (some (d::ds))
theorem ju{Tr:TR (LP)}(ha:PEC X e Ta)(hr:PAC X es Tr)(hs:starEach (e::es) X.env=(false,eval e X.env)::starEach es X.env:=by rfl):PAC X (e::es) (QI Ta Tr):=by
 with_unfolding_all
  exact PA.imp (qR ha hr hs) fun σ H Q h=>(AtC.bind h).imp fun d H1 _ ⟨s1,h1⟩ x rx=>h1.bind.imp fun ds H2 _ ⟨s2,h2⟩ xs rxs=>by
   obtain⟨d',hd,k⟩:=h2.ret;cases hd;exact k H2 (jp.refl _) (x::xs) ⟨x,xs,rfl,Rep.monoA s2 _ _ rx,rxs⟩
noncomputable def opC(g:PyData->PyData->OP)(Ta Tb:TR PyData):TR PyData:=bindC Ta fun p=>bindC Tb fun q=>Je (g p q)
theorem aoG{g:PyData->PyData->OP}{r:R2}(hr:∀p q d x y H Q,g p q=some d->Rep X.K H p x->Rep X.K H q y->(∀v H',jp H H'->Rep X.K H' d v->Q v H')->r x y H Q)
  {σ:St} {H:Hp} {Q:VK} (h:tC X (opC g Ta Tb) σ H Q):tOp r (tC X Ta) (tC X Tb) σ H Q:=
 (AtC.bind h).imp fun p H1 _ ⟨s1,h1⟩ x rx=>h1.bind.imp fun q H2 _ ⟨s2,h2⟩ y ry=>by
  obtain⟨d,hd,k⟩:=h2.ret;exact hr p q d x y H2 Q hd (Rep.monoA s2 _ _ rx) ry fun v H' s rv=>k H' s v rv
theorem Zm{op:CmpOp}{g:PyData->PyData->OP}(ho:OpD X (compareOp op) g)(ha:PEC X a Ta)(hb:PEC X b Tb)(hm:behindInMarks op b=false:=by first|exact aey _ | with_unfolding_all rfl):PEC X (.Compare a [op] [b] pos) (opC g Ta Tb):=by
 with_unfolding_all
  obtain⟨r,h1,h2⟩:=ho;exact PE.imp (ah1 h1 ha hb hm) fun σ H Q h=>aoG h2 h
noncomputable def apJ(T:TR PyData):TR Bool:=bindC T fun d=>Je (asB d)
theorem aoH{σ:St}{H:Hp}{Q:Bool->Hp->Prop}(h:tCT X (apJ Ta) σ H Q):tC X Ta σ H fun x H'=>∃k,x= .bl k/\Q k H':=
 (AtC.bind h).imp fun d H1 _ ⟨s1,h1⟩ x rx=>by
  obtain⟨b,hb,k⟩:=h1.ret;cases Jc hb;exact⟨b,rx,k H1 (jp.refl _)⟩
theorem zf{op:CmpOp}{g:PyData->PyData->OP}(ho:OpD X (compareOp op) g)(ha:PEC X a Ta)(hb:PEC X b Tb)(hm:behindInMarks op b=false:=by first|exact aey _ | with_unfolding_all rfl):PTC X (.Compare a [op] [b] pos) (apJ (opC g Ta Tb)):=by
 with_unfolding_all
  obtain⟨r,h1,h2⟩:=ho;exact PT.imp (ah2 h1 ha hb hm) fun σ H Q h=>aoG h2 (aoH h)
theorem aci(h:PEC X e Ta)(he:∀whole,isTrue e X.env whole=(do let v ←whole;standAt e.pos;holding [v] (truthy v)):=by intro _;rfl):PTC X e (apJ Ta):=by
 with_unfolding_all
  exact PT.imp (akd h he) fun σ H Q h=>aoH h
noncomputable def ara(T:TR Bool):TR Bool:=bindC T fun b=>Je (some (!b))
theorem aaz(h:PTC X a Tt):PTC X (.UnaryOp .Not a pos) (ara Tt):=by
 with_unfolding_all
  exact PT.imp (akf h) fun σ H Q h=>(AtC.bind h).imp fun b H1 _ ⟨s1,h1⟩=>by
   obtain⟨d,hd,k⟩:=h1.ret;cases hd;exact k H1 (jp.refl _)
noncomputable def orC(T U:TR Bool):TR Bool:=bindC T fun b=>if b=true then Je (some true) else U
variable {er:List Expr}
theorem Zn(ha:PTC X a Tt):PWC X (.BoolOp .Or [a] pos) Tt:=by
 with_unfolding_all exact(ake ha)
theorem Z7(ha:PTC X a Tt)(hb:PWC X (.BoolOp .Or (b::er) pos) Tu):PWC X (.BoolOp .Or (a::b::er) pos) (orC Tt Tu):=by
 with_unfolding_all
  exact PW.imp (aox ha hb) fun σ H Q h=>(AtC.bind h).imp fun b H1 _ ⟨s1,h1⟩=>by
   cases b with
   | true=>
    rw[if_pos rfl]at h1 ⊢;obtain⟨d,hd,k⟩:=h1.ret;cases hd;exact k H1 (jp.refl _)
   | false=>
    rw[if_neg Bool.false_ne_true]at h1 ⊢;exact h1
theorem Ql(h:PWC X e Tt):PTC X e Tt:=by
 with_unfolding_all exact(PW.pt h)
noncomputable def arb(T U:TR PyData):TR PyData:=bindC T fun d=>bindC (Je (asB d)) fun b=>if b=true then U else Je (some (.bool false))
theorem ain{op}(h:PEC X a Ta):PEC X (.BoolOp op [a] pos) Ta:=by
 with_unfolding_all exact(akg h)
theorem aeW(ha:PEC X a Ta)(hb:PEC X (.BoolOp .And (b::er) pos) Tb):PEC X (.BoolOp .And (a::b::er) pos) (arb Ta Tb):=by
 with_unfolding_all
  exact PE.imp (akh ha hb) fun σ H Q h=>(AtC.bind h).imp fun d H1 _ ⟨s1,h1⟩ x rx=>by
   obtain⟨ρ,μ,R,en,cs,⟨b,hb,t⟩,kk⟩:=h1;cases Jc hb;refine⟨b,rx,?_⟩;cases b with
   |true=>exact⟨ρ,μ,R,en,cs,t,kk⟩
   | false=>
    obtain⟨d,hd,hR⟩:=t;cases hd;exact kk _ _ hR H1 (jv.refl _) cs (.bl false) rfl
noncomputable def abn(S S':TRS):TRS:=fun ρ μ R=>S ρ μ fun o μ'=>match o with
 |.nx ρ'=>S' ρ' μ' R
 |o=>R o μ'
noncomputable def apK:TRS:=fun ρ μ R=>R (.nx ρ) μ
theorem jw:ZR X [] apK:=by
 with_unfolding_all
  exact PSs.imp ab8 fun D σ H ⟨ρ,μ,R,en,cs,t,k⟩=>k _ _ t σ H (jv.refl _) en cs
theorem jl(h1:PSC X st S)(h2:ZR X qg S'):ZR X (st::qg) (abn S S'):=by
 with_unfolding_all
  refine PSs.imp (JC h1 h2) fun D σ H ⟨ρ,μ,R,en,cs,t,k⟩=>⟨ρ,μ,_,en,cs,t,fun o μ' r=>?_⟩;cases o with
  |nx ρ'=>exact fun σ' H' s e c=>⟨ρ',μ',R,e,c,r,fun o μ2 q=>(k o μ2 q).mono s⟩
  |rt d=>exact k (.rt d) μ' r
  |bk d=>exact k (.bk d) μ' r
  |ct d=>exact k (.ct d) μ' r
  |er d=>exact k (.er d) μ' r
noncomputable def aoI:Out->OutC
 |.nx ρ=> .nx ρ
 |.rt d=> .rt d
 |.bk ρ=> .bk ρ
 |.ct ρ=> .ct ρ
noncomputable def arc(F:RO):TRS:=fun ρ μ R=>∃o,F ρ=some o/\R (aoI o) μ
theorem ahp{H:Hp}{D:Ends}{o:Out}{μ:jy}(cs:j7 X.K H μ)(h:JQ X H D (aoI o) μ):afM X.K D H o:=by
 cases o with
 |nx ρ=>exact fun σ H' s e=>h σ H' (jp.a s) e (cs.mono s)
 |rt d=>exact fun v H' s e=>h v H' (jp.a s) e (cs.mono s)
 |bk ρ=>exact fun σ H' s e=>h σ H' (jp.a s) e (cs.mono s)
 |ct ρ=>exact fun σ H' s e=>h σ H' (jp.a s) e (cs.mono s)
theorem qJ(h:PSD X st F):PSC X st (arc F):=by
 with_unfolding_all
  exact PS.imp h fun D σ H ⟨ρ,μ,R,en,cs,⟨o,hF,hR⟩,k⟩=>⟨ρ,o,en,hF,ahp cs (k _ _ hR)⟩
noncomputable def ard(fx:Rho->Option Str):TRS:=fun ρ μ R=>∃c,fx ρ=some c/\R (.er c) μ
theorem are{H:Hp}{μ:jy}{c:Str}{ev:Value}{s':Shared}(cs:j7 X.K H μ)(h:Thr X H c ev s'):aeV X H μ c ev s':=by
 obtain⟨e,C,σ',H',h1,h2,h3,h4,h5⟩:=h;exact⟨e,C,σ',H',h1,h2,h3,jp.a h4,cs.mono h4,h5⟩
theorem ajx{fx:Rho->Option Str}(h:PSX X st fx):PSC X st (ard fx):=by
 with_unfolding_all
  intro Kp s σ H D I ⟨ρ,μ,R,en,cs,⟨c,hc,hR⟩,k⟩;exact wpAny_mono (h s σ H ρ c (I.pins_of fun p hp=>nomatch hp) en hc fun ev s' t=>k _ _ hR ev s' (are cs t)) (fun _ _ z=>z.elim) fun _ _ z=>z
noncomputable def asm(i:Nat)(d:PyData):TRS:=fun ρ μ R=>R (.nx (ρ.set i (some d))) μ
theorem QB(i:Nat){x:Str}{pos':Pos}(hN:X.N.Nodup)(he:PEC X e Ta)(hi:X.N[i]?=some x:=by rfl)(hx:Loc X.env.scope x:=by first|exact Or.inl rfl|exact Or.inr rfl)(hs:swapsWith e (some (.Name x pos')) pos.line X.env=pure false:=by rfl)
  (hf:X.fn x=true∨X.env.scope.names.lookup x=some .local:=by first|exact .inl rfl|exact .inr rfl|assumption):PSC X (.Assign [.Name x pos'] e pos) (zR Ta (asm i)):=by
 with_unfolding_all
  exact PS.imp (aa4 hN hi hx he hs hf) fun D σ H h=>(AtS.bind h).imp fun d H1 _ ⟨s1,ρ,μ,R,en,cs,t,k⟩ v rv=>k _ _ t _ H1 (jv.refl _) (en.set rv) cs
noncomputable def arf(_:PyData):TRS:=fun ρ μ R=>R (.nx ρ) μ
theorem Qm(h:PEC X e Ta)(hs:swapsWith e none pos.line X.env=pure false:=by rfl):PSC X (.Expr e pos) (zR Ta arf):=by
 with_unfolding_all
  exact PS.imp (aai h hs) fun D σ H h=>(AtS.bind h).imp fun d H1 _ ⟨s1,ρ,μ,R,en,cs,t,k⟩ v rv=>k _ _ t σ H1 (jv.refl _) en cs
noncomputable def rtC(d:PyData):TRS:=fun _ μ R=>R (.rt d) μ
theorem qK(h:PEC X e Ta):PSC X (.Return (some e) pos) (zR Ta rtC):=by
 with_unfolding_all
  exact PS.imp (aex h) fun D σ H h=>(AtS.bind h).imp fun d H1 _ ⟨s1,ρ,μ,R,en,cs,t,k⟩ v rv=>k _ _ t v H1 (jv.refl _) rv cs
noncomputable def ifC(T:TR Bool)(S S':TRS):TRS:=zR T fun b=>if b=true then S else S'
theorem JG{l r:List Stmt}(hc:PTC X c Tt)(hl:ZR X l S)(hr:ZR X r S'):PSC X (.If c l r pos) (ifC Tt S S'):=by
 with_unfolding_all
  exact PS.imp (aoy hc hl hr) fun D σ H h=>(AtS.bind h).imp fun b H1 _ ⟨s1,h1⟩=>by
   cases b with
   |true=>exact h1
   |false=>exact h1
end
theorem aln{a b:Addr}(h:jM a=jM b):a=b:=by
 have:(a:Int)=(b:Int):=by simpa[jM]using h
 exact Int.ofNat.inj this
noncomputable def zN(K:Fg)(x f:Str):Prop:=∀C,PySem.W.nsIn K mainGlobals x=some (some (.ref C))->Cls K C/\Z1 K C f
section
variable {X:Cx}{e a b c o value:Expr}{es:List Expr}{st:Stmt}{Ta Tb To Tv:TR PyData}{Tr:TR (LP)}{pos pos' apos:Pos}{x f m:Str}
noncomputable def ab4(x f:Str)(d:PyData):TR PyData:=fun _ μ R=>∃a fs v,d=jM a/\μ a=some (.ins x fs)/\fs.lookup f=some v/\R (.ok v) μ
theorem qm(hC:zN X.K x f)(h:PEC X e To)(hb:attributeBase e f X.env (eval e X.env)=eval e X.env:=by rfl):PEC X (.Attribute e f pos) (bindC To (ab4 x f)):=by
 with_unfolding_all
  exact PE.imp (apc h hb) fun σ H Q h=>(AtC.bind h).imp fun d H1 _ ⟨s1,ρ,μ,R,en,cs,⟨a,fs,v,hd,hm,hl,hR⟩,kk⟩ y ry=>by
   subst hd;cases Rep.celOut ry;obtain⟨C,dx,vs,h1,h2,h3⟩:=cs a _ hm;obtain⟨w,h4,h5⟩:=h3.look hl;exact⟨a,C,dx,vs,w,rfl,h2,(hC C h1).1,(hC C h1).2,h4,kk _ _ hR H1 (jv.refl _) cs w h5⟩
noncomputable def anJ(x f:Str)(d od:PyData):TRS:=fun ρ μ R=>∃a fs,od=jM a/\μ a=some (.ins x fs)/\fs.length<1000/\R (.nx ρ) (JM μ a (.ins x (anI f d fs)))
theorem aaA(hC:zN X.K x f)(ho:PEC X o To)(hv:PEC X value Tv)(hs:swapsWith value (some (.Attribute o f pos')) pos.line X.env=pure false:=by rfl):PSC X (.Assign [.Attribute o f pos'] value pos) (zR Tv fun d=>zR To (anJ x f d)):=by
 with_unfolding_all
  exact PS.imp (apd ho hv hs) fun D σ H h=>(AtS.bind h).imp fun d H1 _ ⟨s1,h1⟩ y ry=>h1.bind.imp fun od H2 _ ⟨s2,ρ,μ,R,en,cs,⟨a,fs,hd,hm,hl,hR⟩,kk⟩ z rz=>by
   subst hd;cases Rep.celOut rz;obtain⟨C,dx,vs,h1,h2,h3⟩:=cs a _ hm;have sA:jv H2 (upd H2 a (.ins C dx (Qx f y vs))):=jv.upd h2 rfl;exact⟨a,C,dx,vs,rfl,h2,(hC C h1).1,(hC C h1).2,by rw[h3.length];exact hl,kk _ _ hR σ _ sA (en.monoA sA) (cs.upd sA ⟨C,dx,_,h1,jq,(h3.monoA sA).put (Rep.monoA (s2.trans sA) _ _ ry)⟩)⟩
noncomputable abbrev GC3:=LP->jy->(Res PyData->jy->Prop)->Prop
noncomputable def aeX(K:Fg)(mg:SV)(n:Nat)(g:GC3):Sp:=fun vs H Q E=>∃ds μ R,ds.length=n/\Reps K H ds vs/\j7 K H μ/\g ds μ R/\(∀d μ',R (.ok d) μ'->∀v H',jv H H'->Rep K H' d v->j7 K H' μ'->Q v H')/\
 ∀c μ',R (.er c) μ'->∀C H',mg c=some (.ref C)->jv H H'->j7 K H' μ'->E (.ref C) none H'
noncomputable def qY(P:Program)(w:World)(K:Fg)(mg:SV)(base:Heap)(x m:Str)(ps:List Str)(k n:Nat)(g:GC3):Prop:=
 ∃(C f:Addr) (fd:FuncData),PySem.W.nsIn K mainGlobals x=some (some (.ref C))/\Cls K C/\Meth K C m f/\FnOk P w K mg base (CXt P w) k f fd ps (aeX K mg n g)/\zB K fd ps []
noncomputable def anK(P:Program)(w:World)(K:Fg)(mg:SV)(base:Heap)(x:Str)(ps:List Str)(k n:Nat)(g:GC3):Prop:=
 ∃(C f:Addr) (fd:FuncData),PySem.W.nsIn K mainGlobals x=some (some (.ref C))/\mg x=some (.ref C)/\Mk K C f/\FnOk P w K mg base (CXt P w) k f fd ps (aeX K mg n g)/\zB K fd ps []
end
section
variable {X:Cx}{e a b c o value:Expr}{es:List Expr}{st:Stmt}{Ta Tb To Tv:TR PyData}{Tr:TR (LP)}{pos pos' apos:Pos}{x f m:Str}
theorem aoJ{Kp:List (Addr×Obj)}{σ:St}{H:Hp}{s:Shared}{Q:VK}{us:List Value}{vs:List V}{k n:Nat}{f:Addr}{fd:FuncData}{ps:List Str}{g:GC3}{ds:LP}{μ:jy}{R:Res PyData->jy->Prop}(hxe:X.ex=[])
  (F:FnOk X.prog X.w X.K X.mg X.base (CXt X.prog X.w) k f fd ps (aeX X.K X.mg n g)) (hr:Room k X.A) (hb:zB X.K fd ps []) (I:Inv X Kp σ H s) (r:jH vs us) (rd:Reps X.K H ds vs) (cs:j7 X.K H μ) (hn:ds.length=n) (hg:g ds μ R)
  (kk:∀o μ',R o μ'->zQ X H (fun d H'=>∀v,Rep X.K H' d v->Q v H') o μ'):wpAny (model X.prog X.w) X.A (call (.ref f) us) (EP X Kp σ Q) X.xe s:=by
 have sp:aeX X.K X.mg n g vs H Q (fun cls _ H'=>∃c μ',X.mg c=some cls/\R (.er c) μ'/\jv H H'/\j7 X.K H' μ'):=
  ⟨ds,μ,R,hn,rd,cs,hg,fun d μ' q v H' sA rv c=>(kk (.ok d) μ' q:zQ X H (fun d H'=>∀v,Rep X.K H' d v->Q v H') (.ok d) μ') H' sA c v rv,fun c μ' q C H' hC sA c'=>⟨c,μ',hC,q,sA,c'⟩⟩
 have hlu:(us++[]).length=ps.length:=by rw[List.append_nil,←r.length];exact F.len _ _ _ _ sp
 have hbd:=hb s us I.kIn hlu;rw[List.append_nil]at hbd;refine wpAny_call (codeAny_mono (F.run X.A X.stack s H ⟨us,[]⟩ us vs _ _ hr I.env0 hbd r sp) fun rs s' hq=>?_);cases rs with
 | error ev=>
  obtain⟨e0,C,H',rfl,os,bare,un,hok,xc,c,μ',hC,hR,sA,c'⟩:=hq;have J':Inv X Kp σ H' s':=I.call' (ch:=[]) os un hok bare fun b z=>nomatch z
  have J0:Inv X [] σ H' s':=J'.pins_of fun p hp=>nomatch hp
  have k1:zQ X H (fun d H'=>∀v,Rep X.K H' d v->Q v H') (.er c) μ':=kk (.er c) μ' hR;have x1:=Xc.of hxe I xc;have t1:aeV X H μ' c (.ref e0) s':=⟨e0,C,σ,H',rfl,hC,J0,sA,c',x1⟩;exact k1 (.ref e0) s' t1
 | ok fl=>
  cases fl with
  |ret u=>exact I.after hq
  |next=>exact False.elim hq
  |brk=>exact False.elim hq
  |cont=>exact False.elim hq
end
section
variable {X:Cx}{e a b c o value:Expr}{es:List Expr}{st:Stmt}{Ta Tb To Tv:TR PyData}{Tr:TR (LP)}{pos pos' apos:Pos}{x f m:Str}
noncomputable def Q4(g:GC3)(n:Nat)(ds:LP):TR PyData:=fun _ μ R=>ds.length=n/\g ds μ R
end
section
variable {X:Cx}{e a b c o value:Expr}{es:List Expr}{st:Stmt}{Ta Tb To Tv:TR PyData}{Tr:TR (LP)}{pos pos' apos:Pos}{x f m:Str}
noncomputable def ab5(x m:Str)(g:GC3)(n:Nat)(Tr:TR (LP))(od:PyData):TR PyData:=fun ρ μ R=>(∃a fs,od=jM a/\μ a=some (.ins x fs)/\fs.lookup m=none)/\bindC Tr (fun ds=>Q4 g n (od::ds)) ρ μ R
theorem zo{k j n:Nat}{ps:List Str}{g:GC3}{pl:Sem Bool}(hxe:X.ex=[])(C:qY X.prog X.w X.K X.mg X.base x m ps k n g)(hr:Room j X.A)(hkj:k<=j)(ho:PEC X o To)(ha:PAC X (e::es) Tr)
  (hst:starEach (e::es) X.env=(false,eval e X.env)::starEach es X.env:=by rfl) (hpl:(backTo pos (starEach es X.env)).any (·.1)=false:=by rfl)
  (ht:eval (.Call (.Attribute o m apos) (e::es) [] pos) X.env=(do
   let ov ←eval o X.env
   standAt apos.atName
   let (f,first) ←holding [ov] (getMethod ov m pl)
   callWith pos f first (backTo pos (starEach (e::es) X.env)) (backToKw pos (keywordEach [] X.env))):=by rfl):
  PEC X (.Call (.Attribute o m apos) (e::es) [] pos) (bindC To (ab5 x m g n Tr)):=by
 with_unfolding_all
  intro Kp s σ H Q I h;obtain⟨C,f,fd,hC,hcls,hmeth,F,hb⟩:=C;refine PySem.W.methodCall_KW (pl:=pl) (thn (ho Kp s σ H (fun y H1=>∃od,Rep X.K H1 od y/\AtC X σ H1 (ab5 x m g n Tr od) fun d H'=>∀v,Rep X.K H' d v->Q v H') I ((AtC.bind h).imp fun od H1 _ ⟨s1,h1⟩ y ry=>⟨od,ry,h1⟩)) fun u s1 ⟨y,H1,I1,ry,od,rod,ρ,μ,R,en,cs,⟨⟨a,fs,hd,hm,hl⟩,t⟩,kk⟩=>?_) ht;subst hd;cases Rep.celOut rod;obtain rfl:u=Value.ref a:=ry;obtain⟨C',dx,vs,h1,h2,h3⟩:=cs a _ hm;rw[hC]at h1;cases h1;refine Qy I1 h2 hcls hmeth (h3.lookN hl) ?_;refine PySem.W.callWith_K (first:=[.ref a]) (h₀:=X.base) I.ok.mod.kin hmeth.kp (thn (ha pos Kp s1 σ H1 (fun ws H2=>∃ds,Reps X.K H2 ds ws/\AtC X σ H2 (Q4 g n (jM a::ds)) fun d H'=>∀v,Rep X.K H' d v->Q v H') I1 ((AtC.bind (show AtC X σ H1 (bindC Tr fun ds=>Q4 g n (jM a::ds)) _ from⟨ρ,μ,R,en,cs,t,kk⟩)).imp fun ds H2 _ ⟨s2,h2⟩ ws rw=>⟨ds,rw,h2⟩)) fun us s2 ⟨ws,H2,I2,r,ds,rd,q⟩=>⟨I2.kIn,?_⟩) hst hpl;obtain⟨ρ2,μ2,R2,en2,cs2,⟨hn,hG⟩,kk2⟩:=q;exact aoJ (us:= .ref a::us) (vs:= .ref a::ws) hxe F (hr.mono hkj) hb I2 (.cons rfl r) (show Reps X.K H2 (jM a::ds) (V.ref a::ws) from⟨_,_,rfl,Rep.cel a,rd⟩) cs2 hn hG kk2
end
section
variable {X:Cx}{e a b c o value:Expr}{es:List Expr}{st:Stmt}{Ta Tb To Tv:TR PyData}{Tr:TR (LP)}{pos pos' apos:Pos}{x f m:Str}
theorem jJ{k j n:Nat}{ps:List Str}{g:GC3}{pl:Sem Bool}(hxe:X.ex=[])(C:qY X.prog X.w X.K X.mg X.base x m ps k n g)(hr:Room j X.A)(hkj:k<=j)(ho:PEC X o To)
  (ht:eval (.Call (.Attribute o m apos) [] [] pos) X.env=(do
   let ov ←eval o X.env
   standAt apos.atName
   let (f,first) ←holding [ov] (getMethod ov m pl)
   callWith pos f first (backTo pos (starEach [] X.env)) (backToKw pos (keywordEach [] X.env))):=by rfl):
  PEC X (.Call (.Attribute o m apos) [] [] pos) (bindC To (ab5 x m g n (Je (some [])))):=by
 with_unfolding_all
  intro Kp s σ H Q I h;obtain⟨C,f,fd,hC,hcls,hmeth,F,hb⟩:=C;refine PySem.W.methodCall_KW (pl:=pl) (thn (ho Kp s σ H (fun y H1=>∃od,Rep X.K H1 od y/\AtC X σ H1 (ab5 x m g n (Je (some [])) od) fun d H'=>∀v,Rep X.K H' d v->Q v H') I ((AtC.bind h).imp fun od H1 _ ⟨s1,h1⟩ y ry=>⟨od,ry,h1⟩)) fun u s1 ⟨y,H1,I1,ry,od,rod,ρ,μ,R,en,cs,⟨⟨a,fs,hd,hm,hl⟩,t⟩,kk⟩=>?_) ht;subst hd;cases Rep.celOut rod;obtain rfl:u=Value.ref a:=ry;obtain⟨C',dx,vs,h1,h2,h3⟩:=cs a _ hm;rw[hC]at h1;cases h1;refine Qy I1 h2 hcls hmeth (h3.lookN hl) ?_;obtain⟨ds,hds,hn,hG⟩:=t;cases hds;exact PySem.W.callWith_K0 (first:=[.ref a]) I1.kIn hmeth.kp (aoJ (us:=[.ref a]) (vs:=[.ref a]) hxe F (hr.mono hkj) hb I1 (.cons rfl .nil) (show Reps X.K H1 [jM a] [V.ref a] from⟨_,_,rfl,Rep.cel a,rfl⟩) cs hn hG kk)
end
section
variable {X:Cx}{e a b c o value:Expr}{es:List Expr}{st:Stmt}{Ta Tb To Tv:TR PyData}{Tr:TR (LP)}{pos pos' apos:Pos}{x f m:Str}
noncomputable def apL(x:Str)(g:GC3)(n:Nat)(ds:LP):TR PyData:=fun _ μ R=>(ds.length+1=n)/\∀a,μ a=none->g (jM a::ds) (JM μ a (.ins x [])) fun o μ'=>match o with
 |.ok d=>d= .none/\R (.ok (jM a)) μ'
 |.er c=>R (.er c) μ'
theorem af9{k j n:Nat}{ps:List Str}{g:GC3}{p:Pos}(hxe:X.ex=[])(C:anK X.prog X.w X.K X.mg X.base x ps k n g)(hr:Room j X.A)(hkj:k+1<=j)(ha:PAC X (e::es) Tr)
  (hg:Gl X x:=by rfl) (hdb:(x==("__debug__":Str))=false:=by decide) (he:starEach (e::es) X.env=(false,eval e X.env)::starEach es X.env:=by rfl)
  (hpl:(backTo pos (starEach es X.env)).any (·.1)=false:=by rfl):PEC X (.Call (.Name x p) (e::es) [] pos) (bindC Tr (apL x g n)):=by
 with_unfolding_all
  intro Kp s σ H Q I h;obtain⟨C,f,fd,hC,hm,M,F,hb⟩:=C;refine wpAny_Call_Name_kw (Jn I hg hm ?_ hdb);refine PySem.W.callWith_K (h₀:=X.base) I.ok.mod.kin M.kp (thn (ha pos Kp s σ H (fun vs H1=>∃ds,Reps X.K H1 ds vs/\AtC X σ H1 (apL x g n ds) fun d H'=>∀v,Rep X.K H' d v->Q v H') I ((AtC.bind h).imp fun ds H1 _ ⟨s1,h1⟩ vs rv=>⟨ds,rv,h1⟩)) fun us s1 ⟨vs,H1,I1,r,ds,rd,q⟩=>⟨I1.kIn,?_⟩) he hpl;obtain⟨ρ,μ,R,en,cs,⟨hn,hG⟩,kk⟩:=q;have hA:H1 (s1.heap.objs.size+1)=none:=I1.hok.fresh (Nat.le_succ _);have hD:H1 s1.heap.objs.size=none:=I1.hok.fresh (Nat.le_refl _);have ne:s1.heap.objs.size≠s1.heap.objs.size+1:=Nat.ne_of_lt (Nat.lt_succ_self _);have hq:=hG (s1.heap.objs.size+1) (cs.free hA);have I2:=Inv.made (C:=C) I1
  have sm:jp H1 (upd (upd H1 s1.heap.objs.size (.own (s1.heap.objs.size+1))) (s1.heap.objs.size+1) (.ins C s1.heap.objs.size [])):=fun b o q=>by
   have n1:b≠s1.heap.objs.size+1:=fun z=>by subst z;rw[hA]at q;cases q
   have n2:b≠s1.heap.objs.size:=fun z=>by subst z;rw[hD]at q;cases q
   rw[jr n1,jr n2];exact q
  have cs2:j7 X.K (upd (upd H1 s1.heap.objs.size (.own (s1.heap.objs.size+1))) (s1.heap.objs.size+1) (.ins C s1.heap.objs.size [])) (JM μ (s1.heap.objs.size+1) (.ins x [])):=
   cs.put (jp.a sm) (fun b _ o q=>sm b o q) ⟨C,_,[],hC,jq,rfl⟩
  have sp:aeX X.K X.mg n g (V.ref (s1.heap.objs.size+1)::vs) (upd (upd H1 s1.heap.objs.size (.own (s1.heap.objs.size+1))) (s1.heap.objs.size+1) (.ins C s1.heap.objs.size [])) (fun v H2=>v= .non/\Q (.ref (s1.heap.objs.size+1)) H2)
    (fun cls _ H'=>∃c μ',X.mg c=some cls/\R (.er c) μ'/\jv H1 H'/\j7 X.K H' μ'):=
   ⟨jM (s1.heap.objs.size+1)::ds,_,_,hn,⟨V.ref (s1.heap.objs.size+1),vs,rfl,Rep.cel _,Reps.mono sm _ _ rd⟩,cs2,hq,fun d μ' q v H' sA rv c=>by
    obtain ⟨q1,q2⟩:=q;subst q1;exact ⟨rv,kk _ _ q2 H' ((jp.a sm).trans sA) c _ (Rep.cel _)⟩,fun c μ' q C H' hC' sA c'=>⟨c,μ',hC',q,(jp.a sm).trans sA,c'⟩⟩
  have r2:jH (V.ref (s1.heap.objs.size+1)::vs) (Value.ref (s1.heap.objs.size+1)::us):= .cons rfl r
  have hl:(Value.ref (s1.heap.objs.size+1)::us++[]).length=ps.length:=by
   rw[List.append_nil,←r2.length];exact F.len _ _ _ _ sp
  have hbd:=hb _ (Value.ref (s1.heap.objs.size+1)::us) I2.kIn hl;rw[List.append_nil]at hbd
  refine wpAny_call (akt (f:=f) I1.kIn M.makes M.init (beq_iff_eq.mp M.fn) (codeAny_mono (F.run _ X.stack _ _ ⟨Value.ref (s1.heap.objs.size+1)::us,[]⟩ (Value.ref (s1.heap.objs.size+1)::us) _ _ _ ((hr.mono hkj).make C us [])
   (I2.env0.make C us []) hbd r2 sp) fun rs s' hq'=>?_))
  cases rs with
  | error ev=>
   obtain⟨e0,C0,H',rfl,os,bare,un,hok,xc,c,μ',hC',hR,sA,c'⟩:=hq';have J':Inv X Kp σ H' s':=I2.call' (ch:=[]) os un hok bare fun b z=>nomatch z
   have J0:Inv X [] σ H' s':=J'.pins_of fun p hp=>nomatch hp
   have k1:zQ X H1 (fun d H'=>∀v,Rep X.K H' d v->Q v H') (.er c) μ':=kk (.er c) μ' hR;have x1:=Xc.of hxe I2 xc;have t1:aeV X H1 μ' c (.ref e0) s':=⟨e0,C0,σ,H',rfl,hC',J0,sA,c',x1⟩;exact k1 (.ref e0) s' t1
  | ok fl=>
   cases fl with
   | ret u=>
    obtain⟨v,H',I3,rv,ev,q3⟩:=I2.after hq';subst ev;exact⟨rv,⟨V.ref (s1.heap.objs.size+1),H',I3,rfl,q3⟩⟩
   |next=>exact False.elim hq'
   |brk=>exact False.elim hq'
   |cont=>exact False.elim hq'
end
theorem Reps.dropLast{K:Fg}{H:Hp}{ds:LP}{xs:List V}(h:Reps K H ds xs):Reps K H ds.dropLast xs.dropLast:=by
 rw[List.dropLast_eq_take,List.dropLast_eq_take,h.length];exact Reps.take _ h
section
variable {X:Cx}{e a b c o value:Expr}{es:List Expr}{st:Stmt}{Ta Tb To Tv:TR PyData}{Tr:TR (LP)}{pos pos' apos cpos:Pos}{x f m:Str}
noncomputable def alo(od:PyData)(μ:jy):Prop:=∃a ds,od=jM a/\μ a=some (.lst ds)
theorem aio{Kp:List (Addr×Obj)}{σ:St}{H:Hp}{s:Shared}{a:Addr}{xs:List V}(I:Inv X Kp σ H s)(h:H a=some (qk a xs)):s.TypeIs (.ref a) "list"/\∀b,Value.ref a= .ref b->∃o,s.heap.get? b=some o/\o.dict=none:=
 akx (T:="list") (Inv.opened I (.l xs) h) (x:= .ref a) (v:= .ref a) rfl (.inl ⟨rfl,xs,SqL.of jq⟩)
theorem aga{Kp:List (Addr×Obj)}{σ:St}{H H4:Hp}{s s':Shared}{a:Addr}{xs ys:List V}(I:Inv X Kp σ H s)(h:H a=some (qk a xs))(e4:H4=upd (upd H a (.lst xs)) a (.lst ys))(I4:Inv X Kp σ H4 s'):Inv X Kp σ (upd H a (qk a ys)) s':=by
 subst e4;have:=Inv.closed I4 (.l ys) jq (Inv.nofrz I h);rw[L2.Qw,L2.Qw]at this;exact this
noncomputable def alp(od d:PyData):TR PyData:=fun _ μ R=>∃a ds,od=jM a/\μ a=some (.lst ds)/\ds.length<1000000/\R (.ok .none) (JM μ a (.lst (ds++[d])))
theorem acZ(ho:PEC X o To)(ha:PEC X e Ta)(hbase:attributeBase o "append" X.env (eval o X.env)=eval o X.env:=by rfl)
  (hfew:((backTo cpos (starEach [e] X.env)).all (fun x=>!x.1)&&(backToKw cpos (keywordEach [] X.env)).all (fun x=>x.1.isSome)
   && decide ([e].length+([]:List Keyword).length+(if ([]:List Keyword).isEmpty then 0 else 1)<30))=true:=by rfl)
  (hline:(apos.endLine==cpos.line)=true:=by rfl) (hs:starEach [e] X.env=(false,eval e X.env)::starEach [] X.env:=by rfl) (hplain:(backTo cpos (starEach [] X.env)).any (·.1)=false:=by rfl):
  PEC X (.Call (.Attribute o "append" apos) [e] [] cpos) (bindC To fun od ρ μ R=>alo od μ/\bindC Ta (alp od) ρ μ R):=by
 with_unfolding_all
  intro Kp s σ H Q I h;refine wpAny_Call_method_late hbase hfew hline rfl (thn (ho Kp s σ H (fun y H1=>∃od,Rep X.K H1 od y/\AtC X σ H1 (fun ρ μ R=>alo od μ/\bindC Ta (alp od) ρ μ R) fun d H'=>∀v,Rep X.K H' d v->Q v H') I ((AtC.bind h).imp fun od H1 _ ⟨s1,h1⟩ y ry=>⟨od,ry,h1⟩)) fun v s1 ⟨y,H1,I1,ry,od,rod,ρ,μ,R,en,cs,⟨⟨l,ds0,hd,hm⟩,t⟩,kk⟩=>?_);subst hd;cases Rep.celOut rod;obtain rfl:v=Value.ref l:=ry;obtain⟨xs0,h2,_⟩:=cs l _ hm;obtain⟨t1,t2⟩:=aio I1 h2;refine⟨"list","list.append",PySem.F.plainAttrs_list,PySem.F.slot_list_append,PySem.F.type_list_append,t1,t2,?_⟩;have pa:PA X [e] _:=qR (X:=X) ha Jk hs
  have hA:=pa cpos Kp s1 σ H1 (fun ws H2=>∃y d,ws=[y]/\Rep X.K H2 d y/\AtC X σ H2 (alp (jM l) d) fun d H'=>∀v,Rep X.K H' d v->Q v H') I1
   ((AtC.bind (show AtC X σ H1 (bindC Ta (alp (jM l))) _ from⟨ρ,μ,R,en,cs,t,kk⟩)).imp fun d H2 _ ⟨s2,h2⟩ y ry=>⟨y,d,rfl,ry,h2⟩)
  rw[hs]at hA ⊢;refine Calls.callWith_builtin (by show(false||(backTo cpos (starEach [] X.env)).any (·.1))=false;rw[hplain]<;>rfl) (Calls.evalArgs_plain ?_);refine thn hA fun us s2 ⟨ws,H2,I2,r2,y,d,hws,ry,ρ2,μ2,R2,en2,cs2,⟨l2,ds,hd2,hm2,hl,hR⟩,kk2⟩=>?_;subst hws;cases aln hd2;obtain⟨xs,h3,rs⟩:=cs2 l _ hm2;refine thn (adS Kp s2 σ (upd H2 l (.lst xs)) (.ref l) [y] (.ref l) us (fun w H4=>w= .non/\H4=upd (upd H2 l (.lst xs)) l (.lst (xs++[y]))) (Inv.opened I2 (.l xs) h3) rfl r2 ⟨l,xs,y,rfl,rfl,jq,by rw[rs.length];exact Z6 hl,rfl,rfl⟩) fun u s3 ⟨w,H4,I4,r4,e1,e4⟩=>?_;subst e1;have sA:jv H2 (upd H2 l (qk l (xs++[y]))):=jv.upd h3 rfl;have k1:=(kk2 (.ok .none) _ hR:zQ X H2 (fun d H'=>∀v,Rep X.K H' d v->Q v H') (.ok .none) _);exact⟨.non,_,aga I2 h3 e4 I4,r4,k1 _ sA (cs2.upd sA ⟨_,jq,(Reps.monoA sA _ _ rs).append ⟨y,[],rfl,Rep.monoA sA _ _ ry,rfl⟩⟩) .non rfl⟩
noncomputable def apM(od:PyData):TR PyData:=fun _ μ R=>∃a ds d,od=jM a/\μ a=some (.lst ds)/\ds[ds.length-1]?=some d/\R (.ok d) (JM μ a (.lst ds.dropLast))
theorem anL(ho:PEC X o To)(hbase:attributeBase o "pop" X.env (eval o X.env)=eval o X.env:=by rfl)(hline:(apos.endLine==cpos.line)=true:=by rfl):PEC X (.Call (.Attribute o "pop" apos) [] [] cpos) (bindC To apM):=by
 with_unfolding_all
  intro Kp s σ H Q I h;refine wpAny_Call_method0_late hbase hline (thn (ho Kp s σ H (fun y H1=>∃od,Rep X.K H1 od y/\AtC X σ H1 (apM od) fun d H'=>∀v,Rep X.K H' d v->Q v H') I ((AtC.bind h).imp fun od H1 _ ⟨s1,h1⟩ y ry=>⟨od,ry,h1⟩)) fun v s1 ⟨y,H1,I1,ry,od,rod,ρ,μ,R,en,cs,⟨l,ds,d,hd,hm,hl,hR⟩,kk⟩=>?_);subst hd;cases Rep.celOut rod;obtain rfl:v=Value.ref l:=ry;obtain⟨xs,h2,rs⟩:=cs l _ hm;obtain⟨t1,t2⟩:=aio I1 h2;obtain⟨z,hz,rz⟩:=rs.get hl;refine⟨"list","list.pop",PySem.F.plainAttrs_list,PySem.F.slot_list_pop,PySem.F.type_list_pop,t1,t2,Calls.callWith_builtin rfl (PySem.evalArgs_none ?_)⟩;refine thn (aph Kp s1 σ (upd H1 l (.lst xs)) (.ref l) [] (.ref l) [] (fun w H4=>w=z/\H4=upd (upd H1 l (.lst xs)) l (.lst xs.dropLast)) (Inv.opened I1 (.l xs) h2) rfl .nil ⟨l,xs,z,rfl,rfl,jq,by rw[rs.length];exact hz,rfl,rfl⟩) fun u s3 ⟨w,H4,I4,r4,e1,e4⟩=>?_;subst e1;have sA:jv H1 (upd H1 l (qk l xs.dropLast)):=jv.upd h2 rfl;have k1:=(kk (.ok d) _ hR:zQ X H1 (fun d H'=>∀v,Rep X.K H' d v->Q v H') (.ok d) _);exact⟨w,_,aga I1 h2 e4 I4,r4,k1 _ sA (cs.upd sA ⟨_,jq,Reps.dropLast (Reps.monoA sA _ _ rs)⟩) w (Rep.monoA sA _ _ rz)⟩
noncomputable def arh(f:RP):TR PyData:=fun ρ μ R=>∃ds,f ρ=some (.list ds)/\∀a,μ a=none->R (.ok (jM a)) (JM μ a (.lst ds))
theorem aip{fe:RP}(h:PN X e fe):PEC X e (arh fe):=by
 with_unfolding_all
  exact PE.imp h fun σ H Q ⟨ρ,μ,R,en,cs,⟨ds,hf,hR⟩,kk⟩=>⟨ρ,_,en,hf,fun l H' s hn ow=>by
   have k1:=(kk (.ok (jM l)) _ (hR l (cs.free hn)):zQ X H (fun d H'=>∀ v,Rep X.K H' d v->Q v H') (.ok (jM l)) _);exact k1 H' (jp.a s) (cs.put (jp.a s) (fun b _ o q=>s b o q) ow) (.ref l) (Rep.cel l)⟩
end
section
variable {X:Cx}{e a b c o value:Expr}{es:List Expr}{st:Stmt}{Ta Tb To Tv:TR PyData}{Tr:TR (LP)}{fa:RP}{pos pos' apos cpos:Pos}{x f m:Str}
theorem agb{H:Hp}{ρ:Rho}{σ:St}{i:Nat}{l:Addr}{ds:LP}{xs:List V}(en:EnvR X.K H ρ σ)(hi:lkp i ρ=some (jM l))(h:H l=some (qk l xs))(rs:Reps X.K H ds xs):EnvR X.K (upd H l (.lst xs)) (ρ.set i (some (.list ds))) σ:=by
 have sA:jv H (upd H l (.lst xs)):=jv.upd h rfl;have hi':=qF hi;have hl:i < ρ.length:=(List.getElem?_eq_some_iff.mp hi').1;refine⟨by rw[List.length_set];exact en.len,fun j d q=>?_⟩;by_cases hj:i=j
 ·subst hj
  rw[List.getElem?_set_self hl]at q;cases q;obtain⟨v,h1,h2⟩:=en.at' i _ hi';cases Rep.celOut h2;exact⟨_,h1,l,xs,rfl,jq,Reps.monoA sA _ _ rs⟩
 ·rw[List.getElem?_set_ne hj]at q
  exact(en.monoA sA).at' j d q
theorem aeY{H H3:Hp}{l:Addr}{xs:List V}{o:HO}(h:H l=some (qk l xs))(s:jp (upd H l o) H3):jv H (upd H3 l (qk l xs))/\∀b,b≠l->∀u,H b=some u->upd H3 l (qk l xs) b=some u:=
 have k:∀b,b≠l->∀u,H b=some u->upd H3 l (qk l xs) b=some u:=fun b hb u q=>by rw[jr hb];exact s b u (by rw[jr hb];exact q)
 ⟨fun b u q d=>k b (fun z=>by subst z;rw[h]at q;cases q;cases d) u q,k⟩
theorem Z8{H H3:Hp}{μ:jy}{l:Addr}{ds:LP}{xs:List V}{o:HO}(cs:j7 X.K H μ)(hm:μ l=some (.lst ds))(h:H l=some (qk l xs))(s:jp (upd H l o) H3):j7 X.K (upd H3 l (qk l xs)) μ:=fun b c q=>by
 obtain⟨sA,k⟩:=aeY h s;by_cases hb:b=l
 ·subst hb
  exact(cs b c q).to sA (by rw[jq,h])
 ·obtain⟨u,h1,_⟩:=(cs b c q).there
  exact(cs b c q).to sA ((k b hb u h1).trans h1.symm)
noncomputable def asn(i:Nat)(f:RP):TR PyData:=fun ρ μ R=>∃a ds d,lkp i ρ=some (jM a)/\μ a=some (.lst ds)/\f (ρ.set i (some (.list ds)))=some d/\noL d=true/\R (.ok d) μ
theorem aiq(i:Nat)(h:PD X e fa):PEC X e (asn i fa):=by
 with_unfolding_all
  intro Kp s σ H Q I ⟨ρ,μ,R,en,cs,⟨l,ds,d,hi,hm,hf,hn,hR⟩,kk⟩;obtain⟨xs,h1,rs⟩:=cs l _ hm;refine thn (h Kp s σ (upd H l (.lst xs)) (fun v H3=>jp (upd H l (.lst xs)) H3/\Rep X.K H3 d v) (Inv.opened I (.l xs) h1) ⟨_,d,agb en hi h1 rs,hf,fun v H3 s3 r3=>⟨s3,r3⟩⟩) fun u s1 ⟨v,H3,I3,r,s3,r3⟩=>?_;have e3:H3 l=some (.lst xs):=s3 _ _ jq;have k1:=(kk (.ok d) _ hR:zQ X H (fun d H'=>∀v,Rep X.K H' d v->Q v H') (.ok d) _);refine⟨v,upd H3 l (qk l xs),Inv.closed I3 (.l xs) e3 (Inv.nofrz I h1),r,k1 _ (aeY h1 s3).1 (Z8 cs hm h1 s3) v (Rep.monoN (fun b u hb m=>?_) d v hn r3)⟩;have:b≠l:=fun z=>by subst z;rw[e3]at hb;cases hb;exact m _ rfl
  rw[jr this];exact hb
noncomputable def asE(i:Nat)(f:Rho->Option Bool):TR Bool:=fun ρ μ R=>∃a ds d,lkp i ρ=some (jM a)/\μ a=some (.lst ds)/\f (ρ.set i (some (.list ds)))=some d/\R (.ok d) μ
noncomputable def apN(g:LP->OP)(od:PyData):TR PyData:=fun _ μ R=>∃a ds d,od=jM a/\μ a=some (.lst ds)/\g [.list ds]=some d/\noL d=true/\R (.ok d) μ
theorem air{id:String}{g:LP->OP}{p:Pos}(hc:ZT X (.builtin id) g)(hm0:X.mg x=none)(hv:bootBuiltins x=some (.builtin id))(ho:PEC X e To)(hg:Gl X x:=by rfl)(hn0:x≠"__name__":=by decide)(hdb:(x==("__debug__":Str))=false:=by decide)
  (he:starEach [e] X.env=(false,eval e X.env)::starEach [] X.env:=by rfl) (hpl:(backTo pos (starEach [] X.env)).any (·.1)=false:=by rfl):PEC X (.Call (.Name x p) [e] [] pos) (bindC To (apN g)):=by
 with_unfolding_all
  intro Kp s σ H Q I h;obtain⟨r,h1,h2⟩:=hc;refine wpAny_Call_Name_kw (QM I hg hm0 hv ?_ hn0 hdb);have pa:PA X [e] _:=qR (X:=X) ho Jk he;refine PyProof.Rows.callWith_builtin1 (thn (pa pos Kp s σ H (fun ws H1=>∃y od,ws=[y]/\Rep X.K H1 od y/\AtC X σ H1 (apN g od) fun d H'=>∀v,Rep X.K H' d v->Q v H') I ((AtC.bind h).imp fun od H1 _ ⟨s1,h1⟩ y ry=>⟨y,od,rfl,ry,h1⟩)) fun us s1 ⟨ws,H1,I1,r1,y,od,hws,rod,ρ,μ,R,en,cs,⟨l,ds,d,hd,hm,hf,hn,hR⟩,kk⟩=>?_) he hpl;subst hws;subst hd;cases Rep.celOut rod;obtain⟨xs,h3,rs⟩:=cs l _ hm;have sA:jv H1 (upd H1 l (.lst xs)):=jv.upd h3 rfl;refine thn (h1 Kp s1 σ (upd H1 l (.lst xs)) [.ref l] us (fun v H3=>jp (upd H1 l (.lst xs)) H3/\Rep X.K H3 d v) (Inv.opened I1 (.l xs) h3) r1 (h2 [.list ds] d [.ref l] _ _ hf ⟨.ref l,[],rfl,⟨l,xs,rfl,jq,Reps.monoA sA _ _ rs⟩,rfl⟩ fun v H3 s3 r3=>⟨s3,r3⟩)) fun u s2 ⟨v,H3,I3,r,s3,r3⟩=>?_;have e3:H3 l=some (.lst xs):=s3 _ _ jq;have k1:=(kk (.ok d) _ hR:zQ X H1 (fun d H'=>∀v,Rep X.K H' d v->Q v H') (.ok d) _);refine⟨v,upd H3 l (qk l xs),Inv.closed I3 (.l xs) e3 (Inv.nofrz I1 h3),r,k1 _ (aeY h3 s3).1 (Z8 cs hm h3 s3) v (Rep.monoN (fun b u hb m=>?_) d v hn r3)⟩;have:b≠l:=fun z=>by subst z;rw[e3]at hb;cases hb;exact m _ rfl
  rw[jr this];exact hb
noncomputable def apO(od:PyData):TR Bool:=fun _ μ R=>∃a ds,od=jM a/\μ a=some (.lst ds)/\R (.ok (!ds.isEmpty)) μ
theorem anM(ho:PEC X e To)(he:∀whole,isTrue e X.env whole=(do let v ←whole;standAt e.pos;holding [v] (truthy v)):=by intro _;rfl):PTC X e (bindC To apO):=by
 with_unfolding_all
  intro Kp s σ H Q I h;refine isTrue_plain (thn (ho Kp s σ H (fun y H1=>∃od,Rep X.K H1 od y/\AtC X σ H1 (apO od) Q) I ((AtC.bind h).imp fun od H1 _ ⟨s1,h1⟩ y ry=>⟨od,ry,h1⟩)) fun v s1 ⟨y,H1,I1,ry,od,rod,ρ,μ,R,en,cs,⟨l,ds,hd,hm,hR⟩,kk⟩=>?_) (he _);subst hd;cases Rep.celOut rod;obtain⟨xs,h3,rs⟩:=cs l _ hm
  have ee:xs.isEmpty=ds.isEmpty:=by
   have:=rs.length;cases xs<;>cases ds<;>first|rfl|simp at this
  refine thn (apb Kp s1 σ (upd H1 l (.lst xs)) (.ref l) v (fun k H3=>k=!xs.isEmpty/\H3=upd H1 l (.lst xs)) (Inv.opened I1 (.l xs) h3) ry ⟨!xs.isEmpty,.inl ⟨xs,SqL.of jq,rfl⟩,rfl,rfl⟩) fun b s2 ⟨H3,I3,hb,e3⟩=>?_;subst hb;have k1:=(kk (.ok (!ds.isEmpty)) _ hR:zQ X H1 Q (.ok (!ds.isEmpty)) _);have s3:jp (upd H1 l (.lst xs)) H3:=by rw[e3];exact jp.refl _
  rw[ee];exact⟨upd H3 l (qk l xs),Inv.closed I3 (.l xs) (s3 _ _ jq) (Inv.nofrz I1 h3),k1 _ (aeY h3 s3).1 (Z8 cs hm h3 s3)⟩
theorem agc{k j n:Nat}{ps:List Str}{g:LP->OP}{p:Pos}(C:jh X.prog X.w X.K X.mg X.base x ps k n g)(hr:Room j X.A)(hkj:k<=j)(ha:PAC X (e::es) Tr)
  (hg:Gl X x:=by rfl) (hdb:(x==("__debug__":Str))=false:=by decide) (he:starEach (e::es) X.env=(false,eval e X.env)::starEach es X.env:=by rfl)
  (hpl:(backTo pos (starEach es X.env)).any (·.1)=false:=by rfl):PEC X (.Call (.Name x p) (e::es) [] pos) (bindC Tr fun ds=>Je (if ds.length=n then g ds else none)):=by
 with_unfolding_all
  obtain⟨f,fd,h1,h2,h3,h4⟩:=C
  exact PE.imp (aeC h1 (hr.mono hkj) hg h2 h3 h4 .nil acG ha hdb he hpl) fun σ H Q h=>(AtC.bind h).imp fun ds H1 _ ⟨s1,h1⟩ vs rv=>by
   obtain⟨d,hd,k⟩:=h1.ret;by_cases hn:ds.length=n
   ·rw[if_pos hn]at hd
    exact⟨ds,d,hn,by rw[List.append_nil];exact rv,hd,fun v H' s r=>k H' s v r⟩
   ·rw[if_neg hn]at hd;cases hd
noncomputable def agd(n:Nat)(g:LP->OP)(t:LP->Option Str)(ds:LP):TR PyData:=fun _ μ R=>ds.length=n/\((∃d,g ds=some d/\R (.ok d) μ)∨∃c,t ds=some c/\R (.er c) μ)
theorem Qn{k k' j n:Nat}{ps:List Str}{g:LP->OP}{gx:LP->Option Str}{p:Pos}(hxe:X.ex=[])(C:jh X.prog X.w X.K X.mg X.base x ps k n g)(C':qA X.prog X.w X.K X.mg X.base x ps k' n gx)(hr:Room j X.A)(hkj:k<=j)(hkj':k'<=j)(ha:PAC X (e::es) Tr)
  (hg:Gl X x:=by rfl) (hdb:(x==("__debug__":Str))=false:=by decide) (he:starEach (e::es) X.env=(false,eval e X.env)::starEach es X.env:=by rfl)
  (hpl:(backTo pos (starEach es X.env)).any (·.1)=false:=by rfl):PEC X (.Call (.Name x p) (e::es) [] pos) (bindC Tr (agd n g gx)):=by
 with_unfolding_all
  intro Kp s σ H Q I h;obtain⟨f,fd,F,hm,hk,hb⟩:=C;obtain⟨f',fd',F',hm',hk',hb'⟩:=C';rw[hm]at hm';have ef:f=f':=by cases hm';rfl
  subst ef;refine wpAny_Call_Name_kw (Jn I hg hm ?_ hdb);refine PySem.W.callWith_K (h₀:=X.base) I.ok.mod.kin hk (thn (ha pos Kp s σ H (fun vs H1=>∃ds,Reps X.K H1 ds vs/\AtC X σ H1 (agd n g gx ds) fun d H'=>∀v,Rep X.K H' d v->Q v H') I ((AtC.bind h).imp fun ds H1 _ ⟨s1,h1⟩ vs rv=>⟨ds,rv,h1⟩)) fun us s1 ⟨vs,H1,I1,r,ds,rd,q⟩=>⟨I1.kIn,?_⟩) he hpl;obtain⟨ρ,μ,R,en,cs,⟨hn,hG⟩,kk⟩:=q;rcases hG with ⟨d,hd,hR⟩ | ⟨c,hc,hR⟩
  ·have k1:=(kk (.ok d) _ hR:zQ X H1 (fun d H'=>∀v,Rep X.K H' d v->Q v H') (.ok d) _)
   exact aeB F (hr.mono hkj) hb .nil acG I1 r ⟨ds,d,hn,by rw[List.append_nil];exact rd,hd,fun v H' s r=>k1 H' (jp.a s) (cs.mono s) v r⟩
  ·have sp:ahk X.K X.mg n gx vs H1 (fun _ _=>False) (fun cls _ H'=>X.mg c=some cls/\jp H1 H'):=⟨ds,c,hn,rd,hc,fun C H' hC s2=>⟨hC,s2⟩⟩
   have hlu:(us++[]).length=ps.length:=by rw[List.append_nil,←r.length];exact F'.len _ _ _ _ sp
   have hbd:=hb' s1 us I1.kIn hlu;rw[List.append_nil]at hbd;refine wpAny_call (codeAny_mono (F'.run X.A X.stack s1 H1 ⟨us,[]⟩ us vs _ _ (hr.mono hkj') I1.env0 hbd r sp) fun rs s' hq=>?_);cases rs with
   | error ev=>
    obtain⟨e0,C,H',rfl,os,bare,un,hok,xc,hC,sm2⟩:=hq;have J':Inv X Kp σ H' s':=I1.call' (ch:=[]) os un hok bare fun b z=>nomatch z
    have J0:Inv X [] σ H' s':=J'.pins_of fun p hp=>nomatch hp
    have k1:=(kk (.er c) _ hR:zQ X H1 (fun d H'=>∀v,Rep X.K H' d v->Q v H') (.er c) _);have x1:=Xc.of hxe I1 xc;have t1:aeV X H1 μ c (.ref e0) s':=⟨e0,C,σ,H',rfl,hC,J0,jp.a sm2,cs.mono sm2,x1⟩;exact k1 (.ref e0) s' t1
   | ok fl=>
    cases fl with
    |ret u=>obtain⟨v,H',_,_,_,_,_,z⟩:=hq;exact z.elim
    |next=>exact False.elim hq
    |brk=>exact False.elim hq
    |cont=>exact False.elim hq
theorem ajy{id:String}{g:LP->OP}{p:Pos}(hc:ZT X (.builtin id) g)(hm:X.mg x=none)(hv:bootBuiltins x=some (.builtin id))(ha:PAC X (e::es) Tr)(hg:Gl X x:=by rfl)(hn:x≠"__name__":=by decide)(hdb:(x==("__debug__":Str))=false:=by decide)
  (he:starEach (e::es) X.env=(false,eval e X.env)::starEach es X.env:=by rfl) (hpl:(backTo pos (starEach es X.env)).any (·.1)=false:=by rfl):PEC X (.Call (.Name x p) (e::es) [] pos) (bindC Tr fun ds=>Je (g ds)):=by
 with_unfolding_all
  obtain⟨r,h1,h2⟩:=hc
  exact PE.imp (acE h1 hg hm hv ha hn hdb he hpl) fun σ H Q h=>(AtC.bind h).imp fun ds H1 _ ⟨s1,h3⟩ vs rv=>by
   obtain⟨d,hd,k⟩:=h3.ret;exact h2 ds d vs H1 Q hd rv fun v H' s r=>k H' s v r
theorem ais{x1}(h:PAC X es Tr):PEC X (.Tuple es x1 pos) (bindC Tr fun ds=>Je (if few ds=true then some (.tuple ds) else none)):=by
 with_unfolding_all
  exact PE.imp (ag3 h) fun σ H Q h=>(AtC.bind h).imp fun ds H1 _ ⟨s1,h3⟩ vs rv=>by
   obtain⟨d,hd,k⟩:=h3.ret;by_cases hf:few ds=true
   ·rw[if_pos hf]at hd;cases hd
    refine⟨by rw[rv.length];exact abd (by simpa[few]using hf),fun p hp=>?_⟩;exact k _ (jE hp) (.ref p) ⟨p,vs,rfl,SqT.of jq,Reps.mono (jE hp) _ _ rv⟩
   ·rw[if_neg hf]at hd;cases hd
end
section
variable {X:Cx}{e a b c o tg src:Expr}{es:List Expr}{st:Stmt}{body:List Stmt}{S:TRS}{Tt:TR Bool}{Tr:TR (LP)}{pos:Pos}{x:Str}
noncomputable def aoK(nx:Rho->jy->Prop)(R:OutC->jy->Prop):OutC->jy->Prop
 |.nx ρ,μ=>nx ρ μ
 |.ct ρ,μ=>nx ρ μ
 |.bk ρ,μ=>R (.nx ρ) μ
 |.rt d,μ=>R (.rt d) μ
 |.er c,μ=>R (.er c) μ
noncomputable def Qo(ga:PyData->Rho->Option Rho)(S:TRS):LP->TRS
 | []=>fun ρ μ R=>R (.nx ρ) μ
 |d::r=>fun ρ μ R=>∃ρ1,ga d ρ=some ρ1/\S ρ1 μ (aoK (fun ρ2 μ2=>Qo ga S r ρ2 μ2 R) R)
noncomputable def aso(fi:Rho->Option (LP))(ga:PyData->Rho->Option Rho)(S:TRS):TRS:=fun ρ μ R=>∃ds,fi ρ=some ds/\Qo ga S ds ρ μ R
theorem aaB{fi:Rho->Option (LP)}{ga:PyData->Rho->Option Rho}(hp:PassesOwn (model X.prog X.w) X.A X.env X.xe)(hc:X.calm=true)(hi:PID X tg src fi)(hg:PGD X tg ga)(hb:ZR X body S)
  (hs:∀x,foldedSetIterable src X.env x=pure x:=by intro _;rfl):PSC X (.For tg src body [] pos) (aso fi ga S):=by
 with_unfolding_all
  refine PS.imp (aa7 hp hc hi hg hb hs) fun D σ H ⟨ρ,μ,R,en,cs,⟨ds,h1,q'⟩,k⟩=>?_;refine⟨ρ,ds,en,h1,fun J H1 s1 Y=>?_⟩;refine⟨fun i m σ2 H2=>m=ds.length-i/\i<=ds.length/\∃ρ2 μ2,jv H1 H2/\EnvR X.K H2 ρ2 σ2/\j7 X.K H2 μ2/\Qo ga S (ds.drop i) ρ2 μ2 R,⟨ds.length,by simp,Nat.zero_le _,ρ,μ,jv.refl _,en.mono s1,cs.mono s1,by simpa using q'⟩,?_⟩
  rintro i m σ2 H2 ⟨rfl,hi,ρ2,μ2,sA,en2,cs2,q2⟩
  obtain⟨g1,g2,g3⟩:=Y i H2 sA;by_cases hlt:i<ds.length
  ·right
   rw[List.drop_eq_getElem_cons hlt]at q2;obtain⟨ρ4,h4,q3⟩:=q2;refine⟨g1 hlt,fun σ3 H3=>∃ρ3 μ3,jv H1 H3/\EnvR X.K H3 ρ3 σ3/\j7 X.K H3 μ3/\Qo ga S (ds.drop (i+1)) ρ3 μ3 R,fun σ3 H3 z=>⟨ds.length-(i+1),by omega,rfl,hlt,z⟩,fun x H3 y=>?_⟩;obtain⟨s3,r3⟩:=g3 x H3 y;have r3':=r3 ds[i] (by simp[hlt]);refine⟨ρ2,ds[i],ρ4,en2.mono s3,r3',h4,fun σ5 H5 s5 en5=>?_⟩;have s15:jv H1 H5:=(sA.trans (jp.a s3)).trans (jp.a s5);have s05:jv H H5:=(jp.a s1).trans s15;refine⟨ρ4,μ2,_,en5,(cs2.mono s3).mono s5,q3,fun o μ' r=>?_⟩;cases o with
   |nx ρ6=>exact fun σ6 H6 s6 e6 c6=>⟨ρ6,μ',s15.trans s6,e6,c6,r⟩
   |ct ρ6=>exact fun σ6 H6 s6 e6 c6=>⟨ρ6,μ',s15.trans s6,e6,c6,r⟩
   |bk ρ6=>exact fun σ6 H6 s6 e6 c6=>(k (.nx ρ6) μ' r:JQ X H D (.nx ρ6) μ') σ6 H6 (s05.trans s6) e6 c6
   |rt d=>exact fun v H6 s6 e6 c6=>(k (.rt d) μ' r:JQ X H D (.rt d) μ') v H6 (s05.trans s6) e6 c6
   |er c=>exact fun ev s' t=>(k (.er c) μ' r:JQ X H D (.er c) μ') ev s' (t.mono s05)
  ·left
   have hn:ds.drop i=[]:=List.drop_of_length_le (by omega);rw[hn]at q2;exact⟨g2 (by omega),(k (.nx ρ2) μ2 q2:JQ X H D (.nx ρ2) μ2) σ2 H2 ((jp.a s1).trans sA) en2 cs2⟩
end
noncomputable def alq(R:Res PyData->jy->Prop):OutC->jy->Prop
 |.rt d,μ=>R (.ok d) μ
 |.nx _,μ=>R (.ok .none) μ
 |.er c,μ=>R (.er c) μ
 |_,_=>False
noncomputable def qB(N:List Str)(T:TRS):GC3:=fun ds μ R=>T (jI N ds) μ (alq R)
noncomputable def Q5(K:Fg)(n:Nat)(g:GC3):Sp:=fun vs H Q _=>∃ds μ R,ds.length=n/\Reps K H ds vs/\j7 K H μ/\g ds μ R/\(∀d μ',R (.ok d) μ'->∀v H',jv H H'->Rep K H' d v->j7 K H' μ'->Q v H')/\∀c μ',¬ R (.er c) μ'
noncomputable def abM(P:Program)(w:World)(K:Fg)(mg:SV)(base:Heap)(x:Str)(ps:List Str)(k n:Nat)(g:GC3):Prop:=
 ∃(f:Addr) (fd:FuncData),FnOk P w K mg base CX0 k f fd ps (Q5 K n g)/\mg x=some (.ref f)/\PySem.W.keepIn K (.ref f)=true/\zB K fd ps []
section
variable {P:Program}{w:World}{K:Fg}{mg:SV}{base:Heap}
theorem adD{x qual:Str}{st:Stmt}{f:Addr}{fd:FuncData}{N ps:List Str}{k:Nat}{T:TRS}(F:Fun K x qual st f fd)(S:FnScope N ps (je st))
  (body:∀(Kc:Value) (A:Around) (Ko:List Env) (s:Shared) (H:Hp) (E:XK),Room k (A.deeper (envOfC qual (je st) s.heap.objs.size f Kc))->ZR (zL (CXt P w) P w K mg base N qual (je st) f Kc A Ko s H E) (jG st) T):
  FnOk P w K mg base (CXt P w) (k+1) f fd ps (aeX K mg ps.length (qB N T)):=by
 with_unfolding_all
  obtain⟨oc,od,kV,doc,pm,an,Kc,ct,osl,rfl,lk,hcd⟩:=F.ex;refine ahl lk hcd S (fun vs H Q E h=>?_) fun A Ko s H vs Q E s1 hr h I=>?_
  ·obtain⟨ds,μ,R,h1,h2,_⟩:=h
   rw[h2.length];exact h1
  ·obtain⟨ds,μ,R,h1,h2,h3,h4,h5,h6⟩:=h
   refine body Kc A Ko s H E hr [] s1 (L2.zj N vs) H _ I ⟨jI N ds,μ,_,zS h2,h3,h4,fun o μ' r=>?_⟩;cases o with
   |rt d=>exact fun v H' sA rv c=>h5 d μ' r v H' sA rv c
   |nx ρ=>exact fun σ H' sA e c=>h5 .none μ' r .non H' sA rfl c
   |bk ρ=>exact r.elim
   |ct ρ=>exact r.elim
   | er c=>
    intro ev s' t;obtain⟨e,C,σ',H',rfl,hC,J,sm,cs',xc⟩:=t;have T0:Top0 (zL (CXt P w) P w K mg base N qual (je st) f Kc A Ko s H E):=aeT;show wpAny (model P w) (A.deeper (envOfC qual (je st) s.heap.objs.size f Kc)) (leaving (envOfC qual (je st) s.heap.objs.size f Kc) (.ref e)) (fun _ s''=>CXt P w Ko H s E (.ref e) s'') (fun e' s''=>CXt P w Ko H s E e' s'') s';have n1:=acg (E:=fun _ _=>False) (A:=A.deeper (envOfC qual (je st) s.heap.objs.size f Kc)) T0 J.ok.frames J xc;unfold leaving;refine wpAny_bind (wpAny_mono n1 (fun _ s2 ⟨J2,t2⟩=>?_) fun _ _ z=>z.elim);have n2:=Jv (E:=fun _ _=>False) (A:=A.deeper (envOfC qual (je st) s.heap.objs.size f Kc)) none J2 t2;refine wpAny_mono n2 (fun _ s3 ⟨J3,t3⟩=>?_) fun _ _ z=>z.elim;obtain⟨oe,ws,T,oT,ts,g1,g2,g3,g4,g5,g6,g7,g8,g9⟩:=t3.ob;exact⟨e,C,H',rfl,J3.os,J3.bare,J3.base,J3.hok,⟨t3.mine.un,t3.mine.new,oe,ws,T,oT,ts,g1,g2,g3,g4,g5,g6.un,g6.new,g7,g8,g9⟩,h6 c μ' r C H' hC sm cs'⟩
theorem alr{x qual:Str}{st:Stmt}{f:Addr}{fd:FuncData}{N ps:List Str}{k:Nat}{T:TRS}(F:Fun K x qual st f fd)(S:FnScope N ps (je st))
  (body:∀(Kc:Value) (A:Around) (Ko:List Env) (s:Shared) (H:Hp) (E:XK),Room k (A.deeper (envOfC qual (je st) s.heap.objs.size f Kc))->ZR (zL CX0 P w K mg base N qual (je st) f Kc A Ko s H E).nox (jG st) T):
  FnOk P w K mg base CX0 (k+1) f fd ps (Q5 K ps.length (qB N T)):=by
 with_unfolding_all
  refine F.ok S (fun vs H Q E h=>?_) (fun Kc A Ko s H vs Q E hr h=>?_)
  ·obtain⟨ds,μ,R,h1,h2,_⟩:=h
   rw[h2.length];exact h1
  ·obtain⟨ds,μ,R,h1,h2,h3,h4,h5,h6⟩:=h
   refine⟨_,body Kc A Ko s H E hr,jI N ds,μ,_,zS h2,h3,h4,fun o μ' r=>?_⟩;cases o with
   |rt d=>exact fun v H' sA rv c=>h5 d μ' r v H' sA rv c
   |nx ρ=>exact fun σ H' sA e c=>h5 .none μ' r .non H' sA rfl c
   |bk ρ=>exact r.elim
   |ct ρ=>exact r.elim
   |er c=>exact(h6 c μ' r).elim
end
section
variable {X:Cx}{e:Expr}{es:List Expr}{Tr:TR (LP)}{pos:Pos}{x:Str}
noncomputable def ari(R:Res PyData->jy->Prop):Res PyData->jy->Prop
 |.ok d,μ=>R (.ok d) μ
 |.er _,_=>False
noncomputable def arj(g:GC3)(n:Nat)(ds:LP):TR PyData:=fun _ μ R=>ds.length=n/\g ds μ (ari R)
theorem QC{k j n:Nat}{ps:List Str}{g:GC3}{p:Pos}(C:abM X.prog X.w X.K X.mg X.base x ps k n g)(hr:Room j X.A)(hkj:k<=j)(ha:PAC X (e::es) Tr)
  (hg:Gl X x:=by rfl) (hdb:(x==("__debug__":Str))=false:=by decide) (he:starEach (e::es) X.env=(false,eval e X.env)::starEach es X.env:=by rfl)
  (hpl:(backTo pos (starEach es X.env)).any (·.1)=false:=by rfl):PEC X (.Call (.Name x p) (e::es) [] pos) (bindC Tr (arj g n)):=by
 with_unfolding_all
  obtain⟨f,fd,h1,h2,h3,h4⟩:=C
  exact PE.imp (aeC h1 (hr.mono hkj) hg h2 h3 h4 .nil acG ha hdb he hpl) fun σ H Q h=>(AtC.bind h).imp fun ds H1 _ ⟨s1,ρ,μ,R,en,cs,⟨hn,t⟩,k⟩ vs rv=>
   ⟨ds,μ,_,hn,by rw[List.append_nil];exact rv,cs,t,fun d μ' r v H' s rd c=>(k (.ok d) μ' r:zQ X H1 (fun d H'=>∀v,Rep X.K H' d v->Q v H') (.ok d) μ') H' s c v rd,fun c μ' r=>r⟩
end
@[irreducible] noncomputable def apP(X:Cx)(st:Stmt)(T:TRS):Prop:=∀(s:Shared) (σ:St) (H:Hp) (D:Ends),Inv X [] σ H s->AtS X σ H T D->wpAny (model X.prog X.w) X.A (exec st X.env) (SP X [] D) X.xe s
@[irreducible] noncomputable def age(X:Cx)(sts:List Stmt)(T:TRS):Prop:=∀(s:Shared) (σ:St) (H:Hp) (D:Ends),Inv X [] σ H s->AtS X σ H T D->wpAny (model X.prog X.w) X.A (execs sts X.env) (SP X [] D) X.xe s
section
variable {X:Cx}{st b0:Stmt}{sts qg tb hb:List Stmt}{S S':TRS}{G:RO}{pos:Pos}
theorem anN(h:PSC X st S):apP X st S:=by
 with_unfolding_all
  exact fun s σ H D I t=>h [] s σ H D I t
theorem als(h:ZR X sts S):age X sts S:=by
 with_unfolding_all
  exact fun s σ H D I t=>h [] s σ H D I t
theorem ac0(h1:apP X st S)(h2:age X qg S'):age X (st::qg) (abn S S'):=by
 with_unfolding_all
  intro s σ H D I ⟨ρ,μ,R,en,cs,t,k⟩;refine wpAny_execs_cons (thn (h1 s σ H { D with nx:=fun σ' H'=>AtS X σ' H' S' D } I ⟨ρ,μ,_,en,cs,t,fun o μ' r=>?_⟩) fun f s1 q=>?_)
  ·cases o with
   |nx ρ'=>exact fun σ' H' s e c=>⟨ρ',μ',R,e,c,r,fun o μ2 q=>(k o μ2 q).mono s⟩
   |rt d=>exact k (.rt d) μ' r
   |bk d=>exact k (.bk d) μ' r
   |ct d=>exact k (.ct d) μ' r
   |er d=>exact k (.er d) μ' r
  ·cases f with
   | next=>
    obtain⟨σ',H',I',q⟩:=q;exact h2 s1 σ' H' D I' q
   |ret v=>exact q
   |brk=>exact q
   |cont=>exact q
end
section
variable {P:Program}{w:World}{K:Fg}{mg:SV}{base:Heap}
theorem apQ{x qual:Str}{st:Stmt}{f:Addr}{fd:FuncData}{N ps:List Str}{k:Nat}{T:TRS}(F:Fun K x qual st f fd)(S:FnScope N ps (je st))
  (body:∀(Kc:Value) (A:Around) (Ko:List Env) (s:Shared) (H:Hp) (E:XK),Room k (A.deeper (envOfC qual (je st) s.heap.objs.size f Kc))->age (zL CX0 P w K mg base N qual (je st) f Kc A Ko s H E) (jG st) T):
  FnOk P w K mg base CX0 (k+1) f fd ps (Q5 K ps.length (qB N T)):=by
 with_unfolding_all
  obtain⟨oc,od,kV,doc,pm,an,Kc,ct,osl,rfl,lk,hcd⟩:=F.ex;refine ahl lk hcd S (fun vs H Q E h=>?_) fun A Ko s H vs Q E s1 hr h I=>?_
  ·obtain⟨ds,μ,R,h1,h2,_⟩:=h
   rw[h2.length];exact h1
  ·obtain⟨ds,μ,R,h1,h2,h3,h4,h5,h6⟩:=h
   refine body Kc A Ko s H E hr s1 (L2.zj N vs) H _ I ⟨jI N ds,μ,_,zS h2,h3,h4,fun o μ' r=>?_⟩;cases o with
   |rt d=>exact fun v H' sA rv c=>h5 d μ' r v H' sA rv c
   |nx ρ=>exact fun σ H' sA e c=>h5 .none μ' r .non H' sA rfl c
   |bk ρ=>exact r.elim
   |ct ρ=>exact r.elim
   |er c=>exact(h6 c μ' r).elim
noncomputable def Jf(K:Fg)(x m qual:Str)(st:Stmt):Prop:=
 ∃(C f:Addr) (oc:Value) (od an:Option Addr) (kV doc pm Kc ct:Value) (osl:Array (Option Value)),PySem.W.nsIn K mainGlobals x=some (some (.ref C))/\PySem.W.findIn K (.ref C) m=some (some (.ref f))/\PySem.W.isFn K (.ref f)=true/\
  K.lookup f=some ⟨oc,od,.func (PySem.W.fnOf m qual (zZ st) (jG st) (je st) .none kV doc pm an Kc ct),osl⟩/\PySem.W.codeIn K Kc qual=true/\PySem.W.keepIn K (.ref f)=true
theorem zp{x m qual:Str}{st:Stmt}{C f:Addr}{oc:Value}{od an:Option Addr}{kV doc pm Kc ct:Value}{osl:Array (Option Value)}(a:PySem.W.nsIn K mainGlobals x=some (some (.ref C)))(b:PySem.W.findIn K (.ref C) m=some (some (.ref f)))(i:PySem.W.isFn K (.ref f)=true)
  (l:K.lookup f=some ⟨oc,od,.func (PySem.W.fnOf m qual (zZ st) (jG st) (je st) .none kV doc pm an Kc ct),osl⟩) (c:PySem.W.codeIn K Kc qual=true) (k:PySem.W.keepIn K (.ref f)=true):Jf K x m qual st:=
 ⟨C,f,oc,od,an,kV,doc,pm,Kc,ct,osl,a,b,i,l,c,k⟩
noncomputable def ahq(K:Fg)(x:Str):Prop:=∃C,PySem.W.nsIn K mainGlobals x=some (some (.ref C))/\Cls K C/\PySem.W.makesIn K C=true/\PySem.W.keepIn K (.ref C)=true
theorem anO{x:Str}{C:Addr}(a:PySem.W.nsIn K mainGlobals x=some (some (.ref C)))(b:PySem.W.plainGet K C Str.empty=true)(c:PySem.W.hasDictIn K C=true)(d:PySem.W.plainOver K C=true)(e:PySem.W.findIn K (.ref C) "__setattr__"=some (some (.builtin "object.__setattr__")))
  (f:PySem.W.makesIn K C=true) (g:PySem.W.keepIn K (.ref C)=true):ahq K x:=⟨C,a,⟨b,c,d,e⟩,f,g⟩
theorem anP{x f:Str}{C:Addr}(T:ahq K x)(a:PySem.W.nsIn K mainGlobals x=some (some (.ref C)))(b:PySem.W.findIn K (.ref C) f=some none):zN K x f:=fun C' h=>by
 obtain⟨D,d1,d2,_⟩:=T;rw[a]at h;cases h;rw[a]at d1;cases d1;exact⟨d2,b⟩
noncomputable abbrev j9(x qual:Str)(st:Stmt)(ps:List Str):Prop:=∀(kV doc pm:Value) (an:Option Addr) (Kc ct:Value) (us:List Value),us.length=ps.length->bindArgs (PySem.W.fnOf x qual (zZ st) (jG st) (je st) .none kV doc pm an Kc ct) ⟨us,[]⟩=pure (ps.zip us)
theorem Jf.met{x m qual:Str}{st:Stmt}{ps:List Str}{k n:Nat}{g:GC3}(T:Jf K x m qual st)(Tc:ahq K x)(hb:j9 m qual st ps)
  (F:∀(f:Addr) (fd:FuncData),Fun K m qual st f fd->FnOk P w K mg base (CXt P w) k f fd ps (aeX K mg n g)):qY P w K mg base x m ps k n g:=by
 obtain⟨C,f,oc,od,an,kV,doc,pm,Kc,ct,osl,a,b,i,l,c,kp⟩:=T;obtain⟨C',a',cl,_⟩:=Tc;rw[a]at a';cases a';have F1:=QO (st:=st) l c kp;exact⟨C,f,_,a,cl,⟨b,i,kp⟩,F f _ F1,F1.binds hb⟩
theorem Jf.mak{h:Heap}{x qual:Str}{st:Stmt}{ps:List Str}{k n:Nat}{g:GC3}(T:Jf K x "__init__" qual st)(Tc:ahq K x)(X:K.In h)(G:h.Ns mainGlobals mg)(hb:j9 "__init__" qual st ps)
  (F:∀(f:Addr) (fd:FuncData),Fun K "__init__" qual st f fd->FnOk P w K mg base (CXt P w) k f fd ps (aeX K mg n g)):anK P w K mg base x ps k n g:=by
 obtain⟨C,f,oc,od,an,kV,doc,pm,Kc,ct,osl,a,b,i,l,c,kp⟩:=T;obtain⟨C',a',cl,mk,kc⟩:=Tc;rw[a]at a';cases a';have F1:=QO (st:=st) l c kp;exact⟨C,f,_,a,PySem.W.mg_of X G a,⟨mk,b,i,kc⟩,F f _ F1,F1.binds hb⟩
theorem jP.cal0{h:Heap}{x:Str}{st:Stmt}{ps:List Str}{k n:Nat}{g:GC3}(T:jP K x st)(X:K.In h)(G:h.Ns mainGlobals mg)
  (hb:jt x st ps) (F:∀(f:Addr) (fd:FuncData),Fun K x x st f fd->FnOk P w K mg base CX0 k f fd ps (Q5 K n g)):abM P w K mg base x ps k n g:=by
 obtain⟨f,oc,od,an,kV,doc,pm,Kc,ct,osl,a,l,c,kp⟩:=T;have F1:=QO (st:=st) l c kp;exact⟨f,_,F f _ F1,PySem.W.mg_of X G a,kp,F1.binds hb⟩
end
section
variable {X:Cx}{e a b tg src:Expr}{es:List Expr}{Tr:TR (LP)}{S:TRS}{body:List Stmt}{pos:Pos}
end
section
variable {X:Cx}{e a b c tg src:Expr}{es:List Expr}{Ta Tb:TR PyData}{Tr:TR (LP)}{S:TRS}{body:List Stmt}{pos:Pos}{x:Str}
end
noncomputable def ajz(K:Fg)(x f:Str):Prop:=∃C,PySem.W.nsIn K mainGlobals x=some (some (.ref C))/\PySem.W.findIn K (.ref C) f=some none
theorem aeZ{K:Fg}{x f:Str}{C:Addr}(a:PySem.W.nsIn K mainGlobals x=some (some (.ref C)))(b:PySem.W.findIn K (.ref C) f=some none):ajz K x f:=⟨C,a,b⟩
theorem ajz.cls{K:Fg}{x f:Str}(h:ajz K x f)(T:ahq K x):zN K x f:=by
 obtain⟨C,a,b⟩:=h;exact anP T a b
section
variable {X:Cx}{tg src:Expr}{pos pos':Pos}
end
section
variable {X:Cx}
end
section
variable {X:Cx}
open Builtin Builtin.Str in
noncomputable def apR:LP->Option (List Str)
 | []=>some []
 |.str x::r=>(apR r).map (x::·)
 |_=>none
end
section
variable {X:Cx}{a b c:Expr}{fa fb fc:RP}{p2 pos:Pos}
end
section
variable {X:Cx}{e a b c tg src:Expr}{es:List Expr}{fa fb fc:RP}{pos:Pos}
end
section
variable {X:Cx}{e a b c tg src:Expr}{es:List Expr}{st:Stmt}{sts qg body:List Stmt}{fa fb fc:RP}{F G:RO}{pos:Pos}
end
noncomputable def sg(x:Str):List Nat:=x.cps.toList
section
variable {X:Cx}{e:Expr}{fa:RP}{tg:Expr}
end
section
variable {X:Cx}
end
section
variable {prog:Program}{w:World}{A:Around}{E:Value->SP0}
end
section
variable {X:Cx}{es:List Expr}{pos:Pos}
end
section
variable {X:Cx}{a b:Expr}{fa fb:RP}{pos p1 p2 p3:Pos}{j:Nat}
end
section
variable {X:Cx}
end
section
variable {X:Cx}{e a b c:Expr}{pos:Pos}
end
section
variable {X:Cx}{e a b c o:Expr}{pos:Pos}{Ta Tb To:TR PyData}
end
section
variable {X:Cx}{e o:Expr}{es:List Expr}{To:TR PyData}{Tr:TR (LP)}{pos apos:Pos}{x m:Str}
noncomputable def aoL(x m:Str)(g:GC3)(n:Nat)(od:PyData):TR PyData:=fun _ μ R=>(∃a fs,od=jM a/\μ a=some (.ins x fs)/\fs.lookup m=none)/\[od].length=n/\g [od] μ (ari R)
end
section
variable {X:Cx}{e a b c o:Expr}{pos p2:Pos}{Ta Tb To:TR PyData}
end
section
variable {X:Cx}{e1 e2:Expr}{fa fb:RP}{pos:Pos}
end
section
variable {prog:Program}{w:World}{A:Around}{s:Shared}{E:Value->SP0}
noncomputable def apS(A:Around)(h:Heap):Prop:=∀v,A.handled=some v->∃(e:Addr) (o:Obj) (vs:Array Value),v= .ref e/\h.get? e=some o/\o.data= .fields vs/\vs[2]?=some .none
theorem adE:entryFor table "proto.unchain"=some Builtin.«proto.unchain»:=entryFor_of_tree (by kernel_rfl)
theorem agf{a:Addr}{oa:Obj}{ws:Array Value}{α:Type}{Q:α->SP0}(hq:apS A s.heap)(ha:s.heap.get? a=some oa)(hd:oa.data= .fields ws)(hs:2<ws.size)
  (h:∀h',Heap.SameBut a s.heap h'->(∃o vs,h'.get? a=some o/\o.cls=oa.cls/\o.data= .fields vs)->E (.ref a) { s with heap:=h' }):wpAny (model prog w) A (raiseNew (.ref a):Sem α) Q E s:=by
 simp only[raiseNew];refine wpAny_bind (wpAny_handled ?_);cases hh:A.handled with
 | none=>
  refine wpAny_bind (wpAny_pure (wpAny_throw ?_));exact h s.heap (Heap.SameBut.refl ..) ⟨oa,ws,ha,rfl,hd⟩
 | some v=>
  obtain⟨e,o,vs,rfl,he,hde,h2⟩:=hq v hh;show wpAny _ _ (if (Value.ref e != Value.ref a)=true then _ else _) _ _ s;by_cases hne:(Value.ref e != Value.ref a)=true
  ·rw[if_pos hne]
   refine wpAny_bind ((wpAny_holding (wpAny_runValue (codeAny_builtin adE ?_))));show wpAny _ _ (field (.ref e) 2 >>= _) _ _ s;refine wpAny_bind (wpAny_field he hde h2 ?_);rw[if_pos (by decide)];refine wpAny_pure ?_;refine wpAny_bind (m:=setField (.ref a) 2 (.ref e)) (wpAny_setField (M:=model prog w) (A:=A) ha hd hs ?_);refine wpAny_throw ?_;exact h _ (Heap.SameBut.update ..) ⟨_,_,Heap.get?_update_self _ ha (Obj.isFreed_of_fields (Obj.data_mapFields hd _)),Obj.cls_mapFields ..,Obj.data_mapFields hd _⟩
  ·rw[if_neg hne]
   refine wpAny_throw ?_;exact h s.heap (Heap.SameBut.refl ..) ⟨oa,ws,ha,rfl,hd⟩
end
section
variable {prog:Program}{w:World}{A:Around}{s:Shared}{E:Value->SP0}
noncomputable def alu(A:Around)(h:Heap)(it:Addr):Prop:=∀v,A.handled=some v->∃(e:Addr) (o:Obj) (vs:Array Value),v= .ref e/\e≠it/\h.get? e=some o/\o.data= .fields vs/\vs[2]?=some .none
theorem aaC{it t:Addr}{i:Nat}{items}{Q:Option Value->SP0}(hq:alu A s.heap it)
  (hit:s.heap.IsTupleIter it t i) (ht:s.heap.IsTuple t items) (hx:items[i]?=none)
  (hQ:∀h',Heap.ExtBut it s.heap h'->Q none { s with heap:=h' }):wpAny (model prog w) A (pyNext (.ref it)) Q E s:=by
 obtain⟨o,ho,hc,hd⟩:=id hit;obtain⟨ol,hol,_,nl,hdl⟩:=ht;unfold pyNext
 refine wpAny_bind (wpAny_attempt (wpAny_callSpecial?_slot (name:=Str.ofString "__next__") hit.typeIs F.slot_tuple_iterator_next
  (wpAny_call_entry F.slot_tuple_iterator_next hit.typeIs F.entry_tuple_iterator_next ?_ (F.args_tuple_iterator_next_1 _))))
 show wpAny _ _ (field (.ref it) 0 >>= _) _ _ s;refine wpAny_bind (wpAny_field ho hd (x:= .ref t) rfl ?_);show wpAny _ _ (if (Value.ref t==Value.none)=true then _ else _) _ _ s;rw[if_neg (show ¬ ((Value.ref t==Value.none)=true) from Bool.false_ne_true)];show wpAny _ _ (field (.ref it) 1 >>= _) _ _ s;refine wpAny_bind (wpAny_field ho hd (x:= .int i 0) rfl ?_);show wpAny _ _ (seqItems? (.ref t) >>= _) _ _ s;refine wpAny_bind (wpAny_seqItems hol hdl ?_);simp only[Int.toNat_natCast,hx];refine wpAny_bind (wpAny_rule (wpAny_bind (wpAny_setField ho hd (by simp) ?_)));show wpAny _ _ (newExc (.type "StopIteration") [] >>= _) _ _ _;refine wpAny_bind ?_;simp only[newExc,newTuple];refine wpAny_bind (wpAny_newObj_type ?_ (by size_fits));refine wpAny_bind (m:=firstArgMember _ _) (wpAny_of_eq (a:=Value.none) (by first|rfl | (simp only[firstArgMember];rfl)) ?_);refine wpAny_newObj_type ?_ (by size_fits);have q1:=Heap.get?_push_size ((s.heap.update it (Obj.mapFields (·.setIfInBounds 0 Value.none))).push { cls:= .type "tuple",data:= .seq #[] }) (o:={ cls:= .type "StopIteration",data:= .fields #[.ref (s.heap.update it (Obj.mapFields (·.setIfInBounds 0 Value.none))).objs.size,.none,.none,.none,.bool false,.none] }) rfl;have sb0:Heap.SameBut it s.heap (s.heap.update it (Obj.mapFields (·.setIfInBounds 0 Value.none))):=Heap.SameBut.update ..;refine agf ?_ q1 rfl (by simp) fun h' sb ⟨o',vs',g1,g2,g3⟩=>?_
 ·intro v hv
  obtain⟨e,oe,vs,rfl,ne,he,hde,h2⟩:=hq v hv;exact⟨e,oe,vs,rfl,Heap.get?_push_of_some _ (Heap.get?_push_of_some _ ((sb0.2 e ne).trans he)),hde,h2⟩
 ·refine wpAny_bind (wpAny_isInstance (T:="StopIteration") (b:=true) ⟨_,g1,g2⟩ isSubtype_stop ?_)
  refine wpAny_pure (hQ _ fun b ob hb e=>?_);have e1:=(sb0.2 b hb).trans e;have e2:=Heap.get?_push_of_some ({ cls:= .type "StopIteration",data:= .fields #[.ref (s.heap.update it (Obj.mapFields (·.setIfInBounds 0 Value.none))).objs.size,.none,.none,.none,.bool false,.none] }:Obj) (Heap.get?_push_of_some ({ cls:= .type "tuple",data:= .seq #[] }:Obj) e1);refine(sb.2 b ?_).trans e2;intro z;have lt:=Heap.lt_size (Heap.get?_push_of_some ({ cls:= .type "tuple",data:= .seq #[] }:Obj) e1);rw[z]at lt;exact Nat.lt_irrefl _ lt
end
noncomputable def QX(X:Cx):Prop:=∀v,X.A.handled=some v->∃(e:Addr) (o:Obj) (vs:Array Value),v= .ref e/\(e,o)∈X.pn/\o.data= .fields vs/\vs[2]?=some .none
theorem QX.b{X:Cx}{Kp:List (Addr×Obj)}{σ:St}{H:Hp}{s:Shared}{it:Addr}(q:QX X)(I:Inv X Kp σ H s)(hn:∀p∈X.pn,p.1≠it):alu X.A s.heap it:=fun v hv=>by
 obtain⟨e,o,vs,rfl,hp,hd,h2⟩:=q v hv;exact⟨e,o,vs,rfl,hn _ hp,(I.pin (e,o) (List.mem_append_left _ hp)).1,hd,h2⟩
end BX
end
section
namespace L2
open PySem PySem.Spec PyProof.Rows
section
variable {X:Cx}{tg:Expr}
structure TurnQ(P:Program)(w:World)(K:Fg)(tg:Expr)(J:It)(fp:List Addr)(it:Addr)(tn:Nat->Heap->Prop):Prop where
 mem:it∈fp
 obj:∀i h,tn i h->∀b∈fp,∃o,h.get? b=some o/\∀v,o.data ≠ .cell v
 keep:∀i h h',tn i h->(∀b∈fp,∀o,h.get? b=some o->h'.get? b=some o)->tn i h'
 item:∀(X:Cx),X.prog=P->X.w=w->X.K=K->BX.QX X->∀(i:Nat) (Kp:List (Addr×Obj)) (s:Shared) (σ:St) (H:Hp) (E:Value->SP0),Inv X Kp σ H s->(∀b∈fp,aa5 X Kp H b)->tn i s.heap->J.go i H->
  wpAny (model P w) X.A (pyNext (.ref it)) (fun r s1=>∃u,r=some u/\
   wpAny (model P w) X.A (letOwnedTupleGo tg (.ref it) u) (fun _ s2=>∃ x H',Inv X Kp σ H' s2/\jV x u/\J.yld i H x H'/\tn (i+1) s2.heap/\∀ b ∈ fp,H' b=none) E s1) E s
 done:∀(X:Cx),X.prog=P->X.w=w->X.K=K->BX.QX X->∀(i:Nat) (Kp:List (Addr×Obj)) (s:Shared) (σ:St) (H:Hp) (E:Value->SP0),Inv X Kp σ H s->(∀b∈fp,aa5 X Kp H b)->tn i s.heap->J.stop i H->
  wpAny (model P w) X.A (pyNext (.ref it)) (fun r s1=>r=none/\Inv X Kp σ H s1) E s
 self:∀(A:Around) (i:Nat) (s:Shared) (Q:Value->SP0) (E:Value->SP0),tn i s.heap->Q (.ref it) s->wpAny (model P w) A (pyIter (.ref it)) Q E s
noncomputable def asp(X:Cx)(Kp:List (Addr×Obj))(σ:St)(tg:Expr)(R:It->Hp->Prop)(itv:Value)(s2:Shared):Prop:=
 ∃(it:Addr) (fp:List Addr) (tn:Nat->Heap->Prop) (J:It) (H':Hp),itv= .ref it/\Inv X Kp σ H' s2/\TurnQ X.prog X.w X.K tg J fp it tn/\tn 0 s2.heap/\(∀b∈fp,aa5 X Kp H' b)/\R J H'
noncomputable def PIQ(X:Cx)(tg iter:Expr)(wi:TI):Prop:=
 ∀(Kp:List (Addr×Obj)) (s:Shared) (σ:St) (H:Hp) (R:It->Hp->Prop),Inv X Kp σ H s->wi σ H R->
  wpAny (model X.prog X.w) X.A (eval iter X.env) (fun v s1=>wpAny (model X.prog X.w) X.A (pyIter v) (asp X Kp σ tg R) X.xe s1) X.xe s
theorem agg{P:Program}{w:World}{K:Fg}{tg:Expr}(a it:Addr):TurnQ P w K tg (Itt K a) [it] it (fun i h=>h.IsTupleIter it a i) where
 mem:=by simp
 obj:=fun i h st b hb=>by
  have e:b=it:=by simpa using hb
  subst e;obtain⟨o,e,c,d⟩:=st;exact⟨o,e,fun v z=>by rw[d]at z;cases z⟩
 keep:=fun i h h' st k=>st.at fun o e=>k it (by simp) o e
 item:=by
  intro X hP hw hK hc i Kp s σ H E I hf st hg;subst hP hw hK;obtain⟨xs,x,hq,hx⟩:=hg;obtain⟨its,rv,p,hz⟩:=I.tuple hq;obtain⟨u,hu,ru⟩:=rv.get hx;obtain⟨f0,f1,f2,f3,f4,f5⟩:=hf it (by simp);refine wpAny_pyNext_tuple_item st (show s.heap.IsTuple a its.toArray from p) (x:=u) (by simpa using hu) fun h' st' sb=>?_;have I1:Inv X Kp σ H { s with heap:=h' }:=I.turned (t':=s.toks) (fun b o hb e=>(sb.2 b hb).trans e) f0 f1 f3 f4 f5;obtain⟨o,e,c,d⟩:=id st';exact⟨u,rfl,ah0 (s:={ s with heap:=h' }) e c d (by decide) ⟨x,H,I1,ru,⟨rfl,fun ys hy=>by rw[I.tuple_inj hy hq];exact hx⟩,st',fun b hb=>(hf b hb).1⟩⟩
 done:=by
  intro X hP hw hK hc i Kp s σ H E I hf st hg;subst hP hw hK;obtain⟨xs,hq,hx⟩:=hg;obtain⟨its,rv,p,hz⟩:=I.tuple hq;obtain⟨f0,f1,f2,f3,f4,f5⟩:=hf it (by simp);have hl:=rv.length;exact BX.aaC (hc.b I fun p hp=>f5 p (List.mem_append_left _ hp)) st (show s.heap.IsTuple a its.toArray from p) (by simp;omega) fun h' eb=>⟨rfl,I.turned (t':=s.toks) (fun b o hb e=>eb b o hb e) f0 f1 f3 f4 f5⟩
 self:=fun _ _ _ _ _ st h=>wpAny_pyIter_tupleiter st h
theorem anQ{l:Expr}{tl:TE}(hl:PE X l tl):PIQ X tg l (aqw X.K tl):=by
 intro Kp s σ H R I h;refine thn (hl Kp s σ H _ I h) fun v s1 ⟨x,H1,I1,r1,q1⟩=>?_;obtain⟨a,e,⟨xs,hq⟩,q⟩:=q1;subst e;cases r1;obtain⟨its,rv,p,hz⟩:=I1.tuple hq;refine wpAny_pyIter_tuple (show s1.heap.IsTuple a its.toArray from p) ?_;refine⟨s1.heap.objs.size,[s1.heap.objs.size],_,_,H1,rfl,I1.kept (t':=s1.toks) fun b o e=>Heap.get?_push_of_some _ e,agg a _,⟨_,Heap.get?_push_size _ rfl,rfl,rfl⟩,fun b hb=>?_,q⟩;have e:b=s1.heap.objs.size:=by simpa using hb
 subst e;exact I1.fpOk (Nat.le_refl _) (I1.hok.fresh (Nat.le_refl _))
theorem anR{iter:Expr}{body:List Stmt}{wi:TI}{g:TG}{tb:TS}{pos:Pos}(hp:PassesOwn (model X.prog X.w) X.A X.env X.xe)(hc:BX.QX X)(hi:PIQ X tg iter wi)(hg:PG X tg g)(hb:PSs X body tb)
  (hs:∀x,foldedSetIterable iter X.env x=pure x:=by intro _;rfl):PS X (.For tg iter body [] pos) (aqy wi g tb):=by
 intro Kp s σ H D I h;refine wpAny_For (thn (hi Kp s σ H _ I h) fun v s1 h1=>thn h1 fun itv s2 h2=>?_) hs;obtain⟨it,fp,tn,J,H2,e,I2,T,st2,f2,W,⟨m0,w0⟩,turn⟩:=h2;subst e;have stat:∀{H':Hp},(∀b∈fp,H' b=none)->∀b∈fp,aa5 X Kp H' b:=fun hn b hb=>⟨hn b hb,(f2 b hb).2⟩;refine codeAny_forLoop_any (fun n s'=>∃i σ' H',Inv X Kp σ' H' s'/\tn i s'.heap/\(∀b∈fp,H' b=none)/\W i n σ' H') ?_ m0 ⟨0,σ,H2,I2,st2,fun b hb=>(f2 b hb).1,w0⟩
 rintro n s3 ⟨i,σ3,H3,I3,st3,fr3,w3⟩
 rcases turn i n σ3 H3 w3 with ⟨stop,qn⟩ | ⟨go,N,hN,step⟩
 ·refine wpAny_passesOwn hp (thn (T.done X rfl rfl rfl hc i Kp s3 σ3 H3 X.xe I3 (stat fr3) st3 stop) fun r s4 ⟨hr,I4⟩=>?_)
  subst hr;exact wpAny_execs_nil ⟨σ3,H3,I4,qn⟩
 ·refine wpAny_passesOwn hp (thn (T.item X rfl rfl rfl hc i Kp s3 σ3 H3 X.xe I3 (stat fr3) st3 go) fun r s4 ⟨u,hr,h4⟩=>?_)
  subst hr;refine wpAny_passesOwn hp (thn h4 fun _ s5 ⟨x,H5,I5,r5,y5,st5,fr5⟩=>?_);have I5':=I5.pinned (stat fr5) (T.obj _ _ st5);refine wpAny_passesOwn hp (thn (hg _ s5 σ3 H5 x u _ I5' r5 (step x H5 y5)) fun _ s6 ⟨σ6,H6,I6,q6⟩=>?_);refine wpAny_passesOwn hp (thn (hb _ s6 σ6 H6 _ I6 q6) fun f s7 q7=>?_)
  have again:∀{σ7:St} {H7:Hp},Inv X (Kp++Z0 fp s5.heap) σ7 H7 s7->N σ7 H7->∃m,m<n/\∃i σ' H',Inv X Kp σ' H' s7/\tn i s7.heap/\(∀b∈fp,H' b=none)/\W i m σ' H':=fun {σ7 H7} I7 n7=>by
   obtain⟨m',hm,w7⟩:=hN σ7 H7 n7;refine⟨m',hm,i+1,σ7,H7,I7.unpinned,T.keep _ _ _ st5 fun b hb o e=>(I7.pin (b,o) (List.mem_append_right _ (List.mem_append_right _ (qU hb e)))).1,fun b hb=>?_,w7⟩;obtain⟨o,e,d⟩:=T.obj _ _ st5 b hb;exact(I7.pin (b,o) (List.mem_append_right _ (List.mem_append_right _ (qU hb e)))).2.1
  cases f with
  |next=>obtain⟨σ7,H7,I7,n7⟩:=q7;exact again I7 n7
  |cont=>obtain⟨σ7,H7,I7,n7⟩:=q7;exact again I7 n7
  |brk=>obtain⟨σ7,H7,I7,q7⟩:=q7;exact⟨σ7,H7,I7.unpinned,q7⟩
  |ret v=>obtain⟨x7,σ7,H7,I7,r7,q7⟩:=q7;exact⟨x7,σ7,H7,I7.unpinned,r7,q7⟩
end
end L2
end
section
namespace BX
open PySem PySem.Spec L2
open PyProof.Rows hiding St
section
variable {X:Cx}{e a b c tg src:Expr}{es:List Expr}{st:Stmt}{sts qg:List Stmt}{fa fb fc:RP}{F G:RO}{pos:Pos}
@[irreducible] noncomputable def ark(X:Cx)(tg src:Expr)(fi:Rho->Option (LP)):Prop:=PIQ X tg src (tDI X.K fi)
theorem PIQ.imp{w w':TI}(h:PIQ X tg e w)(k:∀σ H R,w' σ H R->w σ H R):PIQ X tg e w':=fun Kp s σ H R I q=>h Kp s σ H R I (k σ H R q)
theorem alv(h:PD X e fa):ark X tg e (itT fa):=by
 with_unfolding_all
  refine PIQ.imp (anQ h) fun σ H R ⟨ρ,ds,en,q,k⟩=>?_;cases h1:fa ρ with
  |none=>simp[itT,h1]at q
  | some d=>
   cases d with
   | tuple es=>
    have:es=ds:=by simpa[itT,h1,QR]using q
    subst this;refine⟨ρ,_,en,h1,fun v H1 s1 r1=>?_⟩;obtain⟨a,xs,e1,e2,e3⟩:=r1;refine⟨a,e1,⟨xs,e2⟩,k _ H1 s1 fun i H2 s2=>⟨fun hi=>?_,fun hi=>?_,fun x H' y=>?_⟩⟩
    ·exact⟨xs,xs[i]'(by rw[e3.length];exact hi),jv.tup s2 e2,by simp[e3.length,hi]⟩
    ·exact⟨xs,jv.tup s2 e2,by rw[e3.length];exact hi⟩
    ·obtain⟨z1,z2⟩:=y
     subst z1;refine⟨jp.refl _,fun d hd=>?_⟩;obtain⟨y,e4,e5⟩:=(Reps.monoA s2 _ _ e3).get hd;have:=z2 xs (jv.tup s2 e2);rw[e4]at this;cases this;exact e5
   |_=>simp[itT,h1,QR]at q
theorem alw{body:List Stmt}{fi:Rho->Option (LP)}{ga:PyData->Rho->Option Rho}(hp:PassesOwn (model X.prog X.w) X.A X.env X.xe)(hc:QX X)(hi:ark X tg src fi)(hg:PGD X tg ga)(hb:aal X body F)
  (hs:∀x,foldedSetIterable src X.env x=pure x:=by intro _;rfl):PSD X (.For tg src body [] pos) (ZP fi ga F):=by
 with_unfolding_all
  refine PS.imp (anR hp hc hi hg hb hs) fun D σ H ⟨ρ,o,en,q,k⟩=>?_;cases h1:fi ρ with
  |none=>simp[ZP,h1]at q
  | some ds=>
   have q':jY ga F ds ρ=some o:=by simpa[ZP,h1]using q
   refine⟨ρ,ds,en,h1,fun J H1 s1 Y=>?_⟩;refine⟨fun i m σ H2=>m=ds.length-i/\i<=ds.length/\jp H1 H2/\∃ρ2,EnvR X.K H2 ρ2 σ/\jY ga F (ds.drop i) ρ2=some o,⟨ds.length,by simp,Nat.zero_le _,jp.refl _,ρ,en.mono s1,by simpa using q'⟩,?_⟩
   rintro i m σ2 H2 ⟨rfl,hi,s2,ρ2,en2,q2⟩
   obtain⟨g1,g2,g3⟩:=Y i H2 (jp.a s2);by_cases hlt:i<ds.length
   ·right
    have hd:ds.drop i=ds[i]::ds.drop (i+1):=List.drop_eq_getElem_cons hlt;rw[hd]at q2;refine⟨g1 hlt,fun σ3 H3=>jp H1 H3/\∃ρ3,EnvR X.K H3 ρ3 σ3/\jY ga F (ds.drop (i+1)) ρ3=some o,fun σ3 H3 ⟨a1,ρ3,a2,a3⟩=>⟨ds.length-(i+1),by omega,rfl,hlt,a1,ρ3,a2,a3⟩,fun x H3 y=>?_⟩;obtain⟨s3,r3⟩:=g3 x H3 y;have r3':=r3 ds[i] (by simp[hlt]);cases h4:ga ds[i] ρ2 with
    |none=>simp[jY,h4]at q2
    | some ρ4=>
     refine⟨ρ2,ds[i],ρ4,en2.mono s3,r3',h4,fun σ5 H5 s5 en5=>?_⟩;cases h5:F ρ4 with
     |none=>simp[jY,h4,h5]at q2
     | some p=>
      refine⟨ρ4,p,en5,h5,?_⟩;have s15:=s2.trans (s3.trans s5);cases p with
      |nx ρ6=>exact fun σ6 H6 s6 en6=>⟨s15.trans s6,ρ6,en6,by simpa[jY,h4,h5]using q2⟩
      |ct ρ6=>exact fun σ6 H6 s6 en6=>⟨s15.trans s6,ρ6,en6,by simpa[jY,h4,h5]using q2⟩
      | bk ρ6=>
       have:Out.nx ρ6=o:=by simpa[jY,h4,h5]using q2
       subst this;exact fun σ6 H6 s6 en6=>k σ6 H6 (s1.trans (s15.trans s6)) en6
      | rt d=>
       have:Out.rt d=o:=by simpa[jY,h4,h5]using q2
       subst this;exact fun v H6 s6 r6=>k v H6 (s1.trans (s15.trans s6)) r6
   ·left
    have he:i=ds.length:=by omega
    have hn:ds.drop i=[]:=by rw[he];simp
    rw[hn]at q2;have:Out.nx ρ2=o:=by simpa[jY]using q2
    subst this;exact⟨g2 (by omega),k σ2 H2 (s1.trans s2) en2⟩
end
noncomputable def alx(A:Around)(Ko:List Env)(H:Hp)(h:Heap):Prop:=∀v,A.handled=some v->∃(e:Addr) (o:Obj) (vs:Array Value),v= .ref e/\h.get? e=some o/\o.data= .fields vs/\vs[2]?=some .none/\H e=none/\e∉frs Ko
theorem QX.h{X:Cx}{Kp:List (Addr×Obj)}{σ:St}{H:Hp}{s:Shared}(q:QX X)(I:Inv X Kp σ H s):alx X.A X.stack H s.heap:=fun v hv=>by
 obtain⟨e,o,vs,rfl,hp,hd,h2⟩:=q v hv;obtain⟨p1,p2,p3,p4,p5⟩:=I.pin (e,o) (List.mem_append_left _ hp);exact⟨e,o,vs,rfl,p1,hd,h2,p2,fun z=>(List.mem_cons.mp (I.stkSub e z)).elim p3 p4⟩
noncomputable def pnA(A:Around)(h:Heap):List (Addr×Obj):=match A.handled with
 | some (.ref e)=>(match h.get? e with
  | some o=>[(e,o)]
  | none=>[])
 |_=>[]
theorem apT{A:Around}{h:Heap}{p:Addr×Obj}(hp:p∈pnA A h):A.handled=some (.ref p.1)/\h.get? p.1=some p.2:=by
 unfold pnA at hp;split at hp
 ·rename_i e he
  split at hp
  ·rename_i o ho
   obtain rfl:=List.mem_singleton.mp hp;exact⟨he,ho⟩
  ·cases hp
 ·cases hp
theorem apU{A:Around}{h:Heap}{e:Addr}{o:Obj}(he:A.handled=some (.ref e))(ho:h.get? e=some o):(e,o)∈pnA A h:=by
 unfold pnA;rw[he]
 show(e,o)∈(match h.get? e with
  | some o=>[(e,o)]
  | none=>[])
 rw[ho];exact List.mem_singleton.mpr rfl
structure FnQ(P:Program)(w:World)(K:Fg)(mg:SV)(base:Heap)(k:Nat)(f:Addr)(fd:FuncData)(ps:List Str)(sp:Sp):Prop where
 len:∀vs H Q E,sp vs H Q E->vs.length=ps.length
 run:∀(A:Around) (Ko:List Env) (s:Shared) (H:Hp) (args:Args) (us:List Value) (vs:List V) (Q:VK) (E:XK),RoomH k A->alx A Ko H s.heap->Env0 P w K mg base A Ko s H->BindsTo s fd args (ps.zip us)->jH vs us->sp vs H Q E->
  codeAny (model P w) A (.call (.ref f) args) (CR CX0 Ko P w H s Q E) s
noncomputable abbrev cxQ(P:Program)(w:World)(K:Fg)(mg:SV)(base:Heap)(N:List Str)(qual:Str)(scope:Scope)(f:Addr)(cd:Value)(A:Around)(Ko:List Env)(s:Shared)(H:Hp)(E:XK):Cx:=
 { cxH P w K mg base N qual scope f cd A Ko s H E with pn:=pnA A s.heap }
section
variable {P:Program}{w:World}{K:Fg}{mg:SV}{base:Heap}
theorem arl{sp:Sp}{x qual:Str}{st:Stmt}{f:Addr}{fd:FuncData}{N ps:List Str}{k:Nat}(F:Fun K x qual st f fd)(S:FnScope N ps (je st))(len:∀vs H Q E,sp vs H Q E->vs.length=ps.length)
  (body:∀(Kc:Value) (A:Around) (Ko:List Env) (s:Shared) (H:Hp) (vs:List V) (Q:VK) (E:XK),RoomH k (A.deeper (envOfC qual (je st) s.heap.objs.size f Kc))->QX (cxQ P w K mg base N qual (je st) f Kc A Ko s H E)->sp vs H Q E->
   ∃ t:TS,PSs (cxQ P w K mg base N qual (je st) f Kc A Ko s H E) (jG st) t/\t { nx:=fun _ H'=>Q .non H',rt:=Q } (L2.zj N vs) H):
  FnQ P w K mg base (k+1) f fd ps sp:=by
 with_unfolding_all
  obtain⟨oc,od,kV,doc,pm,an,Kc,ct,osl,rfl,lk,hcd⟩:=F.ex;refine⟨len,fun A Ko s H args us vs Q E hr hq e0 hb r hsp=>?_⟩;have hl:=len _ _ _ _ hsp;have KX:K.In s.heap:=e0.mod.kin.keeps fun b o e=>(e0.bs b o e).1;have lim:s.heap.NoLimit:=e0.mod.nolimit.keeps fun b o e=>(e0.bs b o e).1
  have hkind:∀y∈ps.zip us,(je st).names.lookup y.1=some .local∨((je st).names.lookup y.1=some .cell/\((cellsFrom (s.heap.objs.size+1) (je st).names []).lookup y.1).isSome=true):=fun⟨n,v⟩ hy=>by
   rcases S.par n (List.of_mem_zip hy).1 with q | q
   ·exact .inl q
   ·exact .inr ⟨q,PySem.W.cellsFrom_some _ _ _ (.inl q)⟩
  have hdp:A.depth<recursionLimit:=by have:=hr.dp;omega
  refine codeAny_call_function hdp (KX _ _ lk) rfl S.co S.gen rfl (PySem.W.codeRec_of KX hcd) (hb _ _ _ _ ?_);refine wpAny_newFunctionEnv_cells S.kind hkind fun env he s1 x=>?_;subst he;refine⟨lim.keeps x.toInCall.keep,codeAny_func ?_⟩;have e1:Env0 P w K mg base { A with handled:=none } Ko s H:=⟨e0.frames,e0.mod,e0.bs,e0.bsz,e0.funs,e0.frf,e0.hok,e0.bare⟩;have I0:Inv (zL CX0 P w K mg base N qual (je st) f Kc { A with handled:=none } Ko s H E) [] (L2.zj N vs) H s1:=aa9 S rfl e1 hl r x;have I1:Inv (cxH P w K mg base N qual (je st) f Kc A Ko s H E) [] (L2.zj N vs) H s1:=Inv.asA I0 I0.ok.frames (fun z=>nomatch z)
  have I:Inv (cxQ P w K mg base N qual (je st) f Kc A Ko s H E) [] (L2.zj N vs) H s1:=by
   refine⟨⟨I1.ok.mod,I1.ok.kind,I1.ok.glob,I1.ok.blt,I1.ok.above,I1.ok.inj,I1.ok.has,I1.ok.cab,I1.ok.hd,I1.ok.frames,I1.ok.stk,I1.ok.exf,I1.ok.bs,I1.ok.bsz,I1.ok.noex,I1.ok.exfs,I1.ok.funs,I1.ok.frf⟩,I1.os,I1.bare,I1.base,I1.loc,I1.cell,I1.free,I1.freeC,fun p hp=>?_,I1.hok,I1.len⟩;have hp':p∈pnA A s.heap:=by simpa using hp
   obtain⟨g1,g2⟩:=apT hp';obtain⟨e,o,vs0,he,q1,q2,q3,q4,q5⟩:=hq _ g1;cases he;rw[g2]at q1;cases q1;exact⟨x.toInCall.keep _ _ g2,q4,fun z=>absurd (Heap.lt_size g2) (by rw[z];exact Nat.lt_irrefl _),q5,fun v z=>by rw[q2]at z;cases z⟩
  have qx:QX (cxQ P w K mg base N qual (je st) f Kc A Ko s H E):=fun v hv=>by
   obtain⟨e,o,vs0,he,q1,q2,q3,q4,q5⟩:=hq v hv;subst he;exact⟨e,o,vs0,rfl,apU hv q1,q2,q3⟩
  obtain⟨t,ht,t0⟩:=body Kc A Ko s H vs Q E (hr.deeper _) qx hsp;refine wpAny_mono (ht [] s1 (L2.zj N vs) H { nx:=fun _ H'=>Q .non H',rt:=Q } I t0) (fun fl s' hs=>?_) fun e s' hs=>hs.elim
  have fin:∀{σ':St} {H':Hp} {v:V} {u:Value},Inv (cxQ P w K mg base N qual (je st) f Kc A Ko s H E) [] σ' H' s'->jV v u->Q v H'->CE Ko P w H s Q u s':=
   fun {σ' H' v u} J rv q=>⟨v,H',J.os,J.bare,J.base,J.hok,rv,q⟩
  cases fl with
  | ret u=>
   obtain⟨v,σ',H',J,rv,q⟩:=hs;exact fin J rv q
  | next=>
   obtain⟨σ',H',J,q⟩:=hs;exact fin (v:=V.non) (u:=Value.none) J rfl q
  | brk=>
   obtain⟨_,_,_,q⟩:=hs;exact False.elim q
  | cont=>
   obtain⟨_,_,_,q⟩:=hs;exact False.elim q
theorem aoM{x qual:Str}{st:Stmt}{f:Addr}{fd:FuncData}{N ps:List Str}{k:Nat}{B:RO}(F:Fun K x qual st f fd)(S:FnScope N ps (je st))
  (body:∀(Kc:Value) (A:Around) (Ko:List Env) (s:Shared) (H:Hp) (E:XK),RoomH k (A.deeper (envOfC qual (je st) s.heap.objs.size f Kc))->QX (cxQ P w K mg base N qual (je st) f Kc A Ko s H E)->aal (cxQ P w K mg base N qual (je st) f Kc A Ko s H E) (jG st) B):
  FnQ P w K mg base (k+1) f fd ps (Pur K ps.length (jD N ps.length B)):=by
 with_unfolding_all
  refine arl F S (fun vs H Q E h=>?_) fun Kc A Ko s H vs Q E hr qx h=>?_
  ·obtain⟨ds,d,h1,h2,_⟩:=h
   rw[h2.length];exact h1
  ·obtain⟨ds,d,h1,h2,h3,h4⟩:=h
   unfold jD at h3;rw[if_pos h1]at h3;cases hB:B (jI N ds)with
   |none=>rw[hB]at h3;cases h3
   | some o=>
    rw[hB]at h3
    exact⟨_,body Kc A Ko s H E hr qx,jI N ds,o,zS h2,hB,by
     cases o with
     | rt c=>cases h3; exact fun v H' sm r=>h4 v H' sm r
     | nx ρ=>cases h3; exact fun σ H' sm e=>h4 .non H' sm rfl
     | bk ρ=>cases h3
     | ct ρ=>cases h3⟩
theorem aly{x qual:Str}{st:Stmt}{f:Addr}{fd:FuncData}{N ps:List Str}{k:Nat}{T:TRS}(F:Fun K x qual st f fd)(S:FnScope N ps (je st))
  (body:∀(Kc:Value) (A:Around) (Ko:List Env) (s:Shared) (H:Hp) (E:XK),RoomH k (A.deeper (envOfC qual (je st) s.heap.objs.size f Kc))->QX (cxQ P w K mg base N qual (je st) f Kc A Ko s H E)->ZR (cxQ P w K mg base N qual (je st) f Kc A Ko s H E) (jG st) T):
  FnQ P w K mg base (k+1) f fd ps (Q5 K ps.length (qB N T)):=by
 with_unfolding_all
  refine arl F S (fun vs H Q E h=>?_) fun Kc A Ko s H vs Q E hr qx h=>?_
  ·obtain⟨ds,μ,R,h1,h2,_⟩:=h
   rw[h2.length];exact h1
  ·obtain⟨ds,μ,R,h1,h2,h3,h4,h5,h6⟩:=h
   refine⟨_,body Kc A Ko s H E hr qx,jI N ds,μ,_,zS h2,h3,h4,fun o μ' r=>?_⟩;cases o with
   |rt d=>exact fun v H' sA rv c=>h5 d μ' r v H' sA rv c
   |nx ρ=>exact fun σ H' sA e c=>h5 .none μ' r .non H' sA rfl c
   |bk ρ=>exact r.elim
   |ct ρ=>exact r.elim
   |er c=>exact(h6 c μ' r).elim
end
noncomputable def JR(P:Program)(w:World)(K:Fg)(mg:SV)(base:Heap)(x:Str)(ps:List Str)(k n:Nat)(g:LP->OP):Prop:=
 ∃(f:Addr) (fd:FuncData),FnQ P w K mg base k f fd ps (Pur K n g)/\mg x=some (.ref f)/\PySem.W.keepIn K (.ref f)=true/\zB K fd ps []
noncomputable def agh(P:Program)(w:World)(K:Fg)(mg:SV)(base:Heap)(x m:Str)(ps:List Str)(k n:Nat)(g:GC3):Prop:=
 ∃(C f:Addr) (fd:FuncData),PySem.W.nsIn K mainGlobals x=some (some (.ref C))/\Cls K C/\Meth K C m f/\FnQ P w K mg base k f fd ps (Q5 K n g)/\zB K fd ps []
section
variable {X:Cx}{e o:Expr}{es:List Expr}{pos apos:Pos}{To:TR PyData}{x m:Str}
theorem alz{Kp:List (Addr×Obj)}{σ:St}{H:Hp}{s:Shared}{Q:VK}{us:List Value}{vs:List V}{k:Nat}{f:Addr}{fd:FuncData}{ps:List Str}{sp:Sp}(q:QX X)(F:FnQ X.prog X.w X.K X.mg X.base k f fd ps sp)(hr:RoomH k X.A)(hb:zB X.K fd ps [])(I:Inv X Kp σ H s)(r:jH vs us)(h:sp vs H Q (fun _ _ _=>False)):wpAny (model X.prog X.w) X.A (call (.ref f) us) (EP X Kp σ Q) X.xe s:=by
 with_unfolding_all
  have hl:us.length=ps.length:=by rw[←r.length];exact F.len _ _ _ _ h
  have hb':=hb s us I.kIn (by rw[List.append_nil];exact hl);rw[List.append_nil]at hb';refine wpAny_call (codeAny_mono (F.run X.A X.stack s H ⟨us,[]⟩ us vs Q (fun _ _ _=>False) hr (q.h I) I.env0 hb' r h) fun r s' hq=>?_);cases r with
  |error e=>exact(acG [] σ H s e s' (I.pins_of fun p hp=>I.pin p (List.mem_append_left _ (by simpa using hp))) hq:X.xe e s')
  | ok fl=>
   cases fl with
   |ret u=>exact I.after hq
   |next=>exact False.elim hq
   |brk=>exact False.elim hq
   |cont=>exact False.elim hq
theorem alA{k j n:Nat}{ps:List Str}{g:LP->OP}{x:Str}{p:Pos}{fr:Rho->Option (LP)}(q:QX X)(c:JR X.prog X.w X.K X.mg X.base x ps k n g)(hr:RoomH j X.A)(hkj:k<=j)(ha:PAD X (e::es) fr)
  (hl:∀(ρ:Rho) (ds:LP),fr ρ=some ds->ds.length=n) (hn:(e::es).length=n:=by rfl) (hg:Gl X x:=by rfl) (hdb:(x==("__debug__":Str))=false:=by decide) (he:starEach (e::es) X.env=(false,eval e X.env)::starEach es X.env:=by rfl)
  (hpl:(backTo pos (starEach es X.env)).any (·.1)=false:=by rfl):PD X (.Call (.Name x p) (e::es) [] pos) (jB g fr):=by
 with_unfolding_all
  obtain⟨f,fd,F,hm,hk,hb⟩:=c
  have pc:PE X (.Call (.Name x p) (e::es) [] pos) (ah4 (Pur X.K n g) [] (fun _ _ _=>False) (tDA X.K fr)):=by
   intro Kp s σ H Q I h;refine wpAny_Call_Name_kw (Jn I hg hm ?_ hdb);refine PySem.W.callWith_K (h₀:=X.base) I.ok.mod.kin hk (thn (ha pos Kp s σ H _ I h) fun us s1 ⟨vs,H1,I1,r,q1⟩=>⟨I1.kIn,?_⟩) he hpl;have q':Pur X.K n g (vs++[]) H1 Q (fun _ _ _=>False):=q1;rw[List.append_nil]at q';exact alz q F (hr.mono hkj) hb I1 r q'
  refine PE.imp pc fun σ H Q ⟨ρ,d,en,q,k⟩=>?_;cases h1:fr ρ with
  |none=>simp[jB,h1]at q
  | some ds=>
   refine⟨ρ,ds,en,h1,fun vs H1 s1 r1=>?_⟩;exact⟨ds,d,by rw[hl ρ ds h1],by rw[List.append_nil];exact r1,by simpa[jB,h1]using q,fun v H' s r=>k v H' (s1.trans s) r⟩
theorem ajA{k j n:Nat}{ps:List Str}{g:LP->OP}{p:Pos}{Tr:TR (LP)}(q:QX X)(c:JR X.prog X.w X.K X.mg X.base x ps k n g)(hr:RoomH j X.A)(hkj:k<=j)(ha:PAC X (e::es) Tr)
  (hg:Gl X x:=by rfl) (hdb:(x==("__debug__":Str))=false:=by decide) (he:starEach (e::es) X.env=(false,eval e X.env)::starEach es X.env:=by rfl)
  (hpl:(backTo pos (starEach es X.env)).any (·.1)=false:=by rfl):PEC X (.Call (.Name x p) (e::es) [] pos) (bindC Tr fun ds=>Je (if ds.length=n then g ds else none)):=by
 with_unfolding_all
  obtain⟨f,fd,F,hm,hk,hb⟩:=c
  have pc:PE X (.Call (.Name x p) (e::es) [] pos) (ah4 (Pur X.K n g) [] (fun _ _ _=>False) (tCA X Tr)):=by
   intro Kp s σ H Q I h;refine wpAny_Call_Name_kw (Jn I hg hm ?_ hdb);refine PySem.W.callWith_K (h₀:=X.base) I.ok.mod.kin hk (thn (ha pos Kp s σ H _ I h) fun us s1 ⟨vs,H1,I1,r,q1⟩=>⟨I1.kIn,?_⟩) he hpl;have q':Pur X.K n g (vs++[]) H1 Q (fun _ _ _=>False):=q1;rw[List.append_nil]at q';exact alz q F (hr.mono hkj) hb I1 r q'
  exact PE.imp pc fun σ H Q h=>(AtC.bind h).imp fun ds H1 _ ⟨s1,h1⟩ vs rv=>by
   obtain⟨d,hd,k⟩:=h1.ret;by_cases hn:ds.length=n
   ·rw[if_pos hn]at hd
    exact⟨ds,d,hn,by rw[List.append_nil];exact rv,hd,fun v H' s r=>k H' s v r⟩
   ·rw[if_neg hn]at hd;cases hd
theorem abo{k j n:Nat}{ps:List Str}{g:GC3}{pl:Sem Bool}(q:QX X)(C:agh X.prog X.w X.K X.mg X.base x m ps k n g)(hr:RoomH j X.A)(hkj:k<=j)(ho:PEC X o To)
  (ht:eval (.Call (.Attribute o m apos) [] [] pos) X.env=(do
   let ov ←eval o X.env
   standAt apos.atName
   let (f,first) ←holding [ov] (getMethod ov m pl)
   callWith pos f first (backTo pos (starEach [] X.env)) (backToKw pos (keywordEach [] X.env))):=by rfl):
  PEC X (.Call (.Attribute o m apos) [] [] pos) (bindC To (aoL x m g n)):=by
 with_unfolding_all
  intro Kp s σ H Q I h;obtain⟨C,f,fd,hC,hcls,hmeth,F,hb⟩:=C;refine PySem.W.methodCall_KW (pl:=pl) (thn (ho Kp s σ H (fun y H1=>∃od,Rep X.K H1 od y/\AtC X σ H1 (aoL x m g n od) fun d H'=>∀v,Rep X.K H' d v->Q v H') I ((AtC.bind h).imp fun od H1 _ ⟨s1,h1⟩ y ry=>⟨od,ry,h1⟩)) fun u s1 ⟨y,H1,I1,ry,od,rod,ρ,μ,R,en,cs,⟨⟨a,fs,hd,hm,hl⟩,hn,hG⟩,kk⟩=>?_) ht;subst hd;cases Rep.celOut rod;obtain rfl:u=Value.ref a:=ry;obtain⟨C',dx,vs,h1,h2,h3⟩:=cs a _ hm;rw[hC]at h1;cases h1;refine Qy I1 h2 hcls hmeth (h3.lookN hl) ?_;have sp:Q5 X.K n g [.ref a] H1 Q (fun _ _ _=>False):=⟨[jM a],μ,_,hn,⟨_,_,rfl,Rep.cel a,rfl⟩,cs,hG,fun d μ' q v H' sA rv c=>(kk (.ok d) μ' q:zQ X H1 (fun d H'=>∀v,Rep X.K H' d v->Q v H') (.ok d) μ') H' sA c v rv,fun c μ' z=>z⟩;exact PySem.W.callWith_K0 (first:=[.ref a]) I1.kIn hmeth.kp (alz (us:=[.ref a]) (vs:=[.ref a]) q F (hr.mono hkj) hb I1 (.cons rfl .nil) sp)
end
section
variable {P:Program}{w:World}{K:Fg}{mg:SV}{base:Heap}
theorem Jf.metQ{x m qual:Str}{st:Stmt}{ps:List Str}{k n:Nat}{g:GC3}(T:Jf K x m qual st)(Tc:ahq K x)(hb:j9 m qual st ps)
  (F:∀(f:Addr) (fd:FuncData),Fun K m qual st f fd->FnQ P w K mg base k f fd ps (Q5 K n g)):agh P w K mg base x m ps k n g:=by
 obtain⟨C,f,oc,od,an,kV,doc,pm,Kc,ct,osl,a,b,i,l,c,kp⟩:=T;obtain⟨C',a',cl,_⟩:=Tc;rw[a]at a';cases a';have F1:=QO (st:=st) l c kp;exact⟨C,f,_,a,cl,⟨b,i,kp⟩,F f _ F1,F1.binds hb⟩
theorem jP.calQ{h:Heap}{x:Str}{st:Stmt}{ps:List Str}{k n:Nat}{g:LP->OP}(T:jP K x st)(X:K.In h)(G:h.Ns mainGlobals mg)
  (hb:jt x st ps) (F:∀(f:Addr) (fd:FuncData),Fun K x x st f fd->FnQ P w K mg base k f fd ps (Pur K n g)):JR P w K mg base x ps k n g:=by
 obtain⟨f,oc,od,an,kV,doc,pm,Kc,ct,osl,a,l,c,kp⟩:=T;have F1:=QO (st:=st) l c kp;exact⟨f,_,F f _ F1,PySem.W.mg_of X G a,kp,F1.binds hb⟩
end
noncomputable def asq(X:Cx)(σ:St)(H:Hp)(μ:jy)(c:Str)(ev:Value)(s':Shared):Prop:=∃e C H',ev= .ref e/\X.mg c=some (.ref C)/\Inv X [] σ H' s'/\jv H H'/\j7 X.K H' μ/\Xc X H' s'.heap e C
noncomputable def aoN(x m:Str)(g:GC3)(n:Nat)(fo:RP)(fr:Rho->Option (LP))(ρ:Rho)(μ:jy)(R:Res PyData->jy->Prop):Prop:=
 ∃a fs ds,fo ρ=some (jM a)/\μ a=some (.ins x fs)/\fs.lookup m=none/\fr ρ=some ds/\ds.length+1=n/\g (jM a::ds) μ R
noncomputable def teF(X:Cx)(x m:Str)(g:GC3)(n:Nat)(fo:RP)(fr:Rho->Option (LP)):TE:=fun σ H Q=>∃ρ μ R,EnvR X.K H ρ σ/\j7 X.K H μ/\aoN x m g n fo fr ρ μ R/\
 (∀d μ',R (.ok d) μ'->∀v H',jv H H'->Rep X.K H' d v->j7 X.K H' μ'->Q v H')/\∀c μ',R (.er c) μ'->∀ev s',asq X σ H μ' c ev s'->X.xe ev s'
section
variable {X:Cx}{e o:Expr}{es:List Expr}{pos apos:Pos}{x m:Str}{fo:RP}{fr:Rho->Option (LP)}
theorem alB{k j n:Nat}{ps:List Str}{g:GC3}{pl:Sem Bool}(hxe:X.ex=[])(C:qY X.prog X.w X.K X.mg X.base x m ps k n g)(hr:Room j X.A)(hkj:k<=j)(ho:PD X o fo)(ha:PAD X (e::es) fr)
  (hst:starEach (e::es) X.env=(false,eval e X.env)::starEach es X.env:=by rfl) (hpl:(backTo pos (starEach es X.env)).any (·.1)=false:=by rfl)
  (ht:eval (.Call (.Attribute o m apos) (e::es) [] pos) X.env=(do
   let ov ←eval o X.env
   standAt apos.atName
   let (f,first) ←holding [ov] (getMethod ov m pl)
   callWith pos f first (backTo pos (starEach (e::es) X.env)) (backToKw pos (keywordEach [] X.env))):=by rfl):
  PE X (.Call (.Attribute o m apos) (e::es) [] pos) (teF X x m g n fo fr):=by
 with_unfolding_all
  intro Kp s σ H Q I ⟨ρ,μ,R,en,cs,⟨a,fs,ds,q1,hm,hl,q2,hn,hG⟩,kq,ke⟩;obtain⟨C,f,fd,hC,hcls,hmeth,F,hb⟩:=C;refine PySem.W.methodCall_KW (pl:=pl) (thn (ho Kp s σ H (fun y H1=>jp H H1/\Rep X.K H1 (jM a) y) I ⟨ρ,jM a,en,q1,fun v H1 s1 r1=>⟨s1,r1⟩⟩) fun u s1 ⟨y,H1,I1,ry,sm1,rod⟩=>?_) ht;cases Rep.celOut rod;obtain rfl:u=Value.ref a:=ry;have cs1:=cs.mono sm1;obtain⟨C',dx,vs,h1,h2,h3⟩:=cs1 a _ hm;rw[hC]at h1;cases h1;refine Qy I1 h2 hcls hmeth (h3.lookN hl) ?_;refine PySem.W.callWith_K (first:=[.ref a]) (h₀:=X.base) I.ok.mod.kin hmeth.kp (thn (ha pos Kp s1 σ H1 (fun ws H2=>jp H1 H2/\Reps X.K H2 ds ws) I1 ⟨ρ,ds,en.mono sm1,q2,fun ws H2 s2 r2=>⟨s2,r2⟩⟩) fun us s2 ⟨ws,H2,I2,r,sm2,rd⟩=>⟨I2.kIn,?_⟩) hst hpl;have cs2:=cs1.mono sm2;have s02:jv H H2:=jp.a (sm1.trans sm2)
  have sp:aeX X.K X.mg n g (.ref a::ws) H2 Q (fun cls _ H'=>∃c μ',X.mg c=some cls/\R (.er c) μ'/\jv H2 H'/\j7 X.K H' μ'):=
   ⟨jM a::ds,μ,R,by simpa using hn,(show Reps X.K H2 (jM a::ds) (V.ref a::ws) from⟨_,_,rfl,Rep.cel a,rd⟩),cs2,hG,fun d μ' q v H' sA rv c=>kq d μ' q v H' (s02.trans sA) rv c,fun c μ' q C H' hC sA c'=>⟨c,μ',hC,q,sA,c'⟩⟩
  have rr:jH (V.ref a::ws) (Value.ref a::us):= .cons rfl r;have hlu:((Value.ref a::us)++[]).length=ps.length:=by rw[List.append_nil,←rr.length];exact F.len _ _ _ _ sp
  have hbd:=hb s2 (Value.ref a::us) I2.kIn hlu;rw[List.append_nil]at hbd;refine wpAny_call (codeAny_mono (F.run X.A X.stack s2 H2 ⟨Value.ref a::us,[]⟩ (Value.ref a::us) (V.ref a::ws) _ _ (hr.mono hkj) I2.env0 hbd rr sp) fun rs s' hq=>?_);cases rs with
  | error ev=>
   obtain⟨e0,C,H',rfl,os,bare,un,hok,xc,c,μ',hC,hR,sA,c'⟩:=hq;have J':Inv X Kp σ H' s':=I2.call' (ch:=[]) os un hok bare fun b z=>nomatch z
   have J0:Inv X [] σ H' s':=J'.pins_of fun p hp=>J'.pin p (List.mem_append_left _ (by simpa using hp));exact ke c μ' hR (.ref e0) s' ⟨e0,C,H',rfl,hC,J0,s02.trans sA,c',Xc.of hxe I2 xc⟩
  | ok fl=>
   cases fl with
   |ret u=>exact I2.after hq
   |next=>exact False.elim hq
   |brk=>exact False.elim hq
   |cont=>exact False.elim hq
noncomputable abbrev hQ(X:Cx)(e:Addr)(oe:Obj):Cx:={ X with A:=X.A.mark (some (.ref e)),calm:=false,xe:=fun _ _=>False,pn:=[(e,oe)] }
noncomputable def arm(R:OutC->jy->Prop):OutC->jy->Prop
 |.er _,_=>False
 |o,μ=>R o μ
noncomputable def arn(cs:List Str)(x m:Str)(g:GC3)(n:Nat)(fo:RP)(fr:Rho->Option (LP))(G:TRS):TRS:=fun ρ μ R=>aoN x m g n fo fr ρ μ fun r μ'=>match r with
 |.ok _=>R (.nx ρ) μ'
 |.er c=>c∈cs/\G ρ μ' (arm R)
theorem Inv.ofQ{Kp:List (Addr×Obj)}{σ:St}{H:Hp}{s:Shared}{oe:Obj}{ea:Addr}(ok:X.Ok)(hp:X.pn=[])(I:Inv (hQ X ea oe) Kp σ H s):Inv X Kp σ H s:=
 ⟨ok,I.os,I.bare,I.base,I.loc,I.cell,I.free,I.freeC,fun p h=>I.pin p (List.mem_append_right _ (by rw[hp]at h;simpa using h)),I.hok,I.len⟩
theorem SP.ofQ{D:Ends}{f:Flow}{s':Shared}{oe:Obj}{ea:Addr}(ok:X.Ok)(hp:X.pn=[])(h:SP (hQ X ea oe) [] D f s'):SP X [] D f s':=by
 cases f with
 |next=>obtain⟨σ',H',I,q⟩:=h;exact⟨σ',H',Inv.ofQ ok hp I,q⟩
 |brk=>obtain⟨σ',H',I,q⟩:=h;exact⟨σ',H',Inv.ofQ ok hp I,q⟩
 |cont=>obtain⟨σ',H',I,q⟩:=h;exact⟨σ',H',Inv.ofQ ok hp I,q⟩
 |ret u=>obtain⟨v,σ',H',I,r,q⟩:=h;exact⟨v,σ',H',Inv.ofQ ok hp I,r,q⟩
theorem ajB{k j n:Nat}{ps:List Str}{g:GC3}{pl:Sem Bool}{y:Str}{np hpos epos tpos:Pos}{cs:List Str}{b0:Stmt}{hb:List Stmt}{G:TRS}(T0:Top0 X)(hpn:X.pn=[])(hE:ErrT X.K X.mg y cs)(C:qY X.prog X.w X.K X.mg X.base x m ps k n g)(hr:Room j X.A)(hkj:k<=j)
  (ho:∀E,PD (X.wish E) o fo) (ha:∀E,PAD (X.wish E) (e::es) fr) (hh:∀ea oe,QX (hQ X ea oe)->ZR (hQ X ea oe) (b0::hb) G)
  (hg:Gl X y:=by rfl) (hdb:(y==("__debug__":Str))=false:=by decide)
  (hst:starEach (e::es) X.env=(false,eval e X.env)::starEach es X.env:=by rfl) (hpl:(backTo pos (starEach es X.env)).any (·.1)=false:=by rfl)
  (ht:eval (.Call (.Attribute o m apos) (e::es) [] pos) X.env=(do
   let ov ←eval o X.env
   standAt apos.atName
   let (f,first) ←holding [ov] (getMethod ov m pl)
   callWith pos f first (backTo pos (starEach (e::es) X.env)) (backToKw pos (keywordEach [] X.env))):=by rfl)
  (hs:swapsWith (.Call (.Attribute o m apos) (e::es) [] pos) none epos.line X.env=pure false:=by rfl):
  apP X (.Try [.Expr (.Call (.Attribute o m apos) (e::es) [] pos) epos] [.ExceptHandler (some (.Name y np)) none (b0::hb) hpos] [] [] tpos) (arn cs x m g n fo fr G):=by
 with_unfolding_all
  intro s σ H D I ⟨ρ,μ,R,en,cs0,t0,kc⟩;refine wpAny_Try_except ?_;let E':Value->SP0:=fun ev s1=>wpAny (model X.prog X.w) X.A (noteFrame ev X.env) (fun _ s₂=>wpAny (model X.prog X.w) X.A (setFlight ev none) (fun _ s₃=>wpAny (model X.prog X.w) X.A (handleBy ev X.env [.ExceptHandler (some (.Name y np)) none (b0::hb) hpos]) (SP X [] D) X.xe s₃) X.xe s₂) X.xe s1
  have pe:PE (X.wish E') (.Call (.Attribute o m apos) (e::es) [] pos) (teF (X.wish E') x m g n fo fr):=alB (X:=X.wish E') (pl:=pl) T0.ex C hr hkj (ho E') (ha E') hst hpl ht;refine wpAny_mono (JC (aai (pos:=epos) pe hs) ab8 [] s σ H D (I.wish E') ⟨ρ,μ,_,en,cs0,t0,fun d μ' r v H' sA rv c=>?_,fun c μ' r ev s1 t=>?_⟩) (fun f s1 z=>?_) fun _ _ z=>z
  ·exact(kc (.nx ρ) μ' r:JQ X H D (.nx ρ) μ') σ H' sA (en.monoA sA) c
  ·obtain⟨hy,hG⟩:=r
   obtain⟨B,aB,mB,tB,bB,par⟩:=hE.par;obtain⟨C',aC,mC,xC,pC,_⟩:=par c hy;obtain⟨e,C,H1,rfl,hm,J,sm,c1,xc⟩:=t;have J0:=J.unwish;have x0:=xc.unwish;show wpAny _ X.A (noteFrame (.ref e) X.env) _ _ s1;refine wpAny_mono (acg (E:=fun _ _=>False) T0 J0.ok.frames J0 x0) (fun _ s2 ⟨J2,t2⟩=>?_) fun _ _ z=>z.elim;refine wpAny_mono (Jv (E:=fun _ _=>False) none J2 t2) (fun _ s3 ⟨J3,t3⟩=>?_) fun _ _ z=>z.elim;have ok:=J3.ok;have hm0:X.mg c=some (.ref C):=hm;rw[hm0]at mC;cases mC;have fr':(X.A.mark (some (.ref e))).frames=some X.stack:=ok.frames;have J4:Inv (hX X e) [] σ H1 s3:=Inv.asA J3 fr' (fun z=>nomatch z);refine wpAny_handleBy_cons (codeAny_handlers_test ?_) (fun z=>nomatch z);refine Jn (X:=hX X e) J4 hg mB ?_ hdb;obtain⟨oe,ws,T,oT,ts,g1,g2,g3,g4,g5,g6,g7,g8,g9⟩:=id t3.ob;refine af7 J4.kIn g1 g2.1 tB bB pC ?_;refine codeAny_handlers_suite ?_;refine wpAny_mono (Jv (A:=X.A.mark (some (.ref e))) (E:=fun _ _=>False) none J3 t3) (fun _ s5 ⟨J5,t5⟩=>?_) fun _ _ z=>z.elim;obtain⟨oe5,ws5,T5,oT5,ts5,g51,g52,g53,_⟩:=id t5.ob;have nofs:e∉X.fs:=fun z=>t5.mine.nofr J5 (by rw[T0.st];exact(by unfold frs at *;simp only[List.filterMap_cons];split<;>first|exact z|exact List.mem_cons_of_mem _ z))
   have J6:Inv (hQ X e oe5) [] σ H1 s5:=by
    refine⟨⟨J5.ok.mod,J5.ok.kind,J5.ok.glob,J5.ok.blt,J5.ok.above,J5.ok.inj,J5.ok.has,J5.ok.cab,fun z=>(nomatch z),fr',J5.ok.stk,J5.ok.exf,J5.ok.bs,J5.ok.bsz,J5.ok.noex,J5.ok.exfs,J5.ok.funs,J5.ok.frf⟩,J5.os,J5.bare,J5.base,J5.loc,J5.cell,J5.free,J5.freeC,fun p hp=>?_,J5.hok,J5.len⟩;have hp':p=(e,oe5):=by simpa using hp
    subst hp';exact⟨g51,t5.mine.un,t5.mine.loc,nofs,fun v z=>by rw[g53]at z;cases z⟩
   have qx:QX (hQ X e oe5):=fun v hv=>by
    have hv':some (Value.ref e)=some v:=hv;cases hv';exact⟨e,oe5,ws5,rfl,List.mem_singleton.mpr rfl,g53,g52.2.2⟩
   refine wpAny_mono (hh e oe5 qx [] s5 σ H1 D J6 ⟨ρ,μ',_,en.monoA sm,c1,hG,fun o μ2 r2=>?_⟩) (fun f s6 z=>SP.ofQ J5.ok hpn z) fun _ _ z=>z.elim;cases o with
   |nx ρ'=>exact fun σ' H' s e c=>(kc (.nx ρ') μ2 r2:JQ X H D (.nx ρ') μ2) σ' H' (sm.trans s) e c
   |rt d=>exact fun v H' s r c=>(kc (.rt d) μ2 r2:JQ X H D (.rt d) μ2) v H' (sm.trans s) r c
   |bk ρ'=>exact fun σ' H' s e c=>(kc (.bk ρ') μ2 r2:JQ X H D (.bk ρ') μ2) σ' H' (sm.trans s) e c
   |ct ρ'=>exact fun σ' H' s e c=>(kc (.ct ρ') μ2 r2:JQ X H D (.ct ρ') μ2) σ' H' (sm.trans s) e c
   |er c=>exact r2.elim
  ·have z':=SP.unwish z
   cases f with
   |next=>exact wpAny_execs_nil z'
   |brk=>exact z'
   |cont=>exact z'
   |ret u=>exact z'
end
section
variable {X:Cx}{sts:List Stmt}{T:TRS}
noncomputable def aro(i:Nat)(T:TRS):TRS:=fun ρ μ R=>∃a ds,lkp i ρ=some (jM a)/\μ a=some (.lst ds)/\T (ρ.set i (some (.list ds))) (fun b=>if b=a then none else μ b) R
theorem ajC(i:Nat)(h:ZR X sts T):ZR X sts (aro i T):=by
 with_unfolding_all
  intro Kp s σ H D I ⟨ρ,μ,R,en,cs,⟨a,ds,hi,hm,t⟩,k⟩;obtain⟨xs,h1,rs⟩:=cs a _ hm;have sA:jv H (upd H a (.lst xs)):=jv.upd h1 rfl;refine h Kp s σ (upd H a (.lst xs)) D (Inv.opened I (.l xs) h1) ⟨_,_,R,agb en hi h1 rs,fun b c q=>?_,t,fun o μ' r=>(k o μ' r).mono sA⟩;by_cases hb:b=a
  ·rw[if_pos hb]at q;cases q
  ·rw[if_neg hb]at q
   exact(cs b c q).to sA (jr hb)
end
end BX
end
local macro_rules
  | `(tactic| dsimp? [$xs,*])=>`(tactic| simp only [BX.jR,BX.ifS,BX.ifD,BX.ifX,BX.apm,BX.orB,BX.zt,BX.tst,BX.op2,BX.chn,BX.jB,BX.ab0,BX.Jo,BX.jo,BX.jA,BX.lkp,BX.cst,BX.qw,BX.QK,BX.qz,BX.jS,BX.qE,BX.nxX,BX.orX,BX.afZ,BX.ajb,BX.asB,zzA,zzB,zzC,zzD,zzH,zzE,zzI,zzF,zzG,zzJ,zzK,zzL,zzM,zzN,$(⟨xs.elemsAndSeps⟩),*])
section
namespace Rods
open PySem L2 BX
open PyProof.Rows hiding St
noncomputable def top(i:Nat):Stmt:=PySem.Challenge.pw_beadrods_k51_whole_hands.main.body.getD i (.Pass ⟨0,0,0,0⟩)
structure Bare(mg:SV):Prop where
 isi:mg "isinstance"=none
 bool:mg "bool"=none
 int:mg "int"=none
 tuple:mg "tuple"=none
 zip:mg "zip"=none
 range:mg "range"=none
 all:mg "all"=none
 len:mg "len"=none
 max:mg "max"=none
 min:mg "min"=none
 sum:mg "sum"=none
 sorted:mg "sorted"=none
 abs:mg "abs"=none
 list:mg "list"=none
 enum:mg "enumerate"=none
 vale:mg "ValueError"=none
 str:mg "str"=none
 set:mg "set"=none
 dict:mg "dict"=none
theorem anS:bootBuiltins "bool"=some (.type "bool"):=by decide +kernel
theorem apV:bootBuiltins "int"=some (.type "int"):=by decide +kernel
theorem Qp:bootBuiltins "tuple"=some (.type "tuple"):=by decide +kernel
theorem anT:bootBuiltins "list"=some (.type "list"):=by decide +kernel
theorem alC:bootBuiltins "all"=some (.builtin "all"):=by decide +kernel
theorem qi:bootBuiltins "len"=some (.builtin "len"):=by decide +kernel
theorem ahe:bootBuiltins "max"=some (.builtin "max"):=by decide +kernel
theorem ahd:bootBuiltins "min"=some (.builtin "min"):=by decide +kernel
theorem ac1:bootBuiltins "sum"=some (.builtin "sum"):=by decide +kernel
noncomputable abbrev aaD:Stmt:=top 9
noncomputable abbrev Jw:Stmt:=top 18
noncomputable abbrev aaE:Stmt:=top 17
noncomputable abbrev ae0:Stmt:=top 20
noncomputable abbrev qZ(C:Program->World->Fg->(SV)->Heap->Prop)(qual:Str)(st:Stmt)(N:List Str)(k:Nat)(B:RO):Prop:=
 ∀(P:Program) (w:World) (K:Fg) (mg:SV) (base:Heap) (f:Addr) (Kc:Value) (A:Around) (Ko:List Env) (s:Shared) (H:Hp) (E:XK),C P w K mg base->Room k (A.deeper (envOfC qual (je st) s.heap.objs.size f Kc))->
  aal (zL CX0 P w K mg base N qual (je st) f Kc A Ko s H E).nox (jG st) B
theorem ahr:FnScope ["thing","least","most"] ["thing","least","most"] (je aaD):=⟨rfl,rfl,rfl,by decide +kernel,rfl,by decide +kernel,by decide +kernel⟩
noncomputable def aaF:{ B:RO // qZ (fun _ _ _ mg _=>Bare mg) "is_whole" aaD ["thing","least","most"] 0 B }:=
 ⟨_,fun P w K mg base f Kc A Ko s H E T hr=>
  jf (qu (Qh (abc (qj (abf (.inl rfl) T.isi T.bool anS (jb 0))) (Zi (qq (qj (abf (.inr (.inl rfl)) T.isi T.int apV (jb 0))))))) (jf (jx zl) jm) jm)
  (jf (jx (akH aeK aeK (jb 1) (jb 0) (jb 2))) jm)⟩
noncomputable def jQ:LP->OP:=jD ["thing","least","most"] 3 aaF.1
theorem abN:FnScope ["manner","rod"] ["manner","rod"] (je Jw):=⟨rfl,rfl,rfl,by decide +kernel,rfl,by decide +kernel,by decide +kernel⟩
noncomputable def Zo:{ B:RO // qZ (fun _ _ _ _ _=>True) "rod_worth" Jw ["manner","rod"] 0 B }:=
 ⟨_,fun P w K mg base f Kc A Ko s H E T hr=>
  jf (jx (js jL (js qS (jO (jb 1) jj) (jO (jb 0) jj)) (jO (jb 1) jj))) jm⟩
noncomputable def qo:LP->OP:=jD ["manner","rod"] 2 Zo.1
theorem alD:FnScope ["rod"] ["rod"] (je ae0):=⟨rfl,rfl,rfl,by decide +kernel,rfl,by decide +kernel,by decide +kernel⟩
noncomputable def ahs:{ B:RO // qZ (fun _ _ _ _ _=>True) "beads" ae0 ["rod"] 0 B }:=
 ⟨_,fun P w K mg base f Kc A Ko s H E T hr=>jf (jx (js jL (jO (jb 0) jj) (jO (jb 0) jj))) jm⟩
noncomputable def Jl:LP->OP:=jD ["rod"] 1 ahs.1
noncomputable def Qc(i:Nat)(m:Nat):LP:=(List.range m).map fun (j:Nat)=>PyData.tuple [.int (i:Int),.int (j:Int)]
noncomputable def QJ(n m:Nat):LP:=(List.range n).flatMap fun (i:Nat)=>Qc i m
theorem agi(i m:Nat):Qc i (m+1)=Qc i m++[PyData.tuple [.int (i:Int),.int (m:Int)]]:=by simp[Qc,List.range_succ]
theorem Z9(n m:Nat):QJ (n+1) m=QJ n m++Qc n m:=by simp[QJ,List.range_succ]
theorem agj(i m:Nat):noLs (Qc i m)=true:=QY fun d hd=>by
 obtain⟨j,_,rfl⟩:=List.mem_map.mp hd;simp[noL,noLs]
theorem ajD(n m:Nat):noLs (QJ n m)=true:=by
 induction n with
 |zero=>simp[QJ,noLs]
 |succ n ih=>rw[Z9,QW,ih,agj];rfl
theorem ait(i m:Nat):(Qc i m).length=m:=by simp[Qc]
theorem agk(n m:Nat):(QJ n m).length=n*m:=by
 induction n with
 |zero=>simp[QJ]
 |succ n ih=>rw[Z9,List.length_append,ih,ait,Nat.succ_mul]
noncomputable def JH(ds:LP):OP:=match ds with
 | [.tuple [.int u,.int _,.int l,.int _]]=>if 0<=u/\u<1000/\0<=l/\l<1000 then some (.list (QJ (u+1).toNat (l+1).toNat)) else none
 |_=>none
theorem QD:FnScope ["manner","rods","upper","lower"] ["manner"] (je aaE):=⟨rfl,rfl,rfl,by decide +kernel,rfl,by decide +kernel,by decide +kernel⟩
section
variable {P:Program}{w:World}{K:Fg}{mg:SV}{base:Heap}
theorem aht{f:Addr}{fd:FuncData}(F:Fun K "all_rods" "all_rods" aaE f fd)(T:Bare mg):FnOk P w K mg base CX0 1 f fd ["manner"] (Pur K 1 JH):=by
 with_unfolding_all
  refine F.ok QD (fun vs H Q E h=>?_) (fun Kc A Ko s H vs Q E hr h=>?_)
  ·obtain⟨ds,d,h1,h2,_⟩:=h
   rw[h2.length];exact h1
  ·obtain⟨ds,d,h1,h2,h3,k⟩:=h
   unfold JH at h3;split at h3
   ·rename_i u e l b
    split at h3
    ·rename_i hb
     obtain⟨hu0,hu1,hl0,hl1⟩:=hb;cases h3
     refine⟨_,JC (aa4 (i:=1) QD.nd rfl (Or.inl rfl) (ag4 Jk))
      (JC (aa7 PassesOwn.never rfl (aa6 rfl T.range (ja (js jL (jO (jb 0) jj) jj) jd)) (aaj (i:=2) QD.nd rfl (Or.inl rfl))
       (aew (aa7 PassesOwn.never rfl (aa6 rfl T.range (ja (js jL (jO (jb 0) jj) jj) jd)) (aaj (i:=3) QD.nd rfl (Or.inl rfl))
        (aew (aai (aky PySem.F.plainAttrs_list PySem.F.slot_list_append PySem.F.type_list_append adS (pv 1) (qR (ag3 (qR (pv 2) (qR (pv 3) Jk))) Jk)))))))
      (aew (aex (pv 1)))),?_⟩
     obtain⟨mv,rr,e1,em,e2⟩:=h2;cases (show rr=[] from e2);subst e1;have nm:noL (PyData.tuple [.int u,.int e,.int l,.int b])=true:=by simp[noL,noLs]
     refine⟨Nat.zero_le _,fun p hp=>?_⟩
     have envr:∀{H2:Hp} {x2 x3:Option V} {y:Option V},jp H H2->EnvR K H2 [some (PyData.tuple [.int u,.int e,.int l,.int b]),none,none,none] [some mv,y,x2,x3]:=fun {H2 x2 x3 y} s2=>
      ⟨rfl,fun i d q=>by
       cases i with
       | zero=>cases q; exact ⟨mv,rfl,Rep.mono s2 _ _ em⟩
       | succ i=>
        match i,q with
        | 0,q=>cases q
        | 1,q=>cases q
        | 2,q=>cases q
        | j+3,q=>simp at q⟩
     refine⟨_,[.int (u+1)],envr (jE hp),by simp[jo,jA,op2,lkp,dIx,atI,ixN,cst,zM],fun vs1 H1 s1 r1=>?_⟩;obtain⟨y1,q1,f1,f2,f3⟩:=r1;cases (show y1=V.int (u+1) from f2);cases (show q1=[] from f3);subst f1
     refine⟨u+1,rfl,by omega,by omega,adL (n:=(u+1).toNat) (fun i σ H2=>∃x2 x3 xs,σ=[some mv,some (.ref p),x2,x3]/\jp H H2/\H2 p=some (.lst xs)/\Reps K H2 (QJ i (l+1).toNat) xs)
      ⟨none,none,[],rfl,(jE hp).trans s1,s1 _ _ jq,rfl⟩ ?_ ?_⟩
     ·rintro i σ H2 hi ⟨x2,x3,xs,rfl,s2,hp2,r2⟩
      refine⟨_,[.int (l+1)],envr s2,by simp[jo,jA,op2,lkp,dIx,atI,ixN,cst,zM],fun vs2 H3 s3 r3=>?_⟩;obtain⟨y2,q2,g1,g2,g3⟩:=r3;cases (show y2=V.int (l+1) from g2);cases (show q2=[] from g3);subst g1
      refine⟨l+1,rfl,by omega,by omega,adL (n:=(l+1).toNat) (fun j σ H4=>∃x3 ys,σ=[some mv,some (.ref p),some (.int (0+i)),x3]/\jp H H4/\H4 p=some (.lst ys)/\Reps K H4 (QJ i (l+1).toNat++Qc i j) ys)
       ⟨x3,xs,rfl,s2.trans s3,s3 _ _ hp2,by simpa [Qc] using Reps.mono s3 _ _ r2⟩ ?_ ?_⟩
      ·rintro j σ H4 hj ⟨x3',ys,rfl,s4,hp4,r4⟩
       have hlen:ys.length<sizeLine:=by
        rw[r4.length,List.length_append,agk,ait,sizeLine_eq];have h1:i*(l+1).toNat<=1000*1001:=Nat.mul_le_mul (by omega) (by omega);omega
       refine⟨_,rfl,.inl ⟨rfl,ys,SqL.of hp4⟩,_,rfl,_,rfl,by show 2<=sizeLine;rw[sizeLine_eq];decide,fun q hq=>?_⟩;have npq:p≠q:=qI hp4 hq;refine⟨p,ys,.ref q,rfl,rfl,by rw[jr npq];exact hp4,hlen,?_⟩
       have t1:zP H4 (upd (upd H4 q (.tup [.int (0+(i:Int)),.int (0+(j:Int))])) p (.lst (ys++[.ref q]))):=
        (jp.n (jE hq)).trans (zP.upd (xs:=ys) (by rw[jr npq];exact hp4))
       refine⟨_,ys++[.ref q],rfl,fun c o hc=>?_,jq,?_⟩
       ·have hc4:=s4 c o hc
        rw[jr (qI hc hp),jr (qI hc4 hq)];exact hc4
       ·rw[agi,←List.append_assoc]
        refine(Reps.monoN t1 _ _ (by rw[QW,ajD,agj];rfl) r4).append ⟨.ref q,[],rfl,⟨q,_,rfl,SqT.of (by rw[jr (Ne.symm npq)];exact jq),?_⟩,rfl⟩;exact⟨_,_,rfl,by show _=V.int _;rw[Int.zero_add],_,_,rfl,by show _=V.int _;rw[Int.zero_add],rfl⟩
      ·rintro σ H4 ⟨x3',ys,rfl,s4,hp4,r4⟩
       exact⟨_,x3',ys,rfl,s4,hp4,by rw[Z9];exact r4⟩
     ·rintro σ H2 ⟨x2,x3,xs,rfl,s2,hp2,r2⟩
      exact⟨_,rfl,k _ _ s2 ⟨p,xs,rfl,hp2,r2⟩⟩
    ·cases h3
   ·cases h3
end
noncomputable abbrev Zp:Stmt:=top 14
noncomputable abbrev Zq:Stmt:=top 13
noncomputable abbrev CC:=Program->World->Fg->(SV)->Heap->Prop
structure CHasAll(P:Program)(w:World)(K:Fg)(mg:SV)(base:Heap):Prop where
 t:Bare mg
 allRods:jh P w K mg base "all_rods" ["manner"] 1 1 JH
 rodWorth:jh P w K mg base "rod_worth" ["manner","rod"] 1 2 qo
theorem ad1:FnScope ["manner","worths"] ["manner"] (je Zp):=⟨rfl,rfl,rfl,by decide +kernel,rfl,by decide +kernel,by decide +kernel⟩
theorem nd2:(["rod","manner"]:List Str).Nodup:=by decide +kernel
theorem nd3:(["digit","worths"]:List Str).Nodup:=by decide +kernel
noncomputable def ae1:{ B:RO // qZ CHasAll "has_all_digits" Zp ["manner","worths"] 1 B }:=
 ⟨_,fun P w K mg base f Kc A Ko s H E C hr=>
  jf (jZ 1 ad1.nd (Zj ["rod","manner"] [none,some 0] rfl (QS (ji C.allRods hr (Nat.le_refl _) (ja (jb 0) jd) (jc jg))) (QA (je Zp) ["manner","worths"] (by decide +kernel))
   fun cl C' s0 H0 fp pn=>⟨j4 0 nd2,QU,ji C.rodWorth hr (Nat.le_refl _) (ja (jb 1) (ja (jb 0) jd)) (jc (jc jg))⟩))
  (jf (jx (jF (akK rfl) C.t.all alC (ja (Zj ["digit","worths"] [none,some 1] rfl (JE rfl C.t.range (ja (jO (jb 0) jj) jd)) (QA (je Zp) ["manner","worths"] (by decide +kernel))
   fun cl C' s0 H0 fp pn=>⟨j4 0 nd3,QU,akD (aps hr.units) (jb 0) (jb 1)⟩) jd))) jm)⟩
noncomputable abbrev ac2:Stmt:=top 15
noncomputable abbrev Qq:Stmt:=top 19
noncomputable abbrev acj:Stmt:=top 21
noncomputable def GC(K:Fg)(mg:SV)(x:Str)(d:PyData):Prop:=∃v u,mg x=some u/\jV v u/\∀H,Rep K H d v
theorem Qr{X:Cx}{pos:Pos}{x:Str}{d:PyData}(c:GC X.K X.mg x d)(hg:Gl X x:=by rfl)(hd:(x==("__debug__":Str))=false:=by decide):PD X (.Name x pos) (cst d):=by
 with_unfolding_all
  obtain⟨v,u,h1,h2,h3⟩:=c;exact ane hg h1 h2 h3 hd
noncomputable def aaG:LP->OP:=jD ["manner","worths"] 1 ae1.1
structure CIsManner(P:Program)(w:World)(K:Fg)(mg:SV)(base:Heap):Prop where
 t:Bare mg
 least:GC K mg "LEAST_PARTS" (.tuple [.int 0,.int 1,.int 0,.int 2])
 most:GC K mg "MOST_PARTS" (.tuple [.int 3,.int 16,.int 12,.int 16])
 isWhole:jh P w K mg base "is_whole" ["thing","least","most"] 1 3 jQ
 hasAll:jh P w K mg base "has_all_digits" ["manner"] 2 1 aaG
theorem JS:FnScope ["thing","part","least","most"] ["thing"] (je Zq):=⟨rfl,rfl,rfl,by decide +kernel,rfl,by decide +kernel,by decide +kernel⟩
noncomputable def abp:{ B:RO // qZ CIsManner "is_manner" Zq ["thing","part","least","most"] 2 B }:=
 ⟨_,fun P w K mg base f Kc A Ko s H E C hr=>
  jf (qu (Qh (abc (qq (qj (abf (.inr (.inr rfl)) C.t.isi C.t.tuple Qp (jb 0)))) (Zi (qp (zu hr.units) (jF qh C.t.len qi (ja (jb 0) jd)) (jF qh C.t.len qi (ja (Qr C.most) jd)))))) (jf (jx zl) jm) jm)
  (jf (aie PassesOwn.never rfl (akO C.t.zip (ja (jb 0) (ja (Qr C.least) (ja (Qr C.most) jd)))) (aid (n:=3) rfl (Jt (j4 1 JS.nd) (Jt (j4 2 JS.nd) (Jt (j4 3 JS.nd) afN))))
   (jf (qu (qq (qj (ji C.isWhole hr (by decide) (ja (jb 1) (ja (jb 2) (ja (jb 3) jd))) (jc (jc (jc jg)))))) (jf (jx zl) jm) jm) jm))
  (jf (jx (ji C.hasAll hr (Nat.le_refl _) (ja (jb 0) jd) (jc jg))) jm))⟩
noncomputable def qN:LP->OP:=jD ["thing","part","least","most"] 1 abp.1
structure CCheck(P:Program)(w:World)(K:Fg)(mg:SV)(base:Heap):Prop where
 isManner:jh P w K mg base "is_manner" ["thing"] 3 1 qN
theorem agl:FnScope ["thing"] ["thing"] (je ac2):=⟨rfl,rfl,rfl,by decide +kernel,rfl,by decide +kernel,by decide +kernel⟩
noncomputable def ahu:{ B:RO // qZ CCheck "check_manner" ac2 ["thing"] 3 B }:=
 ⟨_,fun P w K mg base f Kc A Ko s H E C hr=>
  jf (qu (qq (qj (ji C.isManner hr (Nat.le_refl _) (ja (jb 0) jd) (jc jg)))) qV jm) jm⟩
noncomputable def Q6:LP->OP:=jD ["thing"] 1 ahu.1
structure CRodsWith(P:Program)(w:World)(K:Fg)(mg:SV)(base:Heap):Prop where
 allRods:jh P w K mg base "all_rods" ["manner"] 1 1 JH
 rodWorth:jh P w K mg base "rod_worth" ["manner","rod"] 1 2 qo
theorem agm:FnScope ["manner","worth"] ["manner","worth"] (je Qq):=⟨rfl,rfl,rfl,by decide +kernel,rfl,by decide +kernel,by decide +kernel⟩
theorem nd4:(["rod","manner","worth"]:List Str).Nodup:=by decide +kernel
noncomputable def abq:{ B:RO // qZ CRodsWith "rods_with" Qq ["manner","worth"] 1 B }:=
 ⟨_,fun P w K mg base f Kc A Ko s H E C hr=>
  jf (jx (Zj ["rod","manner","worth"] [none,some 0,some 1] rfl (QS (ji C.allRods hr (Nat.le_refl _) (ja (jb 0) jd) (jc jg))) (QA (je Qq) ["manner","worth"] (by decide +kernel))
   fun cl C' s0 H0 fp pn=>⟨j4 0 nd4,afO (qp (zD hr.units) (ji C.rodWorth hr (Nat.le_refl _) (ja (jb 1) (ja (jb 0) jd)) (jc (jc jg))) (jb 2)),jb 0⟩)) jm⟩
noncomputable def Zr:LP->OP:=jD ["manner","worth"] 2 abq.1
structure CFewest(P:Program)(w:World)(K:Fg)(mg:SV)(base:Heap):Prop where
 t:Bare mg
 rodsWith:jh P w K mg base "rods_with" ["manner","worth"] 2 2 Zr
 beads:jh P w K mg base "beads" ["rod"] 1 1 Jl
theorem ajE:FnScope ["manner","worth"] ["manner","worth"] (je acj):=⟨rfl,rfl,rfl,by decide +kernel,rfl,by decide +kernel,by decide +kernel⟩
noncomputable def ae2:{ B:RO // qZ CFewest "fewest_beads" acj ["manner","worth"] 2 B }:=
 ⟨_,fun P w K mg base f Kc A Ko s H E C hr=>
  jf (jx (akU rfl C.beads hr (Nat.le_refl _) C.t.min (ji C.rodsWith hr (by decide) (ja (jb 0) (ja (jb 1) jd)) (jc (jc jg))))) jm⟩
noncomputable def JT:LP->OP:=jD ["manner","worth"] 2 ae2.1
noncomputable abbrev JI:Stmt:=top 27
noncomputable abbrev zF:Stmt:=top 28
noncomputable abbrev Jg:Stmt:=top 29
noncomputable abbrev zv:Stmt:=top 30
noncomputable abbrev arp(C:CC)(qual:Str)(st:Stmt)(N:List Str)(k:Nat)(sts:List Stmt)(B:RO):Prop:=
 ∀(P:Program) (w:World) (K:Fg) (mg:SV) (base:Heap) (f:Addr) (Kc:Value) (A:Around) (Ko:List Env) (s:Shared) (H:Hp) (E:XK),C P w K mg base->Room k (A.deeper (envOfC qual (je st) s.heap.objs.size f Kc))->
  aal (zL CX0 P w K mg base N qual (je st) f Kc A Ko s H E).nox sts B
noncomputable abbrev agn(own:Nat)(C:CC)(qual:Str)(st:Stmt)(N:List Str)(k:Nat)(sts:List Stmt)(B:RO):Prop:=
 ∀(P:Program) (w:World) (K:Fg) (mg:SV) (base:Heap) (f:Addr) (Kc:Value) (A:Around) (Ko:List Env) (s:Shared) (H:Hp) (E:XK),C P w K mg base->Room k (A.deeper (envOfC qual (je st) s.heap.objs.size f Kc))->
  adC (zL CX0 P w K mg base N qual (je st) f Kc A Ko s H E).nox (some own) sts B
noncomputable def zG:Stmt->List Stmt
 |.For _ _ b _ _=>b
 |_=>[]
noncomputable def ab6(l:List Stmt)(i:Nat):Stmt:=l.getD i (.Pass ⟨0,0,0,0⟩)
structure CNum(P:Program)(w:World)(K:Fg)(mg:SV)(base:Heap):Prop where
 rodWorth:jh P w K mg base "rod_worth" ["manner","rod"] 1 2 qo
noncomputable abbrev ajF:List Str:=["manner","setting","number","rod"]
theorem Q7:FnScope ajF ["manner","setting"] (je zv):=⟨rfl,rfl,rfl,by decide +kernel,rfl,by decide +kernel,by decide +kernel⟩
noncomputable def ae3:{ B:RO // arp CNum "number_on" zv ajF 1 (zG (ab6 (jG zv) 1)) B }:=
 ⟨_,fun P w K mg base f Kc A Ko s H E C hr=>
  jf (jZ 2 Q7.nd (js jL (js qS (jb 2) (jO (jb 0) jj)) (ji C.rodWorth hr (Nat.le_refl _) (ja (jb 0) (ja (jb 3) jd)) (jc (jc jg))))) jm⟩
noncomputable def alE:{ B:RO // qZ CNum "number_on" zv ajF 1 B }:=
 ⟨_,fun P w K mg base f Kc A Ko s H E C hr=>
  jf (jZ 2 Q7.nd jj) (jf (aie PassesOwn.never rfl (aeH (jb 1)) (j4 3 Q7.nd) (ae3.2 P w K mg base f Kc A Ko s H E C hr)) (jf (jx (jb 2)) jm))⟩
noncomputable def zA:LP->OP:=jD ajF 2 alE.1
structure CChkRods(P:Program)(w:World)(K:Fg)(mg:SV)(base:Heap):Prop where
 isWhole:jh P w K mg base "is_whole" ["thing","least","most"] 1 3 jQ
 most:GC K mg "MOST_RODS" (.int 4)
theorem ac3:FnScope ["rods"] ["rods"] (je JI):=⟨rfl,rfl,rfl,by decide +kernel,rfl,by decide +kernel,by decide +kernel⟩
noncomputable def aaH:{ B:RO // qZ CChkRods "check_rods" JI ["rods"] 1 B }:=
 ⟨_,fun P w K mg base f Kc A Ko s H E C hr=>
  jf (qu (qq (qj (ji C.isWhole hr (Nat.le_refl _) (ja (jb 0) (ja jj (ja (Qr C.most) jd))) (jc (jc (jc jg)))))) qV jm) jm⟩
noncomputable def Jh:LP->OP:=jD ["rods"] 1 aaH.1
structure CChkNum(P:Program)(w:World)(K:Fg)(mg:SV)(base:Heap):Prop where
 isWhole:jh P w K mg base "is_whole" ["thing","least","most"] 1 3 jQ
 most:GC K mg "MOST_NUMBER" (.int 99999)
theorem ad2:FnScope ["number"] ["number"] (je zF):=⟨rfl,rfl,rfl,by decide +kernel,rfl,by decide +kernel,by decide +kernel⟩
noncomputable def aaI:{ B:RO // qZ CChkNum "check_number" zF ["number"] 1 B }:=
 ⟨_,fun P w K mg base f Kc A Ko s H E C hr=>
  jf (qu (qq (qj (ji C.isWhole hr (Nat.le_refl _) (ja (jb 0) (ja jj (ja (Qr C.most) jd))) (jc (jc (jc jg)))))) qV jm) jm⟩
noncomputable def qC:LP->OP:=jD ["number"] 1 aaI.1
structure CAsked(P:Program)(w:World)(K:Fg)(mg:SV)(base:Heap):Prop where
 check:jh P w K mg base "check_manner" ["thing"] 4 1 Q6
 rods:jh P w K mg base "check_rods" ["rods"] 2 1 Jh
 num:jh P w K mg base "check_number" ["number"] 2 1 qC
theorem ago:FnScope ["manner","rods","number"] ["manner","rods","number"] (je Jg):=⟨rfl,rfl,rfl,by decide +kernel,rfl,by decide +kernel,by decide +kernel⟩
noncomputable def ahv:{ B:RO // qZ CAsked "check_asked" Jg ["manner","rods","number"] 4 B }:=
 ⟨_,fun P w K mg base f Kc A Ko s H E C hr=>
  jf (jX (ji C.check hr (Nat.le_refl _) (ja (jb 0) jd) (jc jg)))
  (jf (jX (ji C.rods hr (by decide) (ja (jb 1) jd) (jc jg)))
  (jf (jX (ji C.num hr (by decide) (ja (jb 2) jd) (jc jg))) jm))⟩
noncomputable def aaa:LP->OP:=jD ["manner","rods","number"] 3 ahv.1
noncomputable abbrev ae4:Stmt:=top 16
noncomputable abbrev zT:Stmt:=top 25
noncomputable abbrev zq:Stmt:=top 26
noncomputable abbrev aaJ:Stmt:=top 31
noncomputable abbrev Zs:Stmt:=top 32
noncomputable abbrev Zt:Stmt:=top 33
noncomputable abbrev anU:List Str:=["base","rods","number","digits","left"]
noncomputable def ajG:Stmt->List Stmt
 |.While _ b _ _=>b
 |_=>[]
theorem ae5:FnScope anU ["base","rods","number"] (je Zt):=⟨rfl,rfl,rfl,by decide +kernel,rfl,by decide +kernel,by decide +kernel⟩
noncomputable def aab:{ B:RO // agn 3 (fun _ _ _ mg _=>Bare mg) "digits_by_rods" Zt anU 0 (ajG (ab6 (jG Zt) 2)) B }:=
 ⟨_,fun P w K mg base f Kc A Ko s H E C hr=>
  jN (ace (ahj 3 jj (js JO (jb 4) (jb 0))))
  (jN (JP 4 ae5.nd (js Jd (jb 4) (jb 0))) zm)⟩
noncomputable def anV:{ B:RO // qZ (fun _ _ _ mg _=>Bare mg) "digits_by_rods" Zt anU 0 B }:=
 ⟨_,fun P w K mg base f Kc A Ko s H E C hr=>
  aar (aat 3 ae5.nd (abh jd)
  (jN (JP 4 ae5.nd (jb 2))
  (jN (ajp 10 PassesOwn.never (qp acK (jF qh C.len qi (ja (jb 3) jd)) (js zd (jb 1) jj)) (aab.2 P w K mg base f Kc A Ko s H E C hr))
  (jN (acb (js jL (Z3 (ja (jb 4) jd)) (jb 3))) zm))))⟩
noncomputable def ae6:LP->OP:=jD anU 3 anV.1
structure CPlainR(P:Program)(w:World)(K:Fg)(mg:SV)(base:Heap):Prop where
 t:Bare mg
 dig:jh P w K mg base "digits_by_rods" ["base","rods","number"] 1 3 ae6
 fewest:jh P w K mg base "fewest_beads" ["manner","worth"] 3 2 JT
noncomputable abbrev Zu:List Str:=["manner","rods","number","digits"]
theorem Zv:FnScope Zu ["manner","rods","number"] (je Zs):=⟨rfl,rfl,rfl,by decide +kernel,rfl,by decide +kernel,by decide +kernel⟩
theorem ndd:(["digit","manner"]:List Str).Nodup:=by decide +kernel
noncomputable def ack:{ B:RO // qZ CPlainR "plain_rods" Zs Zu 3 B }:=
 ⟨_,fun P w K mg base f Kc A Ko s H E C hr=>
  jf (jZ 3 Zv.nd (ji C.dig hr (by decide) (ja (jO (jb 0) jj) (ja (jb 1) (ja (jb 2) jd))) (jc (jc (jc jg)))))
  (jf (qu (qp akG (jO (jb 3) jj) (jO (jb 0) jj)) qV jm)
  (jf (jx (adV afX C.t.tuple Qp (ja (Zj ["digit","manner"] [none,some 0] rfl (QS (jb 3)) (QA (je Zs) Zu (by decide +kernel))
   fun cl C' s0 H0 fp pn=>⟨j4 0 ndd,QU,ji C.fewest hr (Nat.le_refl _) (ja (jb 1) (ja (jb 0) jd)) (jc (jc jg))⟩) jd))) jm))⟩
noncomputable def Zw:LP->OP:=jD Zu 3 ack.1
structure CPlainS(P:Program)(w:World)(K:Fg)(mg:SV)(base:Heap):Prop where
 asked:jh P w K mg base "check_asked" ["manner","rods","number"] 5 3 aaa
 rods:jh P w K mg base "plain_rods" ["manner","rods","number"] 4 3 Zw
theorem ad3:FnScope ["manner","rods","number"] ["manner","rods","number"] (je aaJ):=⟨rfl,rfl,rfl,by decide +kernel,rfl,by decide +kernel,by decide +kernel⟩
noncomputable def ae7:{ B:RO // qZ CPlainS "plain_setting" aaJ ["manner","rods","number"] 5 B }:=
 ⟨_,fun P w K mg base f Kc A Ko s H E C hr=>
  jf (jX (ji C.asked hr (Nat.le_refl _) (ja (jb 0) (ja (jb 1) (ja (jb 2) jd))) (jc (jc (jc jg)))))
  (jf (jx (ji C.rods hr (by decide) (ja (jb 0) (ja (jb 1) (ja (jb 2) jd))) (jc (jc (jc jg))))) jm)⟩
noncomputable def Jq:LP->OP:=jD ["manner","rods","number"] 3 ae7.1
structure CIsRod(P:Program)(w:World)(K:Fg)(mg:SV)(base:Heap):Prop where
 t:Bare mg
 isWhole:jh P w K mg base "is_whole" ["thing","least","most"] 1 3 jQ
theorem alF:FnScope ["manner","thing"] ["manner","thing"] (je ae4):=⟨rfl,rfl,rfl,by decide +kernel,rfl,by decide +kernel,by decide +kernel⟩
noncomputable def abr:{ B:RO // qZ CIsRod "is_rod" ae4 ["manner","thing"] 1 B }:=
 ⟨_,fun P w K mg base f Kc A Ko s H E C hr=>
  jf (qu (Qh (abc (qq (qj (abf (.inr (.inr rfl)) C.t.isi C.t.tuple Qp (jb 1)))) (Zi (qp (zu hr.units) (jF qh C.t.len qi (ja (jb 1) jd)) jj)))) (jf (jx zl) jm) jm)
  (jf (jx (ak0 (ji C.isWhole hr (Nat.le_refl _) (ja (jO (jb 1) jj) (ja jj (ja (jO (jb 0) jj) jd))) (jc (jc (jc jg)))) (akZ (ji C.isWhole hr (Nat.le_refl _) (ja (jO (jb 1) jj) (ja jj (ja (jO (jb 0) jj) jd))) (jc (jc (jc jg))))))) jm)⟩
noncomputable def Qd:LP->OP:=jD ["manner","thing"] 2 abr.1
structure CIsSet(P:Program)(w:World)(K:Fg)(mg:SV)(base:Heap):Prop where
 t:Bare mg
 check:jh P w K mg base "check_manner" ["thing"] 4 1 Q6
 isRod:jh P w K mg base "is_rod" ["manner","thing"] 2 2 Qd
 most:GC K mg "MOST_RODS" (.int 4)
theorem agp:FnScope ["manner","thing"] ["manner","thing"] (je zT):=⟨rfl,rfl,rfl,by decide +kernel,rfl,by decide +kernel,by decide +kernel⟩
theorem ndp:(["part","manner"]:List Str).Nodup:=by decide +kernel
noncomputable def abt:{ B:RO // qZ CIsSet "is_setting" zT ["manner","thing"] 4 B }:=
 ⟨_,fun P w K mg base f Kc A Ko s H E C hr=>
  jf (jX (ji C.check hr (Nat.le_refl _) (ja (jb 0) jd) (jc jg)))
  (jf (qu (Qh (abc (qq (qj (abf (.inr (.inr rfl)) C.t.isi C.t.tuple Qp (jb 1)))) (Zi (qq (ajg aeK aeK jj (jF qh C.t.len qi (ja (jb 1) jd)) (Qr C.most)))))) (jf (jx zl) jm) jm)
  (jf (jx (jF (akK rfl) C.t.all alC (ja (Zj ["part","manner"] [none,some 0] rfl (aeH (jb 1)) (QA (je zT) ["manner","thing"] (by decide +kernel))
   fun cl C' s0 H0 fp pn=>⟨j4 0 ndp,QU,ji C.isRod hr (by decide) (ja (jb 1) (ja (jb 0) jd)) (jc (jc jg))⟩) jd))) jm))⟩
noncomputable def ac4:LP->OP:=jD ["manner","thing"] 2 abt.1
structure CChkSet(P:Program)(w:World)(K:Fg)(mg:SV)(base:Heap):Prop where
 isSet:jh P w K mg base "is_setting" ["manner","thing"] 5 2 ac4
theorem ad4:FnScope ["manner","thing"] ["manner","thing"] (je zq):=⟨rfl,rfl,rfl,by decide +kernel,rfl,by decide +kernel,by decide +kernel⟩
noncomputable def acl:{ B:RO // qZ CChkSet "check_setting" zq ["manner","thing"] 5 B }:=
 ⟨_,fun P w K mg base f Kc A Ko s H E C hr=>
  jf (qu (qq (qj (ji C.isSet hr (Nat.le_refl _) (ja (jb 0) (ja (jb 1) jd)) (jc (jc jg))))) qV jm) jm⟩
noncomputable def qe:LP->OP:=jD ["manner","thing"] 2 acl.1
noncomputable abbrev aiu:Stmt:=top 55
noncomputable abbrev ae8:Stmt:=top 56
noncomputable abbrev acm:Stmt:=top 57
theorem anW:FnScope ["_law_script","_law_k"] ["_law_script","_law_k"] (je aiu):=⟨rfl,rfl,rfl,by decide +kernel,rfl,by decide +kernel,by decide +kernel⟩
noncomputable def aiv:{ B:RO // qZ (fun _ _ _ mg _=>Bare mg) "_law_cell" aiu ["_law_script","_law_k"] 0 B }:=
 ⟨_,fun P w K mg base f Kc A Ko s H E C hr=>
  jf (qu (qp (zD hr.units) (jb 0) (Z3 jd)) (jf (jx (js qS jj (jb 1))) jm) jm)
  (jf (jx (js jL (jO (jb 0) (js JO (jb 1) (jF qh C.len qi (ja (jb 0) jd)))) (js qS jj (js Jd (jb 1) (jF qh C.len qi (ja (jb 0) jd)))))) jm)⟩
noncomputable def agq:LP->OP:=jD ["_law_script","_law_k"] 2 aiv.1
structure CDrawn(P:Program)(w:World)(K:Fg)(mg:SV)(base:Heap):Prop where
 cell:jh P w K mg base "_law_cell" ["_law_script","_law_k"] 1 2 agq
theorem ac5:FnScope ["_law_script","_law_k","_law_many","_law_cell_here"] ["_law_script","_law_k","_law_many"] (je ae8):=⟨rfl,rfl,rfl,by decide +kernel,rfl,by decide +kernel,by decide +kernel⟩
noncomputable def ahw:{ B:RO // qZ CDrawn "_law_drawn" ae8 ["_law_script","_law_k","_law_many","_law_cell_here"] 1 B }:=
 ⟨_,fun P w K mg base f Kc A Ko s H E C hr=>
  jf (jZ 3 ac5.nd (js JO (js jL (js qS (js JO (ji C.cell hr (Nat.le_refl _) (ja (jb 0) (ja (jb 1) jd)) (jc (jc jg))) jj) jj) (js qS jj (js jL (jb 1) jj))) jj))
  (jf (jZ 3 ac5.nd (js JO (js jL (js qS (jb 3) (jb 3)) (js Jd (jb 3) jj)) jj))
  (jf (jx (js JO (js Jd (js JO (js jL (js qS (jb 3) (jb 3)) (js Jd (jb 3) jj)) jj) jj) (jb 2))) jm))⟩
noncomputable def za:LP->OP:=jD ["_law_script","_law_k","_law_many","_law_cell_here"] 3 ahw.1
noncomputable abbrev ae9:List Str:=["_law_script","_law_at","_law_known","_law_way","_law_each","_law_upper","_law_lower"]
structure CManner(P:Program)(w:World)(K:Fg)(mg:SV)(base:Heap):Prop where
 t:Bare mg
 drawn:jh P w K mg base "_law_drawn" ["_law_script","_law_k","_law_many"] 2 3 za
theorem zU:FnScope ae9 ["_law_script","_law_at"] (je acm):=⟨rfl,rfl,rfl,by decide +kernel,rfl,by decide +kernel,by decide +kernel⟩
noncomputable def jk(a b c d:Int):PyData:= .tuple [.int a,.int b,.int c,.int d]
noncomputable def abu:LP:=[jk 1 5 4 10,jk 2 5 5 10,jk 0 1 9 10,jk 1 5 5 10,jk 0 1 10 10,jk 1 2 1 4,jk 0 1 1 2]
noncomputable def abv:LP:=[jk 1 4 3 8,jk 1 3 2 5,jk 3 4 3 16,jk 2 3 2 7,jk 1 1 1 3]
noncomputable def acn:{ B:RO // qZ CManner "_law_manner" acm ae9 2 B }:=
 ⟨_,fun P w K mg base f Kc A Ko s H E C hr=>
  jf (jZ 2 zU.nd (ahg 3 (.list abu) (by kernel_rfl)))
  (jf (jZ 2 zU.nd (js jL (jb 2) (ahg 3 (.list abv) (by kernel_rfl))))
  (jf (jZ 3 zU.nd (ji C.drawn hr (Nat.le_refl _) (ja (jb 0) (ja (jb 1) (ja (js qS jj (jF qh C.t.len qi (ja (jb 2) jd))) jd))) (jc (jc (jc jg)))))
  (jf (qu (qp acK (jb 3) (jF qh C.t.len qi (ja (jb 2) jd))) (jf (jx (jO (jb 2) (jb 3))) jm) jm)
  (jf (jZ 4 zU.nd (js jL jj (ji C.drawn hr (Nat.le_refl _) (ja (jb 0) (ja (js jL (jb 1) jj) (ja jj jd))) (jc (jc (jc jg))))))
  (jf (jZ 5 zU.nd (ji C.drawn hr (Nat.le_refl _) (ja (jb 0) (ja (js jL (jb 1) jj) (ja jj jd))) (jc (jc (jc jg)))))
  (jf (jZ 6 zU.nd (js jL (jF (aig rfl) C.t.max ahe (ja (js zd (jb 4) jj) (ja jj jd))) (ji C.drawn hr (Nat.le_refl _) (ja (jb 0) (ja (js jL (jb 1) jj) (ja jj jd))) (jc (jc (jc jg))))))
  (jf (jx (QP (ja (jb 5) (ja (jb 4) (ja (jb 6) (ja (js jL jj (ji C.drawn hr (Nat.le_refl _) (ja (jb 0) (ja (js jL (jb 1) jj) (ja (jF (ann rfl) C.t.min ahd (ja jj (ja (js jL (js qS (jb 5) (jb 4)) (jb 6)) jd))) jd))) (jc (jc (jc jg))))) jd)))))) jm)))))))⟩
noncomputable def QE:LP->OP:=jD ae9 2 acn.1
noncomputable abbrev Jm(C:CC)(qual:Str)(st:Stmt)(N:List Str)(k:Nat)(Fx:Rho->Option Str):Prop:=
 ∀(P:Program) (w:World) (K:Fg) (mg:SV) (base:Heap) (f:Addr) (Kc:Value) (A:Around) (Ko:List Env) (s:Shared) (H:Hp) (E:XK),C P w K mg base->Room k (A.deeper (envOfC qual (je st) s.heap.objs.size f Kc))->
  ab2 (zL (CXt P w) P w K mg base N qual (je st) f Kc A Ko s H E) (jG st) Fx
noncomputable abbrev aaK:Stmt:=top 51
noncomputable abbrev agr:Stmt:=top 50
noncomputable abbrev Zx:Stmt:=top 49
noncomputable abbrev sDA:Stmt:=top 48
noncomputable abbrev ahx:Stmt:=top 47
noncomputable abbrev alG:Stmt:=top 46
noncomputable abbrev aaL:Stmt:=top 44
noncomputable abbrev ac6:Stmt:=top 45
structure CEnough(P:Program)(w:World)(K:Fg)(mg:SV)(base:Heap):Prop where
 num:jh P w K mg base "number_on" ["manner","setting"] 2 2 zA
theorem ad5:FnScope ["manner","setting","number"] ["manner","setting","number"] (je aaK):=⟨rfl,rfl,rfl,by decide +kernel,rfl,by decide +kernel,by decide +kernel⟩
noncomputable def Zy:{ B:RO // qZ CEnough "check_enough" aaK ["manner","setting","number"] 2 B }:=
 ⟨_,fun P w K mg base f Kc A Ko s H E C hr=>
  (jf (qu (qp akF (jb 2) (ji C.num hr (by decide) (ja (jb 0) (ja (jb 1) jd)) (jc (jc jg)))) qV jm)
  jm)⟩
noncomputable def Zz:LP->OP:=jD ["manner","setting","number"] 3 Zy.1
structure CLess(P:Program)(w:World)(K:Fg)(mg:SV)(base:Heap):Prop where
 t:Bare mg
 chkSet:jh P w K mg base "check_setting" ["manner","thing"] 6 2 qe
 chkNum:jh P w K mg base "check_number" ["number"] 2 1 qC
 enough:jh P w K mg base "check_enough" ["manner","setting","number"] 3 3 Zz
 plainR:jh P w K mg base "plain_rods" ["manner","rods","number"] 4 3 Zw
 num:jh P w K mg base "number_on" ["manner","setting"] 2 2 zA
theorem aiw:FnScope ["manner","setting","number"] ["manner","setting","number"] (je agr):=⟨rfl,rfl,rfl,by decide +kernel,rfl,by decide +kernel,by decide +kernel⟩
noncomputable def ac7:{ B:RO // qZ CLess "less" agr ["manner","setting","number"] 6 B }:=
 ⟨_,fun P w K mg base f Kc A Ko s H E C hr=>
  (jf (jX (ji C.chkSet hr (by decide) (ja (jb 0) (ja (jb 1) jd)) (jc (jc jg))))
  (jf (jX (ji C.chkNum hr (by decide) (ja (jb 2) jd) (jc jg)))
  (jf (jX (ji C.enough hr (by decide) (ja (jb 0) (ja (jb 1) (ja (jb 2) jd))) (jc (jc (jc jg)))))
  (jf (jx (ji C.plainR hr (by decide) (ja (jb 0) (ja (jF qh C.t.len qi (ja (jb 1) jd)) (ja (js zd (ji C.num hr (by decide) (ja (jb 0) (ja (jb 1) jd)) (jc (jc jg))) (jb 2)) jd))) (jc (jc (jc jg)))))
  jm))))⟩
noncomputable def abO:LP->OP:=jD ["manner","setting","number"] 3 ac7.1
noncomputable abbrev anX:List Str:=["setting","changes","now","rod","fresh"]
theorem afa:FnScope anX ["setting","changes"] (je Zx):=⟨rfl,rfl,rfl,by decide +kernel,rfl,by decide +kernel,by decide +kernel⟩
noncomputable def ac8:{ B:RO // agn 2 (fun _ _ _ mg _=>Bare mg) "behind_changes" Zx anX 0 (zG (ab6 (jG Zx) 1)) B }:=
 ⟨_,fun P w K mg base f Kc A Ko s H E C hr=>
  (jN (ak7 2 (jb 3) (jb 4)) zm)⟩
noncomputable def anY:{ B:RO // qZ (fun _ _ _ mg _=>Bare mg) "behind_changes" Zx anX 0 B }:=
 ⟨_,fun P w K mg base f Kc A Ko s H E C hr=>
  aar (aat 2 afa.nd (ajr C.list anT (ja (jb 0) jd))
  (jN (acd PassesOwn.never rfl (QS (jb 1)) (aeO (n:=2) rfl (Ju 3 afa.nd (Ju 4 afa.nd acR))) (ac8.2 P w K mg base f Kc A Ko s H E C hr))
  (jN (acb (adV afX C.tuple Qp (ja (jb 2) jd))) zm)))⟩
noncomputable def ahy:LP->OP:=jD anX 2 anY.1
structure CDA(g:LP->OP)(d:Nat)(P:Program)(w:World)(K:Fg)(mg:SV)(base:Heap):Prop where
 rodWorth:jh P w K mg base "rod_worth" ["manner","rod"] 1 2 qo
 fewest:jh P w K mg base "fewest_beads" ["manner","worth"] 3 2 JT
 self:jh P w K mg base "digit_added" ["manner","setting","rod","digit"] (d+3) 4 g
noncomputable abbrev nDA:List Str:=["manner","setting","rod","digit","whole","ahead"]
theorem ags:FnScope nDA ["manner","setting","rod","digit"] (je sDA):=⟨rfl,rfl,rfl,by decide +kernel,rfl,by decide +kernel,by decide +kernel⟩
noncomputable def bDA(g:LP->OP)(d:Nat):{ B:RO // qZ (CDA g d) "digit_added" sDA nDA (d+3) B }:=
 ⟨_,fun P w K mg base f Kc A Ko s H E C hr=>
  (jf (qu (qp (zD hr.units) (jb 3) jj) (jf (jx (Z3 jd)) jm) jm)
  (jf (qu (qp acK (jb 2) jj) qV jm)
  (jf (jZ 4 ags.nd (js jL (ji C.rodWorth hr (by omega) (ja (jb 0) (ja (jO (jb 1) (jb 2)) jd)) (jc (jc jg))) (jb 3)))
  (jf (jZ 5 ags.nd (ji C.self hr (by omega) (ja (jb 0) (ja (jb 1) (ja (js zd (jb 2) jj) (ja (js Jd (jb 4) (jO (jb 0) jj)) jd)))) (jc (jc (jc (jc jg))))))
  (jf (jx (js jL (jb 5) (Z3 (ja (QP (ja (jb 2) (ja (ji C.fewest hr (by omega) (ja (jb 0) (ja (js JO (jb 4) (jO (jb 0) jj)) jd)) (jc (jc jg))) jd))) jd))))
  jm)))))⟩
noncomputable def gDA:Nat->LP->OP
 |0=>fun _=>none
 |d+1=>jD nDA 4 (bDA (gDA d) d).1
structure CCbd(x:Str)(g:LP->OP)(P:Program)(w:World)(K:Fg)(mg:SV)(base:Heap):Prop where
 t:Bare mg
 dig:jh P w K mg base "digits_by_rods" ["base","rods","number"] 1 3 ae6
 beh:jh P w K mg base "behind_changes" ["setting","changes"] 1 2 ahy
 fn:jh P w K mg base x ["manner","setting","rod","digit"] 9 4 g
noncomputable abbrev ajH:List Str:=["manner","setting","number","digit_changes","changes","now","rod","digit","several"]
theorem zH:FnScope ajH ["manner","setting","number","digit_changes"] (je ahx):=⟨rfl,rfl,rfl,by decide +kernel,rfl,by decide +kernel,by decide +kernel⟩
noncomputable def abw(x:Str)(g:LP->OP):{ B:RO // agn 4 (CCbd x g) "changes_by_digits" ahx ajH 9 (zG (ab6 (jG ahx) 2)) B }:=
 ⟨_,fun P w K mg base f Kc A Ko s H E C hr=>
  (jN (JP 8 zH.nd (af5 3 C.fn hr (by decide) (ja (jb 0) (ja (jb 5) (ja (jb 6) (ja (jb 7) jd)))) (jc (jc (jc (jc jg))))))
  (jN (JP 5 zH.nd (ji C.beh hr (by decide) (ja (jb 5) (ja (jb 8) jd)) (jc (jc jg))))
  (jN (ace (abj 4 (jb 8)))
  zm)))⟩
noncomputable def anZ(x:Str)(g:LP->OP):{ B:RO // qZ (CCbd x g) "changes_by_digits" ahx ajH 9 B }:=
 ⟨_,fun P w K mg base f Kc A Ko s H E C hr=>
  aar (aat 4 zH.nd (abh jd)
  (jN (JP 5 zH.nd (jb 1))
  (jN (acd PassesOwn.never rfl (af3 C.t.enum (ja (ji C.dig hr (by decide) (ja (jO (jb 0) jj) (ja (jF qh C.t.len qi (ja (jb 1) jd)) (ja (jb 2) jd))) (jc (jc (jc jg)))) jd)) (aeO (n:=2) rfl (Ju 6 zH.nd (Ju 7 zH.nd acR))) ((abw x g).2 P w K mg base f Kc A Ko s H E C hr))
  (jN (acb (jb 4)) zm))))⟩
noncomputable def apW(x:Str)(g:LP->OP):LP->OP:=jD ajH 4 (anZ x g).1
noncomputable abbrev gCA:LP->OP:=apW "digit_added" (gDA 6)
structure CChA(P:Program)(w:World)(K:Fg)(mg:SV)(base:Heap):Prop where
 cbd:jh P w K mg base "changes_by_digits" ["manner","setting","number","digit_changes"] 10 4 gCA
 fn:GC K mg "digit_added" (fnD "digit_added")
theorem alH:FnScope ["manner","setting","number"] ["manner","setting","number"] (je alG):=⟨rfl,rfl,rfl,by decide +kernel,rfl,by decide +kernel,by decide +kernel⟩
noncomputable def an0:{ B:RO // qZ CChA "changes_adding" alG ["manner","setting","number"] 10 B }:=
 ⟨_,fun P w K mg base f Kc A Ko s H E C hr=>
  (jf (jx (ji C.cbd hr (by decide) (ja (jb 0) (ja (jb 1) (ja (jb 2) (ja (Qr C.fn) jd)))) (jc (jc (jc (jc jg))))))
  jm)⟩
noncomputable def an1:LP->OP:=jD ["manner","setting","number"] 3 an0.1
structure CAdding(P:Program)(w:World)(K:Fg)(mg:SV)(base:Heap):Prop where
 chkSet:jh P w K mg base "check_setting" ["manner","thing"] 6 2 qe
 chkNum:jh P w K mg base "check_number" ["number"] 2 1 qC
 chA:jh P w K mg base "changes_adding" ["manner","setting","number"] 11 3 an1
theorem ad6:FnScope ["manner","setting","number"] ["manner","setting","number"] (je aaL):=⟨rfl,rfl,rfl,by decide +kernel,rfl,by decide +kernel,by decide +kernel⟩
noncomputable def aco:{ B:RO // qZ CAdding "adding" aaL ["manner","setting","number"] 11 B }:=
 ⟨_,fun P w K mg base f Kc A Ko s H E C hr=>
  (jf (jX (ji C.chkSet hr (by decide) (ja (jb 0) (ja (jb 1) jd)) (jc (jc jg))))
  (jf (jX (ji C.chkNum hr (by decide) (ja (jb 2) jd) (jc jg)))
  (jf (jx (ji C.chA hr (by decide) (ja (jb 0) (ja (jb 1) (ja (jb 2) jd))) (jc (jc (jc jg)))))
  jm)))⟩
noncomputable def acp:LP->OP:=jD ["manner","setting","number"] 3 aco.1
structure CAdded(P:Program)(w:World)(K:Fg)(mg:SV)(base:Heap):Prop where
 adding:jh P w K mg base "adding" ["manner","setting","number"] 12 3 acp
 beh:jh P w K mg base "behind_changes" ["setting","changes"] 1 2 ahy
theorem agt:FnScope ["manner","setting","number"] ["manner","setting","number"] (je ac6):=⟨rfl,rfl,rfl,by decide +kernel,rfl,by decide +kernel,by decide +kernel⟩
noncomputable def afb:{ B:RO // qZ CAdded "added" ac6 ["manner","setting","number"] 12 B }:=
 ⟨_,fun P w K mg base f Kc A Ko s H E C hr=>
  (jf (jx (ji C.beh hr (by decide) (ja (jb 1) (ja (ji C.adding hr (by decide) (ja (jb 0) (ja (jb 1) (ja (jb 2) jd))) (jc (jc (jc jg)))) jd)) (jc (jc jg))))
  jm)⟩
noncomputable def ac9:LP->OP:=jD ["manner","setting","number"] 3 afb.1
structure XDA(g:LP->OP)(t:LP->Option Str)(d:Nat)(P:Program)(w:World)(K:Fg)(mg:SV)(base:Heap):Prop where
 n:CDA g d P w K mg base
 err:acV K mg "TooGreat"
 self:qA P w K mg base "digit_added" ["manner","setting","rod","digit"] (d+3) 4 t
noncomputable def xDA(g:LP->OP)(t:LP->Option Str)(d:Nat):{ F:Rho->Option Str // Jm (XDA g t d) "digit_added" sDA nDA (d+3) F }:=
 ⟨_,fun P w K mg base f Kc A Ko s H E C hr=>
  (Ja (ql (qu (qp (zD hr.units) (jb 3) jj) (jf (jx (Z3 jd)) jm) jm) (jC (QZ (qp acK (jb 2) jj) (jC (ze rfl C.err rfl)) qW)))
  (ql (qu (qp (zD hr.units) (jb 3) jj) (jf (jx (Z3 jd)) jm) jm) (ql (qu (qp acK (jb 2) jj) qV jm) (ql (jZ 4 ags.nd (js jL (ji C.n.rodWorth hr (by omega) (ja (jb 0) (ja (jO (jb 1) (jb 2)) jd)) (jc (jc jg))) (jb 3))) (jC (anB (j8 rfl C.self hr (by omega) (ja (jb 0) (ja (jb 1) (ja (js zd (jb 2) jj) (ja (js Jd (jb 4) (jO (jb 0) jj)) jd)))) (jc (jc (jc (jc jg)))))))))))⟩
noncomputable def tDA:Nat->LP->Option Str
 |0=>fun _=>none
 |d+1=>zn nDA 4 (xDA (gDA d) (tDA d) d).1
structure XCbd(x:Str)(g:LP->OP)(t:LP->Option Str)(P:Program)(w:World)(K:Fg)(mg:SV)(base:Heap):Prop where
 n:CCbd x g P w K mg base
 fn:qA P w K mg base x ["manner","setting","rod","digit"] 9 4 t
noncomputable def arq(x:Str)(g:LP->OP)(t:LP->Option Str):{ F:Rho->Option Str // Jm (XCbd x g t) "changes_by_digits" ahx ajH 9 F }:=
 ⟨_,fun P w K mg base f Kc A Ko s H E C hr=>
  (alh (aju 4 zH.nd (abh jd)
  (aho (JP 5 zH.nd (jb 1))
  (acY (ali aeT rfl (fun W=>af3 C.n.t.enum (ja (ji C.n.dig hr (by decide) (ja (jO (jb 0) jj) (ja (jF qh C.n.t.len qi (ja (jb 1) jd)) (ja (jb 2) jd))) (jc (jc (jc jg)))) jd)) (fun W=>aeO (n:=2) rfl (Ju 6 zH.nd (Ju 7 zH.nd acR)))
   (fun W=>(jN (JP 8 zH.nd (af5 3 C.n.fn hr (by decide) (ja (jb 0) (ja (jb 5) (ja (jb 6) (ja (jb 7) jd)))) (jc (jc (jc (jc jg))))))
  (jN (JP 5 zH.nd (ji C.n.beh hr (by decide) (ja (jb 5) (ja (jb 8) jd)) (jc (jc jg))))
  (jN (ace (abj 4 (jb 8)))
  zm))))
   (fun W=>acY (alg (ajv 3 rfl C.fn hr (by decide) (ja (jb 0) (ja (jb 5) (ja (jb 6) (ja (jb 7) jd)))) (jc (jc (jc (jc jg))))))))))))⟩
noncomputable def tCA:LP->Option Str:=zn ajH 4 (arq "digit_added" (gDA 6) (tDA 6)).1
structure XChA(P:Program)(w:World)(K:Fg)(mg:SV)(base:Heap):Prop where
 n:CChA P w K mg base
 thr:qA P w K mg base "changes_by_digits" ["manner","setting","number","digit_changes"] 10 4 tCA
noncomputable def arr:{ F:Rho->Option Str // Jm XChA "changes_adding" alG ["manner","setting","number"] 10 F }:=
 ⟨_,fun P w K mg base f Kc A Ko s H E C hr=>
  (jC (aav (j8 rfl C.thr hr (by decide) (ja (jb 0) (ja (jb 1) (ja (jb 2) (ja (Qr C.n.fn) jd)))) (jc (jc (jc (jc jg)))))))⟩
noncomputable def ars:LP->Option Str:=zn ["manner","setting","number"] 3 arr.1
noncomputable def Q8(k:Bool):PyData:= .str (if k=true then "lower" else "upper")
noncomputable def mv(r:Int)(k:Bool)(c:Int):PyData:= .tuple [.int r,Q8 k,.int c]
section
variable {u e l b:Int}
noncomputable def dig(b:Int)(r:Nat)(n:Int)(i:Nat):Int:=if 0<i then n / b ^ (r-1-i) % b else n / b ^ (r-1-i)
end
theorem QY{ds:LP}(h:∀d∈ds,noL d=true):noLs ds=true:=by
 induction ds with
 |nil=>rfl
 |cons d ds ih=>simp only[noLs,h d List.mem_cons_self,ih fun c hc=>h c (List.mem_cons_of_mem _ hc),Bool.and_self]
noncomputable abbrev ada:List Str:=["NoManner","NoSetting","NoNumber","NoMove","TooGreat","Nothing"]
noncomputable abbrev JU:Stmt:=top 38
structure CNamesBeads(P:Program)(w:World)(K:Fg)(mg:SV)(base:Heap):Prop where
 t:Bare mg
 c_isWhole:jh P w K mg base "is_whole" ["thing","least","most"] 1 3 jQ
 k_DECKS:GC K mg "DECKS" (.tuple [.str "upper",.str "lower"])
noncomputable abbrev Q9:List Str:=["setting","thing"]
theorem adF:FnScope Q9 ["setting","thing"] (je JU):=⟨rfl,rfl,rfl,by decide +kernel,rfl,by decide +kernel,by decide +kernel⟩
noncomputable def zb:{ B:RO // qZ CNamesBeads "names_beads" JU Q9 1 B }:=
 ⟨_,fun P w K mg base f Kc A Ko s H E C hr=>
  (jf (qu (Qh (abc (qq (qj (abf (.inr (.inr rfl)) C.t.isi C.t.tuple Qp (jb 1)))) (Zi (qp (zu hr.units) (jF qh C.t.len qi (ja (jb 1) jd)) jj)))) (jf (jx zl)
  jm) jm)
  (jf (qu (Qh (abc (qq (qj (ji C.c_isWhole hr (by decide) (ja (jO (jb 1) jj) (ja jj (ja (js zd (jF qh C.t.len qi (ja (jb 0) jd)) jj) jd))) (jc (jc (jc jg)))))) (Zi (qp (ajf hr.units) (jO (jb 1) jj) (Qr C.k_DECKS))))) (jf (jx zl)
  jm) jm)
  (jf (jx (ak0 (ji C.c_isWhole hr (by decide) (ja (jO (jb 1) jj) (ja (akV jj) (ja jj jd))) (jc (jc (jc jg)))) (akZ (akD (zu hr.units) (jO (jb 1) jj) jj))))
  jm)))⟩
noncomputable def JV:LP->OP:=jD Q9 2 zb.1
noncomputable abbrev acq:Stmt:=top 39
structure CPushed(P:Program)(w:World)(K:Fg)(mg:SV)(base:Heap):Prop where
 tr:True
noncomputable abbrev afc:List Str:=["rod","deck","by"]
theorem ajI:FnScope afc ["rod","deck","by"] (je acq):=⟨rfl,rfl,rfl,by decide +kernel,rfl,by decide +kernel,by decide +kernel⟩
noncomputable def aaM:{ B:RO // qZ CPushed "pushed" acq afc 0 B }:=
 ⟨_,fun P w K mg base f Kc A Ko s H E C hr=>
  (jf (qu (qp (zD hr.units) (jb 1) akC) (jf (jx (QP (ja (js jL (jO (jb 0) jj) (jb 2)) (ja (jO (jb 0) jj) jd))))
  jm) jm)
  (jf (jx (QP (ja (jO (jb 0) jj) (ja (js jL (jO (jb 0) jj) (jb 2)) jd))))
  jm))⟩
noncomputable def acr:LP->OP:=jD afc 3 aaM.1
noncomputable abbrev aaN:Stmt:=top 37
structure CCanMove(P:Program)(w:World)(K:Fg)(mg:SV)(base:Heap):Prop where
 c_NamesBeads:jh P w K mg base "names_beads" ["setting","thing"] 2 2 JV
 c_isRod:jh P w K mg base "is_rod" ["manner","thing"] 2 2 Qd
 c_Pushed:jh P w K mg base "pushed" ["rod","deck","by"] 1 3 acr
noncomputable abbrev adb:List Str:=["manner","setting","thing"]
theorem ahz:FnScope adb ["manner","setting","thing"] (je aaN):=⟨rfl,rfl,rfl,by decide +kernel,rfl,by decide +kernel,by decide +kernel⟩
noncomputable def aaO:{ B:RO // qZ CCanMove "can_move" aaN adb 2 B }:=
 ⟨_,fun P w K mg base f Kc A Ko s H E C hr=>
  (jf (qu (qq (qj (ji C.c_NamesBeads hr (by decide) (ja (jb 1) (ja (jb 2) jd)) (jc (jc jg))))) (jf (jx zl)
  jm) jm)
  (jf (jx (ji C.c_isRod hr (by decide) (ja (jb 0) (ja (ji C.c_Pushed hr (by decide) (ja (jO (jb 1) (jO (jb 2) jj)) (ja (jO (jb 2) jj) (ja (jO (jb 2) jj) jd))) (jc (jc (jc jg)))) jd)) (jc (jc jg))))
  jm))⟩
noncomputable def Ji:LP->OP:=jD adb 3 aaO.1
noncomputable abbrev JW:Stmt:=top 40
structure CBehindMove(P:Program)(w:World)(K:Fg)(mg:SV)(base:Heap):Prop where
 c_Pushed:jh P w K mg base "pushed" ["rod","deck","by"] 1 3 acr
noncomputable abbrev Za:List Str:=["setting","move","at"]
theorem ZX:FnScope Za ["setting","move"] (je JW):=⟨rfl,rfl,rfl,by decide +kernel,rfl,by decide +kernel,by decide +kernel⟩
noncomputable def JX:{ B:RO // qZ CBehindMove "behind_move" JW Za 1 B }:=
 ⟨_,fun P w K mg base f Kc A Ko s H E C hr=>
  (jf (jZ 2 ZX.nd (jO (jb 1) jj))
  (jf (jx (js jL (js jL (ala (jb 0) (jb 2)) (QP (ja (ji C.c_Pushed hr (by decide) (ja (jO (jb 0) (jb 2)) (ja (jO (jb 1) jj) (ja (jO (jb 1) jj) jd))) (jc (jc (jc jg)))) jd))) (ahm (jb 0) (js jL (jb 2) jj))))
  jm))⟩
noncomputable def JY:LP->OP:=jD Za 2 JX.1
noncomputable abbrev adc:Stmt:=top 41
structure CMoved(P:Program)(w:World)(K:Fg)(mg:SV)(base:Heap):Prop where
 c_chkSet:jh P w K mg base "check_setting" ["manner","thing"] 6 2 qe
 c_CanMove:jh P w K mg base "can_move" ["manner","setting","thing"] 3 3 Ji
 c_BehindMove:jh P w K mg base "behind_move" ["setting","move"] 2 2 JY
noncomputable abbrev add:List Str:=["manner","setting","move"]
theorem agu:FnScope add ["manner","setting","move"] (je adc):=⟨rfl,rfl,rfl,by decide +kernel,rfl,by decide +kernel,by decide +kernel⟩
noncomputable def afd:{ B:RO // qZ CMoved "moved" adc add 6 B }:=
 ⟨_,fun P w K mg base f Kc A Ko s H E C hr=>
  (jf (jX (ji C.c_chkSet hr (by decide) (ja (jb 0) (ja (jb 1) jd)) (jc (jc jg))))
  (jf (qu (qq (qj (ji C.c_CanMove hr (by decide) (ja (jb 0) (ja (jb 1) (ja (jb 2) jd))) (jc (jc (jc jg)))))) (jf ajc
  jm) jm)
  (jf (jx (ji C.c_BehindMove hr (by decide) (ja (jb 1) (ja (jb 2) jd)) (jc (jc jg))))
  jm)))⟩
noncomputable def aac:LP->OP:=jD add 3 afd.1
structure XCheck(P:Program)(w:World)(K:Fg)(mg:SV)(base:Heap):Prop where
 c_isManner:jh P w K mg base "is_manner" ["thing"] 3 1 qN
 e_NoManner:acV K mg "NoManner"
noncomputable def afe:{ F:Rho->Option Str // Jm XCheck "check_manner" ac2 ["thing"] 3 F }:=
 ⟨_,fun P w K mg base f Kc A Ko s H E C hr=>
  (jC (QZ (qq (qj (ji C.c_isManner hr (by decide) (ja (jb 0) jd) (jc jg)))) (jC (ze rfl C.e_NoManner rfl)) qW))⟩
noncomputable def aff:LP->Option Str:=zn ["thing"] 1 afe.1
structure XIsSet(P:Program)(w:World)(K:Fg)(mg:SV)(base:Heap):Prop where
 x_check:qA P w K mg base "check_manner" ["thing"] 4 1 aff
noncomputable def afg:{ F:Rho->Option Str // Jm XIsSet "is_setting" zT ["manner","thing"] 4 F }:=
 ⟨_,fun P w K mg base f Kc A Ko s H E C hr=>
  (jC (qX (j8 rfl C.x_check hr (by decide) (ja (jb 0) jd) (jc jg))))⟩
noncomputable def ahA:LP->Option Str:=zn ["manner","thing"] 2 afg.1
structure XChkSet(P:Program)(w:World)(K:Fg)(mg:SV)(base:Heap):Prop where
 c_isSet:jh P w K mg base "is_setting" ["manner","thing"] 5 2 ac4
 x_isSet:qA P w K mg base "is_setting" ["manner","thing"] 5 2 ahA
 e_NoSetting:acV K mg "NoSetting"
noncomputable def acs:{ F:Rho->Option Str // Jm XChkSet "check_setting" zq ["manner","thing"] 5 F }:=
 ⟨_,fun P w K mg base f Kc A Ko s H E C hr=>
  (jC (apG (anH (anG (anF (j8 rfl C.x_isSet hr (by decide) (ja (jb 0) (ja (jb 1) jd)) (jc (jc jg)))))) (QZ (qq (qj (ji C.c_isSet hr (by decide) (ja (jb 0) (ja (jb 1) jd)) (jc (jc jg))))) (jC (ze rfl C.e_NoSetting rfl)) qW)))⟩
noncomputable def JZ:LP->Option Str:=zn ["manner","thing"] 2 acs.1
structure XChkRods(P:Program)(w:World)(K:Fg)(mg:SV)(base:Heap):Prop where
 c_isWhole:jh P w K mg base "is_whole" ["thing","least","most"] 1 3 jQ
 k_MOST_RODS:GC K mg "MOST_RODS" (.int 4)
 e_NoNumber:acV K mg "NoNumber"
noncomputable def aaP:{ F:Rho->Option Str // Jm XChkRods "check_rods" JI ["rods"] 1 F }:=
 ⟨_,fun P w K mg base f Kc A Ko s H E C hr=>
  (jC (QZ (qq (qj (ji C.c_isWhole hr (by decide) (ja (jb 0) (ja jj (ja (Qr C.k_MOST_RODS) jd))) (jc (jc (jc jg)))))) (jC (ze rfl C.e_NoNumber rfl)) qW))⟩
noncomputable def ade:LP->Option Str:=zn ["rods"] 1 aaP.1
structure XChkNum(P:Program)(w:World)(K:Fg)(mg:SV)(base:Heap):Prop where
 c_isWhole:jh P w K mg base "is_whole" ["thing","least","most"] 1 3 jQ
 k_MOST_NUMBER:GC K mg "MOST_NUMBER" (.int 99999)
 e_NoNumber:acV K mg "NoNumber"
noncomputable def ZA:{ F:Rho->Option Str // Jm XChkNum "check_number" zF ["number"] 1 F }:=
 ⟨_,fun P w K mg base f Kc A Ko s H E C hr=>
  (jC (QZ (qq (qj (ji C.c_isWhole hr (by decide) (ja (jb 0) (ja jj (ja (Qr C.k_MOST_NUMBER) jd))) (jc (jc (jc jg)))))) (jC (ze rfl C.e_NoNumber rfl)) qW))⟩
noncomputable def J1:LP->Option Str:=zn ["number"] 1 ZA.1
structure XAsked(P:Program)(w:World)(K:Fg)(mg:SV)(base:Heap):Prop where
 c_chkRods:jh P w K mg base "check_rods" ["rods"] 2 1 Jh
 c_check:jh P w K mg base "check_manner" ["thing"] 4 1 Q6
 x_check:qA P w K mg base "check_manner" ["thing"] 4 1 aff
 x_chkRods:qA P w K mg base "check_rods" ["rods"] 2 1 ade
 x_chkNum:qA P w K mg base "check_number" ["number"] 2 1 J1
noncomputable def afh:{ F:Rho->Option Str // Jm XAsked "check_asked" Jg ["manner","rods","number"] 4 F }:=
 ⟨_,fun P w K mg base f Kc A Ko s H E C hr=>
  (Ja (jC (qX (j8 rfl C.x_check hr (by decide) (ja (jb 0) jd) (jc jg)))) (ql (jX (ji C.c_check hr (by decide) (ja (jb 0) jd) (jc jg)))
  (Ja (jC (qX (j8 rfl C.x_chkRods hr (by decide) (ja (jb 1) jd) (jc jg)))) (ql (jX (ji C.c_chkRods hr (by decide) (ja (jb 1) jd) (jc jg)))
  (jC (qX (j8 rfl C.x_chkNum hr (by decide) (ja (jb 2) jd) (jc jg))))))))⟩
noncomputable def ahB:LP->Option Str:=zn ["manner","rods","number"] 3 afh.1
structure XPlainR(P:Program)(w:World)(K:Fg)(mg:SV)(base:Heap):Prop where
 c_digits:jh P w K mg base "digits_by_rods" ["base","rods","number"] 1 3 ae6
 e_TooGreat:acV K mg "TooGreat"
noncomputable def aix:{ F:Rho->Option Str // Jm XPlainR "plain_rods" Zs Zu 3 F }:=
 ⟨_,fun P w K mg base f Kc A Ko s H E C hr=>
  (ql (jZ 3 Zv.nd (ji C.c_digits hr (by decide) (ja (jO (jb 0) jj) (ja (jb 1) (ja (jb 2) jd))) (jc (jc (jc jg)))))
  (jC (QZ (qp akG (jO (jb 3) jj) (jO (jb 0) jj)) (jC (ze rfl C.e_TooGreat rfl)) qW)))⟩
noncomputable def afi:LP->Option Str:=zn Zu 3 aix.1
structure XPlainS(P:Program)(w:World)(K:Fg)(mg:SV)(base:Heap):Prop where
 c_asked:jh P w K mg base "check_asked" ["manner","rods","number"] 5 3 aaa
 x_asked:qA P w K mg base "check_asked" ["manner","rods","number"] 5 3 ahB
 x_plainR:qA P w K mg base "plain_rods" ["manner","rods","number"] 4 3 afi
noncomputable def aiy:{ F:Rho->Option Str // Jm XPlainS "plain_setting" aaJ ["manner","rods","number"] 5 F }:=
 ⟨_,fun P w K mg base f Kc A Ko s H E C hr=>
  (Ja (jC (qX (j8 rfl C.x_asked hr (by decide) (ja (jb 0) (ja (jb 1) (ja (jb 2) jd))) (jc (jc (jc jg)))))) (ql (jX (ji C.c_asked hr (by decide) (ja (jb 0) (ja (jb 1) (ja (jb 2) jd))) (jc (jc (jc jg)))))
  (jC (aav (j8 rfl C.x_plainR hr (by decide) (ja (jb 0) (ja (jb 1) (ja (jb 2) jd))) (jc (jc (jc jg))))))))⟩
noncomputable def afj:LP->Option Str:=zn ["manner","rods","number"] 3 aiy.1
structure XEnough(P:Program)(w:World)(K:Fg)(mg:SV)(base:Heap):Prop where
 c_num:jh P w K mg base "number_on" ["manner","setting"] 2 2 zA
 e_TooGreat:acV K mg "TooGreat"
noncomputable def ZB:{ F:Rho->Option Str // Jm XEnough "check_enough" aaK ["manner","setting","number"] 2 F }:=
 ⟨_,fun P w K mg base f Kc A Ko s H E C hr=>
  (jC (QZ (qp akF (jb 2) (ji C.c_num hr (by decide) (ja (jb 0) (ja (jb 1) jd)) (jc (jc jg)))) (jC (ze rfl C.e_TooGreat rfl)) qW))⟩
noncomputable def act:LP->Option Str:=zn ["manner","setting","number"] 3 ZB.1
structure XAdding(P:Program)(w:World)(K:Fg)(mg:SV)(base:Heap):Prop where
 c_chkNum:jh P w K mg base "check_number" ["number"] 2 1 qC
 c_chkSet:jh P w K mg base "check_setting" ["manner","thing"] 6 2 qe
 x_chkSet:qA P w K mg base "check_setting" ["manner","thing"] 6 2 JZ
 x_chkNum:qA P w K mg base "check_number" ["number"] 2 1 J1
 x_chA:qA P w K mg base "changes_adding" ["manner","setting","number"] 11 3 ars
noncomputable def aiz:{ F:Rho->Option Str // Jm XAdding "adding" aaL ["manner","setting","number"] 11 F }:=
 ⟨_,fun P w K mg base f Kc A Ko s H E C hr=>
  (Ja (jC (qX (j8 rfl C.x_chkSet hr (by decide) (ja (jb 0) (ja (jb 1) jd)) (jc (jc jg))))) (ql (jX (ji C.c_chkSet hr (by decide) (ja (jb 0) (ja (jb 1) jd)) (jc (jc jg))))
  (Ja (jC (qX (j8 rfl C.x_chkNum hr (by decide) (ja (jb 2) jd) (jc jg)))) (ql (jX (ji C.c_chkNum hr (by decide) (ja (jb 2) jd) (jc jg)))
  (jC (aav (j8 rfl C.x_chA hr (by decide) (ja (jb 0) (ja (jb 1) (ja (jb 2) jd))) (jc (jc (jc jg))))))))))⟩
noncomputable def aiA:LP->Option Str:=zn ["manner","setting","number"] 3 aiz.1
structure XAdded(P:Program)(w:World)(K:Fg)(mg:SV)(base:Heap):Prop where
 c_beh:jh P w K mg base "behind_changes" ["setting","changes"] 1 2 ahy
 x_adding:qA P w K mg base "adding" ["manner","setting","number"] 12 3 aiA
noncomputable def alI:{ F:Rho->Option Str // Jm XAdded "added" ac6 ["manner","setting","number"] 12 F }:=
 ⟨_,fun P w K mg base f Kc A Ko s H E C hr=>
  (jC (aav (alf C.c_beh (ale (jb 1) (ald (j8 rfl C.x_adding hr (by decide) (ja (jb 0) (ja (jb 1) (ja (jb 2) jd))) (jc (jc (jc jg)))))))))⟩
noncomputable def alJ:LP->Option Str:=zn ["manner","setting","number"] 3 alI.1
structure XLess(P:Program)(w:World)(K:Fg)(mg:SV)(base:Heap):Prop where
 t:Bare mg
 c_num:jh P w K mg base "number_on" ["manner","setting"] 2 2 zA
 c_enough:jh P w K mg base "check_enough" ["manner","setting","number"] 3 3 Zz
 c_chkNum:jh P w K mg base "check_number" ["number"] 2 1 qC
 c_chkSet:jh P w K mg base "check_setting" ["manner","thing"] 6 2 qe
 x_chkSet:qA P w K mg base "check_setting" ["manner","thing"] 6 2 JZ
 x_chkNum:qA P w K mg base "check_number" ["number"] 2 1 J1
 x_enough:qA P w K mg base "check_enough" ["manner","setting","number"] 3 3 act
 x_plainR:qA P w K mg base "plain_rods" ["manner","rods","number"] 4 3 afi
noncomputable def ad7:{ F:Rho->Option Str // Jm XLess "less" agr ["manner","setting","number"] 6 F }:=
 ⟨_,fun P w K mg base f Kc A Ko s H E C hr=>
  (Ja (jC (qX (j8 rfl C.x_chkSet hr (by decide) (ja (jb 0) (ja (jb 1) jd)) (jc (jc jg))))) (ql (jX (ji C.c_chkSet hr (by decide) (ja (jb 0) (ja (jb 1) jd)) (jc (jc jg))))
  (Ja (jC (qX (j8 rfl C.x_chkNum hr (by decide) (ja (jb 2) jd) (jc jg)))) (ql (jX (ji C.c_chkNum hr (by decide) (ja (jb 2) jd) (jc jg)))
  (Ja (jC (qX (j8 rfl C.x_enough hr (by decide) (ja (jb 0) (ja (jb 1) (ja (jb 2) jd))) (jc (jc (jc jg)))))) (ql (jX (ji C.c_enough hr (by decide) (ja (jb 0) (ja (jb 1) (ja (jb 2) jd))) (jc (jc (jc jg)))))
  (jC (aav (j8 rfl C.x_plainR hr (by decide) (ja (jb 0) (ja (jF qh C.t.len qi (ja (jb 1) jd)) (ja (js zd (ji C.c_num hr (by decide) (ja (jb 0) (ja (jb 1) jd)) (jc (jc jg))) (jb 2)) jd))) (jc (jc (jc jg))))))))))))⟩
noncomputable def abP:LP->Option Str:=zn ["manner","setting","number"] 3 ad7.1
structure XMoved(P:Program)(w:World)(K:Fg)(mg:SV)(base:Heap):Prop where
 c_CanMove:jh P w K mg base "can_move" ["manner","setting","thing"] 3 3 Ji
 c_chkSet:jh P w K mg base "check_setting" ["manner","thing"] 6 2 qe
 x_chkSet:qA P w K mg base "check_setting" ["manner","thing"] 6 2 JZ
 e_NoMove:acV K mg "NoMove"
noncomputable def alK:{ F:Rho->Option Str // Jm XMoved "moved" adc add 6 F }:=
 ⟨_,fun P w K mg base f Kc A Ko s H E C hr=>
  (Ja (jC (qX (j8 rfl C.x_chkSet hr (by decide) (ja (jb 0) (ja (jb 1) jd)) (jc (jc jg))))) (ql (jX (ji C.c_chkSet hr (by decide) (ja (jb 0) (ja (jb 1) jd)) (jc (jc jg))))
  (jC (QZ (qq (qj (ji C.c_CanMove hr (by decide) (ja (jb 0) (ja (jb 1) (ja (jb 2) jd))) (jc (jc (jc jg)))))) (jC (ze rfl C.e_NoMove rfl)) qW))))⟩
noncomputable def alL:LP->Option Str:=zn add 3 alK.1
noncomputable abbrev ZY(C:CC)(qual:Str)(st:Stmt)(N:List Str)(k:Nat)(T:TRS):Prop:=
 ∀(P:Program) (w:World) (K:Fg) (mg:SV) (base:Heap) (f:Addr) (Kc:Value) (A:Around) (Ko:List Env) (s:Shared) (H:Hp) (E:XK),C P w K mg base->Room k (A.deeper (envOfC qual (je st) s.heap.objs.size f Kc))->
  ZR (zL (CXt P w) P w K mg base N qual (je st) f Kc A Ko s H E) (jG st) T
noncomputable abbrev abQ(C:CC)(qual:Str)(st:Stmt)(N:List Str)(k:Nat)(sts:List Stmt)(T:TRS):Prop:=
 ∀(P:Program) (w:World) (K:Fg) (mg:SV) (base:Heap) (f:Addr) (Kc:Value) (A:Around) (Ko:List Env) (s:Shared) (H:Hp) (E:XK),C P w K mg base->Room k (A.deeper (envOfC qual (je st) s.heap.objs.size f Kc))->
  ZR (zL CX0 P w K mg base N qual (je st) f Kc A Ko s H E).nox sts T
noncomputable abbrev art(C:CC)(qual:Str)(st:Stmt)(N:List Str)(k:Nat)(T:TRS):Prop:=
 ∀(P:Program) (w:World) (K:Fg) (mg:SV) (base:Heap) (f:Addr) (Kc:Value) (A:Around) (Ko:List Env) (s:Shared) (H:Hp) (E:XK),C P w K mg base->Room k (A.deeper (envOfC qual (je st) s.heap.objs.size f Kc))->
  age (zL CX0 P w K mg base N qual (je st) f Kc A Ko s H E) (jG st) T
noncomputable abbrev afk:Stmt:=zY (top 53) 0
structure CMInit(P:Program)(w:World)(K:Fg)(mg:SV)(base:Heap):Prop where
 f_now:zN K "Hand" "now"
 f_manner:zN K "Hand" "manner"
 f_past:zN K "Hand" "past"
 c_plainS:jh P w K mg base "plain_setting" ["manner","rods","number"] 6 3 Jq
 x_plainS:qA P w K mg base "plain_setting" ["manner","rods","number"] 6 3 afj
noncomputable abbrev ahC:List Str:=["self","manner","rods"]
theorem alM:FnScope ahC ["self","manner","rods"] (je afk):=⟨rfl,rfl,rfl,by decide +kernel,rfl,by decide +kernel,by decide +kernel⟩
noncomputable def ahD:{ B:TRS // ZY CMInit "Hand.__init__" afk ahC 6 B }:=
 ⟨_,fun P w K mg base f Kc A Ko s H E C hr=>
  (jl (aaA C.f_now (jn (jb 0)) (Qn rfl C.c_plainS C.x_plainS hr (by decide) (by decide) (ju (jn (jb 1)) (ju (jn (jb 2)) (ju (jn jj) jT)))))
  (jl (aaA C.f_manner (jn (jb 0)) (jn (jb 1)))
  (jl (aaA C.f_past (jn (jb 0)) (aip (abh jd)))
  jw)))⟩
noncomputable def adf:GC3:=qB ahC ahD.1
noncomputable abbrev Jx:Stmt:=zY (top 53) 1
structure CMSetting(P:Program)(w:World)(K:Fg)(mg:SV)(base:Heap):Prop where
 f_now:zN K "Hand" "now"
noncomputable abbrev Qs:List Str:=["self"]
theorem abR:FnScope Qs ["self"] (je Jx):=⟨rfl,rfl,rfl,by decide +kernel,rfl,by decide +kernel,by decide +kernel⟩
noncomputable def ZC:{ B:TRS // ZY CMSetting "Hand.setting" Jx Qs 0 B }:=
 ⟨_,fun P w K mg base f Kc A Ko s H E C hr=>
  (jl (qK (qm C.f_now (jn (jb 0))))
  jw)⟩
noncomputable def zw:GC3:=qB Qs ZC.1
noncomputable abbrev ZD:Stmt:=zY (top 53) 2
structure CMValue(P:Program)(w:World)(K:Fg)(mg:SV)(base:Heap):Prop where
 f_manner:zN K "Hand" "manner"
 f_now:zN K "Hand" "now"
 c_num:jh P w K mg base "number_on" ["manner","setting"] 2 2 zA
noncomputable abbrev aaQ:List Str:=["self"]
theorem ad8:FnScope aaQ ["self"] (je ZD):=⟨rfl,rfl,rfl,by decide +kernel,rfl,by decide +kernel,by decide +kernel⟩
noncomputable def acu:{ B:TRS // ZY CMValue "Hand.value" ZD aaQ 2 B }:=
 ⟨_,fun P w K mg base f Kc A Ko s H E C hr=>
  (jl (qK (agc C.c_num hr (by decide) (ju (qm C.f_manner (jn (jb 0))) (ju (qm C.f_now (jn (jb 0))) jT))))
  jw)⟩
noncomputable def zI:GC3:=qB aaQ acu.1
noncomputable abbrev afl:Stmt:=zY (top 53) 7
structure CMGoOn(P:Program)(w:World)(K:Fg)(mg:SV)(base:Heap):Prop where
 f_past:zN K "Hand" "past"
 f_now:zN K "Hand" "now"
 m_value:qY P w K mg base "Hand" "value" ["self"] 3 1 zI
noncomputable abbrev ahE:List Str:=["self","fresh"]
theorem alN:FnScope ahE ["self","fresh"] (je afl):=⟨rfl,rfl,rfl,by decide +kernel,rfl,by decide +kernel,by decide +kernel⟩
noncomputable def ahF:{ B:TRS // ZY CMGoOn "Hand.go_on" afl ahE 3 B }:=
 ⟨_,fun P w K mg base f Kc A Ko s H E C hr=>
  (jl (Qm (acZ (qm C.f_past (jn (jb 0))) (qm C.f_now (jn (jb 0)))))
  (jl (aaA C.f_now (jn (jb 0)) (jn (jb 1)))
  (jl (qK (jJ rfl C.m_value hr (by decide) (jn (jb 0))))
  jw)))⟩
noncomputable def aad:GC3:=qB ahE ahF.1
noncomputable abbrev aiB:Stmt:=zY (top 53) 3
structure CMLay(P:Program)(w:World)(K:Fg)(mg:SV)(base:Heap):Prop where
 f_manner:zN K "Hand" "manner"
 f_now:zN K "Hand" "now"
 m_go_on:qY P w K mg base "Hand" "go_on" ["self","fresh"] 4 2 aad
 t:Bare mg
 c_plainS:jh P w K mg base "plain_setting" ["manner","rods","number"] 6 3 Jq
 x_plainS:qA P w K mg base "plain_setting" ["manner","rods","number"] 6 3 afj
noncomputable abbrev alO:List Str:=["self","number"]
theorem an2:FnScope alO ["self","number"] (je aiB):=⟨rfl,rfl,rfl,by decide +kernel,rfl,by decide +kernel,by decide +kernel⟩
noncomputable def alP:{ B:TRS // ZY CMLay "Hand.lay" aiB alO 6 B }:=
 ⟨_,fun P w K mg base f Kc A Ko s H E C hr=>
  (jl (qK (zo rfl C.m_go_on hr (by decide) (jn (jb 0)) (ju (Qn rfl C.c_plainS C.x_plainS hr (by decide) (by decide) (ju (qm C.f_manner (jn (jb 0))) (ju (ajy qh C.t.len qi (ju (qm C.f_now (jn (jb 0))) jT)) (ju (jn (jb 1)) jT)))) jT)))
  jw)⟩
noncomputable def aiC:GC3:=qB alO alP.1
noncomputable abbrev aiD:Stmt:=zY (top 53) 4
structure CMAdd(P:Program)(w:World)(K:Fg)(mg:SV)(base:Heap):Prop where
 f_manner:zN K "Hand" "manner"
 f_now:zN K "Hand" "now"
 m_go_on:qY P w K mg base "Hand" "go_on" ["self","fresh"] 4 2 aad
 c_added:jh P w K mg base "added" ["manner","setting","number"] 13 3 ac9
 x_added:qA P w K mg base "added" ["manner","setting","number"] 13 3 alJ
noncomputable abbrev alQ:List Str:=["self","number"]
theorem an3:FnScope alQ ["self","number"] (je aiD):=⟨rfl,rfl,rfl,by decide +kernel,rfl,by decide +kernel,by decide +kernel⟩
noncomputable def alR:{ B:TRS // ZY CMAdd "Hand.add" aiD alQ 13 B }:=
 ⟨_,fun P w K mg base f Kc A Ko s H E C hr=>
  (jl (qK (zo rfl C.m_go_on hr (by decide) (jn (jb 0)) (ju (Qn rfl C.c_added C.x_added hr (by decide) (by decide) (ju (qm C.f_manner (jn (jb 0))) (ju (qm C.f_now (jn (jb 0))) (ju (jn (jb 1)) jT)))) jT)))
  jw)⟩
noncomputable def agv:GC3:=qB alQ alR.1
noncomputable abbrev afm:Stmt:=zY (top 53) 5
structure CMTake(P:Program)(w:World)(K:Fg)(mg:SV)(base:Heap):Prop where
 f_manner:zN K "Hand" "manner"
 f_now:zN K "Hand" "now"
 m_go_on:qY P w K mg base "Hand" "go_on" ["self","fresh"] 4 2 aad
 c_less:jh P w K mg base "less" ["manner","setting","number"] 7 3 abO
 x_less:qA P w K mg base "less" ["manner","setting","number"] 7 3 abP
noncomputable abbrev ahG:List Str:=["self","number"]
theorem alS:FnScope ahG ["self","number"] (je afm):=⟨rfl,rfl,rfl,by decide +kernel,rfl,by decide +kernel,by decide +kernel⟩
noncomputable def afn:{ B:TRS // ZY CMTake "Hand.take" afm ahG 7 B }:=
 ⟨_,fun P w K mg base f Kc A Ko s H E C hr=>
  (jl (qK (zo rfl C.m_go_on hr (by decide) (jn (jb 0)) (ju (Qn rfl C.c_less C.x_less hr (by decide) (by decide) (ju (qm C.f_manner (jn (jb 0))) (ju (qm C.f_now (jn (jb 0))) (ju (jn (jb 1)) jT)))) jT)))
  jw)⟩
noncomputable def Zb:GC3:=qB ahG afn.1
noncomputable abbrev afo:Stmt:=zY (top 53) 6
structure CMPush(P:Program)(w:World)(K:Fg)(mg:SV)(base:Heap):Prop where
 f_manner:zN K "Hand" "manner"
 f_now:zN K "Hand" "now"
 m_go_on:qY P w K mg base "Hand" "go_on" ["self","fresh"] 4 2 aad
 c_Moved:jh P w K mg base "moved" ["manner","setting","move"] 7 3 aac
 x_Moved:qA P w K mg base "moved" ["manner","setting","move"] 7 3 alL
noncomputable abbrev ahH:List Str:=["self","move"]
theorem alT:FnScope ahH ["self","move"] (je afo):=⟨rfl,rfl,rfl,by decide +kernel,rfl,by decide +kernel,by decide +kernel⟩
noncomputable def ahI:{ B:TRS // ZY CMPush "Hand.push" afo ahH 7 B }:=
 ⟨_,fun P w K mg base f Kc A Ko s H E C hr=>
  (jl (qK (zo rfl C.m_go_on hr (by decide) (jn (jb 0)) (ju (Qn rfl C.c_Moved C.x_Moved hr (by decide) (by decide) (ju (qm C.f_manner (jn (jb 0))) (ju (qm C.f_now (jn (jb 0))) (ju (jn (jb 1)) jT)))) jT)))
  jw)⟩
noncomputable def afp:GC3:=qB ahH ahI.1
noncomputable abbrev afq:Stmt:=zY (top 53) 8
structure CMUndo(P:Program)(w:World)(K:Fg)(mg:SV)(base:Heap):Prop where
 f_past:zN K "Hand" "past"
 f_now:zN K "Hand" "now"
 m_value:qY P w K mg base "Hand" "value" ["self"] 3 1 zI
 e_Nothing:acV K mg "Nothing"
noncomputable abbrev ahJ:List Str:=["self"]
theorem alU:FnScope ahJ ["self"] (je afq):=⟨rfl,rfl,rfl,by decide +kernel,rfl,by decide +kernel,by decide +kernel⟩
noncomputable def ahK:{ B:TRS // ZY CMUndo "Hand.undo" afq ahJ 3 B }:=
 ⟨_,fun P w K mg base f Kc A Ko s H E C hr=>
  (jl (JG (aaz (anM (qm C.f_past (jn (jb 0))))) (jl (ajx (ze rfl C.e_Nothing rfl))
  jw) jw)
  (jl (aaA C.f_now (jn (jb 0)) (anL (qm C.f_past (jn (jb 0)))))
  (jl (qK (jJ rfl C.m_value hr (by decide) (jn (jb 0))))
  jw)))⟩
noncomputable def adg:GC3:=qB ahJ ahK.1
noncomputable abbrev abx:Stmt:=zY (top 53) 9
structure CMMany(P:Program)(w:World)(K:Fg)(mg:SV)(base:Heap):Prop where
 f_past:zN K "Hand" "past"
 t:Bare mg
noncomputable abbrev adh:List Str:=["self"]
theorem agw:FnScope adh ["self"] (je abx):=⟨rfl,rfl,rfl,by decide +kernel,rfl,by decide +kernel,by decide +kernel⟩
noncomputable def afr:{ B:TRS // ZY CMMany "Hand.many" abx adh 0 B }:=
 ⟨_,fun P w K mg base f Kc A Ko s H E C hr=>
  (jl (qK (air qh C.t.len qi (qm C.f_past (jn (jb 0)))))
  jw)⟩
noncomputable def aae:GC3:=qB adh afr.1
noncomputable abbrev qO:Stmt:=top 42
structure CAllMoves(P:Program)(w:World)(K:Fg)(mg:SV)(base:Heap):Prop where
 t:Bare mg
 c_chkSet:jh P w K mg base "check_setting" ["manner","thing"] 6 2 qe
 c_CanMove:jh P w K mg base "can_move" ["manner","setting","thing"] 3 3 Ji
 k_DECKS:GC K mg "DECKS" (.tuple [.str "upper",.str "lower"])
 k_WAYS:GC K mg "WAYS" (.tuple [.int 1,.int (-1)])
noncomputable abbrev zV:List Str:=["manner","setting","told","rod","deck","several"]
theorem Jj:FnScope zV ["manner","setting"] (je qO):=⟨rfl,rfl,rfl,by decide +kernel,rfl,by decide +kernel,by decide +kernel⟩
theorem alV:(["by","rod","deck"]:List Str).Nodup:=by decide +kernel
theorem alW:(["move","manner","setting"]:List Str).Nodup:=by decide +kernel
noncomputable def aaf:{ B:RO // agn 2 CAllMoves "all_moves" qO zV 6 (zG (ab6 (zG (ab6 (jG qO) 2)) 0)) B }:=
 ⟨_,fun P w K mg base f Kc A Ko s H E C hr=>
  (jN (alm 5 ["by","rod","deck"] [none,some 3,some 4] rfl Jj.nd (aay (Qr C.k_WAYS)) (QA (je qO) zV (by decide +kernel))
   fun cl C' s0 H0 fp pn=>⟨(j4 0 alV),QU,(QP (ja (jb 1) (ja (jb 2) (ja (jb 0) jd))))⟩)
  (jN (ace (abj 2 (Zj ["move","manner","setting"] [none,some 0,some 1] rfl (aay (jb 5)) (QA (je qO) zV (by decide +kernel))
   fun cl C' s0 H0 fp pn=>⟨(j4 0 alW),(afO (qj (ji C.c_CanMove hr (by decide) (ja (jb 1) (ja (jb 2) (ja (jb 0) jd))) (jc (jc (jc jg)))))),(jb 0)⟩)))
  zm))⟩
noncomputable def JJ:{ B:RO // agn 2 CAllMoves "all_moves" qO zV 6 (zG (ab6 (jG qO) 2)) B }:=
 ⟨_,fun P w K mg base f Kc A Ko s H E C hr=>
  (jN (acd PassesOwn.never rfl (aay (Qr C.k_DECKS)) (afS 4 Jj.nd) (aaf.2 P w K mg base f Kc A Ko s H E C hr))
  zm)⟩
noncomputable def ZE:{ B:RO // qZ CAllMoves "all_moves" qO zV 6 B }:=
 ⟨_,fun P w K mg base f Kc A Ko s H E C hr=>
  (jf (jX (ji C.c_chkSet hr (by decide) (ja (jb 0) (ja (jb 1) jd)) (jc (jc jg))))
  (aar (aat 2 Jj.nd (abh jd)
  (jN (acd PassesOwn.never rfl (JE rfl C.t.range (ja (jF qh C.t.len qi (ja (jb 1) jd)) jd)) (afS 3 Jj.nd) (JJ.2 P w K mg base f Kc A Ko s H E C hr))
  (jN (acb (jb 2))
  zm)))))⟩
noncomputable def Jy:LP->OP:=jD zV 2 ZE.1
noncomputable abbrev ZF:Stmt:=top 63
structure CLRefuses(P:Program)(w:World)(K:Fg)(mg:SV)(base:Heap):Prop where
 m_setting:qY P w K mg base "Hand" "setting" ["self"] 1 1 zw
 m_value:qY P w K mg base "Hand" "value" ["self"] 3 1 zI
 m_many:qY P w K mg base "Hand" "many" ["self"] 1 1 aae
 m_take:qY P w K mg base "Hand" "take" ["self","number"] 8 2 Zb
 q_setting:agh P w K mg base "Hand" "setting" ["self"] 1 1 zw
 q_value:agh P w K mg base "Hand" "value" ["self"] 3 1 zI
 q_many:agh P w K mg base "Hand" "many" ["self"] 1 1 aae
 errT:ErrT K mg "BeadError" ada
noncomputable abbrev aby:List Str:=["_law_hand","_law_number","_law_before"]
theorem abS:FnScope aby ["_law_hand","_law_number"] (je ZF):=⟨rfl,rfl,rfl,by decide +kernel,rfl,by decide +kernel,by decide +kernel⟩
noncomputable def ZG:{ B:TRS // art CLRefuses "_law_refuses" ZF aby 8 B }:=
 ⟨_,fun P w K mg base f Kc A Ko s H E C hr=>
  (ac0 (anN (QB 2 abS.nd (ais (ju (jJ rfl C.m_setting hr (by decide) (jn (jb 0))) (ju (jJ rfl C.m_value hr (by decide) (jn (jb 0))) (ju (jJ rfl C.m_many hr (by decide) (jn (jb 0))) jT))))))
  (ac0 (ajB aeT rfl C.errT C.m_take hr (by decide) (fun E'=>(jb 0)) (fun E'=>(ja (jb 1) jd))
   (fun ea oe qx=>(jl (qK (Zm (zD hr.units) (ais (ju (abo qx C.q_setting (RoomH.mark (BX.Room.h hr)) (by decide) (jn (jb 0))) (ju (abo qx C.q_value (RoomH.mark (BX.Room.h hr)) (by decide) (jn (jb 0))) (ju (abo qx C.q_many (RoomH.mark (BX.Room.h hr)) (by decide) (jn (jb 0))) jT)))) (jn (jb 2))))
  jw)))
  (als (jl (qJ (jx zl))
  jw))))⟩
noncomputable def abz:GC3:=qB aby ZG.1
noncomputable abbrev Zc:Stmt:=top 64
structure CLPushes(P:Program)(w:World)(K:Fg)(mg:SV)(base:Heap):Prop where
 m_setting:qY P w K mg base "Hand" "setting" ["self"] 1 1 zw
 m_value:qY P w K mg base "Hand" "value" ["self"] 3 1 zI
 m_push:qY P w K mg base "Hand" "push" ["self","move"] 8 2 afp
noncomputable abbrev adi:List Str:=["_law_hand","_law_move","_law_rod","_law_deck","_law_by","_law_setting_here","_law_number"]
theorem zW:FnScope adi ["_law_hand","_law_move"] (je Zc):=⟨rfl,rfl,rfl,by decide +kernel,rfl,by decide +kernel,by decide +kernel⟩
noncomputable def aaR:{ B:TRS // abQ CLPushes "_law_pushes" Zc adi 8 (jG Zc) B }:=
 ⟨_,fun P w K mg base f Kc A Ko s H E C hr=>
  (jl (qJ (anh (jb 1) (aid (n:=3) rfl (Jt (j4 2 zW.nd) (Jt (j4 3 zW.nd) (Jt (j4 4 zW.nd) afN))))))
  (jl (QB 5 zW.nd (jJ rfl C.m_setting hr (by decide) (jn (jb 0))))
  (jl (QB 6 zW.nd (jJ rfl C.m_value hr (by decide) (jn (jb 0))))
  (jl (Qm (zo rfl C.m_push hr (by decide) (jn (jb 0)) (ju (jn (jb 1)) jT)))
  (jl (JG (Ql (Z7 (zf (zD hr.units) (jJ rfl C.m_setting hr (by decide) (jn (jb 0))) (jn (jb 5))) (Zn (zf (zD hr.units) (jJ rfl C.m_value hr (by decide) (jn (jb 0))) (jn (jb 6)))))) (jl (qJ (jx zl))
  jw) jw)
  (jl (qK (aeW (Zm (zD hr.units) (zo rfl C.m_push hr (by decide) (jn (jb 0)) (ju (jn (QP (ja (jb 2) (ja (jb 3) (ja (js zd jj (jb 4)) jd))))) jT)) (jn (jb 6))) (ain (Zm (zD hr.units) (jJ rfl C.m_setting hr (by decide) (jn (jb 0))) (jn (jb 5))))))
  jw))))))⟩
noncomputable def aaS:GC3:=qB adi aaR.1
noncomputable abbrev zJ:Stmt:=top 65
structure CLUndone(P:Program)(w:World)(K:Fg)(mg:SV)(base:Heap):Prop where
 m_undo:qY P w K mg base "Hand" "undo" ["self"] 4 1 adg
 m_value:qY P w K mg base "Hand" "value" ["self"] 3 1 zI
 t:Bare mg
noncomputable abbrev Zd:List Str:=["_law_hand","_law_numbers","_law_k"]
theorem aag:FnScope Zd ["_law_hand","_law_numbers"] (je zJ):=⟨rfl,rfl,rfl,by decide +kernel,rfl,by decide +kernel,by decide +kernel⟩
noncomputable def ZH:{ B:TRS // abQ CLUndone "_law_undone" zJ Zd 4 (zG (ab6 (jG zJ) 0)) B }:=
 ⟨_,fun P w K mg base f Kc A Ko s H E C hr=>
  (jl (Qm (jJ rfl C.m_undo hr (by decide) (jn (jb 0))))
  jw)⟩
noncomputable def ZI:{ B:TRS // abQ CLUndone "_law_undone" zJ Zd 4 (zG (ab6 (jG zJ) 1)) B }:=
 ⟨_,fun P w K mg base f Kc A Ko s H E C hr=>
  (jl (JG (zf (zu hr.units) (jJ rfl C.m_value hr (by decide) (jn (jb 0))) (jn (jF (acN rfl) C.t.sum ac1 (ja (alb (jb 1) (js zd (jF qh C.t.len qi (ja (jb 1) jd)) (jb 2))) jd)))) (jl (qJ (jx zl))
  jw) jw)
  (jl (Qm (jJ rfl C.m_undo hr (by decide) (jn (jb 0))))
  jw))⟩
noncomputable def aaT:{ B:TRS // abQ CLUndone "_law_undone" zJ Zd 4 (jG zJ) B }:=
 ⟨_,fun P w K mg base f Kc A Ko s H E C hr=>
  (jl (aaB PassesOwn.never rfl (JE rfl C.t.range (ja (js jL (jF qh C.t.len qi (ja (jb 1) jd)) jj) jd)) (j4 2 aag.nd) (ZH.2 P w K mg base f Kc A Ko s H E C hr))
  (jl (aaB PassesOwn.never rfl (JE rfl C.t.range (ja (jF qh C.t.len qi (ja (jb 1) jd)) jd)) (j4 2 aag.nd) (ZI.2 P w K mg base f Kc A Ko s H E C hr))
  (jl (qJ (jx zl))
  jw)))⟩
noncomputable def aaU:GC3:=qB Zd aaT.1
noncomputable abbrev adj:Stmt:=top 66
structure CLaw(P:Program)(w:World)(K:Fg)(mg:SV)(base:Heap):Prop where
 m_many:qY P w K mg base "Hand" "many" ["self"] 1 1 aae
 m_add:qY P w K mg base "Hand" "add" ["self","number"] 14 2 agv
 m_value:qY P w K mg base "Hand" "value" ["self"] 3 1 zI
 m_setting:qY P w K mg base "Hand" "setting" ["self"] 1 1 zw
 m_take:qY P w K mg base "Hand" "take" ["self","number"] 8 2 Zb
 m_lay:qY P w K mg base "Hand" "lay" ["self","number"] 7 2 aiC
 mk_Hand:anK P w K mg base "Hand" ["self","manner","rods"] 7 3 adf
 k_LPushes:abM P w K mg base "_law_pushes" ["_law_hand","_law_move"] 9 2 aaS
 k_LRefuses:abM P w K mg base "_law_refuses" ["_law_hand","_law_number"] 9 2 abz
 k_LUndone:abM P w K mg base "_law_undone" ["_law_hand","_law_numbers"] 5 2 aaU
 t:Bare mg
 c_manner:jh P w K mg base "_law_manner" ["_law_script","_law_at"] 3 2 QE
 c_drawn:jh P w K mg base "_law_drawn" ["_law_script","_law_k","_law_many"] 2 3 za
 c_AllMoves:jh P w K mg base "all_moves" ["manner","setting"] 7 2 Jy
noncomputable abbrev ajJ:List Str:=["_law_script","_law_manner_here","_law_rods_here","_law_far_here","_law_hand","_law_other","_law_numbers","_law_k","_law_number","_law_moves","_law_left"]
theorem zK:FnScope ajJ ["_law_script"] (je adj):=⟨rfl,rfl,rfl,by decide +kernel,rfl,by decide +kernel,by decide +kernel⟩
noncomputable def aiE:{ B:TRS // abQ CLaw "law" adj ajJ 14 (zG (ab6 (jG adj) 6)) B }:=
 ⟨_,fun P w K mg base f Kc A Ko s H E C hr=>
  (jl (qJ (jZ 8 zK.nd (ji C.c_drawn hr (by decide) (ja (jb 0) (ja (js jL jj (jb 7)) (ja (jF (aig rfl) C.t.max ahe (ja jj (ja (js Jd (js zd (jb 3) jj) jj) jd))) jd))) (jc (jc (jc jg))))))
  (jl (Qm (acZ (jn (jb 6)) (jn (jb 8))))
  (jl (JG (Ql (Z7 (zf (zu hr.units) (zo rfl C.m_add hr (by decide) (jn (jb 4)) (ju (jn (jb 8)) jT)) (aiq 6 (jF (acN rfl) C.t.sum ac1 (ja (jb 6) jd)))) (Zn (zf (zu hr.units) (jJ rfl C.m_many hr (by decide) (jn (jb 4))) (aiq 6 (jF qh C.t.len qi (ja (jb 6) jd))))))) (jl (qJ (jx zl))
  jw) jw)
  jw)))⟩
noncomputable def alX:{ B:TRS // abQ CLaw "law" adj ajJ 14 (zG (ab6 (jG adj) 8)) B }:=
 ⟨_,fun P w K mg base f Kc A Ko s H E C hr=>
  (jl (Qm (zo rfl C.m_add hr (by decide) (jn (jb 5)) (ju (jn (jb 8)) jT)))
  jw)⟩
noncomputable def alY:{ B:TRS // abQ CLaw "law" adj ajJ 14 (zG (ab6 (jG adj) 14)) B }:=
 ⟨_,fun P w K mg base f Kc A Ko s H E C hr=>
  (jl (qJ (jZ 10 zK.nd (js zd (jb 10) (jb 8))))
  (jl (JG (zf (zu hr.units) (zo rfl C.m_take hr (by decide) (jn (jb 4)) (ju (jn (jb 8)) jT)) (jn (jb 10))) (jl (qJ (jx zl))
  jw) jw)
  jw))⟩
noncomputable def an4:{ B:TRS // abQ CLaw "law" adj ajJ 14 (jG adj) B }:=
 ⟨_,fun P w K mg base f Kc A Ko s H E C hr=>
  (jl (qJ (jZ 1 zK.nd (ji C.c_manner hr (by decide) (ja (jb 0) (ja jj jd)) (jc (jc jg)))))
  (jl (qJ (jZ 2 zK.nd (js jL jj (ji C.c_drawn hr (by decide) (ja (jb 0) (ja jj (ja jj jd))) (jc (jc (jc jg)))))))
  (jl (qJ (jZ 3 zK.nd (js qS (jO (jb 1) jj) (jO (jb 1) jj))))
  (jl (QB 4 zK.nd (af9 rfl C.mk_Hand hr (by decide) (ju (jn (jb 1)) (ju (jn (jb 2)) jT))))
  (jl (QB 5 zK.nd (af9 rfl C.mk_Hand hr (by decide) (ju (jn (jb 1)) (ju (jn (jb 2)) jT))))
  (jl (QB 6 zK.nd (aip (abh jd)))
  (jl (aaB PassesOwn.never rfl (JE rfl C.t.range (ja (ji C.c_drawn hr (by decide) (ja (jb 0) (ja jj (ja jj jd))) (jc (jc (jc jg)))) jd)) (j4 7 zK.nd) (aiE.2 P w K mg base f Kc A Ko s H E C hr))
  (ajC 6
  (jl (JG (Ql (Z7 (zf (zu hr.units) (jJ rfl C.m_value hr (by decide) (jn (jb 5))) (jn jj)) (Zn (zf (zu hr.units) (jJ rfl C.m_many hr (by decide) (jn (jb 5))) (jn jj))))) (jl (qJ (jx zl))
  jw) jw)
  (jl (aaB PassesOwn.never rfl (aay (apI (jb 6))) (j4 8 zK.nd) (alX.2 P w K mg base f Kc A Ko s H E C hr))
  (jl (JG (Ql (Z7 (zf (zu hr.units) (jJ rfl C.m_value hr (by decide) (jn (jb 5))) (jJ rfl C.m_value hr (by decide) (jn (jb 4)))) (Zn (zf (zu hr.units) (jJ rfl C.m_value hr (by decide) (jn (jb 5))) (jn (jF (acN rfl) C.t.sum ac1 (ja (jb 6) jd))))))) (jl (qJ (jx zl))
  jw) jw)
  (jl (QB 9 zK.nd (agc C.c_AllMoves hr (by decide) (ju (jn (jb 1)) (ju (jJ rfl C.m_setting hr (by decide) (jn (jb 4))) jT))))
  (jl (JG (aaz (aci (QC C.k_LPushes hr (by decide) (ju (jn (jb 4)) (ju (jn (jO (jb 9) (ji C.c_drawn hr (by decide) (ja (jb 0) (ja jj (ja (jF qh C.t.len qi (ja (jb 9) jd)) jd))) (jc (jc (jc jg)))))) jT))))) (jl (qJ (jx zl))
  jw) jw)
  (jl (JG (Ql (Z7 (aaz (aci (QC C.k_LRefuses hr (by decide) (ju (jn (jb 4)) (ju (jn (js jL (jF (acN rfl) C.t.sum ac1 (ja (jb 6) jd)) jj)) jT))))) (Zn (aaz (aci (QC C.k_LRefuses hr (by decide) (ju (jn (jb 4)) (ju (jn (akV jj)) jT)))))))) (jl (qJ (jx zl))
  jw) jw)
  (jl (qJ (jZ 10 zK.nd (jF (acN rfl) C.t.sum ac1 (ja (jb 6) jd))))
  (jl (aaB PassesOwn.never rfl (aay (jb 6)) (j4 8 zK.nd) (alY.2 P w K mg base f Kc A Ko s H E C hr))
  (jl (JG (Ql (Z7 (zf (zu hr.units) (jJ rfl C.m_value hr (by decide) (jn (jb 4))) (jn jj)) (Z7 (zf (zu hr.units) (jJ rfl C.m_many hr (by decide) (jn (jb 4))) (jn (js jL (js qS jj (jF qh C.t.len qi (ja (jb 6) jd))) jj))) (Zn (zf (zu hr.units) (jJ rfl C.m_many hr (by decide) (jn (jb 5))) (jn (jF qh C.t.len qi (ja (jb 6) jd)))))))) (jl (qJ (jx zl))
  jw) jw)
  (jl (JG (aaz (aci (QC C.k_LUndone hr (by decide) (ju (jn (jb 4)) (ju (jn (jb 6)) jT))))) (jl (qJ (jx zl))
  jw) jw)
  (jl (qK (aeW (Zm (zD hr.units) (jJ rfl C.m_setting hr (by decide) (jn (jb 4))) (jn (js akY (ahg 3 (.tuple [.tuple [.int 0,.int 0]]) (by kernel_rfl)) (jb 2)))) (aeW (Zm (zD hr.units) (jJ rfl C.m_many hr (by decide) (jn (jb 4))) (jn jj)) (ain (Zm (zD hr.units) (zo rfl C.m_lay hr (by decide) (jn (jb 4)) (ju (jn (js zd (jb 3) jj)) jT)) (jn (js zd (jb 3) jj)))))))
  jw)))))))))))))))))))⟩
noncomputable def alZ:GC3:=qB ajJ an4.1
noncomputable abbrev afs(C:CC)(qual:Str)(st:Stmt)(N:List Str)(k:Nat)(B:RO):Prop:=
 ∀(P:Program) (w:World) (K:Fg) (mg:SV) (base:Heap) (f:Addr) (Kc:Value) (A:Around) (Ko:List Env) (s:Shared) (H:Hp) (E:XK),C P w K mg base->RoomH k (A.deeper (envOfC qual (je st) s.heap.objs.size f Kc))->QX (cxQ P w K mg base N qual (je st) f Kc A Ko s H E)->
  aal (cxQ P w K mg base N qual (je st) f Kc A Ko s H E) (jG st) B
noncomputable abbrev abA(C:CC)(qual:Str)(st:Stmt)(N:List Str)(k:Nat)(T:TRS):Prop:=
 ∀(P:Program) (w:World) (K:Fg) (mg:SV) (base:Heap) (f:Addr) (Kc:Value) (A:Around) (Ko:List Env) (s:Shared) (H:Hp) (E:XK),C P w K mg base->RoomH k (A.deeper (envOfC qual (je st) s.heap.objs.size f Kc))->QX (cxQ P w K mg base N qual (je st) f Kc A Ko s H E)->
  ZR (cxQ P w K mg base N qual (je st) f Kc A Ko s H E) (jG st) T
noncomputable def ahL:{ B:RO // afs (fun _ _ _ _ _=>True) "rod_worth" Jw ["manner","rod"] 0 B }:=⟨_,fun P w K mg base f Kc A Ko s H E T hr q=>
 jf (jx (js jL (js qS (jO (jb 1) jj) (jO (jb 0) jj)) (jO (jb 1) jj))) jm⟩
theorem ajK:afs (fun _ _ _ _ _=>True) "rod_worth" Jw ["manner","rod"] 0 Zo.1:=ahL.2
noncomputable def aru:{ B:RO // afs (fun P w K mg base=>JR P w K mg base "rod_worth" ["manner","rod"] 1 2 qo) "number_on" zv ajF 1 B }:=⟨_,fun P w K mg base f Kc A Ko s H E C hr q=>
 jf (jZ 2 Q7.nd jj) (jf (alw PassesOwn.never q (alv (jb 1)) (j4 3 Q7.nd) (jf (jZ 2 Q7.nd (js jL (js qS (jb 2) (jO (jb 0) jj)) (alA q C hr (Nat.le_refl _) (ja (jb 0) (ja (jb 3) jd)) (jc (jc jg))))) jm)) (jf (jx (jb 2)) jm))⟩
theorem asr:afs (fun P w K mg base=>JR P w K mg base "rod_worth" ["manner","rod"] 1 2 qo) "number_on" zv ajF 1 alE.1:=aru.2
noncomputable def ahM:{ B:TRS // abA CMSetting "Hand.setting" Jx Qs 0 B }:=⟨_,fun P w K mg base f Kc A Ko s H E C hr q=>
 (jl (qK (qm C.f_now (jn (jb 0)))) jw)⟩
theorem ajL:abA CMSetting "Hand.setting" Jx Qs 0 ZC.1:=ahM.2
structure CQValue(P:Program)(w:World)(K:Fg)(mg:SV)(base:Heap):Prop where
 f_manner:zN K "Hand" "manner"
 f_now:zN K "Hand" "now"
 c_num:JR P w K mg base "number_on" ["manner","setting"] 2 2 zA
noncomputable def al0:{ B:TRS // abA CQValue "Hand.value" ZD aaQ 2 B }:=⟨_,fun P w K mg base f Kc A Ko s H E C hr q=>
 (jl (qK (ajA q C.c_num hr (by decide) (ju (qm C.f_manner (jn (jb 0))) (ju (qm C.f_now (jn (jb 0))) jT)))) jw)⟩
theorem an5:abA CQValue "Hand.value" ZD aaQ 2 acu.1:=al0.2
noncomputable def an6:{ B:TRS // abA CMMany "Hand.many" abx adh 0 B }:=⟨_,fun P w K mg base f Kc A Ko s H E C hr q=>
 (jl (qK (air qh C.t.len qi (qm C.f_past (jn (jb 0))))) jw)⟩
theorem apX:abA CMMany "Hand.many" abx adh 0 afr.1:=an6.2
theorem j0(i a b:Int):jQ [.int i,.int a,.int b]=some (.bool (decide (a<=i)&&decide (i<=b))):=by
 by_cases h:a<=i<;>simp[jQ,jD,aaF,jI,jR,ifS,orB,tst,lkp,Qb,tyn,asB,zt,chn,JF,qw,qE,h]
theorem QF(u e l b x y:Int)(h:-18446744073709551616<x/\x<18446744073709551616):qo [.tuple [.int u,.int e,.int l,.int b],.tuple [.int x,.int y]]=some (.int (x*e+y)):=by
 simp[qo,jD,Zo,jI,jR,op2,lkp,dIx,atI,ixN,qw,qE,cst,ZQ,zM,h]
theorem ajM(x y:Int):Jl [.tuple [.int x,.int y]]=some (.int (x+y)):=by
 simp[Jl,jD,ahs,jI,jR,op2,lkp,dIx,atI,ixN,qw,qE,cst,zM]
theorem adk{n:Nat}{i:Int}(h0:0<=i)(h:i.toNat<n):ixN n i=some i.toNat:=by
 unfold ixN;rw[if_pos h0,if_pos (by omega)]
noncomputable def okN(u e l b:Int):Bool:=decide (0<=u)&&decide (u<=3)&&decide (1<=e)&&decide (e<=5)&&decide (e-1<=l)&&decide (1<=l)&&decide (l<=11)&&decide (2<=b)&&decide (b<=16)&&decide (b<=u*e+l+1)
noncomputable def qT(u l:Int):LP:=QJ (u+1).toNat (l+1).toNat
noncomputable def jU(e:Int):PyData->Int
 |.tuple [.int x,.int y]=>x*e+y
 |_=>-1
noncomputable def fpr(m:PyData)(d:Int):Int×Int:=match JT [m,.int d]with
 |some (.tuple [.int x,.int y])=>(x,y)
 |_=>(0,0)
noncomputable def pr(p:Int×Int):PyData:= .tuple [.int p.1,.int p.2]
noncomputable def jz(ps:List (Int×Int)):PyData:= .tuple (ps.map pr)
noncomputable def okP(u l:Int)(p:Int×Int):Bool:=decide (0<=p.1)&&decide (p.1<=u)&&decide (0<=p.2)&&decide (p.2<=l)
noncomputable def okS(u l:Int)(ps:List (Int×Int)):Bool:=decide (1<=ps.length)&&decide (ps.length<=4)&&ps.all (okP u l)
noncomputable def wt(e:Int)(p:Int×Int):Int:=p.1*e+p.2
noncomputable def val(b e:Int)(ps:List (Int×Int)):Int:=ps.foldl (fun n p=>n*b+wt e p) 0
noncomputable def asD(b e:Int)(ps:List (Int×Int)):Bool:=ps.all fun p=>decide (wt e p<b)
noncomputable def dgl(b:Int):Nat->Int->List Int
 |0,_=>[]
 |1,n=>[n]
 |k+2,n=>dgl b (k+1) (n / b)++[n % b]
noncomputable def pln(m:PyData)(b:Int)(r:Nat)(n:Int):List (Int×Int):=(dgl b r n).map (fpr m)
noncomputable def f00:Int×Int:=(0,0)
noncomputable def arv(e:Int):List Int->LP->List Int
 |c,[]=>c
 |c,r::rs=>arv e (c.set (jU e r).toNat (c.getD (jU e r).toNat 0+1)) rs
noncomputable def arw(u e l:Int):List Int:=arv e (List.replicate (u*e+l+1).toNat 0) (qT u l)
noncomputable def cnt(u e l n:Int):Int:=((qT u l).filter fun r=>jU e r==n).length
noncomputable def okM(u e l b:Int):Bool:=decide (0<=u)&&decide (u<=3)&&decide (1<=e)&&decide (e<=5)&&decide (e-1<=l)&&decide (1<=l)&&decide (l<=10)&&decide (2<=b)&&decide (b<=16)&&decide (b<=u*e+l+1)
theorem ad9{n m:Nat}{d:PyData}(h:d∈QJ n m):∃i j:Nat,i<n/\j<m/\d= .tuple [.int i,.int j]:=by
 obtain⟨i,hi,hd⟩:=List.mem_flatMap.mp h;obtain⟨j,hj,rfl⟩:=List.mem_map.mp hd;exact⟨i,j,List.mem_range.mp hi,List.mem_range.mp hj,rfl⟩
theorem Jr(i:Int):okD (.int i)=true:=by simp[okD,PyData.canLay0,PyData.depth]
theorem abT{u e l b:Int}(hu:0<=u)(hu':u<100)(hl:0<=l)(hl':l<100):JH [jk u e l b]=some (.list (qT u l)):=by
 simp[JH,jk,qT,hu,hl,show u<1000 by omega,show l<1000 by omega]
theorem agx{u l:Int}(hu':u<100)(hl':l<100):few (qT u l)=true:=by
 simp only[few,qT,agk,decide_eq_true_eq];have:(u+1).toNat*(l+1).toNat<=100*100:=Nat.mul_le_mul (by omega) (by omega);omega
theorem aea{u e l b:Int}(hu':u<100){d:PyData}(h:d∈qT u l):qo [jk u e l b,d]=some (.int (jU e d)):=by
 obtain⟨i,j,hi,hj,rfl⟩:=ad9 h;exact QF u e l b i j (by omega)
theorem al1(ns:List Int):okD (.list (ns.map PyData.int))=true:=by
 have h1:∀ns:List Int,PyData.canLayAll0 (ns.map PyData.int)=true:=fun ns=>by
  induction ns with
  |nil=>rfl
  |cons n ns ih=>simp[PyData.canLayAll0,PyData.canLay0,ih]
 have h2:∀ns:List Int,PyData.depthAll (ns.map PyData.int)=0:=fun ns=>by
  induction ns with
  |nil=>rfl
  |cons n ns ih=>simp[PyData.depthAll,PyData.depth,ih]
 simp[okD,PyData.canLay0,h1,PyData.depth,h2]
theorem al2(ns:List Int)(d:Int):(ns.map PyData.int).any (fun z=>PyData.eqv z (.int d))=ns.any (fun z=>z==d):=by
 induction ns with
 |nil=>rfl
 |cons n ns ih=>simp only[List.map_cons,List.any_cons,ih];rfl
theorem acv{α:Type}(f:α->Bool):∀xs:List α,bls (xs.map fun d=>PyData.bool (f d))=some (xs.map f)
 | []=>rfl
 |x::xs=>by simp[bls,asB,acv f xs]
theorem ix3(u e l b:Int):dIx (jk u e l b) (.int 3)=some (.int b):=rfl
theorem aaV{j:Int}(h:0<=j)(h':j<1000000):QT [.int j]=some (Jp 0 j.toNat):=by
 unfold QT;exact if_pos (by omega)
theorem QG(a b:Int):PyData.eqv (.int a) (.int b)=(a==b):=by unfold PyData.eqv;rfl
theorem adl{u e l b:Int}(hu:0<=u)(hu':u<100)(hl:0<=l)(hl':l<100)(hb:0<=b)(hb':b<100):aaG [jk u e l b]=some (.bool ((List.range b.toNat).all fun d=>((qT u l).map (jU e)).any fun z=>z==(d:Int))):=by
 have h1:=abT (e:=e) (b:=b) hu hu' hl hl';have h2:=agx hu' hl';have h4:few (Jp 0 b.toNat)=true:=by simp[few,Jp];omega
 simp only[aaG,jD,ae1,jI,jR,qw,zC,itL,jB,jo,jA,lkp,QQ,List.length_cons,List.length_nil,zzM,List.map_cons,List.map_nil,List.cons_append,List.nil_append,zzA,zzC,zzD,zzE,h1,h2,Z4,qz];rw[Qi (fun d=> .int (jU e d))]
 ·simp only[jS,qE,op2,cst,lkp,zzD,zzE,zzF,zzG,List.replicate,List.length_cons,List.length_nil,zzA,zzB,zzC,ix3,aaV hb (show b<1000000 by omega),h4,zzM]
  rw[Qi (fun d=> .bool (((qT u l).map (jU e)).any fun z=>z==(QL d).getD 0))]
  ·have:(Jp 0 b.toNat).map (fun d=>PyData.bool (((qT u l).map (jU e)).any fun z=>z==(QL d).getD 0))=(List.range b.toNat).map fun (d:Nat)=>PyData.bool (((qT u l).map (jU e)).any fun z=>z==(d:Int)):=by
    simp[Jp,QL,Function.comp_def]
   simp only[zzE,zzD,this,akJ,acv (fun (d:Nat)=>((qT u l).map (jU e)).any fun z=>z==(d:Int)),List.all_map,Function.comp_def,id]
  ·intro d hd
   obtain⟨k,_,rfl⟩:=List.mem_map.mp hd;have h5:(qT u l).map (fun d=>PyData.int (jU e d))=((qT u l).map (jU e)).map PyData.int:=by simp
   have h6:=al1 ((qT u l).map (jU e));simp only[op2,lkp,zzG,zzA,zzB,zzC,zzD,dIn,Jr,h5,h6,al2];simp[QL]
 ·intro d hd
  simp[jB,jo,jA,lkp,aea (b:=b) (e:=e) hu' hd]
theorem aft{u e l b:Int}(hu:0<=u)(hu':u<=3)(he:1<=e)(he':e<=16)(hl:0<=l)(hl':l<=12)(hb:2<=b)(hb':b<=16):qN [jk u e l b]=aaG [jk u e l b]:=by
 have g:=adl (e:=e) hu (by omega) hl (by omega) (show 0<=b by omega) (by omega);have w1:jQ [.int u,.int 0,.int 3]=some (.bool true):=by rw[j0];simp[hu,hu']
 have w2:jQ [.int e,.int 1,.int 16]=some (.bool true):=by rw[j0];simp[he,he']
 have w3:jQ [.int l,.int 0,.int 12]=some (.bool true):=by rw[j0];simp[hl,hl']
 have w4:jQ [.int b,.int 2,.int 16]=some (.bool true):=by rw[j0];simp[hb,hb']
 have z:aii [jk u e l b,.tuple [.int 0,.int 1,.int 0,.int 2],.tuple [.int 3,.int 16,.int 12,.int 16]]=some [.tuple [.int u,.int 0,.int 3],.tuple [.int e,.int 1,.int 16],.tuple [.int l,.int 0,.int 12],.tuple [.int b,.int 2,.int 16]]:=rfl;rw[g];rw[show jk u e l b= .tuple [.int u,.int e,.int l,.int b] from rfl]at g z ⊢;simp[qN,jD,abp,jI,jR,ifS,orB,zt,tst,Qb,tyn,asB,lkp,op2,jB,jo,jA,qM,cst,dNe,Jr,QG,qE,ZP,z,jY,ZO,qr,Qa,jS,w1,w2,w3,w4,qw,g]
theorem Qt{m:PyData}(h:qN [m]=some (.bool true)):Q6 [m]=some .none:=by
 simp[Q6,jD,ahu,jI,jR,ifS,zt,tst,asB,jB,jo,jA,lkp,h,qE]
theorem acw:few []=true:=by simp[few]
theorem add_int(i j:Int):zM (.int i) (.int j)=some (.int (i+j)):=rfl
theorem qP{i j:Int}(h:-1000000000000<i/\i<1000000000000):ZQ (.int i) (.int j)=some (.int (i*j)):=by
 unfold ZQ;exact if_pos (.inl ⟨by omega,by omega⟩)
theorem acx{i j:Int}(h:0<j):ajd (.int i) (.int j)=some (.int (i % j)):=by unfold ajd;exact if_pos h
theorem aaW{i j:Int}(h:0<j)(h':j<1000000000):abH (.int i) (.int j)=some (.int (i / j)):=by unfold abH;exact if_pos ⟨h,by omega⟩
theorem al3(ns:List Int)(hn:ns.length<1000000)(k:Int)(hk:0<=k):∃c,agq [scr ns,.int k]=some (.int c):=by
 cases ns with
 | nil=>
  refine⟨7*k,?_⟩;simp[agq,jD,aiv,jI,jR,ifS,tst,op2,lkp,Jo,jA,few,dEq,scr,Jb,asB,qw,cst,qP,qE]
 | cons n ns=>
  have hl:0<(((n::ns).map fun n=>(PyData.int n,PyData.none)).length:Int):=by simp
  have hl':(((n::ns).map fun n=>(PyData.int n,PyData.none)).length:Int)<1000000:=by simp at hn ⊢;omega
  have hsc:=adU (n::ns)
  have e1:dEq (scr (n::ns)) (.list [])=some (.bool false):=by
   show(if Jb ((n::ns).map fun n=>(PyData.int n,PyData.none))=true then some (PyData.bool ((n::ns).map fun n=>(PyData.int n,PyData.none)).isEmpty) else none)=_;rw[if_pos hsc];rfl
  have e2:qM [scr (n::ns)]=some (.int (((n::ns).map fun n=>(PyData.int n,PyData.none)).length)):=by
   show(if Jb ((n::ns).map fun n=>(PyData.int n,PyData.none))=true then some (PyData.int ((n::ns).map fun n=>(PyData.int n,PyData.none)).length) else none)=_;rw[if_pos hsc]
  generalize hL:(((n::ns).map fun n=>(PyData.int n,PyData.none)).length:Int)=L at*;have h0:0<=k % L:=Int.emod_nonneg _ (by omega);have h1:k % L<L:=Int.emod_lt_of_pos _ hl
  have e3:∃c,dIx (scr (n::ns)) (.int (k % L))=some (.int c):=by
   have hlen:((n::ns).map fun n=>(PyData.int n,PyData.none)).length<1000000:=by omega
   have hlt:(k % L).toNat<((n::ns).map fun n=>(PyData.int n,PyData.none)).length:=by omega
   have hx:ixN ((n::ns).map fun n=>(PyData.int n,PyData.none)).length (k % L)=some (k % L).toNat:=adk h0 hlt;refine⟨((n::ns)[(k % L).toNat]'(by simpa using hlt)),?_⟩;show(if ((n::ns).map fun n=>(PyData.int n,PyData.none)).length<1000000/\Jb ((n::ns).map fun n=>(PyData.int n,PyData.none))=true then (atI ((n::ns).map fun n=>(PyData.int n,PyData.none)) (k % L)).map (·.1) else none)=_;rw[if_pos ⟨hlen,hsc⟩];unfold atI;rw[hx,zzD,List.getElem?_eq_getElem hlt,zzE,List.getElem_map]
  obtain⟨c,e3⟩:=e3;refine⟨c+6553*(k / L),?_⟩;simp[agq,jD,aiv,jI,jR,ifS,tst,op2,lkp,Jo,jA,few,asB,qw,cst,qE,jB,jo,e1,e2,e3,acx hl,aaW hl (show L<1000000000 by omega),qP,add_int]
theorem zg(ns:List Int)(hn:ns.length<1000000)(k m:Int)(hk:0<=k)(hm:0<m):∃r,za [scr ns,.int k,.int m]=some (.int r)/\0<=r/\r<m:=by
 obtain⟨c,hc⟩:=al3 ns hn k hk;generalize h1:(c % 2147483563*69069+104723*(k+1)) % 2147483563=a;generalize h2:(a*a+a / 3) % 2147483399=d;have ha:0<=a/\a<2147483563:=by rw[←h1];exact⟨Int.emod_nonneg _ (by omega),Int.emod_lt_of_pos _ (by omega)⟩
 have hd:0<=d/\d<2147483399:=by rw[←h2];exact⟨Int.emod_nonneg _ (by omega),Int.emod_lt_of_pos _ (by omega)⟩
 have hc':0<=c % 2147483563/\c % 2147483563<2147483563:=⟨Int.emod_nonneg _ (by omega),Int.emod_lt_of_pos _ (by omega)⟩;refine⟨(d*d+d / 7) % 2147483647 / 11 % m,?_,Int.emod_nonneg _ (by omega),Int.emod_lt_of_pos _ hm⟩;have m1:ZQ (.int (c % 2147483563)) (.int 69069)=some (.int (c % 2147483563*69069)):=qP (by omega);have m2:ZQ (.int 104723) (.int (k+1))=some (.int (104723*(k+1))):=qP (by omega);have m3:ZQ (.int a) (.int a)=some (.int (a*a)):=qP (by omega);have m4:ZQ (.int d) (.int d)=some (.int (d*d)):=qP (by omega);simp[za,jD,ahw,jI,jR,qz,jS,op2,lkp,jA,qw,cst,qE,jB,jo,hc,m1,m2,m3,m4,acx,aaW,add_int,h1,h2,hm]
theorem al4(w:Int)(h0:0<=w)(h:w<12):∃u e l b,dIx (.list (abu++abv)) (.int w)=some (jk u e l b)/\okM u e l b=true:=by
 obtain⟨n,rfl⟩:=Int.eq_ofNat_of_zero_le h0;have hn:n<12:=by omega
 have:∀n<12,∃u e l b,dIx (.list (abu++abv)) (.int (n:Nat))=some (jk u e l b)/\okM u e l b=true:=by
  intro n hn
  match n,hn with
  |0,_=>exact⟨_,_,_,_,rfl,by decide⟩
  |1,_=>exact⟨_,_,_,_,rfl,by decide⟩
  |2,_=>exact⟨_,_,_,_,rfl,by decide⟩
  |3,_=>exact⟨_,_,_,_,rfl,by decide⟩
  |4,_=>exact⟨_,_,_,_,rfl,by decide⟩
  |5,_=>exact⟨_,_,_,_,rfl,by decide⟩
  |6,_=>exact⟨_,_,_,_,rfl,by decide⟩
  |7,_=>exact⟨_,_,_,_,rfl,by decide⟩
  |8,_=>exact⟨_,_,_,_,rfl,by decide⟩
  |9,_=>exact⟨_,_,_,_,rfl,by decide⟩
  |10,_=>exact⟨_,_,_,_,rfl,by decide⟩
  |11,_=>exact⟨_,_,_,_,rfl,by decide⟩
  |k+12,h=>omega
 exact this n hn
theorem ahN(ns:List Int)(hn:ns.length<1000000)(k:Int)(hk:0<=k):∃u e l b,QE [scr ns,.int k]=some (jk u e l b)/\okM u e l b=true:=by
 obtain⟨w,hw,hw0,hw1⟩:=zg ns hn k 24 hk (by omega);have a1:zM (.list abu) (.list abv)=some (.list (abu++abv)):=rfl;have a2:qM [.list (abu++abv)]=some (.int 12):=rfl;have a3:ZQ (.int 2) (.int 12)=some (.int 24):=rfl;by_cases hlt:w<12
 ·obtain⟨u,e,l,b,h1,h2⟩:=al4 w hw0 hlt
  refine⟨u,e,l,b,?_,h2⟩;simp[QE,jD,acn,jI,jR,qz,jS,op2,lkp,jA,qw,cst,qE,jB,jo,ifS,tst,asB,a1,a2,a3,hw,JF,hlt,h1]
 ·obtain⟨r1,e1,p1,q1⟩:=zg ns hn (k+1) 5 (by omega) (by omega)
  obtain⟨r2,e2,p2,q2⟩:=zg ns hn (k+2) 4 (by omega) (by omega);obtain⟨r3,e3,p3,q3⟩:=zg ns hn (k+3) 4 (by omega) (by omega);generalize hlo:(if (1:Int)>1+r1-1 then 1 else 1+r1-1)+r3=lo
  have hlo1:1<=lo/\r1<=lo/\lo<=10:=by
   rw[←hlo];split<;>omega
  have hue:0<=r2*(1+r1)/\r2*(1+r1)<=3*5:=⟨Int.mul_nonneg p2 (by omega),Int.mul_le_mul (by omega) (by omega) (by omega) (by omega)⟩;generalize hmn:(if r2*(1+r1)+lo<15 then r2*(1+r1)+lo else 15)=mn
  have hmn1:0<mn/\mn<=15/\mn<=r2*(1+r1)+lo:=by
   rw[←hmn];split<;>omega
  obtain⟨r4,e4,p4,q4⟩:=zg ns hn (k+4) mn (by omega) (by omega);refine⟨r2,1+r1,lo,2+r4,?_,?_⟩
  ·have m1:ZQ (.int r2) (.int (1+r1))=some (.int (r2*(1+r1))):=qP (by omega)
   have x1:acL [.int (1+r1-1),.int 1]=some (.int (if (1:Int)>1+r1-1 then 1 else 1+r1-1)):=rfl;have x2:akI [.int 15,.int (r2*(1+r1)+lo)]=some (.int (if r2*(1+r1)+lo<15 then r2*(1+r1)+lo else 15)):=rfl;have x3:abe (.int (1+r1)) (.int 1)=some (.int (1+r1-1)):=rfl;simp only[QE,jD,acn,jI,jR,qz,jS,op2,lkp,jA,qw,cst,qE,jB,jo,ifS,tst,asB,a1,a2,a3,hw,JF,hlt,zzD,zzE,zzF,zzG,List.replicate,List.length_cons,List.length_nil,zzM,List.map_cons,List.map_nil,List.cons_append,List.nil_append,zzA,zzB,zzC,add_int,e1,e2,e3,m1,x1,x2,x3,decide_false,hlo,hmn,e4];simp[e1,e2,e3,m1,x1,x2,x3,hlo,hmn,e4,add_int,lkp,ab0,jo,jA,few,jk];simp only[ab0,jo,jA,lkp,op2,jB,cst,zzD,zzE,zzA,zzB,zzC,add_int,m1,x2,hmn,e4];simp
  ·have:=hue.1
   simp[okM];omega
noncomputable def isInt(t:Int):PyData->Bool
 |.int x=>x==t
 |_=>false
noncomputable def apY(u e l:Int):Bool:=
 isInt (u*e+l) (apv none ((qT u l).map (jU e))) &&
 ((List.range (u*e+l+1).toNat).all fun n=>(qT u l).any fun r=>jU e r==(n:Int)) &&
 ((qT u l).all fun r=>decide (0<=jU e r)&&decide (jU e r<=u*e+l)) &&
 decide (arw u e l=(List.range (u*e+l+1).toNat).map fun (n:Nat)=>cnt u e l n)
noncomputable def qG:Bool:=(List.range 4).all fun (i:Nat)=>(List.range 5).all fun (j:Nat)=>(List.range 11).all fun (k:Nat)=>decide (k+1<j)||apY i (j+1) (k+1)
structure Chk(u e l:Int):Prop where
 most:apv none ((qT u l).map (jU e))= .int (u*e+l)
 dig:∀n:Nat,n<(u*e+l+1).toNat->((qT u l).any fun r=>jU e r==(n:Int))=true
 rng:∀r∈qT u l,0<=jU e r/\jU e r<=u*e+l
 lst:arw u e l=(List.range (u*e+l+1).toNat).map fun (n:Nat)=>cnt u e l n
theorem apZ{u e l:Int}(h:apY u e l=true):Chk u e l:=by
 simp only[apY,Bool.and_eq_true,List.all_eq_true,decide_eq_true_eq]at h;obtain⟨⟨⟨h1,h2⟩,h3⟩,h4⟩:=h;refine⟨?_,fun n hn=>h2 n (List.mem_range.mpr hn),fun r hr=>h3 r hr,h4⟩;generalize apv none ((qT u l).map (jU e))=x at h1;cases x<;>simp[isInt]at h1
 rw[h1]
theorem qf{u e l b:Int}(h:okN u e l b=true):0<=u/\u<=3/\1<=e/\e<=5/\e-1<=l/\1<=l/\l<=11/\2<=b/\b<=16/\b<=u*e+l+1:=by
 simp only[okN,Bool.and_eq_true,decide_eq_true_eq]at h;omega
theorem ap0{u e l b:Int}(H:qG=true)(h:okN u e l b=true):Chk u e l:=by
 obtain⟨a1,a2,a3,a4,a5,a6,a7,_⟩:=qf h;simp only[qG,List.all_eq_true,Bool.or_eq_true,decide_eq_true_eq]at H;have:=H u.toNat (List.mem_range.mpr (by omega)) (e-1).toNat (List.mem_range.mpr (by omega)) (l-1).toNat (List.mem_range.mpr (by omega));rcases this with z | z
 ·exfalso;omega
 ·rw[show((u.toNat:Nat):Int)=u by omega,show(((e-1).toNat:Nat):Int)+1=e by omega,show(((l-1).toNat:Nat):Int)+1=l by omega]at z
  exact apZ z
theorem an7{u e l b:Int}(h:okM u e l b=true):okN u e l b=true:=by
 simp only[okM,okN,Bool.and_eq_true,decide_eq_true_eq]at h ⊢;omega
theorem al5{u e l b:Int}(H:qG=true)(h:okN u e l b=true){n:Int}(h0:0<=n)(hn:n<b):((qT u l).any fun r=>jU e r==n)=true:=by
 obtain⟨a1,a2,a3,a4,a5,a6,a7,a8,a9,a10⟩:=qf h;have:=(ap0 H h).dig n.toNat (by omega);rw[show((n.toNat:Nat):Int)=n by omega]at this;exact this
noncomputable def Ze(u e l w:Int):LP:=(qT u l).filter fun r=>jU e r==w
theorem afu{u e l b w:Int}(hu:0<=u)(hu':u<100)(hl:0<=l)(hl':l<100):Zr [jk u e l b,.int w]=some (.list (Ze u e l w)):=by
 have h1:=abT (e:=e) (b:=b) hu hu' hl hl';have h2:=agx hu' hl';simp only[Zr,jD,abq,jI,jR,qw,zC,itL,jB,jo,jA,lkp,QQ,List.length_cons,List.length_nil,zzM,List.map_cons,List.map_nil,List.cons_append,List.nil_append,zzA,zzC,zzD,zzE,h1,h2,Z4];rw[aan (fun d=>jU e d==w) id]
 ·simp[Ze]
 ·intro d hd
  simp[tst,op2,jB,jo,jA,lkp,aea (b:=b) (e:=e) hu' hd,dEq,Jr,PyData.eqv,asB]
 ·intro d hd _
  simp[lkp]
theorem abB(kf:PyData->Int):∀(r:LP) (d:PyData),ZV kf d r=d∨ZV kf d r∈r
 | [],d=> .inl rfl
 | x::r,d=>by
  unfold ZV;split
  ·rcases abB kf r x with z | z
   ·exact .inr (by rw[z];exact List.mem_cons_self)
   ·exact .inr (List.mem_cons_of_mem _ z)
  ·rcases abB kf r d with z | z
   ·exact .inl z
   ·exact .inr (List.mem_cons_of_mem _ z)
noncomputable def qH(m:PyData)(d:Int):PyData:=pr (fpr m d)
theorem qQ{u e l b:Int}(H:qG=true)(h:okN u e l b=true){d:Int}(h0:0<=d)(hd:d<b):
  JT [jk u e l b,.int d]=some (qH (jk u e l b) d)/\wt e (fpr (jk u e l b) d)=d/\okP u l (fpr (jk u e l b) d)=true:=by
 obtain⟨a1,a2,a3,a4,a5,a6,a7,a8,a9,a10⟩:=qf h;have hw:=afu (e:=e) (b:=b) (w:=d) a1 (show u<100 by omega) (show 0<=l by omega) (show l<100 by omega);have any:=al5 H h h0 hd
 have rods:∀r∈Ze u e l d,∃i j:Nat,r= .tuple [.int i,.int j]/\(i:Int)*e+j=d/\(i:Int)<=u/\(j:Int)<=l:=fun r hr=>by
  obtain⟨h1,h2⟩:=List.mem_filter.mp hr;obtain⟨i,j,q1,q2,rfl⟩:=ad9 h1;exact⟨i,j,rfl,by simpa[jU]using h2,by omega,by omega⟩
 have kb:∀i j:Nat,Jl [.tuple [.int i,.int j]]=some (.int (i+j)):=fun i j=>ajM i j
 have hk:acP Jl (Ze u e l d)=true:=List.all_eq_true.mpr fun r hr=>by
  obtain⟨i,j,rfl,_,_⟩:=rods r hr;rw[kb];rfl
 have mem:adA (aap Jl) none (Ze u e l d)∈Ze u e l d:=by
  cases hr:Ze u e l d with
  | nil=>
   exfalso;obtain⟨r,h1,h2⟩:=List.any_eq_true.mp any;have:r∈Ze u e l d:=List.mem_filter.mpr ⟨h1,h2⟩;rw[hr]at this;cases this
  | cons r rs=>
   show ZV (aap Jl) r rs∈r::rs;rcases abB (aap Jl) rs r with z | z
   ·rw[z];exact List.mem_cons_self
   ·exact List.mem_cons_of_mem _ z
 obtain⟨i,j,e1,e2,e3,e4⟩:=rods _ mem
 have g:JT [jk u e l b,.int d]=some (.tuple [.int i,.int j]):=by
  have hm:abg Jl (.list (Ze u e l d))=some (.tuple [.int i,.int j]):=by
   show(if acP Jl (Ze u e l d)=true then some (adA (aap Jl) none (Ze u e l d)) else none)=_;rw[if_pos hk,e1]
  simp[JT,jD,ae2,jI,jR,jB,jo,jA,lkp,qw,hw,hm]
 have f:fpr (jk u e l b) d=((i:Int),(j:Int)):=by unfold fpr;rw[g]
 unfold qH;rw[f];refine⟨g,e2,?_⟩;simp only[okP,Bool.and_eq_true,decide_eq_true_eq];exact⟨⟨⟨by omega,e3⟩,by omega⟩,e4⟩
end Rods
theorem Rods.allN_true:Rods.qG=true:=by decide +kernel
namespace Rods
open PySem L2 BX
open PyProof.Rows hiding St
theorem ZJ{tc:Rho->Option Bool}{F:RO}{n:Nat}{ρ ρ':Rho}(h:tc ρ=some true)(h':F ρ=some (.nx ρ')):zE tc F (n+1) ρ=zE tc F n ρ':=by
 show(tc ρ).bind _=_;rw[h,h'];rfl
theorem acy{tc:Rho->Option Bool}{F:RO}{n:Nat}{ρ:Rho}(h:tc ρ=some false):zE tc F (n+1) ρ=some (.nx ρ):=by
 show(tc ρ).bind _=_;rw[h];rfl
theorem qd{F G:RO}{ρ ρ1:Rho}(h:F ρ=some (.nx ρ1)):jR F G ρ=G ρ1:=by
 unfold jR;rw[h];rfl
theorem qt{N:List Str}{n:Nat}{B:RO}{ds:LP}{d:PyData}(hl:ds.length=n)(h:B (jI N ds)=some (.rt d)):jD N n B ds=some d:=by
 unfold jD;rw[if_pos hl,h]
noncomputable def tcD:Rho->Option Bool:=tst (op2 (JF fun i j=>decide (i<j)) (jB qM (jo (lkp 3) jA)) (op2 abe (lkp 1) (cst (.int 1))))
theorem aeb{b k:Int}{r n:OP}{ds:LP}(hb:0<b)(hb':b<=16)(hl:ds.length<1000):
  aab.1 [some (.int b),r,n,some (.list ds),some (.int k)]=some (.nx [some (.int b),r,n,some (.list (.int (k % b)::ds)),some (.int (k / b))]):=by
 have m1:∀i:Int,ajd (.int i) (.int b)=some (.int (i % b)):=fun i=>acx hb;have m2:∀i:Int,abH (.int i) (.int b)=some (.int (i / b)):=fun i=>aaW hb (by omega);have hl':ds.length<1000000:=by omega
 simp[aab,jR,aeP,aq5,anu,op2,lkp,cst,m1,m2,noL,hl',qz,jS,brw,hid,qE]
theorem Qe{b:OP}{r:Int}{n k:OP}{ds:LP}:tcD [b,some (.int r),n,some (.list ds),k]=some (decide ((ds.length:Int)<r-1)):=by
 simp[tcD,tst,op2,jB,jo,jA,lkp,cst,qM,abe,JF,asB]
theorem afv{b r n:Int}{ds:LP}{k:Int}(hl:zE tcD aab.1 10 [some (.int b),some (.int r),some (.int n),some (.list []),some (.int n)]=some (.nx [some (.int b),some (.int r),some (.int n),some (.list ds),some (.int k)]))
  (hd:ds.length<100) (hn:noLs ds=true):ae6 [.int b,.int r,.int n]=some (.list (.int k::ds)):=by
 have f0:few []=true:=acw;have f1:few [PyData.int k]=true:=by rw[few];exact decide_eq_true (by show 1<1000000;decide)
 have f2:few ([PyData.int k]++ds)=true:=by
  rw[few];refine decide_eq_true ?_;rw[List.length_append,List.length_singleton];omega
 have e:anV.1 [some (.int b),some (.int r),some (.int n),none,none]=some (.rt (.list (.int k::ds))):=by
  simp only[anV];show aas 3 (Jo jA) (jR (qz (brw (some 3) (lkp 2)) (jS 4)) (jR (zE tcD aab.1 10) (jR (qw (op2 zM (Jo (jo (lkp 4) jA)) (lkp 3))) qE))) _=_
  have h2:jR (zE tcD aab.1 10) (jR (qw (op2 zM (Jo (jo (lkp 4) jA)) (lkp 3))) qE) [some (.int b),some (.int r),some (.int n),some (.list []),some (.int n)]=some (.rt (.list (.int k::ds))):=by
   unfold jR;rw[hl];simp only[zzD,qw,op2,Jo,jo,jA,lkp,zzA,zzB,zzC,zzE,f1,zzM,zM,f2];rfl
  have h1:qz (brw (some 3) (lkp 2)) (jS 4) [some (.int b),some (.int r),some (.int n),some (.list []),none]=some (.nx [some (.int b),some (.int r),some (.int n),some (.list []),some (.int n)]):=rfl
  have h3:jR (qz (brw (some 3) (lkp 2)) (jS 4)) (jR (zE tcD aab.1 10) (jR (qw (op2 zM (Jo (jo (lkp 4) jA)) (lkp 3))) qE)) [some (.int b),some (.int r),some (.int n),some (.list []),none]=some (.rt (.list (.int k::ds))):=by
   rw[←h2]
   conv=>lhs;unfold jR
   rw[h1];rfl
  unfold aas;simp only[Jo,jA,zzD,f0,zzM,List.length_cons,List.length_nil];rw[if_pos (by decide)];simp only[zzF,zzG,h3,zzD]
 exact qt rfl e
theorem aiF{b n:Int}(hb:0<b)(hb':b<=16){r:Nat}(h1:1<=r)(h4:r<=4):ae6 [.int b,.int (r:Int),.int n]=some (.list ((dgl b r n).map .int)):=by
 have:r=1∨r=2∨r=3∨r=4:=by omega
 rcases this with e | e | e | e<;>subst e
 ·refine afv (ds:=[]) (k:=n) ?_ (by simp) (by simp[noLs,noL])
  rw[acy (Qe.trans (by rfl))]
 ·refine afv (ds:=[.int (n % b)]) (k:=n / b) ?_ (by simp) (by simp[noLs,noL])
  rw[ZJ (Qe.trans (by rfl)) (aeb hb hb' (by simp)),acy (Qe.trans (by rfl))]
 ·refine afv (ds:=[.int (n / b % b),.int (n % b)]) (k:=n / b / b) ?_ (by simp) (by simp[noLs,noL])
  rw[ZJ (Qe.trans (by rfl)) (aeb hb hb' (by simp)),ZJ (Qe.trans (by rfl)) (aeb hb hb' (by simp)),acy (Qe.trans (by rfl))]
 ·refine afv (ds:=[.int (n / b / b % b),.int (n / b % b),.int (n % b)]) (k:=n / b / b / b) ?_ (by simp) (by simp[noLs,noL])
  rw[ZJ (Qe.trans (by rfl)) (aeb hb hb' (by simp)),ZJ (Qe.trans (by rfl)) (aeb hb hb' (by simp)),ZJ (Qe.trans (by rfl)) (aeb hb hb' (by simp)),acy (Qe.trans (by rfl))]
theorem pw1(b:Int):b ^ 1=b:=by rw[Int.pow_succ,Int.pow_zero,Int.one_mul]
theorem adm{b:Int}(hb:0<b):∀r:Nat,0<b ^ r
 |0=>by simp
 |r+1=>by rw[Int.pow_succ];exact Int.mul_pos (adm hb r) hb
theorem aoO{b:Int}(h0:0<b)(h:b<=16):∀r:Nat,b ^ r<=16 ^ r
 |0=>by simp
 | r+1=>by
  rw[Int.pow_succ,Int.pow_succ];exact Int.mul_le_mul (aoO h0 h r) h (by omega) (Int.le_of_lt (adm (by decide) r))
theorem ahO{b:Int}(h0:0<b)(h:b<=16){r:Nat}(hr:r<=4):b ^ r<=65536:=by
 have:r=0∨r=1∨r=2∨r=3∨r=4:=by omega
 have:=aoO h0 h r;rcases ‹r=0∨_› with e | e | e | e | e<;>subst e<;>first | (exact Int.le_trans this (by decide))
theorem Zf(b:Int)(k:Nat)(n:Int):dgl b (k+2) n=dgl b (k+1) (n / b)++[n % b]:=rfl
theorem zr(b:Int):∀(r:Nat) (n:Int),(dgl b r n).length=r
 |0,_=>rfl
 |1,_=>rfl
 |k+2,n=>by rw[Zf,List.length_append,zr b (k+1)];rfl
theorem abC{b n:Int}(hb:0<b){k:Nat}(h:n<b ^ (k+1)):n / b<b ^ k:=
 Int.ediv_lt_of_lt_mul hb (by rw[←Int.pow_succ];exact h)
theorem ZK{b:Int}(hb:0<b):∀(r:Nat) (n:Int),0<=n->n<b ^ r->∀d∈dgl b r n,0<=d/\d<b
 |0,n,_,_,d,hd=>by cases hd
 | 1,n,h0,h1,d,hd=>by
  rw[show dgl b 1 n=[n] from rfl,List.mem_singleton]at hd;subst hd;exact⟨h0,by rw[pw1]at h1;exact h1⟩
 | k+2,n,h0,h1,d,hd=>by
  rw[Zf]at hd;rcases List.mem_append.mp hd with q | q
  ·exact ZK hb (k+1) (n / b) (Int.ediv_nonneg h0 (by omega)) (abC hb h1) d q
  ·rw[List.mem_singleton]at q
   subst q;exact⟨Int.emod_nonneg _ (by omega),Int.emod_lt_of_pos _ hb⟩
theorem agy{b:Int}(hb:0<b):∀(k:Nat) (n:Int),0<=n->∃x r,dgl b (k+1) n=x::r/\(n<b ^ (k+1)->x<b)/\(b ^ (k+1)<=n->b<=x)
 |0,n,h0=>⟨n,[],rfl,fun h=>by rw[Nat.zero_add,pw1]at h;exact h,fun h=>by rw[Nat.zero_add,pw1]at h;exact h⟩
 | k+1,n,h0=>by
  obtain⟨x,r,e,h1,h2⟩:=agy hb k (n / b) (Int.ediv_nonneg h0 (by omega));refine⟨x,r++[n % b],?_,fun h=>h1 (abC hb h),fun h=>h2 ?_⟩
  ·rw[Zf,e];rfl
  ·refine Int.le_ediv_of_mul_le hb ?_
   rw[←Int.pow_succ];exact h
theorem al6(b e:Int)(ps:List (Int×Int))(p:Int×Int):val b e (ps++[p])=val b e ps*b+wt e p:=by simp[val]
section
variable {u e l b:Int}
theorem aiG(H:qG=true)(h:okN u e l b=true):∀(r:Nat) (n:Int),1<=r->0<=n->n<b ^ r->val b e (pln (jk u e l b) b r n)=n
 |0,n,h1,_,_=>by omega
 | 1,n,_,h0,hn=>by
  have:=(qQ H h h0 (show n<b by rw[pw1]at hn;exact hn)).2.1;show 0*b+wt e (fpr (jk u e l b) n)=n;rw[this];omega
 | k+2,n,_,h0,hn=>by
  obtain⟨a1,a2,a3,a4,a5,a6,a7,a8,a9,a10⟩:=qf h;have hb:0<b:=by omega
  have ih:=aiG H h (k+1) (n / b) (by omega) (Int.ediv_nonneg h0 (by omega)) (abC hb hn);have hd:=(qQ H h (d:=n % b) (Int.emod_nonneg _ (by omega)) (Int.emod_lt_of_pos _ hb)).2.1;unfold pln at ih ⊢;rw[Zf,List.map_append,List.map_singleton,al6,ih,hd,Int.mul_comm];exact Int.mul_ediv_add_emod n b
theorem acz(m:PyData)(b:Int)(r:Nat)(n:Int):(pln m b r n).length=r:=by rw[pln,List.length_map,zr]
theorem afw(H:qG=true)(h:okN u e l b=true){r:Nat}{n:Int}(h1:1<=r)(h4:r<=4)(h0:0<=n)(hn:n<b ^ r):okS u l (pln (jk u e l b) b r n)=true:=by
 obtain⟨a1,a2,a3,a4,a5,a6,a7,a8,a9,a10⟩:=qf h;simp only[okS,Bool.and_eq_true,decide_eq_true_eq,acz];refine⟨⟨h1,h4⟩,List.all_eq_true.mpr fun p hp=>?_⟩;obtain⟨d,hd,rfl⟩:=List.mem_map.mp hp;obtain⟨d0,d1⟩:=ZK (show 0<b by omega) r n h0 hn d hd;exact(qQ H h d0 d1).2.2
theorem zX{u l:Int}{p:Int×Int}(h:okP u l p=true):0<=p.1/\p.1<=u/\0<=p.2/\p.2<=l:=by
 simp only[okP,Bool.and_eq_true,decide_eq_true_eq]at h;exact⟨h.1.1.1,h.1.1.2,h.1.2,h.2⟩
theorem arx{e u l:Int}(he:1<=e){p:Int×Int}(h:okP u l p=true):0<=wt e p:=by
 obtain⟨h1,h2,h3,h4⟩:=zX h;have:=Int.mul_nonneg h1 (show 0<=e by omega);unfold wt;omega
theorem ary{e u l:Int}(he:1<=e)(he5:e<=5)(hu:u<=3)(hl:l<=11){p:Int×Int}(h:okP u l p=true):wt e p<=26:=by
 obtain⟨h1,h2,h3,h4⟩:=zX h;have:p.1*e<=3*5:=Int.mul_le_mul (by omega) he5 (by omega) (by omega);unfold wt;omega
end
theorem J9{ds:LP}(h:ds.length<10000):few ds=true:=by
 rw[few];refine decide_eq_true ?_;omega
theorem ajN{u e l b:Int}(H:qG=true)(h:okN u e l b=true):qN [jk u e l b]=some (.bool true):=by
 obtain⟨a1,a2,a3,a4,a5,a6,a7,a8,a9,a10⟩:=qf h;rw[aft a1 a2 a3 (by omega) (by omega) (by omega) a8 a9,adl a1 (by omega) (by omega) (by omega) (by omega) (by omega)]
 congr 2
 refine List.all_eq_true.mpr fun d hd=>?_;have:=al5 H h (n:=(d:Int)) (by omega) (by have:=List.mem_range.mp hd;omega);simpa[List.any_map,Function.comp_def]using this
theorem zx{u l:Int}{ps:List (Int×Int)}(h:okS u l ps=true):1<=ps.length/\ps.length<=4/\ps.all (okP u l)=true:=by
 simp only[okS,Bool.and_eq_true,decide_eq_true_eq]at h;exact⟨h.1.1,h.1.2,h.2⟩
theorem al7{u l:Int}{ps:List (Int×Int)}(h1:1<=ps.length)(h2:ps.length<=4)(h3:ps.all (okP u l)=true):okS u l ps=true:=by
 simp only[okS,Bool.and_eq_true,decide_eq_true_eq];exact⟨⟨h1,h2⟩,h3⟩
section
variable {u e l b:Int}{ps qs:List (Int×Int)}
theorem agz(h:okN u e l b=true){S:PyData}:∀(qs:List (Int×Int)) (acc:Int) (x:OP),qs.all (okP u l)=true->0<=acc->(acc+30)*16 ^ qs.length<=1000000000->
  ∃y,jY (jS 3) ae3.1 (qs.map pr) [some (jk u e l b),some S,some (.int acc),x]=some (.nx [some (jk u e l b),some S,some (.int (qs.foldl (fun n p=>n*b+wt e p) acc)),y])
 | [],acc,x,_,_,_=>⟨x,rfl⟩
 | q::qs,acc,x,hq,h0,hB=>by
  obtain⟨a1,a2,a3,a4,a5,a6,a7,a8,a9,a10⟩:=qf h;rw[List.all_cons,Bool.and_eq_true]at hq;obtain⟨q1,q2,q3,q4⟩:=zX hq.1;have w0:=arx a3 hq.1;have w1:=ary a3 a4 a2 a7 hq.1;have hp:=adm (b:=16) (by decide) qs.length;rw[List.length_cons,Int.pow_succ,Int.mul_comm (16 ^ qs.length) 16,←Int.mul_assoc]at hB;have ha:0<=acc*b:=Int.mul_nonneg h0 (by omega);have hb2:acc*b<=acc*16:=Int.mul_le_mul_of_nonneg_left a9 h0;have hB':(acc*b+wt e q+30)*16 ^ qs.length<=1000000000:=Int.le_trans (Int.mul_le_mul_of_nonneg_right (by omega) (Int.le_of_lt hp)) hB
  have hacc:acc<=1000000000:=by
   have h1:(acc+30)*16*1<=(acc+30)*16*16 ^ qs.length:=Int.mul_le_mul_of_nonneg_left (by omega) (by omega);omega
  have m1:ZQ (.int acc) (.int b)=some (.int (acc*b)):=qP ⟨by omega,by omega⟩;have w':qo [jk u e l b,pr q]=some (.int (wt e q)):=QF u e l b q.1 q.2 (by omega)
  have step:ae3.1 [some (jk u e l b),some S,some (.int acc),some (pr q)]=some (.nx [some (jk u e l b),some S,some (.int (acc*b+wt e q)),some (pr q)]):=by
   simp only[ae3,jR,qz,op2,jB,jo,jA,lkp,cst,jS,zzA,zzB,zzC,zzD,zzE,ix3,m1,w',add_int,zzF,zzG,qE]
  obtain⟨y,hy⟩:=agz h (S:=S) qs (acc*b+wt e q) (some (pr q)) hq.2 (by omega) hB';refine⟨y,?_⟩;rw[List.map_cons];simp only[jY,jS,zzD,zzF,zzG,step];exact hy
theorem afx(h:okN u e l b=true)(h4:ps.length<=4)(hp:ps.all (okP u l)=true):zA [jk u e l b,jz ps]=some (.int (val b e ps)):=by
 have hB:(0+30:Int)*16 ^ ps.length<=1000000000:=by
  have:=ahO (b:=16) (by decide) (by decide) h4;omega
 obtain⟨y,hy⟩:=agz h (S:=jz ps) ps 0 none hp (by omega) hB;refine qt rfl ?_;show alE.1 [some (jk u e l b),some (jz ps),none,none]=_;simp only[alE];refine(qd (ρ1:=[some (jk u e l b),some (jz ps),some (.int 0),none]) ?_).trans ?_
 ·simp only[qz,cst,jS,zzD,zzE,zzF,zzG]
 refine(qd (ρ1:=[some (jk u e l b),some (jz ps),some (.int (val b e ps)),y]) ?_).trans ?_
 ·show(itT (lkp 1) _).bind _=_
  rw[show itT (lkp 1) [some (jk u e l b),some (jz ps),some (.int 0),none]=some (ps.map pr) from rfl];exact hy
 rfl
theorem ajO{p:Int×Int}(hp:okP u l p=true):Qd [jk u e l b,pr p]=some (.bool true):=by
 obtain⟨q1,q2,q3,q4⟩:=zX hp;have w1:jQ [.int p.1,.int 0,.int u]=some (.bool true):=by rw[j0];simp[q1,q2]
 have w2:jQ [.int p.2,.int 0,.int l]=some (.bool true):=by rw[j0];simp[q3,q4]
 simp[Qd,jD,abr,jI,jR,ifS,orB,zt,tst,Qb,tyn,asB,lkp,op2,jB,jo,jA,qM,cst,dNe,Jr,QG,qE,qw,aeR,pr,jk,dIx,atI,ixN,w1,w2]
theorem ajP(H:qG=true)(h:okN u e l b=true)(hs:okS u l ps=true):ac4 [jk u e l b,jz ps]=some (.bool true):=by
 obtain⟨h1,h4,hp⟩:=zx hs;have g0:=Qt (ajN H h);have hf:few (ps.map pr)=true:=J9 (by rw[List.length_map];omega)
 have c1:JF (fun i j=>decide (i<=j)) (.int 1) (.int ((ps.map pr).length:Int))=some (.bool true):=by
  show some (PyData.bool (decide ((1:Int)<=((ps.map pr).length:Int))))=_;rw[decide_eq_true (by rw[List.length_map];omega)]
 have c2:JF (fun i j=>decide (i<=j)) (.int ((ps.map pr).length:Int)) (.int 4)=some (.bool true):=by
  show some (PyData.bool (decide (((ps.map pr).length:Int)<=4)))=_;rw[decide_eq_true (by rw[List.length_map];omega)]
 refine qt rfl ?_;show abt.1 [some (jk u e l b),some (jz ps)]=_;simp only[abt];refine(qd (ρ1:=[some (jk u e l b),some (jz ps)]) ?_).trans ?_
 ·simp only[QK,jB,jo,jA,lkp,zzA,zzB,zzC,zzD,zzE,g0]
 refine(qd (ρ1:=[some (jk u e l b),some (jz ps)]) ?_).trans ?_
 ·simp[ifS,orB,zt,tst,Qb,tyn,asB,lkp,jz,chn,jB,jo,jA,qM,cst,qE]
  simp[List.length_map]at c1 c2;simp[c1,c2];rfl
 simp only[jR,qw,jB,jo,jA,zC,itT,lkp,jz,QR,zzA,zzB,zzC,zzD,zzE,hf,zzM,Z4,List.map_cons,List.map_nil,zzH];rw[Qi (fun _=> .bool true)]
 ·have:bls ((ps.map pr).map fun _=>PyData.bool true)=some ((ps.map pr).map fun _=>true):=acv (fun _=>true) _
  simp only[zzE,zzD,akJ,this];simp
 ·intro d hd
  obtain⟨p,hp',rfl⟩:=List.mem_map.mp hd;simp[jB,jo,jA,lkp,ajO (e:=e) (b:=b) (List.all_eq_true.mp hp p hp')]
theorem agA(H:qG=true)(h:okN u e l b=true)(hs:okS u l ps=true):qe [jk u e l b,jz ps]=some .none:=by
 have g:=ajP H h hs;simp[qe,jD,acl,jI,jR,ifS,zt,tst,asB,jB,jo,jA,lkp,g,qE]
end
theorem adn{n:Int}(h0:0<=n)(h1:n<=99999):qC [.int n]=some .none:=by
 have w:jQ [.int n,.int 0,.int 99999]=some (.bool true):=by rw[j0];simp[h0,h1]
 simp[qC,jD,aaI,jI,jR,ifS,zt,tst,asB,jB,jo,jA,lkp,cst,w,qE]
theorem al8{n:Int}(h0:1<=n)(h1:n<=4):Jh [.int n]=some .none:=by
 have w:jQ [.int n,.int 1,.int 4]=some (.bool true):=by rw[j0];simp[h0,h1]
 simp[Jh,jD,aaH,jI,jR,ifS,zt,tst,asB,jB,jo,jA,lkp,cst,w,qE]
section
variable {u e l b:Int}{ps qs:List (Int×Int)}
theorem aaX(i j:Int):dEq (.int i) (.int j)=some (.bool (decide (i=j))):=by
 have:(i==j)=decide (i=j):=rfl;simp only[dEq,Jr,QG,and_self,zzM,this]
theorem arz{b:Int}{r:Nat}{n x:Int}{xs:List Int}(h4:r<=4)(hx:dgl b r n=x::xs):dIx (.list ((dgl b r n).map .int)) (.int 0)=some (.int x):=by
 have hl:=zr b r n;have hlt:((dgl b r n).map PyData.int).length<1000000:=by rw[List.length_map,hl];omega
 show(if ((dgl b r n).map PyData.int).length<1000000 then atI ((dgl b r n).map PyData.int) 0 else none)=_;rw[if_pos hlt,hx];simp[atI,ixN]
theorem ado(H:qG=true)(h:okN u e l b=true){r:Nat}{n:Int}(h1:1<=r)(h4:r<=4)(h0:0<=n)(hn:n<b ^ r):Zw [jk u e l b,.int (r:Int),.int n]=some (jz (pln (jk u e l b) b r n)):=by
 obtain⟨a1,a2,a3,a4,a5,a6,a7,a8,a9,a10⟩:=qf h;have hb:0<b:=by omega
 have hd:=aiF (n:=n) hb a9 h1 h4;have hg:=ZK hb r n h0 hn;have hl:=zr b r n;obtain⟨k,rfl⟩:∃k,r=k+1:=⟨r-1,by omega⟩;obtain⟨x,xs,hx,hx1,_⟩:=agy hb k n h0;have hi:=arz h4 hx
 have hc:JF (fun i j=>decide (j<=i)) (.int x) (.int b)=some (.bool false):=by
  show some (PyData.bool (decide (b<=x)))=_;rw[decide_eq_false (by have:=hx1 hn;omega)]
 have hf:few ((dgl b (k+1) n).map .int)=true:=J9 (by rw[List.length_map,hl];omega);generalize hr:((k+1:Nat):Int)=rr at hd ⊢;refine qt rfl ?_;show ack.1 [some (jk u e l b),some (.int rr),some (.int n),none]=_;simp only[ack];refine(qd (ρ1:=[some (jk u e l b),some (.int rr),some (.int n),some (.list ((dgl b (k+1) n).map .int))]) ?_).trans ?_
 ·simp only[qz,jB,jo,jA,op2,lkp,cst,jS,zzA,zzB,zzC,zzD,zzE,ix3,hd,zzF,zzG]
 refine(qd (ρ1:=[some (jk u e l b),some (.int rr),some (.int n),some (.list ((dgl b (k+1) n).map .int))]) ?_).trans ?_
 ·simp only[ifS,tst,op2,lkp,cst,zzA,zzB,zzC,zzD,hi,ix3,hc,asB,zzL,zzN,qE]
 simp only[jR,qw,jB,jo,jA,zC,itL,lkp,QQ,zzA,zzB,zzC,zzD,zzE,hf,zzM,Z4,List.map_cons,List.map_nil,zzH];rw[Qi (fun d=>qH (jk u e l b) ((QL d).getD 0))]
 ·simp[aeS,jz,pln,qH,QL,Function.comp_def]
 ·intro d hd
  obtain⟨i,hi,rfl⟩:=List.mem_map.mp hd;simp[jB,jo,jA,lkp,QL,(qQ H h (hg i hi).1 (hg i hi).2).1]
theorem aaY(ps:List (Int×Int)):qM [jz ps]=some (.int (ps.length:Int)):=by
 show some (PyData.int ((ps.map pr).length:Int))=_;rw[List.length_map]
theorem ap1(p q:Int×Int):PyData.eqv (pr p) (pr q)=decide (p=q):=by
 obtain⟨a,b⟩:=p;obtain⟨c,d⟩:=q;simp only[pr,PyData.eqv,PyData.eqvAll,Prod.mk.injEq,Bool.and_true,Bool.decide_and];rfl
theorem aec:∀(ps qs:List (Int×Int)),PyData.eqvAll (ps.map pr) (qs.map pr)=decide (ps=qs)
 | [],[]=>by simp[PyData.eqvAll]
 | [],q::qs=>by simp[PyData.eqvAll]
 |p::ps,[]=>by simp[PyData.eqvAll]
 |p::ps,q::qs=>by simp[PyData.eqvAll,ap1,aec ps qs]
theorem al9(ps qs:List (Int×Int)):PyData.eqv (jz ps) (jz qs)=decide (ps=qs):=by
 unfold jz PyData.eqv;exact aec ps qs
theorem agB(ps:List (Int×Int)):okD (jz ps)=true:=by
 have h1:∀ps:List (Int×Int),PyData.canLayAll0 (ps.map pr)=true:=fun ps=>by
  induction ps with
  |nil=>rfl
  |cons p ps ih=>simp[PyData.canLayAll0,PyData.canLay0,pr,ih]
 have h2:∀ps:List (Int×Int),PyData.depthAll (ps.map pr)<=1:=fun ps=>by
  induction ps with
  |nil=>simp[PyData.depthAll]
  |cons p ps ih=>simp[PyData.depthAll,PyData.depth,pr]at ih ⊢;omega
 have:=h2 ps;simp[okD,jz,PyData.canLay0,h1,PyData.depth];omega
theorem afy(ps qs:List (Int×Int)):dEq (jz ps) (jz qs)=some (.bool (decide (ps=qs))):=by
 show(if okD _=true/\okD _=true then some (PyData.bool _) else none)=_;rw[if_pos ⟨agB ps,agB qs⟩,al9]
end
end Rods
namespace BX
open PySem PySem.Spec L2
open PyProof.Rows hiding St
theorem adp{ga:PyData->Rho->Option Rho}{F:RO}(Iv:Nat->Rho->Prop):∀(ds:LP) (i:Nat) (ρ:Rho),Iv i ρ->
  (∀j d ρ,ds[j]?=some d->Iv (i+j) ρ->∃ρ1 ρ2,ga d ρ=some ρ1/\F ρ1=some (.nx ρ2)/\Iv (i+j+1) ρ2)->∃ρ',jY ga F ds ρ=some (.nx ρ')/\Iv (i+ds.length) ρ'
 | [],i,ρ,h,_=>⟨ρ,rfl,h⟩
 | d::ds,i,ρ,h,hs=>by
  obtain⟨ρ1,ρ2,h1,h2,h3⟩:=hs 0 d ρ rfl h
  obtain⟨ρ',h4,h5⟩:=adp Iv ds (i+1) ρ2 h3 fun j d ρ hd hi=>by
   have:=hs (j+1) d ρ (by simpa using hd) (by rw[show i+(j+1)=i+1+j by omega];exact hi);rw[show i+1+j+1=i+(j+1)+1 by omega];exact this
  refine⟨ρ',?_,by rw[List.length_cons,show i+(ds.length+1)=i+1+ds.length by omega];exact h5⟩;simp[jY,h1,h2,h4]
theorem aaZ{n j:Nat}{d:PyData}(h:(Jp 0 n)[j]?=some d):j<n/\d= .int j:=by
 simp only[Jp,List.getElem?_map]at h;cases hj:(List.range n)[j]? with
 |none=>rw[hj]at h;cases h
 | some k=>
  rw[hj]at h;obtain⟨h1,h2⟩:=List.getElem?_eq_some_iff.mp hj;simp at h1 h2;subst h2;simp at h;exact⟨h1,h.symm⟩
theorem aa0(n:Nat):(Jp 0 n).length=n:=by simp[Jp]
end BX
namespace Rods
open PySem L2 BX
open PyProof.Rows hiding St
section
variable {u e l b:Int}
theorem aa1(b e:Int)(p:Int×Int)(t:List (Int×Int)):val b e (p::t)=wt e p*b ^ t.length+val b e t:=by
 have key:∀(t:List (Int×Int)) (acc:Int),t.foldl (fun n p=>n*b+wt e p) acc=acc*b ^ t.length+val b e t:=by
  intro t
  induction t with
  |nil=>intro acc;simp[val]
  | cons q t ih=>
   intro acc;rw[List.foldl_cons,ih];show _=acc*b ^ (q::t).length+(q::t).foldl (fun n p=>n*b+wt e p) 0;rw[List.foldl_cons,ih,List.length_cons,Int.pow_succ,Int.mul_comm (b ^ t.length) b,←Int.mul_assoc,Int.add_mul,Int.zero_mul,Int.zero_add,Int.add_assoc]
 show(p::t).foldl (fun n p=>n*b+wt e p) 0=_;rw[List.foldl_cons,key];simp
theorem ajQ(H:qG=true)(h:okN u e l b=true){r n:Int}(h1:1<=r)(h4:r<=4)(h0:0<=n)(hn:n<=99999):aaa [jk u e l b,.int r,.int n]=some .none:=by
 have g1:=Qt (ajN H h);have g2:Jh [.int r]=some .none:=al8 h1 h4;have g3:qC [.int n]=some .none:=adn h0 hn;simp[aaa,jD,ahv,jI,jR,QK,jB,jo,jA,lkp,g1,g2,g3,qE]
end
section
variable {u e l b:Int}{ps qs:List (Int×Int)}
theorem aiH{xs ys:LP}(hx:xs≠[]∨True)(hl:xs.length+ys.length<10000):zM (.tuple xs) (.tuple ys)=some (.tuple (xs++ys)):=by
 cases xs with
 |nil=>rfl
 | cons x xs=>
  have hf:few ((x::xs)++ys)=true:=J9 (by rw[List.length_append];exact hl);show(if few ((x::xs)++ys)=true then some (PyData.tuple ((x::xs)++ys)) else none)=_;rw[if_pos hf]
theorem adq(i j:Int):dNe (.int i) (.int j)=some (.bool (!decide (i=j))):=by
 have:(i==j)=decide (i=j):=rfl;simp only[dNe,Jr,QG,and_self,zzM,this]
theorem ass(H:qG=true)(h:okN u e l b=true):fpr (jk u e l b) 0=f00:=by
 obtain⟨a1,a2,a3,a4,a5,a6,a7,a8,a9,a10⟩:=qf h;obtain⟨_,w,o⟩:=qQ H h (d:=0) (by omega) (by omega);obtain⟨q1,q2,q3,q4⟩:=zX o;unfold wt at w
 have hx:(fpr (jk u e l b) 0).1=0:=by
  apply Classical.byContradiction;intro hne;have:1*1<=(fpr (jk u e l b) 0).1*e:=Int.mul_le_mul (by omega) a3 (by omega) (by omega);omega
 have hy:(fpr (jk u e l b) 0).2=0:=by rw[hx]at w;omega
 exact Prod.ext hx hy
theorem aa2{N:List Str}{n:Nat}{F:Rho->Option Str}{ds:LP}(hl:ds.length=n):zn N n F ds=F (jI N ds):=by
 unfold zn;rw[if_pos hl]
end
noncomputable def dv(b:Int)(ds:List Int):Int:=ds.foldl (fun n d=>n*b+d) 0
noncomputable def okG(b:Int)(ds:List Int):Prop:=∀d∈ds,0<=d/\d<b
noncomputable def Qu(cs:List (Nat×Int))(ds:List Int):List Int:=cs.foldl (fun ds c=>ds.set c.1 c.2) ds
theorem agC(a c:List (Nat×Int))(ds:List Int):Qu (a++c) ds=Qu c (Qu a ds):=by unfold Qu;rw[List.foldl_append]
theorem agD:∀(cs:List (Nat×Int)) (ds:List Int),(Qu cs ds).length=ds.length
 | [],_=>rfl
 | c::cs,ds=>by
  show(Qu cs (ds.set c.1 c.2)).length=_;rw[agD cs,List.length_set]
theorem acA(b:Int):∀(ds:List Int) (acc:Int),ds.foldl (fun n d=>n*b+d) acc=acc*b ^ ds.length+ds.foldl (fun n d=>n*b+d) 0
 | [],acc=>by simp
 | d::ds,acc=>by
  rw[List.foldl_cons,List.foldl_cons,acA b ds (acc*b+d),acA b ds (0*b+d),List.length_cons,Int.pow_succ,Int.zero_mul,Int.zero_add,Int.add_mul,Int.mul_assoc,Int.mul_comm b,Int.add_assoc]
theorem an8(b d:Int)(ds:List Int):dv b (d::ds)=d*b ^ ds.length+dv b ds:=by
 unfold dv;rw[List.foldl_cons,acA b ds (0*b+d),Int.zero_mul,Int.zero_add]
theorem Js(b d:Int)(ds:List Int):dv b (ds++[d])=dv b ds*b+d:=by
 unfold dv;rw[List.foldl_append,List.foldl_cons,List.foldl_nil]
theorem ap2(b:Int)(xs ys:List Int):dv b (xs++ys)=dv b xs*b ^ ys.length+dv b ys:=by
 unfold dv;rw[List.foldl_append,acA b ys]
theorem afz{b:Int}(hb:0<b):∀(ds:List Int),okG b ds->0<=dv b ds/\dv b ds<b ^ ds.length
 | [],_=>by simp[dv]
 | d::ds,h=>by
  obtain⟨h1,h2⟩:=afz hb ds fun x hx=>h x (List.mem_cons_of_mem _ hx);obtain⟨d0,d1⟩:=h d List.mem_cons_self;have p:=adm hb ds.length;rw[an8,List.length_cons,Int.pow_succ];have m0:0<=d*b ^ ds.length:=Int.mul_nonneg d0 (Int.le_of_lt p);have m1:d*b ^ ds.length<=(b-1)*b ^ ds.length:=Int.mul_le_mul_of_nonneg_right (by omega) (Int.le_of_lt p);rw[Int.sub_mul,Int.one_mul,Int.mul_comm b]at m1;exact⟨by omega,by omega⟩
theorem okG.take{b:Int}{ds:List Int}(h:okG b ds)(k:Nat):okG b (ds.take k):=fun d hd=>h d (List.mem_of_mem_take hd)
theorem okG.drop{b:Int}{ds:List Int}(h:okG b ds)(k:Nat):okG b (ds.drop k):=fun d hd=>h d (List.mem_of_mem_drop hd)
theorem okG.app{b:Int}{xs ys:List Int}(h:okG b xs)(h':okG b ys):okG b (xs++ys):=fun d hd=>(List.mem_append.mp hd).elim (h d) (h' d)
theorem okG.one{b d:Int}(h0:0<=d)(h1:d<b):okG b [d]:=fun x hx=>by rw[List.mem_singleton.mp hx];exact⟨h0,h1⟩
theorem aiI{b:Int}(ds:List Int)(k:Nat):dv b ds=dv b (ds.take k)*b ^ (ds.length-k)+dv b (ds.drop k):=by
 have h:=ap2 b (ds.take k) (ds.drop k);rw[List.take_append_drop,List.length_drop]at h;exact h
theorem ama{b:Int}(hb:0<b){xs ys:List Int}(hl:xs.length=ys.length)(hx:okG b xs)(hy:okG b ys)(h:dv b xs+dv b ys<b ^ ys.length){k:Nat}(hk:k<=ys.length):dv b (xs.take k)+dv b (ys.take k)<b ^ k:=by
 apply Classical.byContradiction;intro hc;have e1:=aiI (b:=b) xs k;have e2:=aiI (b:=b) ys k;rw[hl]at e1;obtain⟨r1,_⟩:=afz hb _ (hx.drop k);obtain⟨r2,_⟩:=afz hb _ (hy.drop k);have p:=adm hb (ys.length-k);have m:b ^ k*b ^ (ys.length-k)<=(dv b (xs.take k)+dv b (ys.take k))*b ^ (ys.length-k):=Int.mul_le_mul_of_nonneg_right (by omega) (Int.le_of_lt p);rw[←Int.pow_add,show k+(ys.length-k)=ys.length by omega,Int.add_mul]at m;omega
theorem amb{b:Int}(hb:0<b):∀(r:Nat) (ds:List Int),ds.length=r+1->okG b ds->dgl b (r+1) (dv b ds)=ds
 | 0,ds,hl,hk=>by
  match ds,hl with
  | [d],_=>show [dv b [d]]=[d];simp[dv]
 | r+1,ds,hl,hk=>by
  obtain⟨xs,d,rfl⟩:∃xs d,ds=xs++[d]:=by
   rcases List.eq_nil_or_concat ds with z | ⟨xs,d,z⟩
   ·rw[z]at hl;cases hl
   ·exact⟨xs,d,by simpa using z⟩
  have hx:okG b xs:=fun x hx=>hk x (List.mem_append_left _ hx);obtain⟨d0,d1⟩:=hk d (List.mem_append_right _ List.mem_cons_self);rw[Js,Zf]
  have q1:(dv b xs*b+d) / b=dv b xs:=by
   rw[Int.add_comm,Int.add_mul_ediv_right _ _ (by omega),Int.ediv_eq_zero_of_lt d0 d1,Int.zero_add]
  have q2:(dv b xs*b+d) % b=d:=by
   rw[Int.add_comm,Int.add_mul_emod_self_right,Int.emod_eq_of_lt d0 d1]
  rw[q1,q2,amb hb r xs (by simpa using hl) hx]
section
variable {u e l b:Int}
theorem agE(H:qG=true)(h:okN u e l b=true):∀(ds:List Int) (acc:Int),okG b ds->(ds.map (fpr (jk u e l b))).foldl (fun n p=>n*b+wt e p) acc=ds.foldl (fun n d=>n*b+d) acc
 | [],_,_=>rfl
 | d::ds,acc,hk=>by
  obtain⟨d0,d1⟩:=hk d List.mem_cons_self;rw[List.map_cons,List.foldl_cons,List.foldl_cons,(qQ H h d0 d1).2.1];exact agE H h ds _ fun x hx=>hk x (List.mem_cons_of_mem _ hx)
noncomputable def stt(m:PyData)(ds:List Int):PyData:=jz (ds.map (fpr m))
theorem aiJ(H:qG=true)(h:okN u e l b=true){ds:List Int}(hk:okG b ds):val b e (ds.map (fpr (jk u e l b)))=dv b ds:=agE H h ds 0 hk
theorem ahP(H:qG=true)(h:okN u e l b=true){r:Nat}{n:Int}(h1:1<=r)(h0:0<=n)(hn:n<b ^ r):dv b (dgl b r n)=n:=by
 obtain⟨a1,a2,a3,a4,a5,a6,a7,a8,a9,a10⟩:=qf h;rw[←aiJ H h (ZK (by omega) r n h0 hn)];exact aiG H h r n h1 h0 hn
theorem aiK(H:qG=true)(h:okN u e l b=true){ds:List Int}(hk:okG b ds):(ds.map (fpr (jk u e l b))).all (okP u l)=true:=by
 refine List.all_eq_true.mpr fun p hp=>?_;obtain⟨d,hd,rfl⟩:=List.mem_map.mp hp;obtain⟨d0,d1⟩:=hk d hd;exact(qQ H h d0 d1).2.2
theorem ap3(H:qG=true)(h:okN u e l b=true){ds:List Int}(hk:okG b ds)(h1:1<=ds.length)(h4:ds.length<=4):okS u l (ds.map (fpr (jk u e l b)))=true:=
 al7 (by rw[List.length_map];exact h1) (by rw[List.length_map];exact h4) (aiK H h hk)
theorem amc(H:qG=true)(h:okN u e l b=true){ds:List Int}(hk:okG b ds)(h4:ds.length<=4):zA [jk u e l b,stt (jk u e l b) ds]=some (.int (dv b ds)):=by
 rw[←aiJ H h hk];exact afx h (by rw[List.length_map];exact h4) (aiK H h hk)
noncomputable def aa3(m:PyData)(c:Nat×Int):PyData:= .tuple [.int (c.1:Int),qH m c.2]
theorem amd{m:PyData}{S C x3 x4:OP}{ds:List Int}{i:Nat}{d:Int}(hi:i<ds.length):
  ac8.1 [S,C,some (.list (ds.map (qH m))),some (.int (i:Int)),some (qH m d)]=some (.nx [S,C,some (.list ((ds.set i d).map (qH m))),some (.int (i:Int)),some (qH m d)]):=by
 have hx:ixN (ds.map (qH m)).length (i:Int)=some i:=by
  rw[adk (by omega) (by rw[List.length_map];simpa using hi)];simp
 simp only[ac8,jR,anv,ak5,brw,hid,lkp,zzF,zzG,zzA,zzB,zzC,hx,zzE,zzD,qE,List.map_set]
theorem agF{m:PyData}{S C:OP}:∀(cs:List (Nat×Int)) (ds:List Int) (x3 x4:OP),(∀c∈cs,c.1<ds.length)->
  ∃y3 y4,jY (ZO 2 (qr (jS 3) (qr (jS 4) Qa))) ac8.1 (cs.map (aa3 m)) [S,C,some (.list (ds.map (qH m))),x3,x4]=some (.nx [S,C,some (.list ((Qu cs ds).map (qH m))),y3,y4])
 | [],ds,x3,x4,_=>⟨x3,x4,rfl⟩
 | c::cs,ds,x3,x4,h=>by
  obtain⟨y3,y4,ih⟩:=agF (m:=m) (S:=S) (C:=C) cs (ds.set c.1 c.2) (some (.int (c.1:Int))) (some (qH m c.2)) fun q hq=>by rw[List.length_set];exact h q (List.mem_cons_of_mem _ hq)
  refine⟨y3,y4,?_⟩;have st:=amd (m:=m) (S:=S) (C:=C) (x3:=x3) (x4:=x4) (ds:=ds) (i:=c.1) (d:=c.2) (h c List.mem_cons_self);rw[List.map_cons,jY];show((ZO 2 (qr (jS 3) (qr (jS 4) Qa))) (.tuple [.int (c.1:Int),qH m c.2]) _).bind _=_;simp only[ZO,qr,Qa,jS,List.length_cons,List.length_nil,zzM,zzD,zzF,zzG,st];exact ih
theorem aiL{m:PyData}{cs:List (Nat×Int)}{ds:List Int}(h:∀c∈cs,c.1<ds.length):ahy [stt m ds,.list (cs.map (aa3 m))]=some (stt m (Qu cs ds)):=by
 obtain⟨y3,y4,lp⟩:=agF (m:=m) (S:=some (stt m ds)) (C:=some (.list (cs.map (aa3 m)))) cs ds none none h;have e1:stt m ds= .tuple (ds.map (qH m)):=by unfold stt jz;rw[List.map_map];rfl
 have e2:stt m (Qu cs ds)= .tuple ((Qu cs ds).map (qH m)):=by unfold stt jz;rw[List.map_map];rfl
 refine qt rfl ?_;show anY.1 [some (stt m ds),some (.list (cs.map (aa3 m))),none,none,none]=_;have dl:acf [stt m ds]=some (.list (ds.map (qH m))):=by rw[e1];rfl
 have dt:aeS [.list ((Qu cs ds).map (qH m))]=some (stt m (Qu cs ds)):=by rw[e2];rfl
 simp only[anY,aas,jB,jo,jA,lkp,zzA,zzC,zzD,zzE,dl,List.length_cons,List.length_nil,zzF,zzG];rw[if_pos (by omega)]
 have fr:ZP (fun ρ=>itL (lkp 1) (hid (some 2) ρ)) (ZO 2 (qr (jS 3) (qr (jS 4) Qa))) ac8.1 [some (stt m ds),some (.list (cs.map (aa3 m))),some (.list (ds.map (qH m))),none,none]=some (.nx [some (stt m ds),some (.list (cs.map (aa3 m))),some (.list ((Qu cs ds).map (qH m))),y3,y4]):=by
  simp only[ZP,itL,hid,lkp,zzF,zzG,zzA,zzB,zzC,zzD,QQ];exact lp
 rw[qd fr];simp only[jR,qw,jB,jo,jA,lkp,zzA,zzB,zzC,zzD,zzE,dt]
theorem ame(m:PyData){ds:List Int}{i:Nat}{d:Int}(h4:ds.length<=4)(hd:ds[i]?=some d):dIx (stt m ds) (.int (i:Int))=some (qH m d):=by
 have e1:stt m ds= .tuple (ds.map (qH m)):=by unfold stt jz;rw[List.map_map];rfl
 have hi:i<ds.length:=(List.getElem?_eq_some_iff.mp hd).1;rw[e1];show(if (ds.map (qH m)).length<1000000 then atI (ds.map (qH m)) (i:Int) else none)=_;rw[if_pos (by rw[List.length_map];omega)];unfold atI;rw[adk (by omega) (by rw[List.length_map];simpa using hi),zzD,List.getElem?_map];rw[show((i:Int)).toNat=i by simp,hd];rfl
theorem abU(H:qG=true)(h:okN u e l b=true){d:Int}(d0:0<=d)(d1:d<b):qo [jk u e l b,qH (jk u e l b) d]=some (.int d):=by
 obtain⟨a1,a2,a3,a4,a5,a6,a7,a8,a9,a10⟩:=qf h;obtain⟨f1,f2,f3⟩:=qQ H h d0 d1;obtain⟨q1,q2,q3,q4⟩:=zX f3;have g:=QF u e l b (fpr (jk u e l b) d).1 (fpr (jk u e l b) d).2 ⟨by omega,by omega⟩;have w:(fpr (jk u e l b) d).1*e+(fpr (jk u e l b) d).2=d:=f2;rw[w]at g;exact g
theorem afA{g:LP->OP}{k:Nat}{m S:PyData}{r:Int}:(jD nDA 4 (bDA g k).1) [m,S,.int r,.int 0]=some (.list []):=by
 have e0:=aaX 0 0;rw[decide_eq_true rfl]at e0;refine qt rfl ?_;show(bDA g k).1 [some m,some S,some (.int r),some (.int 0),none,none]=_;simp only[bDA,jR,ifS,tst,op2,qw,Jo,jA,lkp,cst,zzA,zzB,zzC,zzD,zzE,e0,asB,zzM,acw]
theorem aoP{g:LP->OP}{k:Nat}{m S R F:PyData}{A:LP}{r w dg b:Int}(hd:dg≠0)(hr:0<=r)(hx:dIx S (.int r)=some R)(hw:qo [m,R]=some (.int w))(hs:g [m,S,.int (r-1),.int ((w+dg) / b)]=some (.list A))(hb:dIx m (.int 3)=some (.int b))(b0:0<b)(b1:b<=16)
  (hf:JT [m,.int ((w+dg) % b)]=some F) (hA:A.length<1000):(jD nDA 4 (bDA g k).1) [m,S,.int r,.int dg]=some (.list (A++[.tuple [.int r,F]])):=by
 have e0:=aaX dg 0;rw[decide_eq_false hd]at e0;have s1:abe (.int r) (.int 1)=some (.int (r-1)):=rfl;have a0:zM (.int w) (.int dg)=some (.int (w+dg)):=rfl;have q1:abH (.int (w+dg)) (.int b)=some (.int ((w+dg) / b)):=aaW b0 (by omega);have q2:ajd (.int (w+dg)) (.int b)=some (.int ((w+dg) % b)):=acx b0
 have c0:JF (fun i j=>decide (i<j)) (.int r) (.int 0)=some (.bool false):=by
  show some (PyData.bool (decide (r<0)))=_;rw[decide_eq_false (by omega)]
 have f1:few [PyData.int r,F]=true:=J9 (by simp);have f2:few [PyData.tuple [PyData.int r,F]]=true:=J9 (by simp)
 have a1:zM (.list A) (.list [.tuple [.int r,F]])=some (.list (A++[.tuple [.int r,F]])):=by
  show(if few (A++[.tuple [.int r,F]])=true then some (PyData.list (A++[.tuple [.int r,F]])) else none)=_;rw[if_pos (J9 (by rw[List.length_append,List.length_singleton];omega))]
 refine qt rfl ?_;show(bDA g k).1 [some m,some S,some (.int r),some (.int dg),none,none]=_;simp only[bDA];refine(qd (ρ1:=[some m,some S,some (.int r),some (.int dg),none,none]) ?_).trans ?_
 ·simp only[ifS,tst,op2,lkp,cst,zzA,zzB,zzC,zzD,zzE,e0,asB,zzL,zzN,qE]
 refine(qd (ρ1:=[some m,some S,some (.int r),some (.int dg),none,none]) ?_).trans ?_
 ·simp only[ifS,tst,op2,lkp,cst,zzA,zzB,zzC,zzD,zzE,c0,asB,zzL,zzN,qE]
 refine(qd (ρ1:=[some m,some S,some (.int r),some (.int dg),some (.int (w+dg)),none]) ?_).trans ?_
 ·simp only[qz,op2,jB,jo,jA,lkp,jS,zzA,zzB,zzC,zzD,zzE,hx,hw,a0,zzF,zzG]
 refine(qd (ρ1:=[some m,some S,some (.int r),some (.int dg),some (.int (w+dg)),some (.list A)]) ?_).trans ?_
 ·simp only[qz,op2,jB,jo,jA,lkp,cst,jS,zzA,zzB,zzC,zzD,zzE,s1,hb,q1,hs,zzF,zzG]
 simp only[jR,qw,op2,Jo,ab0,jB,jo,jA,lkp,cst,zzA,zzB,zzC,zzD,zzE,hb,q2,hf,f1,f2,zzM,a1]
structure StepOk(g:LP->OP)(m:PyData)(b:Int)(ds:List Int)(i:Nat)(dg t:Int)(cs:List (Nat×Int))(pre:List Int):Prop where
 run:g [m,stt m ds,.int (i:Int),.int dg]=some (.list (cs.map (aa3 m)))
 lt:∀c∈cs,c.1<ds.length
 few:cs.length<=i+1
 len:pre.length=i+1
 ok:okG b pre
 val:dv b pre=t
 app:Qu cs ds=pre++ds.drop (i+1)
 nil:dg=0->cs=[]
theorem Jz{ds:List Int}{i:Nat}{d:Int}(hd:ds[i]?=some d):ds.take (i+1)=ds.take i++[d]:=by
 rw[List.take_succ,hd];rfl
theorem aed{ds:List Int}{i:Nat}{d:Int}(hd:ds[i]?=some d):ds.drop i=d::ds.drop (i+1):=by
 obtain⟨hi,rfl⟩:=List.getElem?_eq_some_iff.mp hd;exact List.drop_eq_getElem_cons hi
theorem aiM{pre ds:List Int}{i:Nat}{d x:Int}(hl:pre.length=i)(hd:ds[i]?=some d):(pre++ds.drop i).set i x=(pre++[x])++ds.drop (i+1):=by
 rw[aed hd,List.append_assoc]
 have:(pre++d::ds.drop (i+1)).set i x=pre++(d::ds.drop (i+1)).set 0 x:=by
  rw[List.set_append_right _ _ (by omega),hl,Nat.sub_self]
 rw[this];rfl
theorem aee{g:LP->OP}{m:PyData}{ds:List Int}{i:Nat}(hi:i<ds.length)(hk:okG b ds)(hr:g [m,stt m ds,.int (i:Int),.int 0]=some (.list [])):StepOk g m b ds i 0 (dv b (ds.take (i+1))) [] (ds.take (i+1)):=
 ⟨hr,fun c hc=>(nomatch hc),Nat.zero_le _,by rw[List.length_take];omega,hk.take _,rfl,by show ds=_;rw[List.take_append_drop],fun _=>rfl⟩
theorem an9(H:qG=true)(h:okN u e l b=true){ds:List Int}(hk:okG b ds)(h4:ds.length<=4):∀(i k:Nat) (dg:Int),i<ds.length->0<=dg->dv b (ds.take (i+1))+dg<b ^ (i+1)->
  ∃cs pre,StepOk (gDA (i+2+k)) (jk u e l b) b ds i dg (dv b (ds.take (i+1))+dg) cs pre:=by
 obtain⟨a1,a2,a3,a4,a5,a6,a7,a8,a9,a10⟩:=qf h;intro i
 induction i with
 | zero=>
  intro k dg hi d0 hle;by_cases hz:dg=0
  ·subst hz
   rw[Int.add_zero];exact⟨_,_,aee hi hk (show gDA (0+2+k) _=_ by rw[show 0+2+k=(k+1)+1 by omega];exact afA)⟩
  have hd:ds[0]?=some ds[0]:=List.getElem?_eq_getElem hi;generalize ds[0]=w at hd;obtain⟨w0,w1⟩:=hk w (List.mem_of_getElem? hd);rw[Jz hd,Js]at hle ⊢;have z:dv b (ds.take 0)=0:=rfl;rw[z,Int.zero_mul,Int.zero_add]at hle ⊢;rw[Nat.zero_add,pw1]at hle;have q1:(w+dg) / b=0:=Int.ediv_eq_zero_of_lt (by omega) hle;have q2:(w+dg) % b=w+dg:=Int.emod_eq_of_lt (by omega) hle;refine⟨[(0,w+dg)],[w+dg],?_,fun c hc=>by rw[List.mem_singleton.mp hc];exact hi,Nat.le_refl _,rfl,okG.one (by omega) (by omega),by simp[dv],?_,fun q=>absurd q hz⟩
  ·rw[show 0+2+k=(k+1)+1 by omega]
   have hf:=(qQ H h (d:=w+dg) (by omega) (by omega)).1;exact aoP (g:=gDA (k+1)) (A:=[]) hz (by omega) (ame _ h4 hd) (abU H h w0 w1) (by rw[q1];exact afA) rfl (by omega) a9 (by rw[q2];exact hf) (by simp)
  ·have:=aiM (pre:=[]) (ds:=ds) (i:=0) (x:=w+dg) rfl hd
   simpa[Qu]using this
 | succ i ih=>
  intro k dg hi d0 hle;by_cases hz:dg=0
  ·subst hz
   rw[Int.add_zero];exact⟨_,_,aee hi hk (show gDA (i+1+2+k) _=_ by rw[show i+1+2+k=(i+2+k)+1 by omega];exact afA)⟩
  have hd:ds[i+1]?=some ds[i+1]:=List.getElem?_eq_getElem hi;generalize ds[i+1]=w at hd;obtain⟨w0,w1⟩:=hk w (List.mem_of_getElem? hd);rw[Jz hd,Js]at hle ⊢;have c0:0<=(w+dg) / b:=Int.ediv_nonneg (by omega) (by omega);have m0:0<=(w+dg) % b:=Int.emod_nonneg _ (by omega);have m1:(w+dg) % b<b:=Int.emod_lt_of_pos _ (by omega);have dm:=Int.mul_ediv_add_emod (w+dg) b
  have hv:dv b (ds.take (i+1))+(w+dg) / b<b ^ (i+1):=by
   apply Classical.byContradiction;intro hc;have this:b ^ (i+1)*b<=(dv b (ds.take (i+1))+(w+dg) / b)*b:=Int.mul_le_mul_of_nonneg_right (by omega) (by omega);have e1:b ^ (i+1+1)=b ^ (i+1)*b:=Int.pow_succ b (i+1);have e2:(dv b (ds.take (i+1))+(w+dg) / b)*b=dv b (ds.take (i+1))*b+b*((w+dg) / b):=by rw[Int.add_mul,Int.mul_comm ((w+dg) / b)]
   rw[e1]at hle;rw[e2]at this;omega
  obtain⟨cs,pre,st⟩:=ih k ((w+dg) / b) (by omega) c0 hv;have hrun:=st.run;rw[show((i:Nat):Int)=((i+1:Nat):Int)-1 by omega]at hrun;refine⟨cs++[(i+1,(w+dg) % b)],pre++[(w+dg) % b],?_,fun c hc=>?_,by rw[List.length_append];have:=st.few;simp;omega,by rw[List.length_append,st.len];rfl,st.ok.app (okG.one m0 m1),?_,?_,fun q=>absurd q hz⟩
  ·rw[show i+1+2+k=(i+2+k)+1 by omega,List.map_append]
   exact aoP (g:=gDA (i+2+k)) hz (by omega) (ame _ h4 hd) (abU H h w0 w1) hrun rfl (by omega) a9 (qQ H h m0 m1).1 (by rw[List.length_map];have:=st.few;omega)
  ·rcases List.mem_append.mp hc with z | z
   ·exact st.lt c z
   ·rw[List.mem_singleton.mp z];exact hi
  ·rw[Js,st.val,Int.add_mul,Int.mul_comm ((w+dg) / b)];omega
  ·rw[agC,st.app]
   exact aiM (pre:=pre) (ds:=ds) (i:=i+1) (x:=(w+dg) % b) st.len hd
end
theorem aoa(m:PyData)(c:Nat×Int):noL (aa3 m c)=true:=by simp[aa3,qH,pr,noL,noLs]
theorem amf(m:PyData)(cs:List (Nat×Int)):noLs (cs.map (aa3 m))=true:=QY fun d hd=>by
 obtain⟨c,_,rfl⟩:=List.mem_map.mp hd;exact aoa m c
section
variable {u e l b:Int}
theorem ap4{x:Str}{g:LP->OP}{m S N now now':PyData}{ch es:LP}{i dg:Int}{x8:OP}(hg:g [m,now,.int i,.int dg]=some (.list es))(hb:ahy [now,.list es]=some now')(hn:noLs es=true)(hl:ch.length+es.length<1000000):
  (abw x g).1 [some m,some S,some N,some (fnD x),some (.list ch),some now,some (.int i),some (.int dg),x8]=some (.nx [some m,some S,some N,some (fnD x),some (.list (ch++es)),some now',some (.int i),some (.int dg),some (.list es)]):=by
 have hF:=ahn x
 have hx:ak1 (some (.list ch)) (some (.list es))=some (.list (ch++es)):=by
  show(if noLs es=true/\ch.length+es.length<1000000 then some (PyData.list (ch++es)) else none)=_;rw[if_pos ⟨hn,hl⟩]
 simp only[abw];refine(qd (ρ1:=[some m,some S,some N,some (fnD x),some (.list ch),some now,some (.int i),some (.int dg),some (.list es)]) ?_).trans ?_
 ·simp only[qz,brw,hid,ajt,jo,jA,lkp,jS,zzA,zzB,zzC,zzD,zzE,hF,zzM,hg,zzF,zzG]
 refine(qd (ρ1:=[some m,some S,some N,some (fnD x),some (.list ch),some now',some (.int i),some (.int dg),some (.list es)]) ?_).trans ?_
 ·simp only[qz,brw,hid,jB,jo,jA,lkp,jS,zzA,zzB,zzC,zzD,zzE,hb,zzF,zzG]
 refine(qd (ρ1:=[some m,some S,some N,some (fnD x),some (.list (ch++es)),some now',some (.int i),some (.int dg),some (.list es)]) ?_).trans rfl;simp only[aeP,ajq,lkp,zzA,zzB,zzC,zzD,zzE,hx,zzF,zzG]
theorem amg{x:Str}{g:LP->OP}{m S N now:PyData}{b:Int}{r:Int}{dl ch:LP}{y6 y7 y8:OP}(i3:dIx m (.int 3)=some (.int b))(hl:qM [S]=some (.int r))(hd:ae6 [.int b,.int r,N]=some (.list dl))
  (lp:jY (ZO 2 (qr (jS 6) (qr (jS 7) Qa))) (abw x g).1 (ZW 0 dl) [some m,some S,some N,some (fnD x),some (.list []),some S,none,none,none]=some (.nx [some m,some S,some N,some (fnD x),some (.list ch),some now,y6,y7,y8])):
  apW x g [m,S,N,fnD x]=some (.list ch):=by
 refine qt rfl ?_;show(anZ x g).1 [some m,some S,some N,some (fnD x),none,none,none,none,none]=_
 have st1:qz (brw (some 4) (lkp 1)) (jS 5) [some m,some S,some N,some (fnD x),some (.list []),none,none,none,none]=some (.nx [some m,some S,some N,some (fnD x),some (.list []),some S,none,none,none]):=by
  simp only[qz,brw,hid,lkp,jS,zzA,zzB,zzC,zzD,zzE,zzF,zzG]
 have st2:ZP (fun ρ=>(jo (jB ae6 (jo (op2 dIx (lkp 0) (cst (PyData.int 3))) (jo (jB qM (jo (lkp 1) jA)) (jo (lkp 2) jA)))) jA (hid (some 4) ρ)).bind af2) (ZO 2 (qr (jS 6) (qr (jS 7) Qa))) (abw x g).1 [some m,some S,some N,some (fnD x),some (.list []),some S,none,none,none]=some (.nx [some m,some S,some N,some (fnD x),some (.list ch),some now,y6,y7,y8]):=by
  simp only[ZP,jB,op2,jo,jA,hid,lkp,cst,zzA,zzB,zzC,zzD,zzE,zzF,zzG,i3,hl,hd,af2];exact lp
 simp only[anZ,aas,Jo,jA,zzD,acw,zzM,List.length_cons,List.length_nil,zzF,zzG];rw[if_pos (by omega),qd st1,qd st2];simp only[jR,qw,lkp,zzA,zzB,zzC,zzD,zzE]
theorem amh{x:Str}{g:LP->OP}{m:PyData}{ds ns:List Int}{n:Int}{r:Nat}{T:Nat->Int}(hr:ds.length=r)(h4:r<=4)(i3:dIx m (.int 3)=some (.int b))(hd:ae6 [.int b,.int (r:Int),.int n]=some (.list (ns.map .int)))(hns:ns.length=r)(hT:T 0=0)
  (hstep:∀(i:Nat) (dg:Int) (p:List Int),ns[i]?=some dg->i<r->p.length=i->okG b p->dv b p=T i->∃cs pre,StepOk g m b (p++ds.drop i) i dg (T (i+1)) cs pre):
  ∃cs:List (Nat×Int),apW x g [m,stt m ds,.int n,fnD x]=some (.list (cs.map (aa3 m)))/\(∀c∈cs,c.1<r)/\okG b (Qu cs ds)/\dv b (Qu cs ds)=T r/\((∀d∈ns,d=0)->cs=[]):=by
 obtain⟨ρ',hl,hI⟩:=adp (ga:=ZO 2 (qr (jS 6) (qr (jS 7) Qa))) (F:=(abw x g).1)
  (fun i ρ=>∃cs p x6 x7 x8,ρ=[some m,some (stt m ds),some (.int n),some (fnD x),some (.list (cs.map (aa3 m))),some (stt m (p++ds.drop i)),x6,x7,x8]/\p.length=i/\okG b p/\dv b p=T i/\Qu cs ds=p++ds.drop i/\cs.length<=10*i/\(∀c∈cs,c.1<r)/\((∀d∈ns.take i,d=0)->cs=[]))
  (ZW 0 (ns.map .int)) 0 [some m,some (stt m ds),some (.int n),some (fnD x),some (.list []),some (stt m ds),none,none,none]
  ⟨[],[],none,none,none,rfl,rfl,(fun d hd=>(nomatch hd)),by rw[hT];rfl,rfl,Nat.le_refl _,(fun c hc=>(nomatch hc)),fun _=>rfl⟩ (fun j d ρ hd hi=>by
   rw [Nat.zero_add] at hi ⊢;obtain ⟨cs,p,x6,x7,x8,rfl,pl,pk,pv,pa,pc,pt,pz⟩:=hi;obtain ⟨y,hy,rfl⟩:=abm _ _ _ _ hd;rw [List.getElem?_map] at hy;cases hdg:ns[j]? with
   | none=>rw [hdg] at hy; cases hy
   | some dg=>
    rw [hdg] at hy;cases hy;have hj:j<r:=by have:=(List.getElem?_eq_some_iff.mp hdg).1; omega
    have hDl:(p++ds.drop j).length=r:=by rw [List.length_append,List.length_drop]; omega
    obtain ⟨cs',pre,st⟩:=hstep j dg p hdg hj pl pk pv;have bh:=aiL (m:=m) st.lt;rw [st.app] at bh
    have dr:(p++ds.drop j).drop (j+1)=ds.drop (j+1):=by
     rw [List.drop_append,List.drop_of_length_le (by omega),pl,List.nil_append,List.drop_drop]
     congr 1; omega
    rw [dr] at bh;have f':=st.few;refine ⟨_,_,rfl,ap4 (x:=x) (g:=g) (ch:=cs.map (aa3 m)) (by rw [Nat.zero_add]; exact st.run) bh (amf m cs') (by rw [List.length_map,List.length_map]; omega),cs++cs',pre,_,_,_,by rw [List.map_append],st.len,st.ok,st.val,?_,by rw [List.length_append]; omega,fun c hc=>?_,fun z=>?_⟩
    ·rw [agC,pa,st.app,dr]
    ·rcases List.mem_append.mp hc with z | z
     ·exact pt c z
     ·have:=st.lt c z; omega
    ·rw [List.take_succ,hdg] at z
     rw [pz fun d hd=>z d (List.mem_append_left _ hd),st.nil (z dg (List.mem_append_right _ (by simp)))];rfl)
 rw[abl,List.length_map,Nat.zero_add,hns]at hI;obtain⟨cs,p,x6,x7,x8,rfl,pl,pk,pv,pa,pc,pt,pz⟩:=hI;have dn:ds.drop r=[]:=List.drop_of_length_le (by omega);rw[dn,List.append_nil]at pa
 have sl:qM [stt m ds]=some (.int (r:Int)):=by
  have:=aaY (ds.map (fpr m));rw[List.length_map,hr]at this;exact this
 refine⟨cs,amg i3 sl hd hl,pt,by rw[pa];exact pk,by rw[pa];exact pv,fun z=>pz ?_⟩;rw[←hns,List.take_length];exact z
theorem ami{p ds:List Int}{i:Nat}{d:Int}(pl:p.length=i)(hd:ds[i]?=some d):(p++ds.drop i).take (i+1)=p++[d]:=by
 rw[aed hd,List.take_append,List.take_of_length_le (by omega),pl,show i+1-i=1 by omega];rfl
theorem ap5{p ds:List Int}(hp:okG b p)(hk:okG b ds)(i:Nat):okG b (p++ds.drop i):=hp.app (hk.drop i)
theorem aob(H:qG=true)(h:okN u e l b=true){ds:List Int}{n:Int}{r:Nat}(hr:ds.length=r)(h1:1<=r)(h4:r<=4)(hk:okG b ds)(n0:0<=n)(hn:dv b ds+n<b ^ r):
  ∃cs:List (Nat×Int),gCA [jk u e l b,stt (jk u e l b) ds,.int n,fnD "digit_added"]=some (.list (cs.map (aa3 (jk u e l b))))/\(∀c∈cs,c.1<r)/\okG b (Qu cs ds)/\dv b (Qu cs ds)=dv b ds+n:=by
 obtain⟨a1,a2,a3,a4,a5,a6,a7,a8,a9,a10⟩:=qf h;have hb:0<b:=by omega
 have hge:=(afz hb ds hk).1;have nlt:n<b ^ r:=by omega
 have nk:okG b (dgl b r n):=ZK hb r n n0 nlt;have nv:=ahP H h h1 n0 nlt;have nl:=zr b r n
 obtain⟨cs,c1,c2,c3,c4,c5⟩:=amh (x:="digit_added") (g:=gDA 6) (m:=jk u e l b) (ds:=ds) (ns:=dgl b r n) (n:=n) (r:=r) (T:=fun i=>dv b (ds.take i)+dv b ((dgl b r n).take i)) hr h4 rfl (aiF hb a9 h1 h4) nl (by simp[dv]) (fun i dg p hdg hi pl pk pv=>by
  have hd:ds[i]?=some (ds[i]'(by omega)):=List.getElem?_eq_getElem (by omega);generalize ds[i]'(by omega)=w at hd;have hDl:(p++ds.drop i).length=r:=by rw [List.length_append,List.length_drop]; omega
  obtain ⟨g0,g1⟩:=nk dg (List.mem_of_getElem? hdg);have le:=ama hb (xs:=ds) (ys:=dgl b r n) (by omega) hk nk (by rw [nv,nl]; exact hn) (k:=i+1) (by omega);rw [Jz hd,Jz hdg,Js,Js] at le;have tk:=ami (p:=p) pl hd;have pv':dv b p=dv b (ds.take i)+dv b ((dgl b r n).take i):=pv;have v1:dv b (p++[w])=dv b (ds.take i)*b+dv b ((dgl b r n).take i)*b+w:=by rw [Js,pv',Int.add_mul]
  obtain ⟨cs,pre,st⟩:=an9 H h (ds:=p++ds.drop i) (ap5 pk hk i) (by omega) i (6 - (i+2)) dg (by omega) g0 (by rw [tk,v1]; omega);refine ⟨cs,pre,?_⟩;rw [show i+2+(6 - (i+2))=6 by omega,tk,v1] at st;have e:dv b (ds.take i)*b+dv b ((dgl b r n).take i)*b+w+dg=dv b (ds.take (i+1))+dv b ((dgl b r n).take (i+1)):=by rw [Jz hd,Jz hdg,Js,Js]; omega
  rw [e] at st;exact st)
 have t1:ds.take r=ds:=by rw[←hr];exact List.take_length
 have t2:(dgl b r n).take r=dgl b r n:=by
  have:=List.take_length (l:=dgl b r n);rw[nl]at this;exact this
 refine⟨cs,c1,c2,c3,?_⟩;rw[c4];show dv b (ds.take r)+dv b ((dgl b r n).take r)=_;rw[t1,t2,nv]
theorem aiN{N:List Str}{n:Nat}{B:RO}{ds:LP}(h:B (jI N ds)=none):jD N n B ds=none:=by
 unfold jD;split
 ·rw[h]
 ·rfl
theorem amj{m S C:PyData}{n:Int}(ct:gCA [m,S,.int n,fnD "digit_added"]=some C):an1 [m,S,.int n]=some C:=by
 refine qt rfl ?_;show an0.1 [some m,some S,some (.int n)]=_;simp only[an0,jR,qw,jB,jo,jA,lkp,cst,zzA,zzB,zzC,zzD,zzE,ct]
theorem agG{m S C:PyData}{n:Int}(cs:qe [m,S]=some .none)(cn:qC [.int n]=some .none)(ct:an1 [m,S,.int n]=some C):acp [m,S,.int n]=some C:=by
 refine qt rfl ?_;show aco.1 [some m,some S,some (.int n)]=_;simp only[aco];refine(qd (ρ1:=[some m,some S,some (.int n)]) ?_).trans ?_
 ·simp only[QK,jB,jo,jA,lkp,zzA,zzB,zzC,zzD,zzE,cs]
 refine(qd (ρ1:=[some m,some S,some (.int n)]) ?_).trans ?_
 ·simp only[QK,jB,jo,jA,lkp,zzA,zzB,zzC,zzD,zzE,cn]
 simp only[jR,qw,jB,jo,jA,lkp,zzA,zzB,zzC,zzD,zzE,ct]
theorem ahQ{m S C D:PyData}{n:Int}(tk:acp [m,S,.int n]=some C)(bh:ahy [S,C]=some D):ac9 [m,S,.int n]=some D:=by
 refine qt rfl ?_;show afb.1 [some m,some S,some (.int n)]=_;simp only[afb,jR,qw,jB,jo,jA,lkp,zzA,zzB,zzC,zzD,zzE,tk,bh]
theorem ajR{m S D:PyData}{n v r:Int}(cs:qe [m,S]=some .none)(cn:qC [.int n]=some .none)(en:Zz [m,S,.int n]=some .none)(hl:qM [S]=some (.int r))(hv:zA [m,S]=some (.int v))(pl:Zw [m,.int r,.int (v-n)]=some D):abO [m,S,.int n]=some D:=by
 have s0:abe (.int v) (.int n)=some (.int (v-n)):=rfl;refine qt rfl ?_;show ac7.1 [some m,some S,some (.int n)]=_;simp only[ac7];refine(qd (ρ1:=[some m,some S,some (.int n)]) ?_).trans ?_
 ·simp only[QK,jB,jo,jA,lkp,zzA,zzB,zzC,zzD,zzE,cs]
 refine(qd (ρ1:=[some m,some S,some (.int n)]) ?_).trans ?_
 ·simp only[QK,jB,jo,jA,lkp,zzA,zzB,zzC,zzD,zzE,cn]
 refine(qd (ρ1:=[some m,some S,some (.int n)]) ?_).trans ?_
 ·simp only[QK,jB,jo,jA,lkp,zzA,zzB,zzC,zzD,zzE,en]
 simp only[jR,qw,op2,jB,jo,jA,lkp,zzA,zzB,zzC,zzD,zzE,hl,hv,s0,pl]
end
theorem aoQ(ds:LP)(k:Nat):abk ds none (some (k:Int))=ds.take k:=by
 unfold abk;rw[HT.sIx_none,HT.sIx_nat,List.drop_zero,Nat.sub_zero];by_cases h:k<=ds.length
 ·rw[Nat.min_eq_left h]
 ·rw[Nat.min_eq_right (by omega),List.take_of_length_le (by omega),List.take_of_length_le (by omega)]
theorem aoc(ds:LP)(k:Nat):abk ds (some (k:Int)) none=ds.drop k:=by
 unfold abk;rw[HT.sIx_none,HT.sIx_nat];by_cases h:k<=ds.length
 ·rw[Nat.min_eq_left h,List.take_of_length_le (by rw[List.length_drop];omega)]
 ·rw[Nat.min_eq_right (by omega),List.drop_of_length_le (by omega),List.drop_of_length_le (by omega),List.take_nil]
noncomputable def whB(a b:Int):PyData->Bool
 |.int i=>decide (a<=i)&&decide (i<=b)
 |_=>false
theorem Zg(d:PyData)(hd:noD d=true)(a b:Int):jQ [d,.int a,.int b]=some (.bool (whB a b d)):=by
 cases d with
 |int i=>exact j0 i a b
 |dict k=>simp[noD]at hd
 |_=>simp[jQ,jD,aaF,jI,jR,ifS,orB,tst,lkp,Qb,tyn,asB,zt,chn,JF,qw,qE,whB,cst]
noncomputable def adG(u l:Int):PyData->Bool
 |.tuple [x,y]=>whB 0 u x&&whB 0 l y
 |_=>false
theorem amk{ds:LP}(h:noDs ds=true):∀d∈ds,noD d=true:=by
 induction ds with
 |nil=>intro d hd;cases hd
 | cons x xs ih=>
  have h':noD x=true/\noDs xs=true:=by simpa[noDs]using h
  intro d hd;rcases List.mem_cons.mp hd with rfl | q
  ·exact h'.1
  ·exact ih h'.2 d q
section
variable {u e l b:Int}
theorem ajS(d:PyData)(hd:noD d=true)(h:∀x y,d ≠ .tuple [x,y]):Qd [jk u e l b,d]=some (.bool false):=by
 cases d with
 |dict k=>simp[noD]at hd
 | tuple ds=>
  have hl:¬ (ds.length:Int)=2:=fun z=>by
   have z':ds.length=2:=by omega
   match ds,z' with
   | [x,y],_=>exact h x y rfl
  simp[Qd,jD,abr,jI,jR,ifS,orB,zt,tst,Qb,tyn,asB,lkp,op2,jB,jo,jA,qM,cst,dNe,Jr,QG,qE,qw,hl]
 |_=>simp[Qd,jD,abr,jI,jR,ifS,orB,zt,tst,Qb,tyn,asB,lkp,op2,jB,jo,jA,qM,cst,dNe,Jr,QG,qE,qw]
theorem aef(d:PyData)(hd:noD d=true):Qd [jk u e l b,d]=some (.bool (adG u l d)):=by
 by_cases h:∃x y,d= .tuple [x,y]
 ·obtain⟨x,y,rfl⟩:=h
  have hx:noD x=true/\noD y=true:=by simpa[noD,noDs]using hd
  have w1:=Zg x hx.1 0 u;have w2:=Zg y hx.2 0 l;cases c1:whB 0 u x<;>rw[c1]at w1<;>simp[Qd,jD,abr,jI,jR,ifS,orB,zt,tst,Qb,tyn,asB,lkp,op2,jB,jo,jA,qM,cst,dNe,Jr,QG,qE,qw,aeR,jk,dIx,atI,ixN,w1,w2,adG,c1]
 ·rw[ajS d hd fun x y z=>h ⟨x,y,z⟩]
  congr 2
  unfold adG;split
  ·exact absurd ⟨_,_,rfl⟩ h
  ·rfl
noncomputable def adH(u l:Int):PyData->Bool
 |.tuple ds=>decide (1<=ds.length)&&decide (ds.length<=4)&&ds.all (adG u l)
 |_=>false
theorem aeg(hm:Q6 [jk u e l b]=some .none)(d:PyData)(hd:noD d=true):ac4 [jk u e l b,d]=some (.bool (adH u l d)):=by
 refine qt rfl ?_;show abt.1 [some (jk u e l b),some d]=_;simp only[abt];refine(qd (ρ1:=[some (jk u e l b),some d]) ?_).trans ?_
 ·simp only[QK,jB,jo,jA,lkp,zzA,zzB,zzC,zzD,zzE,hm]
 cases d with
 |dict k=>simp[noD]at hd
 | tuple ds=>
  by_cases h1:1<=ds.length
  ·by_cases h4:ds.length<=4
   ·have hf:few ds=true:=J9 (by omega)
    have c1:JF (fun i j=>decide (i<=j)) (.int 1) (.int (ds.length:Int))=some (.bool true):=by
     show some (PyData.bool (decide ((1:Int)<=(ds.length:Int))))=_;rw[decide_eq_true (by omega)]
    have c2:JF (fun i j=>decide (i<=j)) (.int (ds.length:Int)) (.int 4)=some (.bool true):=by
     show some (PyData.bool (decide ((ds.length:Int)<=4)))=_;rw[decide_eq_true (by omega)]
    refine(qd (ρ1:=[some (jk u e l b),some (.tuple ds)]) ?_).trans ?_
    ·simp[ifS,orB,zt,tst,Qb,tyn,asB,lkp,chn,jB,jo,jA,qM,cst,qE,c1,c2]
    simp only[jR,qw,jB,jo,jA,zC,itT,lkp,QR,zzA,zzB,zzC,zzD,zzE,hf,zzM,Z4,List.map_cons,List.map_nil,zzH];rw[Qi (fun d=> .bool (adG u l d))]
    ·have:bls (ds.map fun d=>PyData.bool (adG u l d))=some (ds.map (adG u l)):=acv (adG u l) _
     simp only[zzE,zzD,akJ,this,adH,decide_eq_true h1,decide_eq_true h4,Bool.true_and,List.all_map,Function.comp_def,id]
    ·intro d hd'
     simp[jB,jo,jA,lkp,aef (e:=e) (b:=b) d (amk (by simpa[noD]using hd) d hd')]
   ·have c1:JF (fun i j=>decide (i<=j)) (.int 1) (.int (ds.length:Int))=some (.bool true):=by
     show some (PyData.bool (decide ((1:Int)<=(ds.length:Int))))=_;rw[decide_eq_true (by omega)]
    have c2:JF (fun i j=>decide (i<=j)) (.int (ds.length:Int)) (.int 4)=some (.bool false):=by
     show some (PyData.bool (decide ((ds.length:Int)<=4)))=_;rw[decide_eq_false (by omega)]
    simp[jR,ifS,orB,zt,tst,Qb,tyn,asB,lkp,chn,jB,jo,jA,qM,cst,qE,c1,c2,qw,adH,h4]
  ·have c1:JF (fun i j=>decide (i<=j)) (.int 1) (.int (ds.length:Int))=some (.bool false):=by
    show some (PyData.bool (decide ((1:Int)<=(ds.length:Int))))=_;rw[decide_eq_false (by omega)]
   simp[jR,ifS,orB,zt,tst,Qb,tyn,asB,lkp,chn,jB,jo,jA,qM,cst,qE,c1,qw,adH,h1]
 |_=>simp[jR,ifS,orB,zt,tst,Qb,tyn,asB,lkp,chn,jB,jo,jA,cst,qE,qw,adH]
theorem ahR(hm:Q6 [jk u e l b]=some .none)(d:PyData)(hd:noD d=true)(hs:adH u l d=true):qe [jk u e l b,d]=some .none:=by
 have g:=aeg (e:=e) hm d hd;rw[hs]at g;simp[qe,jD,acl,jI,jR,ifS,zt,tst,asB,jB,jo,jA,lkp,g,qE]
end
theorem aeh{d:PyData}(h:qN [d]=some (.bool true)):aff [d]=none:=by
 refine(aa2 rfl).trans ?_;show afe.1 [some d]=_;simp[afe,ifX,zt,tst,asB,jB,jo,jA,lkp,h,afZ]
theorem ajT{m d:PyData}(h:qN [m]=some (.bool true)):ahA [m,d]=none:=by
 have g:=aeh h;refine(aa2 rfl).trans ?_;show afg.1 [some m,some d]=_;simp[afg,jB,jo,jA,lkp,g]
theorem ahS{u e l b:Int}(hM:qN [jk u e l b]=some (.bool true)){d:PyData}(hd:noD d=true)(hs:adH u l d=true):JZ [jk u e l b,d]=none:=by
 have g:=aeg (e:=e) (Qt hM) d hd;rw[hs]at g;have g2:=ajT (d:=d) hM;refine(aa2 rfl).trans ?_;show acs.1 [some (jk u e l b),some d]=_;simp[acs,orX,ifX,zt,tst,asB,jB,jo,jA,lkp,g,g2,afZ]
theorem aiO{u l:Int}(p:Int×Int):adG u l (pr p)=okP u l p:=by
 simp[adG,pr,whB,okP,Bool.and_assoc]
theorem aei{u l:Int}(ps:List (Int×Int)):adH u l (jz ps)=okS u l ps:=by
 simp only[adH,jz,okS,List.length_map,List.all_map]
 congr 2
 funext p;exact aiO p
theorem aiP:∀ps:List (Int×Int),noDs (ps.map pr)=true
 | []=>rfl
 |p::ps=>by simp[noDs,noD,pr,aiP ps]
theorem ads(ps:List (Int×Int)):noD (jz ps)=true:=by
 simp[noD,jz,aiP]
theorem zy{N:List Str}{n:Nat}{F:Rho->Option Str}{ds:LP}{c:Option Str}(hl:ds.length=n)(h:F (jI N ds)=c):zn N n F ds=c:=(aa2 hl).trans h
noncomputable def dg(b:Int):Nat->Int->List Int
 |0,_=>[]
 |k+1,n=>if 0<n then dg b k (n / b)++[n % b] else []
theorem ap6{d:PyData}(hd:noD d=true)(w:whB 0 99999 d=false):qC [d]=none/\J1 [d]=some ("NoNumber":Str):=by
 have gw:=Zg d hd 0 99999;rw[w]at gw;constructor
 ·simp[qC,jD,aaI,jI,jR,ifS,zt,tst,asB,cst,jB,jo,jA,lkp,gw,ajb]
 ·refine zy rfl ?_
  show ZA.1 [some d]=_;simp[ZA,orX,ifX,zt,tst,asB,cst,jB,jo,jA,lkp,gw]
theorem aml{i:Int}(h:0<=i/\i<=99999):qC [.int i]=some .none/\J1 [.int i]=none:=by
 have gw:=j0 i 0 99999;rw[decide_eq_true h.1,decide_eq_true h.2]at gw;constructor
 ·simp[qC,jD,aaI,jI,jR,ifS,zt,tst,asB,cst,jB,jo,jA,lkp,gw,qE]
 ·refine zy rfl ?_
  show ZA.1 [some (.int i)]=_;simp[ZA,orX,ifX,zt,tst,asB,cst,jB,jo,jA,lkp,gw,afZ]
theorem aod{i:Int}(h:1<=i/\i<=4):Jh [.int i]=some .none/\ade [.int i]=none:=by
 have gw:=j0 i 1 4;rw[decide_eq_true h.1,decide_eq_true h.2]at gw;constructor
 ·simp[Jh,jD,aaH,jI,jR,ifS,zt,tst,asB,cst,jB,jo,jA,lkp,gw,qE]
 ·refine zy rfl ?_
  show aaP.1 [some (.int i)]=_;simp[aaP,orX,ifX,zt,tst,asB,cst,jB,jo,jA,lkp,gw,afZ]
theorem ap7{ds:LP}(h:ds.length<50):few ds=true:=J9 (by omega)
theorem fw1{a:PyData}:few [a]=true:=ap7 (by simp)
theorem fw2{a b:PyData}:few [a,b]=true:=ap7 (by simp)
theorem fw3{a b c:PyData}:few [a,b,c]=true:=ap7 (by simp)
theorem ng1:apw (.int 1)=some (.int (-1)):=rfl
noncomputable def shl(n:Nat)(d:PyData):Prop:=d.canLay0=true/\d.depth<=n
theorem aiQ{ds:LP}:PyData.canLayAll0 ds=true↔∀d∈ds,d.canLay0=true:=by
 induction ds with
 |nil=>simp[PyData.canLayAll0]
 |cons x xs ih=>simp[PyData.canLayAll0,ih]
theorem aiR{ds:LP}{n:Nat}:PyData.depthAll ds<=n↔∀d∈ds,d.depth<=n:=by
 induction ds with
 |nil=>simp[PyData.depthAll]
 |cons x xs ih=>simp only[PyData.depthAll,List.mem_cons,forall_eq_or_imp,←ih];omega
theorem afB{n:Nat}{ds:LP}:shl (n+1) (.tuple ds)↔∀d∈ds,shl n d:=by
 constructor
 ·rintro⟨h1,h2⟩ d hd
  refine⟨aiQ.mp (by simpa[PyData.canLay0]using h1) d hd,aiR.mp ?_ d hd⟩;simp only[PyData.depth]at h2;omega
 ·intro h
  refine⟨by simp only[PyData.canLay0];exact aiQ.mpr fun d hd=>(h d hd).1,?_⟩;have:=aiR.mpr fun d hd=>(h d hd).2;simp only[PyData.depth];omega
theorem ap8{n:Nat}{d:PyData}(h:shl n d)(hn:n<30):okD d=true:=by
 unfold okD;rw[h.1,decide_eq_true (show d.depth<30 by have:=h.2;omega)];rfl
theorem aiS(i:Int):shl 1 (.int i):=⟨rfl,by simp[PyData.depth]⟩
theorem ap9(p:Int×Int):shl 2 (pr p):=afB.mpr fun d hd=>by
 simp only[List.mem_cons,List.not_mem_nil,or_false]at hd;rcases hd with rfl|rfl<;>exact aiS _
theorem aoe(ps:List (Int×Int)):shl 3 (jz ps):=afB.mpr fun d hd=>by
 obtain⟨p,_,rfl⟩:=List.mem_map.mp hd;exact ap9 p
theorem aqa{ds:LP}{k:Int}(h0:0<=k)(hk:k<ds.length)(hl:ds.length<9999):∃v,dIx (.list ds) (.int k)=some v/\v∈ds:=by
 have hlt:k.toNat<ds.length:=by omega
 refine⟨ds[k.toNat],?_,List.getElem_mem _⟩;have e1:ixN ds.length k=some k.toNat:=adk h0 hlt;show(if ds.length<1000000 then atI ds k else none)=_;rw[if_pos (by omega)];unfold atI;rw[e1];show ds[k.toNat]?=_;rw[List.getElem?_eq_getElem hlt]
theorem aof{ps:List (Int×Int)}{i:Nat}{p:Int×Int}(h4:ps.length<=4)(hd:ps[i]?=some p):dIx (jz ps) (.int (i:Int))=some (pr p):=by
 have hi:i<ps.length:=(List.getElem?_eq_some_iff.mp hd).1;show(if (ps.map pr).length<1000000 then atI (ps.map pr) (i:Int) else none)=_;rw[if_pos (by rw[List.length_map];omega)];unfold atI;rw[adk (by omega) (by rw[List.length_map];simpa using hi),zzD,List.getElem?_map];rw[show((i:Int)).toNat=i by simp,hd];rfl
section
variable {m s t:PyData}{c:Str}
theorem amm{d:PyData}(g:qe [m,s]=some .none)(k:Ji [m,s,t]=some (.bool true))(bm:JY [s,t]=some d):aac [m,s,t]=some d:=by
 refine qt rfl ?_;show afd.1 [some m,some s,some t]=_;dsimp? [afd,g,k,bm]
end
noncomputable def shP(p:Int×Int)(k:Bool)(c:Int):Int×Int:=if k=true then (p.1,p.2+c) else (p.1+c,p.2)
theorem ast{x y z:PyData}:dIx (.tuple [x,y,z]) (.int 0)=some x:=rfl
theorem asu{x y z:PyData}:dIx (.tuple [x,y,z]) (.int 1)=some y:=rfl
theorem asv{x y z:PyData}:dIx (.tuple [x,y,z]) (.int 2)=some z:=rfl
theorem lnt{x y z:PyData}:qM [.tuple [x,y,z]]=some (.int 3):=rfl
theorem itt{xs:LP}:ab1 "tuple" (.tuple xs)=some (.bool true):=rfl
theorem aog:dNe (.int 3) (.int 3)=some (.bool false):=by kernel_rfl
theorem arA(k:Bool):dIn true (Q8 k) (.tuple [.str "upper",.str "lower"])=some (.bool false):=by cases k<;>kernel_rfl
theorem aoh{c:Int}(hc:c=1∨c=-1):jQ [.int c,.int (-1),.int 1]=some (.bool true)/\dNe (.int c) (.int 0)=some (.bool true)/\dIn true (.int c) (.tuple [.int 1,.int (-1)])=some (.bool false)/\ab1 "bool" (.int c)=some (.bool false):=by
 rcases hc with rfl|rfl<;>exact⟨by kernel_rfl,by kernel_rfl,by kernel_rfl,rfl⟩
section
variable {u e l b:Int}{ps:List (Int×Int)}
theorem amn(x y z:PyData){X Y Z N:Bool}(ln:qM [jz ps]=some (.int (ps.length:Int)))(wx:jQ [x,.int 0,.int ((ps.length:Int)-1)]=some (.bool X))(iy:X=true->dIn true y (.tuple [.str "upper",.str "lower"])=some (.bool !Y))(wz:X=true->Y=true->jQ [z,.int (-1),.int 1]=some (.bool Z))(nz:X=true->Y=true->Z=true->dNe z (.int 0)=some (.bool N)):JV [jz ps,.tuple [x,y,z]]=some (.bool (X&&Y&&Z&&N)):=by
 have sb:abe (.int (ps.length:Int)) (.int 1)=some (.int ((ps.length:Int)-1)):=rfl;have e0:=ast (x:=x) (y:=y) (z:=z);have e1:=asu (x:=x) (y:=y) (z:=z);have e2:=asv (x:=x) (y:=y) (z:=z);have e3:=lnt (x:=x) (y:=y) (z:=z);have e4:=itt (xs:=[x,y,z]);generalize PyData.tuple [x,y,z]=D at*;generalize (ps.length:Int)=n at*;refine qt rfl ?_;show zb.1 [some (jz ps),some D]=_;cases X with
 |false=>dsimp? [zb,e0,e3,e4,aog,ln,sb,wx,Bool.false_and]
 | true=>
  have iy:=iy rfl;cases Y with
  |false=>dsimp? [zb,e0,e1,e3,e4,aog,ln,sb,wx,iy,Bool.false_and,Bool.true_and]
  | true=>
   have wz:=wz rfl rfl;cases Z with
   |false=>dsimp? [zb,aeR,e0,e1,e2,e3,e4,aog,ln,sb,wx,iy,wz,ng1,Bool.false_and,Bool.true_and]
   | true=>
    have nz:=nz rfl rfl rfl;dsimp? [zb,aeR,e0,e1,e2,e3,e4,aog,ln,sb,wx,iy,wz,nz,ng1,Bool.false_and,Bool.true_and]
theorem asw{r:Nat}(hr:r<ps.length):jQ [.int (r:Int),.int 0,.int ((ps.length:Int)-1)]=some (.bool true):=by
 rw[j0,decide_eq_true (by omega),decide_eq_true (by omega)];rfl
end
theorem aej(p:Int×Int)(k:Bool)(c:Int):acr [pr p,Q8 k,.int c]=some (pr (shP p k c)):=by
 have i0:dIx (pr p) (.int 0)=some (.int p.1):=rfl;have i1:dIx (pr p) (.int 1)=some (.int p.2):=rfl;have a1:zM (.int p.1) (.int c)=some (.int (p.1+c)):=rfl;have a2:zM (.int p.2) (.int c)=some (.int (p.2+c)):=rfl;refine qt rfl ?_;show aaM.1 [some (pr p),some (Q8 k),some (.int c)]=_;cases k with
 | false=>
  have q:dEq (Q8 false) (.str "upper")=some (.bool true):=by kernel_rfl
  dsimp? [aaM,q,i0,i1,a1,fw2];rfl
 | true=>
  have q:dEq (Q8 true) (.str "upper")=some (.bool false):=by kernel_rfl
  dsimp? [aaM,q,i0,i1,a2,fw2];rfl
theorem aek{α:Type}:∀(ps:List α) (r:Nat) (q:α),r<ps.length->ps.set r q=ps.take r++[q]++ps.drop (r+1)
 | [],r,q,h=>by simp at h
 |p::ps,0,q,h=>rfl
 | p::ps,r+1,q,h=>by
  simp only[zzF,List.take_succ_cons,List.drop_succ_cons,List.cons_append];rw[aek ps r q (by simpa using h)]
section
variable {u e l b:Int}{ps:List (Int×Int)}
theorem asx{r:Nat}(hr:r<ps.length)(h4:ps.length<=4)(q:Int×Int):∃A1 A2 A3,af1 (jz ps) none (some (r:Int))=some A1/\zM A1 (.tuple [pr q])=some A2/\af1 (jz ps) (some ((r:Int)+1)) none=some A3/\zM A2 A3=some (jz (ps.set r q)):=by
 refine⟨.tuple ((ps.map pr).take r),.tuple ((ps.map pr).take r++[pr q]),.tuple ((ps.map pr).drop (r+1)),?_,?_,?_,?_⟩
 ·show some (PyData.tuple (abk _ none (some (r:Int))))=_
  rw[aoQ]
 ·exact aiH (.inr trivial) (by rw[List.length_take,List.length_map];simp;omega)
 ·show some (PyData.tuple (abk _ (some ((r:Int)+1)) none))=_
  rw[show(r:Int)+1=((r+1:Nat):Int) by omega,aoc]
 ·rw[aiH (.inr trivial) (by rw[List.length_append,List.length_take,List.length_drop,List.length_map];simp only[List.length_cons,List.length_nil];omega),aek ps r q hr]
  show some (PyData.tuple _)=some (PyData.tuple (List.map pr _));rw[List.map_append,List.map_append,List.map_take,List.map_drop];rfl
theorem aoi(hs:okS u l ps=true)(r:Nat){q:Int×Int}(hq:okP u l q=true):okS u l (ps.set r q)=true:=by
 obtain⟨h1,h4,hp⟩:=zx hs;refine al7 (by rw[List.length_set];exact h1) (by rw[List.length_set];exact h4) (List.all_eq_true.mpr fun x hx=>?_);rcases List.mem_or_eq_of_mem_set hx with z|rfl
 ·exact List.all_eq_true.mp hp x z
 ·exact hq
end
structure Th(u e l b:Int)(ps:List (Int×Int))(d:PyData)(o:Option (List (Int×Int))):Prop where
 cm:Ji [jk u e l b,jz ps,d]=some (.bool o.isSome)
 bm:∀qs,o=some qs->JY [jz ps,d]=some (jz qs)/\okS u l qs=true
section
variable {u e l b:Int}{ps:List (Int×Int)}
theorem abV(hs:okS u l ps=true){r:Nat}{p:Int×Int}(hp:ps[r]?=some p)(k:Bool){c:Int}(hc:c=1∨c=-1):Th u e l b ps (mv (r:Int) k c) (if okP u l (shP p k c)=true then some (ps.set r (shP p k c)) else none):=by
 obtain⟨h1,h4,hall⟩:=zx hs;obtain⟨hr,hpe⟩:=List.getElem?_eq_some_iff.mp hp;have hpo:okP u l p=true:=List.all_eq_true.mp hall p (by rw[←hpe];exact List.getElem_mem _);have hpo':0<=p.1/\p.1<=u/\0<=p.2/\p.2<=l:=by simp only[okP,Bool.and_eq_true,decide_eq_true_eq]at hpo;omega
 obtain⟨f1,f2,f3,f4⟩:=aoh hc;have ixT:=aof h4 hp;have k1:=amn (X:=true) (Y:=true) (Z:=true) (N:=true) (.int (r:Int)) (Q8 k) (.int c) (aaY ps) (asw hr) (fun _=>arA k) (fun _ _=>f1) (fun _ _ _=>f2);obtain⟨A1,A2,A3,s1,s2,s3,s4⟩:=asx hr h4 (shP p k c);have gr:=aef (u:=u) (e:=e) (l:=l) (b:=b) (pr (shP p k c)) rfl;rw[aiO]at gr;refine⟨?_,fun qs z=>?_⟩
 ·have e0:dIx (mv (r:Int) k c) (.int 0)=some (.int (r:Int)):=rfl
  have e1:dIx (mv (r:Int) k c) (.int 1)=some (Q8 k):=rfl;have e2:dIx (mv (r:Int) k c) (.int 2)=some (.int c):=rfl;have pu:=aej p k c;have k1':JV [jz ps,mv (r:Int) k c]=some (.bool true):=k1;have io:(if okP u l (shP p k c)=true then some (ps.set r (shP p k c)) else none).isSome=okP u l (shP p k c):=by split<;>simp_all
  rw[io];generalize mv (r:Int) k c=D at*;generalize okP u l (shP p k c)=OK at*;generalize pr (shP p k c)=Q at*;refine qt rfl ?_;show aaO.1 [some (jk u e l b),some (jz ps),some D]=_;dsimp? [aaO,k1',e0,e1,e2,ixT,pu,gr]
 ·by_cases ho:okP u l (shP p k c)=true
  ·rw[if_pos ho]at z
   cases z;refine⟨?_,aoi hs r ho⟩;have e0:dIx (mv (r:Int) k c) (.int 0)=some (.int (r:Int)):=rfl;have e1:dIx (mv (r:Int) k c) (.int 1)=some (Q8 k):=rfl;have e2:dIx (mv (r:Int) k c) (.int 2)=some (.int c):=rfl;have a1:zM (.int (r:Int)) (.int 1)=some (.int ((r:Int)+1)):=rfl;have pu:=aej p k c;generalize mv (r:Int) k c=D at*;generalize pr (shP p k c)=Q at*;generalize jz (ps.set r (shP p k c))=R at*;refine qt rfl ?_;show JX.1 [some (jz ps),some D,none]=_;dsimp? [JX,ad0,Zl,inI,e0,e1,e2,a1,ixT,pu,s1,fw1,s2,s3,s4]
  ·rw[if_neg ho]at z;cases z
theorem aoR(H:qG=true)(h:okN u e l b=true)(hs:okS u l ps=true):qe [jk u e l b,jz ps]=some .none/\True:=by
 have hM:=ajN H h;have hb:adH u l (jz ps)=true:=by rw[aei];exact hs
 exact⟨ahR (Qt hM) _ (ads ps) hb,trivial⟩
theorem agH(H:qG=true)(h:okN u e l b=true){ps qs:List (Int×Int)}{d:PyData}(hs:okS u l ps=true)(t:Th u e l b ps d (some qs)):aac [jk u e l b,jz ps,d]=some (jz qs):=
 amm (aoR H h hs).1 t.cm (t.bm _ rfl).1
end
noncomputable abbrev PL:=List (Int×Int)
section
variable {m s t d C:PyData}{c:Str}
theorem aqb(g:qe [m,s]=some .none)(x:JZ [m,s]=none)(g2:qC [t]=none)(x2:J1 [t]=some c):abO [m,s,t]=none/\abP [m,s,t]=some c:=by
 constructor
 ·simp[abO,jD,ac7,jI,jR,QK,jB,jo,jA,lkp,g,g2]
 ·refine zy rfl ?_
  show ad7.1 [some m,some s,some t]=_;simp[ad7,orX,nxX,QK,jB,jo,jA,lkp,g,x,g2,x2]
end
section
variable {u e l b:Int}
theorem amo(H:qG=true)(h:okN u e l b=true){r n:Int}(h1:1<=r)(h4:r<=4)(h0:0<=n)(hn:n<=99999):aaa [jk u e l b,.int r,.int n]=some .none/\ahB [jk u e l b,.int r,.int n]=none:=by
 refine⟨ajQ H h h1 h4 h0 hn,?_⟩;have g:=Qt (ajN H h);have x:=aeh (ajN H h);obtain⟨g2,x2⟩:=aod ⟨h1,h4⟩;obtain⟨g3,x3⟩:=aml ⟨h0,hn⟩;refine zy rfl ?_;show afh.1 [some (jk u e l b),some (.int r),some (.int n)]=_;simp[afh,orX,nxX,QK,jB,jo,jA,lkp,g,x,g2,x2,g3,x3]
end
section
variable {u e l b:Int}{ps:PL}
theorem aoj{N:List Str}{n:Nat}{B:RO}{ds:LP}{ρ:Rho}(hl:ds.length=n)(h:B (jI N ds)=some (.nx ρ)):jD N n B ds=some .none:=by
 unfold jD;rw[if_pos hl,h]
theorem ajU{M S:PyData}{n v:Int}(g:zA [M,S]=some (.int v))(hv:v<n):Zz [M,S,.int n]=none/\act [M,S,.int n]=some ("TooGreat":Str):=by
 have c1:JF (fun i j=>decide (j<i)) (.int n) (.int v)=some (.bool true):=by
  show some (PyData.bool (decide (v<n)))=_;rw[decide_eq_true hv]
 constructor
 ·refine aiN ?_
  show Zy.1 [some M,some S,some (.int n)]=_;dsimp? [Zy,g,c1]
 ·refine zy rfl ?_
  show ZB.1 [some M,some S,some (.int n)]=_;dsimp? [ZB,g,c1]
theorem ajV{M S:PyData}{n v:Int}(g:zA [M,S]=some (.int v))(hv:n<=v):Zz [M,S,.int n]=some .none/\act [M,S,.int n]=none:=by
 have c1:JF (fun i j=>decide (j<i)) (.int n) (.int v)=some (.bool false):=by
  show some (PyData.bool (decide (v<n)))=_;rw[decide_eq_false (by omega)]
 constructor
 ·refine aoj (ρ:=[some M,some S,some (.int n)]) rfl ?_
  show Zy.1 [some M,some S,some (.int n)]=_;dsimp? [Zy,g,c1]
 ·refine zy rfl ?_
  show ZB.1 [some M,some S,some (.int n)]=_;dsimp? [ZB,g,c1]
theorem aqc{M S:PyData}{n v:Int}(ck:qe [M,S]=some .none)(tk:JZ [M,S]=none)(gn:qC [.int n]=some .none)(xn:J1 [.int n]=none)(g:zA [M,S]=some (.int v))(hv:v<n):abO [M,S,.int n]=none/\abP [M,S,.int n]=some ("TooGreat":Str):=by
 obtain⟨e1,e2⟩:=ajU g hv;constructor
 ·refine aiN ?_
  show ac7.1 [some M,some S,some (.int n)]=_;dsimp? [ac7,ck,gn,e1]
 ·refine zy rfl ?_
  show ad7.1 [some M,some S,some (.int n)]=_;dsimp? [ad7,ck,tk,gn,xn,e1,e2]
theorem ck2(H:qG=true)(h:okN u e l b=true)(hs:okS u l ps=true):qe [jk u e l b,jz ps]=some .none/\JZ [jk u e l b,jz ps]=none:=
 ⟨agA H h hs,ahS (ajN H h) (ads ps) (by rw[aei];exact hs)⟩
end
noncomputable def sh(n:Nat)(d:PyData):Prop:=shl n d/\noD d=true
theorem amp{ds:LP}(h:∀d∈ds,noD d=true):noDs ds=true:=by
 induction ds with
 |nil=>rfl
 | cons d ds ih=>
  show(noD d&&noDs ds)=true;rw[h d List.mem_cons_self,ih fun x hx=>h x (List.mem_cons_of_mem _ hx)];rfl
theorem aqd{n:Nat}{ds:LP}(h:∀d∈ds,sh n d):sh (n+1) (.tuple ds):=⟨afB.mpr fun d hd=>(h d hd).1,amp fun d hd=>(h d hd).2⟩
theorem aiT{n m:Nat}{d:PyData}(h:sh n d)(hm:n<=m):sh m d:=⟨⟨h.1.1,Nat.le_trans h.1.2 hm⟩,h.2⟩
theorem amq(i:Int):sh 1 (.int i):=⟨aiS i,rfl⟩
theorem aok(ps:List (Int×Int)):sh 3 (jz ps):=⟨aoe ps,ads ps⟩
noncomputable def tM(M T d:PyData):Bool:=match Ji [M,T,d]with
 |some (.bool x)=>x
 |_=>false
noncomputable def c4(r:Nat):LP:=[mv (r:Int) false 1,mv (r:Int) false (-1),mv (r:Int) true 1,mv (r:Int) true (-1)]
noncomputable def amr(M T:PyData)(r:Nat):LP:=(c4 r).filter (tM M T)
noncomputable def Qv(M T:PyData)(n:Nat):LP:=(List.range n).flatMap (amr M T)
theorem ael(M T:PyData)(k:Nat):Qv M T (k+1)=Qv M T k++amr M T k:=by
 unfold Qv;rw[List.range_succ,List.flatMap_append];simp
theorem ams(M T:PyData)(r:Nat):(amr M T r).length<=4:=List.length_filter_le _ _
theorem adt(M T:PyData):∀n:Nat,(Qv M T n).length<=4*n
 |0=>by simp[Qv]
 | n+1=>by
  rw[ael,List.length_append];have:=ams M T n;have:=adt M T n;omega
theorem amt{u e l b:Int}{ps:List (Int×Int)}{d:PyData}{o:Option (List (Int×Int))}(t:Th u e l b ps d o):tM (jk u e l b) (jz ps) d=o.isSome:=by
 unfold tM;rw[t.cm]
section
variable {u e l b:Int}{ps:List (Int×Int)}
theorem arB(hs:okS u l ps=true){r:Nat}(hr:r<ps.length):∀d∈c4 r,∃o,Th u e l b ps d o:=fun d hd=>by
 have hp:ps[r]?=some ps[r]:=List.getElem?_eq_getElem hr;simp only[c4,List.mem_cons,List.not_mem_nil,or_false]at hd;rcases hd with rfl|rfl|rfl|rfl
 ·exact⟨_,abV hs hp false (.inl rfl)⟩
 ·exact⟨_,abV hs hp false (.inr rfl)⟩
 ·exact⟨_,abV hs hp true (.inl rfl)⟩
 ·exact⟨_,abV hs hp true (.inr rfl)⟩
theorem aiU(hs:okS u l ps=true){r:Nat}(hr:r<ps.length){F:LP}(hF:F.length<1000)(k:Bool){x:OP}:∃y,aaf.1 [some (jk u e l b),some (jz ps),some (.list F),some (.int (r:Int)),some (Q8 k),x]=some (.nx [some (jk u e l b),some (jz ps),some (.list (F++[mv (r:Int) k 1,mv (r:Int) k (-1)].filter (tM (jk u e l b) (jz ps)))),some (.int (r:Int)),some (Q8 k),y]):=by
 refine⟨some (.list [mv (r:Int) k 1,mv (r:Int) k (-1)]),?_⟩
 have hin:∀d∈[mv (r:Int) k 1,mv (r:Int) k (-1)],d∈c4 r:=fun d hd=>by
  simp only[List.mem_cons,List.not_mem_nil,or_false]at hd;cases k<;>rcases hd with rfl|rfl<;>simp[c4]
 have cp:=aan (ft:=tst (jB Ji (jo (lkp 1) (jo (lkp 2) (jo (lkp 0) jA))))) (fe:=lkp 0) (i:=0) (tM (jk u e l b) (jz ps)) id [mv (r:Int) k 1,mv (r:Int) k (-1)] [none,some (jk u e l b),some (jz ps)] (fun d hd=>by
   obtain ⟨o,t⟩:=arB (e:=e) (b:=b) hs hr d (hin d hd);have cm:=t.cm;rw [amt t];dsimp? [cm]) (fun d hd _=>by dsimp? [id])
 rw[List.map_id]at cp
 have w1:qD (jS 0) anj (ab0 (jo (lkp 1) (jo (lkp 2) (jo (lkp 0) jA)))) [.int 1,.int (-1)] [none,some (.int (r:Int)),some (Q8 k)]=some [mv (r:Int) k 1,mv (r:Int) k (-1)]:=by
  dsimp? [qD,anj,fw3];rfl
 have el:ak1 (some (.list F)) (some (.list ([mv (r:Int) k 1,mv (r:Int) k (-1)].filter (tM (jk u e l b) (jz ps)))))=some (.list (F++[mv (r:Int) k 1,mv (r:Int) k (-1)].filter (tM (jk u e l b) (jz ps)))):=by
  have hl:([mv (r:Int) k 1,mv (r:Int) k (-1)].filter (tM (jk u e l b) (jz ps))).length<=2:=List.length_filter_le _ _
  have hn:noLs ([mv (r:Int) k 1,mv (r:Int) k (-1)].filter (tM (jk u e l b) (jz ps)))=true:=QY fun d hd=>by
   have:=(List.mem_filter.mp hd).1;simp only[List.mem_cons,List.not_mem_nil,or_false]at this;rcases this with rfl|rfl<;>rfl
  show(if _/\_ then _ else _)=_;rw[if_pos ⟨hn,by omega⟩]
 have iw:items (.tuple [.int 1,.int (-1)])=some [.int 1,.int (-1)]:=rfl;simp only[aaf];refine(qd (ρ1:=[some (jk u e l b),some (jz ps),some (.list F),some (.int (r:Int)),some (Q8 k),some (.list [mv (r:Int) k 1,mv (r:Int) k (-1)])]) ?_).trans ?_
 ·dsimp? [brw,hid,okB,aeP,ajq,ans,zC,itS,iw,Z4,List.map_cons,List.map_nil,fw2]
  try simp only[jR,ifS,ifD,ifX,apm,orB,zt,tst,op2,chn,jB,ab0,Jo,jo,jA,lkp,cst,qw,QK,qz,jS,qE,nxX,orX,afZ,ajb,asB,zzA,zzB,zzC,zzD,zzH,zzE,zzI,zzF,zzG,zzJ,zzK,zzL,zzM,zzN]at w1
  dsimp? [w1]
 have it:items (.list [mv (r:Int) k 1,mv (r:Int) k (-1)])=some [mv (r:Int) k 1,mv (r:Int) k (-1)]:=rfl;have f2:few [mv (r:Int) k 1,mv (r:Int) k (-1)]=true:=fw2;generalize [mv (r:Int) k 1,mv (r:Int) k (-1)]=TWO at*;generalize PyData.list TWO=C at*
 try simp only[jR,ifS,ifD,ifX,apm,orB,zt,tst,op2,chn,jB,ab0,Jo,jo,jA,lkp,cst,qw,QK,qz,jS,qE,nxX,orX,afZ,ajb,asB,zzA,zzB,zzC,zzD,zzH,zzE,zzI,zzF,zzG,zzJ,zzK,zzL,zzM,zzN]at cp
 dsimp? [brw,hid,okB,aeP,ajq,ans,zC,itS,it,Z4,List.map_cons,List.map_nil,f2,cp,el]
theorem aol(hs:okS u l ps=true){r:Nat}(hr:r<ps.length){F:LP}(hF:F.length<900){x4 x5:OP}:∃y4 y5,JJ.1 [some (jk u e l b),some (jz ps),some (.list F),some (.int (r:Int)),x4,x5]=some (.nx [some (jk u e l b),some (jz ps),some (.list (F++amr (jk u e l b) (jz ps) r)),some (.int (r:Int)),y4,y5]):=by
 obtain⟨y,s1⟩:=aiU (e:=e) (b:=b) hs hr (F:=F) (by omega) false (x:=x5);have hl:([mv (r:Int) false 1,mv (r:Int) false (-1)].filter (tM (jk u e l b) (jz ps))).length<=2:=List.length_filter_le _ _;obtain⟨y',s2⟩:=aiU (e:=e) (b:=b) hs hr (F:=F++[mv (r:Int) false 1,mv (r:Int) false (-1)].filter (tM (jk u e l b) (jz ps))) (by rw[List.length_append];omega) true (x:=y);refine⟨some (Q8 true),y',?_⟩;have iw:items (.tuple [.str "upper",.str "lower"])=some [Q8 false,Q8 true]:=rfl
 have eR:F++amr (jk u e l b) (jz ps) r=(F++[mv (r:Int) false 1,mv (r:Int) false (-1)].filter (tM (jk u e l b) (jz ps)))++[mv (r:Int) true 1,mv (r:Int) true (-1)].filter (tM (jk u e l b) (jz ps)):=by
  rw[List.append_assoc,←List.filter_append];rfl
 rw[eR];simp only[JJ];refine(qd (ρ1:=[some (jk u e l b),some (jz ps),some (.list ((F++[mv (r:Int) false 1,mv (r:Int) false (-1)].filter (tM (jk u e l b) (jz ps)))++[mv (r:Int) true 1,mv (r:Int) true (-1)].filter (tM (jk u e l b) (jz ps)))),some (.int (r:Int)),some (Q8 true),y']) ?_).trans rfl;generalize mv (r:Int) false 1=m1 at*;generalize mv (r:Int) false (-1)=m2 at*;generalize mv (r:Int) true 1=m3 at*;generalize mv (r:Int) true (-1)=m4 at*;dsimp? [ZP,itS,brw,hid,okB,aeP,ajq,ans,iw,jY,s1,s2]
theorem amu{M T:PyData}{n:Int}{RR F:LP}{x3 x4 x5:OP}(ck:qe [M,T]=some .none)(ln:qM [T]=some (.int n))(rg:QT [.int n]=some RR)(lp:jY (jS 3) JJ.1 RR [some M,some T,some (.list []),none,none,none]=some (.nx [some M,some T,some (.list F),x3,x4,x5])):Jy [M,T]=some (.list F):=by
 refine qt rfl ?_;show ZE.1 [some M,some T,none,none,none,none]=_;simp only[ZE];refine(qd (ρ1:=[some M,some T,none,none,none,none]) ?_).trans ?_
 ·dsimp? [ck]
 have key:∀{Y:RO} {d:PyData},Y [some M,some T,some (.list []),none,none,none]=some (.rt d)->aas 2 (Jo jA) Y [some M,some T,none,none,none,none]=some (.rt d):=fun {Y d} hy=>by
  have l8:2<[some M,some T,none,none,none,none].length:=by simp
  dsimp? [aas,acw,hy];rw[if_pos l8]
 refine key ?_;refine(qd (ρ1:=[some M,some T,some (.list F),x3,x4,x5]) ?_).trans ?_
 ·dsimp? [ZP,brw,hid,okB,aeP,ajq,ans,ln,rg]
  exact lp
 dsimp? [zzA]
theorem afC(H:qG=true)(h:okN u e l b=true)(hs:okS u l ps=true):Jy [jk u e l b,jz ps]=some (.list (Qv (jk u e l b) (jz ps) ps.length)):=by
 obtain⟨h1,h4,hall⟩:=zx hs;have ck:=(aoR H h hs).1
 have rg:QT [.int (ps.length:Int)]=some (Jp 0 ps.length):=by
  have:QT [.int (ps.length:Int)]=some (Jp 0 (ps.length:Int).toNat):=aaV (by omega) (by omega);rw[Int.toNat_natCast]at this;exact this
 have ln:=aaY ps
 obtain⟨ρ',lp,x3,x4,x5,e'⟩:=adp (ga:=jS 3) (F:=JJ.1) (fun k ρ=>∃x3 x4 x5,ρ=[some (jk u e l b),some (jz ps),some (.list (Qv (jk u e l b) (jz ps) k)),x3,x4,x5]) (Jp 0 ps.length) 0 [some (jk u e l b),some (jz ps),some (.list []),none,none,none] ⟨none,none,none,rfl⟩ (fun j d ρ hd ⟨x3,x4,x5,e⟩=>by
  obtain ⟨hj,rfl⟩:=aaZ hd;subst e;have hl:=adt (jk u e l b) (jz ps) j;obtain ⟨y4,y5,q⟩:=aol (e:=e) (b:=b) hs (r:=j) hj (F:=Qv (jk u e l b) (jz ps) (0+j)) (by rw [Nat.zero_add]; omega) (x4:=x4) (x5:=x5);refine ⟨_,_,rfl,q,⟨some (.int (j:Int)),y4,y5,?_⟩⟩;rw [Nat.zero_add,ael])
 rw[aa0,Nat.zero_add]at e';subst e';exact amu ck ln rg lp
end
section
variable {u e l b:Int}
theorem amv{ps:List (Int×Int)}{r:Nat}{p:Int×Int}(h:ps[r]?=some p):ps.set r p=ps:=by
 obtain⟨hr,rfl⟩:=List.getElem?_eq_some_iff.mp h;exact List.set_getElem_self hr
theorem amw(p:Int×Int)(k:Bool):shP p k 0=p:=by unfold shP;cases k<;>simp
theorem aom(p:Int×Int)(k:Bool)(c d:Int):shP (shP p k c) k d=shP p k (c+d):=by
 unfold shP;cases k<;>simp[Int.add_assoc]
theorem ZL{ps:List (Int×Int)}(hs:okS u l ps=true){d:PyData}:d∈Qv (jk u e l b) (jz ps) ps.length↔∃(r:Nat) (k:Bool) (c:Int) (p:Int×Int),ps[r]?=some p/\(c=1∨c=-1)/\okP u l (shP p k c)=true/\d=mv (r:Int) k c:=by
 constructor
 ·intro hd
  obtain⟨r,hr,hm⟩:=List.mem_flatMap.mp hd;obtain⟨h1,h2⟩:=List.mem_filter.mp hm;have hr:=List.mem_range.mp hr;have hp:ps[r]?=some ps[r]:=List.getElem?_eq_getElem hr
  have key:∀(k:Bool) (c:Int),(c=1∨c=-1)->tM (jk u e l b) (jz ps) (mv (r:Int) k c)=true->okP u l (shP ps[r] k c)=true:=fun k c hc ht=>by
   rw[amt (abV (e:=e) (b:=b) hs hp k hc)]at ht;by_cases ho:okP u l (shP ps[r] k c)=true
   ·exact ho
   ·rw[if_neg ho]at ht;cases ht
  simp only[c4,List.mem_cons,List.not_mem_nil,or_false]at h1;rcases h1 with rfl|rfl|rfl|rfl
  ·exact⟨r,false,1,_,hp,.inl rfl,key false 1 (.inl rfl) h2,rfl⟩
  ·exact⟨r,false,-1,_,hp,.inr rfl,key false (-1) (.inr rfl) h2,rfl⟩
  ·exact⟨r,true,1,_,hp,.inl rfl,key true 1 (.inl rfl) h2,rfl⟩
  ·exact⟨r,true,-1,_,hp,.inr rfl,key true (-1) (.inr rfl) h2,rfl⟩
 ·rintro⟨r,k,c,p,hp,hc,ho,rfl⟩
  obtain⟨hr,_⟩:=List.getElem?_eq_some_iff.mp hp;refine List.mem_flatMap.mpr ⟨r,List.mem_range.mpr hr,List.mem_filter.mpr ⟨?_,?_⟩⟩
  ·rcases hc with rfl|rfl<;>cases k<;>simp[c4]
  ·rw[amt (abV (e:=e) (b:=b) hs hp k hc),if_pos ho];rfl
theorem aiV(b e:Int):∀(ps:List (Int×Int)) (r:Nat) (p q:Int×Int),ps[r]?=some p->val b e (ps.set r q)=val b e ps+(wt e q-wt e p)*b ^ (ps.length-1-r)
 | [],r,p,q,h=>by simp at h
 | a::ps,0,p,q,h=>by
  have:a=p:=by simpa using h
  subst this;rw[zzG,aa1,aa1,List.length_cons,Int.sub_mul];simp only[Nat.add_sub_cancel,Nat.sub_zero];omega
 | a::ps,r+1,p,q,h=>by
  have h':ps[r]?=some p:=by simpa using h
  obtain⟨hr,_⟩:=List.getElem?_eq_some_iff.mp h';rw[zzF,aa1,aa1,aiV b e ps r p q h',List.length_set,List.length_cons,show ps.length+1-1-(r+1)=ps.length-1-r by omega];omega
end
section
variable {u e l b:Int}
noncomputable abbrev plS(u e l b:Int)(r:Nat)(n:Int):PyData:=stt (jk u e l b) (dgl b r n)
section
variable (H:qG=true)(h:okN u e l b=true){r:Nat}(h1:1<=r)(h4:r<=4)
include H h h1 h4
theorem amx:b ^ r<=65536:=by
 obtain⟨a1,a2,a3,a4,a5,a6,a7,a8,a9,a10⟩:=qf h;exact ahO (by omega) a9 h4
theorem plk{v:Int}(v0:0<=v)(v1:v<b ^ r):okG b (dgl b r v):=by
 obtain⟨a1,a2,a3,a4,a5,a6,a7,a8,a9,a10⟩:=qf h;exact ZK (by omega) r v v0 v1
theorem JK{v:Int}(v0:0<=v)(v1:v<b ^ r):zA [jk u e l b,plS u e l b r v]=some (.int v):=by
 have:=amc H h (plk H h h1 h4 v0 v1) (by rw[zr];exact h4);rw[ahP H h h1 v0 v1]at this;exact this
theorem aiW{v:Int}(v0:0<=v)(v1:v<b ^ r):qe [jk u e l b,plS u e l b r v]=some .none:=
 agA H h (ap3 H h (plk H h h1 h4 v0 v1) (by rw[zr];exact h1) (by rw[zr];exact h4))
theorem arC{ds:List Int}(hl:ds.length=r)(hk:okG b ds):stt (jk u e l b) ds=plS u e l b r (dv b ds):=by
 obtain⟨a1,a2,a3,a4,a5,a6,a7,a8,a9,a10⟩:=qf h;obtain⟨k,rfl⟩:∃k,r=k+1:=⟨r-1,by omega⟩;show stt _ ds=stt _ (dgl b (k+1) (dv b ds));rw[amb (by omega) k ds hl hk]
theorem amy{v n:Int}(v0:0<=v)(n0:0<=n)(hn:v+n<b ^ r):ac9 [jk u e l b,plS u e l b r v,.int n]=some (plS u e l b r (v+n)):=by
 have bp:=amx H h h1 h4;have v1:v<b ^ r:=by omega
 have hk:=plk H h h1 h4 v0 v1;have dvv:=ahP H h h1 v0 v1;obtain⟨cs,c1,c2,c3,c4⟩:=aob H h (ds:=dgl b r v) (n:=n) (zr b r v) h1 h4 hk n0 (by rw[dvv];exact hn);have tk:=agG (aiW H h h1 h4 v0 v1) (adn n0 (by omega)) (amj c1);have bh:=aiL (m:=jk u e l b) (cs:=cs) (ds:=dgl b r v) (fun c hc=>by rw[zr];exact c2 c hc);rw[arC H h h1 h4 (by rw[agD,zr]) c3,c4,dvv]at bh;exact ahQ tk bh
theorem amz(v:Int):qM [plS u e l b r v]=some (.int (r:Int)):=by
 have:=aaY ((dgl b r v).map (fpr (jk u e l b)));rw[List.length_map,zr]at this;exact this
theorem aon{v n:Int}(n0:0<=n)(hn:n<=v)(v1:v<b ^ r):abO [jk u e l b,plS u e l b r v,.int n]=some (plS u e l b r (v-n)):=by
 have bp:=amx H h h1 h4;exact ajR (aiW H h h1 h4 (by omega) v1) (adn n0 (by omega)) (ajV (JK H h h1 h4 (by omega) v1) hn).1 (amz H h h1 h4 v) (JK H h h1 h4 (by omega) v1) (ado H h h1 h4 (by omega) (by omega))
end
end
noncomputable def ZS(M s:PyData)(p:Addr):Cell:= .ins "Hand" [("now",s),("manner",M),("past",jM p)]
section
variable {M s s' v n r:PyData}{a p:Addr}{μ:jy}{R:Res PyData->jy->Prop}{ds:LP}{c:Str}
theorem m_value(ha:μ a=some (ZS M s p))(g:zA [M,s]=some v)(hR:R (.ok v) μ):zI [jM a] μ R:=by
 simp only[zI,qB,acu,abn,zR,BX.bindC,Qk,Je,QI,ab4,rtC];exact⟨_,rfl,a,_,M,rfl,ha,rfl,_,rfl,a,_,s,rfl,ha,rfl,_,rfl,_,rfl,_,rfl,v,g,hR⟩
theorem m_setting(ha:μ a=some (ZS M s p))(hR:R (.ok s) μ):zw [jM a] μ R:=by
 simp only[zw,qB,ZC,abn,zR,BX.bindC,Qk,Je,QI,ab4,rtC];exact⟨_,rfl,a,_,s,rfl,ha,rfl,hR⟩
theorem m_many(ha:μ a=some (ZS M s p))(hp:μ p=some (.lst ds))(hR:R (.ok (.int (ds.length:Int))) μ):aae [jM a] μ R:=by
 simp only[aae,qB,afr,abn,zR,BX.bindC,Qk,Je,QI,ab4,rtC,apN];exact⟨_,rfl,a,_,_,rfl,ha,rfl,p,ds,_,rfl,hp,rfl,rfl,hR⟩
noncomputable def JL(μ:jy)(a p:Addr)(M s':PyData)(row:LP):jy:=JM (JM μ p (.lst row)) a (ZS M s' p)
theorem m_go_on(ne:a≠p)(ha:μ a=some (ZS M s p))(hp:μ p=some (.lst ds))(hl:ds.length<1000000)(g:zA [M,s']=some v)(hR:R (.ok v) (JL μ a p M s' (ds++[s]))):aad [jM a,s'] μ R:=by
 have h1:JM μ p (.lst (ds++[s])) a=some (ZS M s p):=by rw[j5 ne];exact ha
 simp only[aad,qB,ahF,abn,zR,BX.bindC,Qk,Je,QI,ab4,rtC,alp,alo,arf,anJ,ab5,Q4];refine⟨_,rfl,a,_,_,rfl,ha,rfl,⟨p,ds,rfl,hp⟩,_,rfl,a,_,s,rfl,ha,rfl,p,ds,rfl,hp,hl,_,rfl,_,rfl,a,_,rfl,h1,(by show 3<1000;omega),_,rfl,⟨a,_,rfl,j6,rfl⟩,_,rfl,rfl,?_⟩;exact m_value (s:=s') (M:=M) (p:=p) j6 g hR
theorem m_undo(ne:a≠p){s0:PyData}(ha:μ a=some (ZS M s p))(hp:μ p=some (.lst (ds++[s0])))(g:zA [M,s0]=some v)(hR:R (.ok v) (JL μ a p M s0 ds)):adg [jM a] μ R:=by
 have h1:JM μ p (.lst ds) a=some (ZS M s p):=by rw[j5 ne];exact ha
 have e1:(!(ds++[s0]).isEmpty)=true:=by cases ds<;>rfl
 have e2:(ds++[s0])[(ds++[s0]).length-1]?=some s0:=by simp
 have e3:(ds++[s0]).dropLast=ds:=by simp
 simp only[adg,qB,ahK,abn,zR,BX.bindC,Qk,Je,QI,ab4,rtC,ifC,ara,apO,ard,apM,anJ,ab5,Q4,apK];refine⟨_,rfl,a,_,_,rfl,ha,rfl,p,_,rfl,hp,_,rfl,?_⟩;rw[e1];refine⟨_,rfl,a,_,_,rfl,ha,rfl,p,_,s0,rfl,hp,e2,_,rfl,a,_,rfl,by rw[e3];exact h1,(by show 3<1000;omega),_,rfl,⟨a,_,rfl,j6,rfl⟩,_,rfl,rfl,?_⟩;rw[e3];exact m_value (s:=s0) (M:=M) (p:=p) j6 g hR
theorem m_add(ne:a≠p)(ha:μ a=some (ZS M s p))(hp:μ p=some (.lst ds))(hl:ds.length<1000000)(f:ac9 [M,s,n]=some s')(g:zA [M,s']=some v)(hR:R (.ok v) (JL μ a p M s' (ds++[s]))):agv [jM a,n] μ R:=by
 simp only[agv,qB,alR,abn,zR,BX.bindC,Qk,Je,QI,ab4,rtC,ab5,Q4,agd];exact⟨_,rfl,⟨a,_,rfl,ha,rfl⟩,_,rfl,a,_,M,rfl,ha,rfl,_,rfl,a,_,s,rfl,ha,rfl,_,rfl,_,rfl,_,rfl,_,rfl,_,rfl,rfl,.inl ⟨s',f,_,rfl,_,rfl,rfl,m_go_on ne ha hp hl g hR⟩⟩
theorem ajW(ha:μ a=some (ZS M s p))(t:abP [M,s,n]=some c)(hR:R (.er c) μ):Zb [jM a,n] μ R:=by
 simp only[Zb,qB,afn,abn,zR,BX.bindC,Qk,Je,QI,ab4,rtC,ab5,Q4,agd];exact⟨_,rfl,⟨a,_,rfl,ha,rfl⟩,_,rfl,a,_,M,rfl,ha,rfl,_,rfl,a,_,s,rfl,ha,rfl,_,rfl,_,rfl,_,rfl,_,rfl,_,rfl,rfl,.inr ⟨c,t,hR⟩⟩
theorem m_take(ne:a≠p)(ha:μ a=some (ZS M s p))(hp:μ p=some (.lst ds))(hl:ds.length<1000000)(f:abO [M,s,n]=some s')(g:zA [M,s']=some v)(hR:R (.ok v) (JL μ a p M s' (ds++[s]))):Zb [jM a,n] μ R:=by
 simp only[Zb,qB,afn,abn,zR,BX.bindC,Qk,Je,QI,ab4,rtC,ab5,Q4,agd];exact⟨_,rfl,⟨a,_,rfl,ha,rfl⟩,_,rfl,a,_,M,rfl,ha,rfl,_,rfl,a,_,s,rfl,ha,rfl,_,rfl,_,rfl,_,rfl,_,rfl,_,rfl,rfl,.inl ⟨s',f,_,rfl,_,rfl,rfl,m_go_on ne ha hp hl g hR⟩⟩
theorem m_push(ne:a≠p)(ha:μ a=some (ZS M s p))(hp:μ p=some (.lst ds))(hl:ds.length<1000000)(f:aac [M,s,n]=some s')(g:zA [M,s']=some v)(hR:R (.ok v) (JL μ a p M s' (ds++[s]))):afp [jM a,n] μ R:=by
 simp only[afp,qB,ahI,abn,zR,BX.bindC,Qk,Je,QI,ab4,rtC,ab5,Q4,agd];exact⟨_,rfl,⟨a,_,rfl,ha,rfl⟩,_,rfl,a,_,M,rfl,ha,rfl,_,rfl,a,_,s,rfl,ha,rfl,_,rfl,_,rfl,_,rfl,_,rfl,_,rfl,rfl,.inl ⟨s',f,_,rfl,_,rfl,rfl,m_go_on ne ha hp hl g hR⟩⟩
theorem m_lay(ne:a≠p)(ha:μ a=some (ZS M s p))(hp:μ p=some (.lst ds))(hl:ds.length<1000000)(ln:qM [s]=some r)(f:Jq [M,r,n]=some s')(g:zA [M,s']=some v)(hR:R (.ok v) (JL μ a p M s' (ds++[s]))):aiC [jM a,n] μ R:=by
 simp only[aiC,qB,alP,abn,zR,BX.bindC,Qk,Je,QI,ab4,rtC,ab5,Q4,agd];exact⟨_,rfl,⟨a,_,rfl,ha,rfl⟩,_,rfl,a,_,M,rfl,ha,rfl,_,rfl,a,_,s,rfl,ha,rfl,_,rfl,_,rfl,r,ln,_,rfl,_,rfl,_,rfl,_,rfl,_,rfl,rfl,.inl ⟨s',f,_,rfl,_,rfl,rfl,m_go_on ne ha hp hl g hR⟩⟩
theorem aqe{rr:PyData}{C:Cell}(ha:μ a=some (.ins "Hand" []))(f:Jq [M,rr,.int 0]=some s)(hR:∀q,(JM (JM μ a (.ins "Hand" [("now",s)])) a (.ins "Hand" [("now",s),("manner",M)])) q=none->R (.ok .none) (JM (JM (JM (JM μ a (.ins "Hand" [("now",s)])) a (.ins "Hand" [("now",s),("manner",M)])) q (.lst [])) a (ZS M s q))):adf [jM a,M,rr] μ R:=by
 simp only[adf,qB,ahD,abn,zR,BX.bindC,Qk,Je,QI,ab4,rtC,ab5,Q4,agd,anJ,arh,apK];refine⟨_,rfl,_,rfl,_,rfl,_,rfl,_,rfl,_,rfl,_,rfl,rfl,.inl ⟨s,f,_,rfl,a,_,rfl,ha,(by show 0<1000;omega),_,rfl,_,rfl,a,_,rfl,j6,(by show 1<1000;omega),[],rfl,fun q hq=>⟨_,rfl,a,[("now",s),("manner",M)],rfl,?_,(by show 2<1000;omega),hR q hq⟩⟩⟩;have ne:a≠q:=fun z=>by subst z;rw[j6]at hq;cases hq
 rw[j5 ne];exact j6
end
section
variable {ρ ρ1:Rho}{μ:jy}{R:OutC->jy->Prop}{S S' S0:TRS}{tc:Rho->Option Bool}{F:RO}{f:RP}{d:PyData}{i:Nat}{T:TR PyData}
end
section
variable {M s s' v n r d dd:PyData}{a p:Addr}{μ μ':jy}{R:Res PyData->jy->Prop}{ds:LP}{c:Str}
end
noncomputable def Ext(μ μ':jy):Prop:=∀x c,μ x=some c->μ' x=some c
theorem Ext.refl(μ:jy):Ext μ μ:=fun _ _ h=>h
theorem Ext.trans{μ μ1 μ2:jy}(a:Ext μ μ1)(b:Ext μ1 μ2):Ext μ μ2:=fun x c h=>b x c (a x c h)
section
variable {M s r d dd:PyData}{μ:jy}{R:Res PyData->jy->Prop}{c:Str}{ρ:Rho}
theorem aiX(f:Jq [M,r,.int 0]=some s)(k:∀(a p:Addr) (μ':jy),a≠p->μ a=none->μ p=none->Ext μ μ'->μ' a=some (ZS M s p)->μ' p=some (.lst [])->R (.ok (jM a)) μ'):apL "Hand" adf 3 [M,r] ρ μ R:=by
 refine⟨rfl,fun a ha=>aqe (C:= .lst []) j6 f fun q hq=>⟨rfl,?_⟩⟩;have ne:a≠q:=fun z=>by subst z;rw[j6]at hq;cases hq
 have hq':μ q=none:=by rw[j5 (Ne.symm ne),j5 (Ne.symm ne),j5 (Ne.symm ne)]at hq;exact hq
 refine k a q _ ne ha hq' (fun x c hx=>?_) j6 (by rw[j5 (Ne.symm ne)];exact j6);have n1:x≠a:=fun z=>by subst z;rw[ha]at hx;cases hx
 have n2:x≠q:=fun z=>by subst z;rw[hq']at hx;cases hx
 rw[j5 n1,j5 n2,j5 n1,j5 n1,j5 n1];exact hx
end
theorem JA{ga:PyData->Rho->Option Rho}{S:TRS}{R:OutC->jy->Prop}(I:Nat->Rho->jy->Prop):∀(ds:LP) (j:Nat) (ρ:Rho) (μ:jy),I j ρ μ->
  (∀(i:Nat) (d:PyData) (ρ:Rho) (μ:jy) (R':OutC->jy->Prop),ds[i]?=some d->I (j+i) ρ μ->(∀ρ' μ',I (j+i+1) ρ' μ'->R' (.nx ρ') μ')->∃ρ1,ga d ρ=some ρ1/\S ρ1 μ R')->(∀ρ' μ',I (j+ds.length) ρ' μ'->R (.nx ρ') μ')->Qo ga S ds ρ μ R
 | [],j,ρ,μ,h,_,k=>k ρ μ h
 | d::ds,j,ρ,μ,h,st,k=>by
  obtain⟨ρ1,g1,g2⟩:=st 0 d ρ μ (aoK (fun ρ2 μ2=>Qo ga S ds ρ2 μ2 R) R) rfl h fun ρ' μ' h'=>JA I ds (j+1) ρ' μ' h' (fun i d' ρ μ R' hd hi kk=>st (i+1) d' ρ μ R' (by simpa using hd) (by rw[show j+(i+1)=j+1+i by omega];exact hi) (fun ρ' μ' z=>kk ρ' μ' (by rw[show j+1+i+1=j+(i+1)+1 by omega];exact z))) fun ρ' μ' z=>k ρ' μ' (by rw[List.length_cons,show j+(ds.length+1)=j+1+ds.length by omega];exact z);exact⟨ρ1,g1,g2⟩
section
variable {ρ ρ1:Rho}{μ:jy}{R:OutC->jy->Prop}{A B S S' S0:TRS}{tc:Rho->Option Bool}{F:RO}{f:RP}{d:PyData}{i j:Nat}{T:TR PyData}{l:Addr}{ds:LP}
end
section
variable {u e l b:Int}
theorem aqf(h:okN u e l b=true){ps:List (Int×Int)}(hs:okS u l ps=true){d:PyData}(hd:d∈Qv (jk u e l b) (jz ps) ps.length):∃(r:Nat) (k:Bool) (c:Int) (qs:List (Int×Int)),d=mv (r:Int) k c/\(c=1∨c=-1)/\Th u e l b ps d (some qs)/\okS u l qs=true/\qs.length=ps.length/\
  (∃f j:Nat,f<=ps.length-1/\(val b e qs-val b e ps=c*e*b ^ f∨val b e qs-val b e ps=c*b ^ f))/\Th u e l b qs (mv (r:Int) k (0-c)) (some ps)/\mv (r:Int) k (0-c)∈Qv (jk u e l b) (jz qs) qs.length:=by
 obtain⟨a1,a2,a3,a4,a5,a6,a7,a8,a9,a10⟩:=qf h;obtain⟨r,k,c,p,hp,hc,ho,rfl⟩:=(ZL hs).mp hd;obtain⟨h1,h4,hall⟩:=zx hs;have hr:r<ps.length:=(List.getElem?_eq_some_iff.mp hp).1;have hpok:okP u l p=true:=List.all_eq_true.mp hall p (List.mem_of_getElem? hp);have t:=abV (e:=e) (b:=b) hs hp k hc;rw[if_pos ho]at t;have ok:=(t.bm _ rfl).2;have hq:(ps.set r (shP p k c))[r]?=some (shP p k c):=by rw[List.getElem?_set_self hr]
 have back:shP (shP p k c) k (0-c)=p:=by rw[aom,show c+(0-c)=0 by omega,amw]
 have hc':(0-c)=1∨(0-c)=-1:=by omega
 have t':=abV (e:=e) (b:=b) ok hq k hc';rw[back,if_pos hpok,List.set_set,amv hp]at t';have vs:=aiV b e ps r p (shP p k c) hp;refine⟨r,k,c,_,rfl,hc,t,ok,by rw[List.length_set],⟨ps.length-1-r,0,by omega,?_⟩,t',(ZL ok).mpr ⟨r,k,0-c,shP p k c,hq,hc',by rw[back];exact hpok,rfl⟩⟩;rw[vs];unfold wt shP;cases k with
 | true=>
  right
  simp only[zzM];rw[show p.1*e+(p.2+c)-(p.1*e+p.2)=c by omega];omega
 | false=>
  left
  simp only[zzL,zzN];rw[show(p.1+c)*e+p.2-(p.1*e+p.2)=c*e by rw[Int.add_mul];omega];omega
end
structure Hd(μ:jy)(a p:Addr)(M s:PyData)(past:LP):Prop where
 ne:a≠p
 ha:μ a=some (ZS M s p)
 hp:μ p=some (.lst past)
noncomputable def Els(μ μ':jy)(a p:Addr):Prop:=∀x,x≠a->x≠p->μ' x=μ x
theorem Els.trans{μ μ1 μ2:jy}{a p:Addr}(h:Els μ μ1 a p)(k:Els μ1 μ2 a p):Els μ μ2 a p:=fun x n1 n2=>(k x n1 n2).trans (h x n1 n2)
theorem Els.refl{μ:jy}{a p:Addr}:Els μ μ a p:=fun _ _ _=>rfl
theorem Hd.els{μ μ':jy}{a p a' p':Addr}{M s:PyData}{past:LP}(h:Hd μ a p M s past)(k:Els μ μ' a' p')(d:a≠a'/\a≠p'/\p≠a'/\p≠p'):Hd μ' a p M s past:=⟨h.ne,(k a d.1 d.2.1).trans h.ha,(k p d.2.2.1 d.2.2.2).trans h.hp⟩
theorem zz{μ:jy}{a p:Addr}{M s:PyData}{row:LP}(ne:a≠p):Hd (JL μ a p M s row) a p M s row/\Els μ (JL μ a p M s row) a p:=
 ⟨⟨ne,j6,by unfold JL;rw[j5 (Ne.symm ne)];exact j6⟩,fun x n1 n2=>by unfold JL;rw[j5 n1,j5 n2]⟩
section
variable {u e l b:Int}(H:qG=true)(h:okN u e l b=true){r:Nat}(h1:1<=r)(h4:r<=4)
variable {μ:jy}{a p:Addr}{past:LP}{R:Res PyData->jy->Prop}{v n:Int}
include H h h1 h4
theorem aoS(hd:Hd μ a p (jk u e l b) (plS u e l b r v) past)(hl:past.length<1000000)(v0:0<=v)(n0:0<=n)(hn:v+n<b ^ r)
  (k:∀μ',Hd μ' a p (jk u e l b) (plS u e l b r (v+n)) (past++[plS u e l b r v])->Els μ μ' a p->R (.ok (.int (v+n))) μ'):agv [jM a,.int n] μ R:=
 m_add hd.ne hd.ha hd.hp hl (amy H h h1 h4 v0 n0 hn) (JK H h h1 h4 (by omega) hn) (k _ (zz hd.ne).1 (zz hd.ne).2)
theorem aqg(hd:Hd μ a p (jk u e l b) (plS u e l b r v) past)(hl:past.length<1000000)(n0:0<=n)(hn:n<=v)(v1:v<b ^ r)
  (k:∀μ',Hd μ' a p (jk u e l b) (plS u e l b r (v-n)) (past++[plS u e l b r v])->Els μ μ' a p->R (.ok (.int (v-n))) μ'):Zb [jM a,.int n] μ R:=
 m_take hd.ne hd.ha hd.hp hl (aon H h h1 h4 n0 hn v1) (JK H h h1 h4 (by omega) (by omega)) (k _ (zz hd.ne).1 (zz hd.ne).2)
theorem ajX(v0:0<=v)(v1:v<b ^ r)(hv:v<n)(hn:n<=99999):abP [jk u e l b,plS u e l b r v,.int n]=some ("TooGreat":Str):=by
 have ok:okS u l (pln (jk u e l b) b r v)=true:=afw H h h1 h4 v0 v1;obtain⟨ck,tk⟩:=ck2 H h ok;obtain⟨gn,xn⟩:=aml (i:=n) ⟨by omega,hn⟩;exact(aqc (S:=plS u e l b r v) ck tk gn xn (JK H h h1 h4 v0 v1) hv).2
theorem amA(v0:0<=v)(v1:v<b ^ r):abP [jk u e l b,plS u e l b r v,.int (-1)]=some ("NoNumber":Str):=by
 have ok:okS u l (pln (jk u e l b) b r v)=true:=afw H h h1 h4 v0 v1;obtain⟨ck,tk⟩:=ck2 H h ok;obtain⟨g2,x2⟩:=ap6 (d:= .int (-1)) rfl (by rfl);exact(aqb (s:=plS u e l b r v) ck tk g2 x2).2
end
section
variable {μ:jy}{a p:Addr}{M s:PyData}{past:LP}{R:Res PyData->jy->Prop}{v:Int}{d:PyData}{c:Str}
theorem adu(hd:Hd μ a p M s past)(g:zA [M,s]=some (.int v))(t:abP [M,s,d]=some c)(hc:c∈ada)(eq:dEq (.tuple [s,.int v,.int (past.length:Int)]) (.tuple [s,.int v,.int (past.length:Int)])=some (.bool true))(k:R (.ok (.bool true)) μ):abz [jM a,d] μ R:=by
 show ZG.1 [some (jM a),some d,none] μ (alq R);simp only[ZG];refine⟨_,rfl,⟨a,_,rfl,hd.ha,rfl⟩,_,rfl,rfl,m_setting hd.ha ⟨_,rfl,⟨a,_,rfl,hd.ha,rfl⟩,_,rfl,rfl,m_value hd.ha g ⟨_,rfl,⟨a,_,rfl,hd.ha,rfl⟩,_,rfl,rfl,m_many hd.ha hd.hp ⟨_,rfl,_,rfl,_,rfl,_,rfl,_,rfl,?_⟩⟩⟩⟩;refine⟨a,_,[d],rfl,hd.ha,rfl,rfl,rfl,ajW hd.ha t ⟨hc,?_⟩⟩;refine⟨_,rfl,⟨a,_,rfl,hd.ha,rfl⟩,rfl,m_setting hd.ha ⟨_,rfl,⟨a,_,rfl,hd.ha,rfl⟩,rfl,m_value hd.ha g ⟨_,rfl,⟨a,_,rfl,hd.ha,rfl⟩,rfl,m_many hd.ha hd.hp ⟨_,rfl,_,rfl,_,rfl,_,rfl,_,rfl,_,rfl,_,eq,k⟩⟩⟩⟩
end
mutual
theorem agI:∀d:PyData,noD d=true->PyData.eqv d d=true
 |.none,_=>by simp[PyData.eqv]
 |.bool _,_=>by simp[PyData.eqv]
 |.int _,_=>by simp[PyData.eqv]
 |.str _,_=>by simp[PyData.eqv]
 |.tuple ds,h=>by rw[PyData.eqv];exact eqvA_self ds (by simpa[noD]using h)
 |.list ds,h=>by rw[PyData.eqv];exact eqvA_self ds (by simpa[noD]using h)
 |.dict _,h=>by simp[noD]at h
theorem eqvA_self:∀ds:LP,noDs ds=true->PyData.eqvAll ds ds=true
 | [],_=>by simp[PyData.eqvAll]
 | d::ds,h=>by
  have h':noD d=true/\noDs ds=true:=by simpa[noDs]using h
  rw[PyData.eqvAll,agI d h'.1,eqvA_self ds h'.2];rfl
end
theorem arD{n:Nat}{d:PyData}(h:sh n d)(hn:n<30):dEq d d=some (.bool true):=by
 have ok:=ap8 h.1 hn;have e:dEq d d=if okD d=true/\okD d=true then some (.bool (PyData.eqv d d)) else none:=by cases d<;>rfl
 rw[e,if_pos ⟨ok,ok⟩,agI d h.2]
theorem aqh(ps:List (Int×Int))(v m:Int):dEq (.tuple [jz ps,.int v,.int m]) (.tuple [jz ps,.int v,.int m])=some (.bool true):=
 arD (n:=4) (aqd fun d hd=>by
  simp only [List.mem_cons,List.not_mem_nil,or_false] at hd;rcases hd with rfl | rfl | rfl
  ·exact aok ps
  ·exact aiT (amq _) (by omega)
  ·exact aiT (amq _) (by omega)) (by omega)
section
variable {u e l b:Int}(H:qG=true)(h:okN u e l b=true)
variable {μ:jy}{a p:Addr}{past:LP}{R:Res PyData->jy->Prop}{v:Int}{ps:List (Int×Int)}{d:PyData}
include H h
theorem agJ{x y z:PyData}{qs:List (Int×Int)}{c:Int}(hd:Hd μ a p (jk u e l b) (jz ps) past)(hl:past.length<1000)(g1:zA [jk u e l b,jz ps]=some (.int v)){v':Int}(g2:zA [jk u e l b,jz qs]=some (.int v'))(f1:aac [jk u e l b,jz ps,.tuple [x,y,.int c]]=some (jz qs))(f2:aac [jk u e l b,jz qs,.tuple [x,y,.int (0-c)]]=some (jz ps))(hne:qs≠ps)(hv:v'≠v)
  (k:∀μ',Hd μ' a p (jk u e l b) (jz ps) (past++[jz ps]++[jz qs])->Els μ μ' a p->R (.ok (.bool true)) μ'):aaS [jM a,.tuple [x,y,.int c]] μ R:=by
 show aaR.1 [some (jM a),some (.tuple [x,y,.int c]),none,none,none,none,none] μ (alq R);have q1:dEq (jz qs) (jz ps)=some (.bool false):=by rw[afy,decide_eq_false hne]
 have q2:dEq (.int v') (.int v)=some (.bool false):=by rw[aaX,decide_eq_false hv]
 have q3:dEq (.int v) (.int v)=some (.bool true):=by rw[aaX,decide_eq_true rfl]
 have q4:dEq (jz ps) (jz ps)=some (.bool true):=by rw[afy,decide_eq_true rfl]
 obtain⟨b1,b2⟩:=zz (μ:=μ) (M:=jk u e l b) (s:=jz qs) (row:=past++[jz ps]) hd.ne;have l1:(past++[jz ps]).length<1000000:=by simp;omega
 simp only[aaR];refine⟨_,rfl,_,rfl,⟨a,_,rfl,hd.ha,rfl⟩,_,rfl,rfl,m_setting hd.ha ⟨_,rfl,⟨a,_,rfl,hd.ha,rfl⟩,_,rfl,rfl,m_value hd.ha g1 ⟨_,rfl,⟨a,_,rfl,hd.ha,rfl⟩,_,rfl,_,rfl,_,rfl,rfl,m_push hd.ne hd.ha hd.hp (by omega) f1 g2 ?_⟩⟩⟩;refine⟨_,rfl,⟨a,_,rfl,b1.ha,rfl⟩,_,rfl,rfl,m_setting b1.ha ⟨_,rfl,_,q1,_,rfl,_,rfl,⟨a,_,rfl,b1.ha,rfl⟩,_,rfl,rfl,m_value b1.ha g2 ⟨_,rfl,_,q2,_,rfl,?_⟩⟩⟩;refine⟨_,rfl,⟨a,_,rfl,b1.ha,rfl⟩,_,rfl,_,rfl,_,rfl,rfl,m_push b1.ne b1.ha b1.hp l1 f2 g1 ?_⟩;obtain⟨c1,c2⟩:=zz (μ:=JL μ a p (jk u e l b) (jz qs) (past++[jz ps])) (M:=jk u e l b) (s:=jz ps) (row:=past++[jz ps]++[jz qs]) hd.ne;exact⟨_,rfl,_,q3,_,rfl,_,rfl,⟨a,_,rfl,c1.ha,rfl⟩,_,rfl,rfl,m_setting c1.ha ⟨_,rfl,_,q4,k _ c1 (b2.trans c2)⟩⟩
theorem ajY(hd:Hd μ a p (jk u e l b) (jz ps) past)(hl:past.length<1000)(hs:okS u l ps=true)(g1:zA [jk u e l b,jz ps]=some (.int v))(hm:d∈Qv (jk u e l b) (jz ps) ps.length)
  (k:∀μ' qs w,zA [jk u e l b,jz qs]=some (.int w)->Hd μ' a p (jk u e l b) (jz ps) (past++[jz ps]++[jz qs])->Els μ μ' a p->R (.ok (.bool true)) μ'):aaS [jM a,d] μ R:=by
 obtain⟨a1,a2,a3,a4,a5,a6,a7,a8,a9,a10⟩:=qf h;obtain⟨r,kk,c,qs,rfl,hc,t,ok,hlen,⟨f,j,hf,hv⟩,t',_⟩:=aqf h hs hm;obtain⟨h1,h4,hall⟩:=zx hs;obtain⟨i1,i4,iall⟩:=zx ok;have e1:=afx h h4 hall;rw[g1]at e1;have ev:v=val b e ps:=by cases e1;rfl
 have g2:=afx h i4 iall;have pp:0<b ^ f:=Int.pow_pos (by omega)
 have ne:val b e qs≠v:=by
  rw[ev];intro z;have z0:val b e qs-val b e ps=0:=by omega
  rcases hv with hv | hv
  ·rw[z0]at hv
   have:c*e*b ^ f≠0:=Int.mul_ne_zero (Int.mul_ne_zero (by omega) (by omega)) (by omega);exact this hv.symm
  ·rw[z0]at hv
   have:c*b ^ f≠0:=Int.mul_ne_zero (by omega) (by omega);exact this hv.symm
 exact agJ H h (z:= .none) hd hl g1 g2 (agH H h hs t) (agH H h ok t') (fun z=>ne (by rw[z,ev])) ne fun μ' m1 m2=>k μ' qs _ g2 m1 m2
end
end Rods
end
section
namespace Rods
open PySem L2 BX
open PyProof.Rows hiding St
theorem aem:∀ns:List Int,zO (ns.map .int)=some ns
 | []=>rfl
 |n::ns=>by show(some n).bind _=_;rw[zzD,show zO (ns.map PyData.int)=some ns from aem ns];rfl
theorem afD(ns:List Int):acM [.list (ns.map .int)]=some (.int ns.sum):=by
 show(zO (ns.map .int)).map _=_;rw[aem];rfl
theorem acB(ns:List Int):qM [.list (ns.map .int)]=some (.int (ns.length:Int)):=by
 show some (PyData.int ((ns.map PyData.int).length:Int))=_;rw[List.length_map]
theorem amB(ms:LP)(k:Nat):anw (.list ms) none (some (k:Int))=some (.list (ms.take k)):=by
 show some (PyData.list (abk _ none (some (k:Int))))=_;rw[aoQ]
theorem ZM{α:Type}{l:List α}{j:Nat}{x:α}(h:l[j]?=some x):l.take (j+1)=l.take j++[x]:=by
 rw[List.take_add_one,h];rfl
section
variable {μ:jy}{a p:Addr}{M s s0:PyData}{past:LP}{R:Res PyData->jy->Prop}{v:PyData}
theorem amC(hd:Hd μ a p M s (past++[s0]))(g:zA [M,s0]=some v)(k:∀μ',Hd μ' a p M s0 past->Els μ μ' a p->R (.ok v) μ'):adg [jM a] μ R:=
 m_undo hd.ne hd.ha hd.hp g (k _ (zz hd.ne).1 (zz hd.ne).2)
end
section
variable {μ:jy}{a p:Addr}{M s:PyData}{L:OP}
theorem arE{P1 P2:LP}{R:OutC->jy->Prop}{x:OP}(hg:∀d∈P2,∃v,zA [M,d]=some v)(hd:Hd μ a p M s (P1++P2))
  (k:∀μ' s' y,Hd μ' a p M s' P1->Els μ μ' a p->(0<P2.length->P2[0]?=some s')->R (.nx [some (jM a),L,y]) μ'):Qo (jS 2) ZH.1 (Jp 0 P2.length) [some (jM a),L,x] μ R:=by
 refine JA (fun j ρ μ'=>∃s' y,ρ=[some (jM a),L,y]/\Hd μ' a p M s' (P1++P2.take (P2.length-j))/\Els μ μ' a p/\(0<j->P2[P2.length-j]?=some s')) _ 0 _ _ ⟨s,x,rfl,by rw[Nat.sub_zero,List.take_length];exact hd,Els.refl,fun z=>by omega⟩ (fun i d ρ μ1 R' hi ⟨s1,y,e,hd1,el,_⟩ kk=>?_) fun ρ' μ' ⟨s1,y,e,hd1,el,hx⟩=>?_
 ·obtain⟨hj,rfl⟩:=aaZ hi
  subst e;rw[Nat.zero_add]at hd1 kk;obtain⟨z,hz⟩:∃z,P2[P2.length-(i+1)]?=some z:=⟨P2[P2.length-(i+1)]'(by omega),by rw[List.getElem?_eq_getElem]⟩;have e1:P2.length-i=(P2.length-(i+1))+1:=by omega
  rw[e1,ZM hz,←List.append_assoc]at hd1;obtain⟨v,hv⟩:=hg z (List.mem_of_getElem? hz);refine⟨_,rfl,?_⟩;simp only[ZH];refine⟨_,rfl,⟨a,_,rfl,hd1.ha,rfl⟩,_,rfl,rfl,amC hd1 hv fun μ2 hd2 el2=>kk _ μ2 ⟨z,_,rfl,hd2,el.trans el2,fun _=>hz⟩⟩
 ·subst e
  rw[aa0,Nat.zero_add]at hd1 hx;rw[Nat.sub_self,List.take_zero,List.append_nil]at hd1;rw[Nat.sub_self]at hx;exact k _ _ _ hd1 el hx
end
section
variable {u e l b:Int}(H:qG=true)(h:okN u e l b=true){r:Nat}(h1:1<=r)(h4:r<=4)
variable {μ:jy}{a p:Addr}{ns:List Int}
noncomputable def zc(u e l b:Int)(r:Nat)(ns:List Int):LP:=(List.range ns.length).map fun j=>plS u e l b r (ns.take j).sum
theorem JB:(zc u e l b r ns).length=ns.length:=by simp[zc]
theorem ajZ{j:Nat}(hj:j<ns.length):(zc u e l b r ns)[j]?=some (plS u e l b r (ns.take j).sum):=by simp[zc,hj]
include H h h1 h4
theorem arF{R:OutC->jy->Prop}{x:OP}(hb:∀j,0<=(ns.take j).sum/\(ns.take j).sum<b ^ r)(hd:Hd μ a p (jk u e l b) (plS u e l b r ns.sum) (zc u e l b r ns))
  (k:∀μ' y,Hd μ' a p (jk u e l b) (plS u e l b r 0) []->Els μ μ' a p->R (.nx [some (jM a),some (.list (ns.map .int)),y]) μ'):Qo (jS 2) ZI.1 (Jp 0 ns.length) [some (jM a),some (.list (ns.map .int)),x] μ R:=by
 refine JA (fun j ρ μ'=>∃y,ρ=[some (jM a),some (.list (ns.map .int)),y]/\Hd μ' a p (jk u e l b) (plS u e l b r (ns.take (ns.length-j)).sum) ((zc u e l b r ns).take (ns.length-j))/\Els μ μ' a p) _ 0 _ _ ⟨x,rfl,by rw[Nat.sub_zero,List.take_length,←JB (u:=u) (e:=e) (l:=l) (b:=b) (r:=r) (ns:=ns),List.take_length];exact hd,Els.refl⟩ (fun i d ρ μ1 R' hi ⟨y,e',hd1,el⟩ kk=>?_) fun ρ' μ' ⟨y,e',hd1,el⟩=>?_
 ·obtain⟨hj,rfl⟩:=aaZ hi
  subst e';rw[Nat.zero_add]at hd1 kk
  have sb:abe (.int (ns.length:Int)) (.int (i:Int))=some (.int ((ns.length-i:Nat):Int)):=by
   show some (PyData.int ((ns.length:Int)-(i:Int)))=_;rw[show((ns.length:Int)-(i:Int))=((ns.length-i:Nat):Int) by omega]
  have sl:=amB (ns.map .int) (ns.length-i);rw[←List.map_take]at sl;have sm:=afD (ns.take (ns.length-i));have ln:=acB ns;obtain⟨v0,v1⟩:=hb (ns.length-i);have nq:dNe (.int (ns.take (ns.length-i)).sum) (.int (ns.take (ns.length-i)).sum)=some (.bool false):=by rw[adq];simp
  have e1:ns.length-i=(ns.length-(i+1))+1:=by omega
  have hz:=ajZ (u:=u) (e:=e) (l:=l) (b:=b) (r:=r) (ns:=ns) (j:=ns.length-(i+1)) (by omega)
  have fs:jB acM (jo (acW (lkp 1) (op2 abe (jB qM (jo (lkp 1) jA)) (lkp 2))) jA) [some (jM a),some (.list (ns.map .int)),some (.int (i:Int))]=some (.int (ns.take (ns.length-i)).sum):=by
   simp only[jB,jo,jA,acW,op2,lkp,zzA,zzB,zzC,zzD,zzE,ln,sb,inI,sl,sm]
  refine⟨_,rfl,?_⟩;simp only[ZI];refine⟨_,rfl,⟨a,_,rfl,hd1.ha,rfl⟩,_,rfl,rfl,m_value hd1.ha (JK H h h1 h4 v0 v1) ⟨_,fs,_,nq,_,rfl,?_⟩⟩;rw[e1,ZM hz]at hd1;obtain⟨w0,w1⟩:=hb (ns.length-(i+1));exact⟨_,rfl,⟨a,_,rfl,hd1.ha,rfl⟩,_,rfl,rfl,amC hd1 (JK H h h1 h4 w0 w1) fun μ2 hd2 el2=>kk _ μ2 ⟨_,rfl,hd2,el.trans el2⟩⟩
 ·subst e'
  rw[aa0,Nat.zero_add]at hd1;rw[Nat.sub_self,List.take_zero,List.take_zero]at hd1;exact k _ _ hd1 el
omit H h h1 h4 in
theorem agK{L:PyData}{n m:Int}{D1 D2:LP}{Q1 Q2:jy->Prop}{R:Res PyData->jy->Prop}(ln:qM [L]=some (.int n))(ad:zM (.int n) (.int 2)=some (.int m))(r1:QT [.int m]=some D1)(r2:QT [.int n]=some D2)
  (lp1:∀(x:OP) (R:OutC->jy->Prop),(∀μ1 y,Q1 μ1->R (.nx [some (jM a),some L,y]) μ1)->Qo (jS 2) ZH.1 D1 [some (jM a),some L,x] μ R)
  (lp2:∀(μ1:jy) (x:OP) (R:OutC->jy->Prop),Q1 μ1->(∀μ2 y,Q2 μ2->R (.nx [some (jM a),some L,y]) μ2)->Qo (jS 2) ZI.1 D2 [some (jM a),some L,x] μ1 R)
  (k:∀μ',Q2 μ'->R (.ok (.bool true)) μ'):aaU [jM a,L] μ R:=by
 show aaT.1 [some (jM a),some L,none] μ (alq R)
 have f1:((jo (op2 zM (jB qM (jo (lkp 1) jA)) (cst (.int 2))) jA) [some (jM a),some L,none]).bind QT=some D1:=by
  simp only[jB,jo,jA,op2,lkp,cst,zzA,zzB,zzC,zzD,zzE,ln,ad,r1]
 have f2:∀y,((jo (jB qM (jo (lkp 1) jA)) jA) [some (jM a),some L,y]).bind QT=some D2:=fun y=>by
  simp only[jB,jo,jA,op2,lkp,cst,zzA,zzB,zzC,zzD,zzE,ln,r2]
 simp only[aaT];exact⟨D1,f1,lp1 none _ fun μ1 y q1=>⟨D2,f2 y,lp2 μ1 y _ q1 fun μ2 y2 q2=>⟨_,rfl,k μ2 q2⟩⟩⟩
theorem aj0{s:PyData}{P2:LP}{R:Res PyData->jy->Prop}(hm:ns.length<100)(hb:∀j,0<=(ns.take j).sum/\(ns.take j).sum<b ^ r)(hl:P2.length=ns.length+2)(h0:P2[0]?=some (plS u e l b r ns.sum))(hg:∀d∈P2,∃v,zA [jk u e l b,d]=some v)(hd:Hd μ a p (jk u e l b) s (zc u e l b r ns++P2))
  (k:∀μ',Hd μ' a p (jk u e l b) (plS u e l b r 0) []->Els μ μ' a p->R (.ok (.bool true)) μ'):aaU [jM a,.list (ns.map .int)] μ R:=by
 have r1:QT [.int ((ns.length:Int)+2)]=some (Jp 0 P2.length):=by rw[aaV (by omega) (by omega),hl,show((ns.length:Int)+2).toNat=ns.length+2 by omega]
 have r2:QT [.int (ns.length:Int)]=some (Jp 0 ns.length):=by rw[aaV (by omega) (by omega),Int.toNat_natCast]
 refine agK (Q1:=fun μ1=>Hd μ1 a p (jk u e l b) (plS u e l b r ns.sum) (zc u e l b r ns)/\Els μ μ1 a p) (Q2:=fun μ2=>Hd μ2 a p (jk u e l b) (plS u e l b r 0) []/\Els μ μ2 a p) (acB ns) rfl r1 r2 (fun x R1 k1=>?_) (fun μ1 x R1 q1 k1=>?_) fun μ2 q2=>k μ2 q2.1 q2.2
 ·refine arE hg hd fun μ1 s1 y hd1 el1 hx=>k1 μ1 y ⟨?_,el1⟩
  have:=hx (by omega);rw[h0]at this;cases this;exact hd1
 ·exact arF H h h1 h4 hb q1.1 fun μ2 y2 hd2 el2=>k1 μ2 y2 ⟨hd2,q1.2.trans el2⟩
end
theorem adv{u e l b:Int}{r:Nat}{ns:List Int}{n:Int}:zc u e l b r (ns++[n])=zc u e l b r ns++[plS u e l b r ns.sum]:=by
 unfold zc;rw[List.length_append,List.length_singleton,List.range_succ,List.map_append,List.map_singleton,List.take_left' rfl]
 congr 1
 refine List.map_congr_left fun j hj=>?_;rw[List.take_append_of_le_length (Nat.le_of_lt (List.mem_range.mp hj))]
noncomputable abbrev FrL(S M rd fr:PyData)(a a':Addr)(nu:PyData)(x7 x8 x9 x10:OP):Rho:=[some S,some M,some rd,some fr,some (jM a),some (jM a'),some nu,x7,x8,x9,x10]
section
variable {u e l b:Int}(H:qG=true)(h:okN u e l b=true){r:Nat}(h1:1<=r)(h4:r<=4)
variable {μ:jy}{a p a' p' q:Addr}{ns:List Int}{S rd:PyData}{fr n j:Int}{mx:PyData}{R:OutC->jy->Prop}
include H h h1 h4
theorem arG{x8:OP}(fm:acL [.int 1,.int ((fr-1) / 6)]=some mx)(dr:za [S,.int (20+j),mx]=some (.int n))(hd:Hd μ a p (jk u e l b) (plS u e l b r ns.sum) (zc u e l b r ns))(hq:μ q=some (.lst (ns.map .int)))(nq:a≠q/\p≠q)(hl:ns.length<100)(v0:0<=ns.sum)(n0:0<=n)(hv:ns.sum+n<b ^ r)
  (k:∀μ',Hd μ' a p (jk u e l b) (plS u e l b r (ns++[n]).sum) (zc u e l b r (ns++[n]))->μ' q=some (.lst ((ns++[n]).map .int))->(∀x,x≠a->x≠p->x≠q->μ' x=μ x)->R (.nx (FrL S (jk u e l b) rd (.int fr) a a' (jM q) (some (.int j)) (some (.int n)) none none)) μ'):
  aiE.1 (FrL S (jk u e l b) rd (.int fr) a a' (jM q) (some (.int j)) x8 none none) μ R:=by
 have sm:(ns++[n]).sum=ns.sum+n:=by simp
 have e1:((ns.map PyData.int)++[PyData.int n])=(ns++[n]).map .int:=by simp
 have hd1:Hd (JM μ q (.lst ((ns++[n]).map .int))) a p (jk u e l b) (plS u e l b r ns.sum) (zc u e l b r ns):=⟨hd.ne,(j5 nq.1).trans hd.ha,(j5 nq.2).trans hd.hp⟩;have al:(zc u e l b r ns).length<1000000:=by rw[JB];omega
 have ne1:dNe (.int (ns.sum+n)) (.int (ns.sum+n))=some (.bool false):=by rw[adq];simp
 have ne2:∀i:Int,dNe (.int i) (.int i)=some (.bool false):=fun i=>by rw[adq];simp
 have su:=afD (ns++[n]);rw[sm]at su;have ln:=acB (ns++[n])
 have f1:abH (.int (fr-1)) (.int 6)=some (.int ((fr-1) / 6)):=by
  show(if (0:Int)<6/\(6:Int)<1073741824 then some (PyData.int ((fr-1) / 6)) else none)=_;rw[if_pos (by omega)]
 have f0:abe (.int fr) (.int 1)=some (.int (fr-1)):=rfl;have f2:zM (.int 20) (.int j)=some (.int (20+j)):=rfl
 have st:qz (jB za (jo (lkp 0) (jo (op2 zM (cst (.int 20)) (lkp 7)) (jo (jB acL (jo (cst (.int 1)) (jo (op2 abH (op2 abe (lkp 3) (cst (.int 1))) (cst (.int 6))) jA))) jA)))) (jS 8) (FrL S (jk u e l b) rd (.int fr) a a' (jM q) (some (.int j)) x8 none none)=some (.nx (FrL S (jk u e l b) rd (.int fr) a a' (jM q) (some (.int j)) (some (.int n)) none none)):=by
  simp only[qz,jS,jB,jo,jA,op2,lkp,cst,zzA,zzB,zzC,zzD,zzE,f0,f1,f2,fm,dr,zzF,zzG]
 have g6:∀(D:PyData),jB acM (jo (lkp 6) jA) ((FrL S (jk u e l b) rd (.int fr) a a' (jM q) (some (.int j)) (some (.int n)) none none).set 6 (some D))=acM [D]:=fun D=>rfl;have g7:∀(D:PyData),jB qM (jo (lkp 6) jA) ((FrL S (jk u e l b) rd (.int fr) a a' (jM q) (some (.int j)) (some (.int n)) none none).set 6 (some D))=qM [D]:=fun D=>rfl;simp only[aiE];refine⟨_,st,?_⟩;refine⟨_,rfl,⟨q,_,rfl,hq⟩,_,rfl,q,_,rfl,hq,by rw[List.length_map];omega,?_⟩;rw[e1];refine⟨_,rfl,⟨a,_,rfl,hd1.ha,rfl⟩,_,rfl,_,rfl,_,rfl,rfl,aoS H h h1 h4 hd1 al v0 n0 hv fun μ2 hd2 el2=>?_⟩;have hq2:μ2 q=some (.lst ((ns++[n]).map .int)):=(el2 q (Ne.symm nq.1) (Ne.symm nq.2)).trans j6;have lh:(zc u e l b r ns++[plS u e l b r ns.sum]).length=(ns++[n]).length:=by rw[←adv (n:=n),JB]
 have mn:=m_many hd2.ha hd2.hp (R:=fun o μ3=>o= .ok (.int ((ns++[n]).length:Int))/\μ3=μ2) (by rw[lh];exact⟨rfl,rfl⟩);refine⟨q,_,_,rfl,hq2,(g6 _).trans su,rfl,_,ne1,_,rfl,?_⟩;refine⟨_,rfl,⟨a,_,rfl,hd2.ha,rfl⟩,_,rfl,rfl,m_many hd2.ha hd2.hp ?_⟩;rw[lh];refine⟨q,_,_,rfl,hq2,(g7 _).trans ln,rfl,_,ne2 _,_,rfl,?_⟩;exact k μ2 (by rw[sm,adv];exact hd2) hq2 fun x n1 n2 n3=>(el2 x n1 n2).trans (j5 n3)
end
theorem amD{mx:Int}(hm:1<=mx):∀{ns:List Int},(∀n∈ns,0<=n/\n<mx)->0<=ns.sum/\ns.sum<=(ns.length:Int)*(mx-1)
 | [],_=>by simp
 | n::ns,h=>by
  obtain⟨i1,i2⟩:=amD hm (ns:=ns) fun x hx=>h x (List.mem_cons_of_mem _ hx);obtain⟨j1,j2⟩:=h n List.mem_cons_self;rw[List.sum_cons,List.length_cons];have e:(((ns.length+1:Nat)):Int)*(mx-1)=(ns.length:Int)*(mx-1)+(mx-1):=by rw[Int.natCast_add,Int.add_mul];simp
  rw[e];omega
theorem Qf{mx B:Int}(hm:1<=mx)(hB:6*(mx-1)<B){ns:List Int}(h:∀n∈ns,0<=n/\n<mx)(hl:ns.length<=6):0<=ns.sum/\ns.sum<B:=by
 obtain⟨i1,i2⟩:=amD hm h;have:(ns.length:Int)*(mx-1)<=6*(mx-1):=Int.mul_le_mul_of_nonneg_right (by omega) (by omega);omega
section
variable {u e l b:Int}(H:qG=true)(h:okN u e l b=true){r:Nat}(h1:1<=r)(h4:r<=4)
variable {μ:jy}{a p a' p' q:Addr}{ns:List Int}{S rd:PyData}{fr mx:Int}{R:OutC->jy->Prop}
include H h h1 h4
theorem arH{m:Nat}(hm:m<=6)(hx:1<=mx)(hB:6*(mx-1)<b ^ r)(fm:acL [.int 1,.int ((fr-1) / 6)]=some (.int mx))(dr:∀j:Nat,∃n,za [S,.int (20+(j:Int)),.int mx]=some (.int n)/\0<=n/\n<mx)
  (hd:Hd μ a p (jk u e l b) (plS u e l b r 0) []) (hq:μ q=some (.lst [])) (nq:a≠q/\p≠q) {x7 x8:OP}
  (k:∀(ns:List Int) (μ':jy) (y7 y8:OP),ns.length=m->(∀n∈ns,0<=n/\n<mx)->Hd μ' a p (jk u e l b) (plS u e l b r ns.sum) (zc u e l b r ns)->μ' q=some (.lst (ns.map .int))->(∀x,x≠a->x≠p->x≠q->μ' x=μ x)->R (.nx (FrL S (jk u e l b) rd (.int fr) a a' (jM q) y7 y8 none none)) μ'):
  Qo (jS 7) aiE.1 (Jp 0 m) (FrL S (jk u e l b) rd (.int fr) a a' (jM q) x7 x8 none none) μ R:=by
 refine JA (fun j ρ μ'=>∃(ns:List Int) (y7 y8:OP),ns.length=j/\(∀n∈ns,0<=n/\n<mx)/\ρ=FrL S (jk u e l b) rd (.int fr) a a' (jM q) y7 y8 none none/\Hd μ' a p (jk u e l b) (plS u e l b r ns.sum) (zc u e l b r ns)/\μ' q=some (.lst (ns.map .int))/\∀x,x≠a->x≠p->x≠q->μ' x=μ x) _ 0 _ _ ⟨[],x7,x8,rfl,(fun _ z=>nomatch z),rfl,hd,hq,fun _ _ _ _=>rfl⟩ (fun i d ρ μ1 R' hi ⟨ns,y7,y8,e1,e2,e3,e4,e5,e6⟩ kk=>?_) fun ρ' μ' ⟨ns,y7,y8,e1,e2,e3,e4,e5,e6⟩=>?_
 ·obtain⟨hj,rfl⟩:=aaZ hi
  subst e3;rw[Nat.zero_add]at e1 kk;obtain⟨n,d1,d2,d3⟩:=dr i;have hall:∀x∈ns++[n],0<=x/\x<mx:=fun x hx=>(List.mem_append.mp hx).elim (e2 x) fun z=>by rw[List.mem_singleton.mp z];exact⟨d2,d3⟩
  have b1:=Qf hx hB e2 (by omega);have b2:=Qf hx hB hall (by simp;omega);rw[show(ns++[n]).sum=ns.sum+n by simp]at b2;exact⟨_,rfl,arG H h h1 h4 fm d1 e4 e5 nq (by omega) b1.1 d2 b2.2 fun μ2 m1 m2 m3=>kk _ μ2 ⟨ns++[n],_,_,by simp[e1],hall,rfl,m1,m2,fun x n1 n2 n3=>(m3 x n1 n2 n3).trans (e6 x n1 n2 n3)⟩⟩
 ·subst e3
  rw[aa0,Nat.zero_add]at e1;exact k ns μ' y7 y8 e1 e2 e4 e5 e6
theorem arI{rs:List Int}{nu:PyData}{x7 x8 x9 x10:OP}(hm:rs.length<=6)(hx:1<=mx)(hB:6*(mx-1)<b ^ r)(hn:∀n∈rs,0<=n/\n<mx)(hd:Hd μ a' p' (jk u e l b) (plS u e l b r 0) [])
  (k:∀μ' past y8,past.length=rs.length->Hd μ' a' p' (jk u e l b) (plS u e l b r rs.sum) past->Els μ μ' a' p'->R (.nx (FrL S (jk u e l b) rd (.int fr) a a' nu x7 y8 x9 x10)) μ'):
  Qo (jS 8) alX.1 (rs.map .int) (FrL S (jk u e l b) rd (.int fr) a a' nu x7 x8 x9 x10) μ R:=by
 refine JA (fun j ρ μ'=>∃past y8,past.length=j/\ρ=FrL S (jk u e l b) rd (.int fr) a a' nu x7 y8 x9 x10/\Hd μ' a' p' (jk u e l b) (plS u e l b r (rs.take j).sum) past/\Els μ μ' a' p') _ 0 _ _ ⟨[],x8,rfl,rfl,hd,Els.refl⟩ (fun i d ρ μ1 R' hi ⟨past,y8,e1,e3,e4,e6⟩ kk=>?_) fun ρ' μ' ⟨past,y8,e1,e3,e4,e6⟩=>?_
 ·subst e3
  rw[Nat.zero_add]at e1 e4 kk;rw[List.getElem?_map]at hi
  obtain⟨n,hn1,rfl⟩:∃n,rs[i]?=some n/\PyData.int n=d:=by
   cases hz:rs[i]? with
   |none=>rw[hz]at hi;cases hi
   |some n=>rw[hz]at hi;exact⟨n,rfl,by simpa using hi⟩
  have hr:i<rs.length:=(List.getElem?_eq_some_iff.mp hn1).1;have tk:=ZM hn1;have all1:∀x∈rs.take i,0<=x/\x<mx:=fun x hx=>hn x (List.mem_of_mem_take hx);have all2:∀x∈rs.take (i+1),0<=x/\x<mx:=fun x hx=>hn x (List.mem_of_mem_take hx);have b1:=Qf hx hB all1 (by rw[List.length_take];omega);have b2:=Qf hx hB all2 (by rw[List.length_take];omega);rw[tk,show(rs.take i++[n]).sum=(rs.take i).sum+n by simp]at b2;refine⟨_,rfl,?_⟩;simp only[alX];refine⟨_,rfl,⟨a',_,rfl,e4.ha,rfl⟩,_,rfl,_,rfl,_,rfl,rfl,aoS H h h1 h4 e4 (by omega) b1.1 (hn n (List.mem_of_getElem? hn1)).1 b2.2 fun μ2 hd2 el2=>kk _ μ2 ⟨past++[plS u e l b r (rs.take i).sum],_,?_,rfl,?_,e6.trans el2⟩⟩
  ·simp[e1]
  ·rw[tk,show(rs.take i++[n]).sum=(rs.take i).sum+n by simp];exact hd2
 ·subst e3
  rw[List.length_map,Nat.zero_add]at e1 e4;rw[List.take_length]at e4;exact k μ' past y8 e1 e4 e6
noncomputable def ab7(u e l b:Int)(r:Nat)(ns:List Int)(j:Nat):LP:=(List.range j).map fun i=>plS u e l b r (ns.sum-(ns.take i).sum)
omit H h h1 h4 in
theorem aj1{j:Nat}:ab7 u e l b r ns (j+1)=ab7 u e l b r ns j++[plS u e l b r (ns.sum-(ns.take j).sum)]:=by
 unfold ab7;rw[List.range_succ,List.map_append];rfl
theorem arJ{nu:PyData}{past:LP}{x7 x8 x9:OP}(hm:ns.length<=6)(hp:past.length<1000)(hx:1<=mx)(hB:6*(mx-1)<b ^ r)(hn:∀n∈ns,0<=n/\n<mx)(hd:Hd μ a p (jk u e l b) (plS u e l b r ns.sum) past)
  (k:∀μ' y8,Hd μ' a p (jk u e l b) (plS u e l b r 0) (past++ab7 u e l b r ns ns.length)->Els μ μ' a p->R (.nx (FrL S (jk u e l b) rd (.int fr) a a' nu x7 y8 x9 (some (.int 0)))) μ'):
  Qo (jS 8) alY.1 (ns.map .int) (FrL S (jk u e l b) rd (.int fr) a a' nu x7 x8 x9 (some (.int ns.sum))) μ R:=by
 have tot:=Qf hx hB hn hm;refine JA (fun j ρ μ'=>∃y8,ρ=FrL S (jk u e l b) rd (.int fr) a a' nu x7 y8 x9 (some (.int (ns.sum-(ns.take j).sum)))/\Hd μ' a p (jk u e l b) (plS u e l b r (ns.sum-(ns.take j).sum)) (past++ab7 u e l b r ns j)/\Els μ μ' a p) _ 0 _ _ ⟨x8,by simp,by simpa[ab7]using hd,Els.refl⟩ (fun i d ρ μ1 R' hi ⟨y8,e3,e4,e6⟩ kk=>?_) fun ρ' μ' ⟨y8,e3,e4,e6⟩=>?_
 ·subst e3
  rw[Nat.zero_add]at e4 kk;rw[List.getElem?_map]at hi
  obtain⟨n,hn1,rfl⟩:∃n,ns[i]?=some n/\PyData.int n=d:=by
   cases hz:ns[i]? with
   |none=>rw[hz]at hi;cases hi
   |some n=>rw[hz]at hi;exact⟨n,rfl,by simpa using hi⟩
  have hr:i<ns.length:=(List.getElem?_eq_some_iff.mp hn1).1;have tk:=ZM hn1;have sp:ns.sum=(ns.take (i+1)).sum+(ns.drop (i+1)).sum:=by rw[←List.sum_append,List.take_append_drop]
  have b3:=(Qf hx hB (ns:=ns.drop (i+1)) (fun x hx=>hn x (List.mem_of_mem_drop hx)) (by rw[List.length_drop];omega)).1;have b1:=(Qf hx hB (ns:=ns.take i) (fun x hx=>hn x (List.mem_of_mem_take hx)) (by rw[List.length_take];omega)).1;rw[tk,show(ns.take i++[n]).sum=(ns.take i).sum+n by simp]at sp;have n0:=(hn n (List.mem_of_getElem? hn1)).1;have e1:ns.sum-(ns.take (i+1)).sum=ns.sum-(ns.take i).sum-n:=by rw[tk,show(ns.take i++[n]).sum=(ns.take i).sum+n by simp];omega
  generalize hT:ns.sum-(ns.take i).sum=T at*;have st:qz (op2 abe (lkp 10) (lkp 8)) (jS 10) (FrL S (jk u e l b) rd (.int fr) a a' nu x7 (some (.int n)) x9 (some (.int T)))=some (.nx (FrL S (jk u e l b) rd (.int fr) a a' nu x7 (some (.int n)) x9 (some (.int (T-n))))):=rfl;have nq:dNe (.int (T-n)) (.int (T-n))=some (.bool false):=by rw[adq];simp
  have ls:(past++ab7 u e l b r ns i).length<1000000:=by rw[List.length_append];simp[ab7];omega
  refine⟨_,rfl,?_⟩;simp only[Nat.zero_add,hT,alY];refine⟨_,st,?_⟩;refine⟨_,rfl,⟨a,_,rfl,e4.ha,rfl⟩,_,rfl,_,rfl,_,rfl,rfl,aqg H h h1 h4 e4 ls n0 (by omega) (by omega) fun μ2 hd2 el2=>⟨_,rfl,_,nq,_,rfl,kk _ μ2 ⟨some (.int n),?_,?_,e6.trans el2⟩⟩⟩
  ·rw[e1]
  ·rw[e1,aj1,hT,←List.append_assoc];exact hd2
 ·subst e3
  rw[List.length_map,Nat.zero_add]at*;rw[List.take_length,Int.sub_self]at*;exact k μ' y8 e4 e6
end
section
variable {m r n d:PyData}
theorem aqi(g:aaa [m,r,n]=some .none)(g2:Zw [m,r,n]=some d):Jq [m,r,n]=some d:=by
 simp[Jq,jD,ae7,jI,jR,QK,qw,jB,jo,jA,lkp,g,g2]
end
section
variable {u e l b:Int}(H:qG=true)(h:okN u e l b=true){r:Nat}(h1:1<=r)(h4:r<=4)
include H h h1 h4
theorem amE{v:Int}(v0:0<=v)(v1:v<b ^ r)(v2:v<=99999):Jq [jk u e l b,.int (r:Int),.int v]=some (plS u e l b r v):=by
 obtain⟨k1,k2⟩:=amo H h (r:=(r:Int)) (n:=v) (by omega) (by omega) v0 v2;exact aqi k1 (ado H h h1 h4 v0 v1)
theorem aoo:adZ (.tuple [.tuple [.int 0,.int 0]]) (.int (r:Int))=some (plS u e l b r 0):=by
 have f:=ass H h;obtain⟨a1,a2,a3,a4,a5,a6,a7,a8,a9,a10⟩:=qf h;have z1:(0:Int) / b=0:=Int.zero_ediv b;have z2:(0:Int) % b=0:=Int.zero_emod b;have:r=1∨r=2∨r=3∨r=4:=by omega
 rcases this with rfl|rfl|rfl|rfl<;>simp[adZ,plS,stt,dgl,z1,z2,f,jz,pr,f00,List.replicate]
theorem aj2{v:Int}(v0:0<=v)(v1:v<b ^ r):0<(Qv (jk u e l b) (plS u e l b r v) r).length:=by
 obtain⟨a1,a2,a3,a4,a5,a6,a7,a8,a9,a10⟩:=qf h;have ok:okS u l (pln (jk u e l b) b r v)=true:=afw H h h1 h4 v0 v1;obtain⟨i1,i4,iall⟩:=zx ok;have hl:(pln (jk u e l b) b r v).length=r:=acz _ _ _ _;obtain⟨p,hp⟩:∃p,(pln (jk u e l b) b r v)[0]?=some p:=⟨(pln (jk u e l b) b r v)[0]'(by omega),by rw[List.getElem?_eq_getElem]⟩;have hpo:=zX (List.all_eq_true.mp iall p (List.mem_of_getElem? hp))
 have mem:∃d,d∈Qv (jk u e l b) (jz (pln (jk u e l b) b r v)) (pln (jk u e l b) b r v).length:=by
  by_cases hz:p.2<l
  ·exact⟨_,(ZL ok).mpr ⟨0,true,1,p,hp,.inl rfl,by simp[shP,okP];omega,rfl⟩⟩
  ·exact⟨_,(ZL ok).mpr ⟨0,true,-1,p,hp,.inr rfl,by simp[shP,okP];omega,rfl⟩⟩
 obtain⟨d,hd⟩:=mem;rw[hl]at hd;exact List.length_pos_of_mem hd
end
theorem ahT(i:Int):dNe (.int i) (.int i)=some (.bool false):=by rw[adq];simp
theorem arK(i:Int):dEq (.int i) (.int i)=some (.bool true):=by rw[aaX];simp
theorem arL{S:PyData}{M0:Int}{D:LP}{ρ:Rho}(hm0:za [S,.int 11,.int 7]=some (.int M0))(rg:QT [.int M0]=some D)(hρ:lkp 0 ρ=some S):((jo (jB za (jo (lkp 0) (jo (cst (.int 11)) (jo (cst (.int 7)) jA)))) jA) ρ).bind QT=some D:=by
 simp only[jo,jB,jA,cst,hρ,zzD,zzE,hm0,rg]
theorem arM(xs:LP):qM [.list xs]=some (.int (xs.length:Int)):=rfl
theorem arN{S L dm:PyData}{k n:Int}{ρ:Rho}(hρ:lkp 0 ρ=some S)(h9:lkp 9 ρ=some L)(ln:qM [L]=some (.int n))(k1:za [S,.int 40,.int n]=some (.int k))(k4:dIx L (.int k)=some dm):op2 dIx (lkp 9) (jB za (jo (lkp 0) (jo (cst (.int 40)) (jo (jB qM (jo (lkp 9) jA)) jA)))) ρ=some dm:=by
 simp only[op2,jo,jB,jA,cst,hρ,h9,zzD,zzE,ln,k1,k4]
theorem aop{L:PyData}{T:Int}{ρ:Rho}(h6:lkp 6 ρ=some L)(su:acM [L]=some (.int T)):op2 zM (jB acM (jo (lkp 6) jA)) (cst (.int 1)) ρ=some (.int (T+1)):=by
 simp only[op2,jo,jB,jA,cst,h6,zzD,zzE,su];rfl
theorem amF{L:PyData}{n:Int}{ρ:Rho}(h6:lkp 6 ρ=some L)(ln:qM [L]=some (.int n)):op2 zM (op2 ZQ (cst (.int 2)) (jB qM (jo (lkp 6) jA))) (cst (.int 2)) ρ=some (.int (2*n+2)):=by
 have m2:ZQ (.int 2) (.int n)=some (.int (2*n)):=qP (by omega);simp only[op2,jo,jB,jA,cst,h6,zzD,zzE,ln,m2];rfl
theorem aqj{rd z:PyData}{ρ:Rho}(h2:lkp 2 ρ=some rd)(rp:adZ (.tuple [.tuple [.int 0,.int 0]]) rd=some z):op2 adZ (cst (.tuple [.tuple [.int 0,.int 0]])) (lkp 2) ρ=some z:=by
 simp only[op2,cst,h2,zzD,rp]
theorem aqk{L:PyData}{T:Int}{ρ:Rho}(h6:lkp 6 ρ=some L)(su:acM [L]=some (.int T)):qz (jB acM (jo (lkp 6) jA)) (jS 10) ρ=some (.nx (ρ.set 10 (some (.int T)))):=by
 simp only[qz,jS,jo,jB,jA,h6,zzD,zzE,su]
section
variable {u e l b:Int}(H:qG=true)(h:okN u e l b=true){r:Nat}(h1:1<=r)(h4:r<=4)
variable {μ:jy}{a p a' p' q:Addr}{ns:List Int}{S:PyData}{fr mx:Int}
include H h h1 h4
theorem amG{M0:Nat}(hM:QE [S,.int 0]=some (jk u e l b)){dR:Int}(hR1:za [S,.int 10,.int 3]=some (.int dR))(hR2:2+dR=(r:Int))(hfr:ZQ (.int b) (.int b)=some (.int fr))(hfr2:fr<=b ^ r)(hfr1:1<=fr)(hfr3:fr<=99999)(hx:1<=mx)(hB:6*(mx-1)<b ^ r)(hB2:b ^ r<=99999)
  (fm:acL [.int 1,.int ((fr-1) / 6)]=some (.int mx)) (dr:∀j:Nat,∃n,za [S,.int (20+(j:Int)),.int mx]=some (.int n)/\0<=n/\n<mx) (hm0:za [S,.int 11,.int 7]=some (.int (M0:Int))) (hm:M0<=6)
  (mvd:∀k:Int,0<k->∃n,za [S,.int 40,.int k]=some (.int n)/\0<=n/\n<k):alZ [S] (fun _=>none) (fun o _=>o= .ok (.bool true)):=by
 show an4.1 [some S,none,none,none,none,none,none,none,none,none,none] (fun _=>none) (alq fun o _=>o= .ok (.bool true));have pos:0<b ^ r:=by omega
 have z0:=amE H h h1 h4 (v:=0) (by omega) pos (by omega);have a2:zM (.int 2) (.int dR)=some (.int (r:Int)):=by rw[←hR2];rfl
 have i3:dIx (jk u e l b) (.int 3)=some (.int b):=rfl
 have st1:qz (jB QE (jo (lkp 0) (jo (cst (.int 0)) jA))) (jS 1) [some S,none,none,none,none,none,none,none,none,none,none]=some (.nx [some S,some (jk u e l b),none,none,none,none,none,none,none,none,none]):=by
  simp only[qz,jS,jB,jo,jA,lkp,cst,zzA,zzB,zzC,zzD,zzE,hM,zzF,zzG]
 have st2:qz (op2 zM (cst (.int 2)) (jB za (jo (lkp 0) (jo (cst (.int 10)) (jo (cst (.int 3)) jA))))) (jS 2) [some S,some (jk u e l b),none,none,none,none,none,none,none,none,none]=some (.nx [some S,some (jk u e l b),some (.int (r:Int)),none,none,none,none,none,none,none,none]):=by
  simp only[qz,jS,op2,jB,jo,jA,lkp,cst,zzA,zzB,zzC,zzD,zzE,hR1,a2,zzF,zzG]
 have st3:qz (op2 ZQ (op2 dIx (lkp 1) (cst (.int 3))) (op2 dIx (lkp 1) (cst (.int 3)))) (jS 3) [some S,some (jk u e l b),some (.int (r:Int)),none,none,none,none,none,none,none,none]=some (.nx [some S,some (jk u e l b),some (.int (r:Int)),some (.int fr),none,none,none,none,none,none,none]):=by
  simp only[qz,jS,op2,lkp,cst,zzA,zzB,zzC,zzD,zzE,i3,hfr,zzF,zzG]
 have rg:QT [.int (M0:Int)]=some (Jp 0 M0):=by rw[aaV (by omega) (by omega),Int.toNat_natCast]
 simp only[an4];refine⟨_,st1,_,st2,_,st3,_,rfl,_,rfl,_,rfl,_,rfl,_,rfl,aiX z0 fun a p μ1 ne1 _ _ _ ha1 hp1=>⟨_,rfl,_,rfl,_,rfl,_,rfl,_,rfl,aiX z0 fun a' p' μ2 ne2 na np ex2 ha2 hp2=>?_⟩⟩;have d1:a≠a':=fun z=>by rw[z]at ha1;rw[ha1]at na;cases na
 have d2:a≠p':=fun z=>by rw[z]at ha1;rw[ha1]at np;cases np
 have d3:p≠a':=fun z=>by rw[z]at hp1;rw[hp1]at na;cases na
 have d4:p≠p':=fun z=>by rw[z]at hp1;rw[hp1]at np;cases np
 have A2:Hd μ2 a p (jk u e l b) (plS u e l b r 0) []:=⟨ne1,ex2 _ _ ha1,ex2 _ _ hp1⟩;have B2:Hd μ2 a' p' (jk u e l b) (plS u e l b r 0) []:=⟨ne2,ha2,hp2⟩;refine⟨[],rfl,fun q hq=>?_⟩;have nn:∀x c,μ2 x=some c->x≠q:=fun x c hx z=>by rw[z,hq]at hx;cases hx
 have q1:=nn _ _ A2.ha;have q2:=nn _ _ A2.hp;have q3:=nn _ _ B2.ha;have q4:=nn _ _ B2.hp;have A3:Hd (JM μ2 q (.lst [])) a p (jk u e l b) (plS u e l b r 0) []:=⟨A2.ne,(j5 q1).trans A2.ha,(j5 q2).trans A2.hp⟩;refine⟨Jp 0 M0,?_,arH H h h1 h4 (rd:= .int (r:Int)) (a':=a') hm hx hB fm dr A3 j6 ⟨q1,q2⟩ fun ns μ3 y7 y8 hl hn A4 hq4 fr4=>?_⟩
 ·exact arL hm0 rg rfl
 refine⟨q,ns.map .int,rfl,hq4,?_⟩;have b0:=Qf hx hB hn (by omega);have A5:Hd (fun x=>if x=q then none else μ3 x) a p (jk u e l b) (plS u e l b r ns.sum) (zc u e l b r ns):=⟨A4.ne,(if_neg q1).trans A4.ha,(if_neg q2).trans A4.hp⟩;have B5:Hd (fun x=>if x=q then none else μ3 x) a' p' (jk u e l b) (plS u e l b r 0) []:=⟨B2.ne,(if_neg q3).trans ((fr4 a' (Ne.symm d1) (Ne.symm d3) q3).trans ((j5 q3).trans B2.ha)),(if_neg q4).trans ((fr4 p' (Ne.symm d2) (Ne.symm d4) q4).trans ((j5 q4).trans B2.hp))⟩;generalize (fun x=>if x=q then none else μ3 x)=μ4 at A5 B5 ⊢;have n0:=JK H h h1 h4 (v:=0) (by omega) pos;have nS:=JK H h h1 h4 b0.1 b0.2;have lq:∀D:PyData,lkp 6 (FrL S (jk u e l b) (.int (r:Int)) (.int fr) a a' D y7 y8 none none)=some D:=fun D=>rfl;refine⟨_,rfl,⟨a',_,rfl,B5.ha,rfl⟩,_,rfl,rfl,m_value B5.ha n0 ⟨_,rfl,_,ahT 0,_,rfl,_,rfl,⟨a',_,rfl,B5.ha,rfl⟩,_,rfl,rfl,m_many B5.ha B5.hp ⟨_,rfl,_,ahT 0,_,rfl,?_⟩⟩⟩;have rv:ns.reverse.sum=ns.sum:=by simp
 refine⟨ns.reverse.map .int,?_,arI H h h1 h4 (S:=S) (rd:= .int (r:Int)) (fr:=fr) (a:=a) (nu:= .list (ns.map .int)) (x7:=y7) (x9:=none) (x10:=none) (by rw[List.length_reverse];omega) hx hB (fun n hn'=>hn n (List.mem_reverse.mp hn')) B5 fun μ5 pastB z8 lB B6 el5=>?_⟩
 ·show(some (PyData.list (ns.map PyData.int).reverse)).bind items=_
  rw[←List.map_reverse];rfl
 rw[rv]at B6;have A6:=A5.els el5 ⟨d1,d2,d3,d4⟩;have su:=afD ns;have ln:=acB ns;have fsum:∀x8 x9 x10,jB acM (jo (lkp 6) jA) (FrL S (jk u e l b) (.int (r:Int)) (.int fr) a a' (.list (ns.map .int)) y7 x8 x9 x10)=some (.int ns.sum):=fun _ _ _=>su;have flen:∀x8 x9 x10,jB qM (jo (lkp 6) jA) (FrL S (jk u e l b) (.int (r:Int)) (.int fr) a a' (.list (ns.map .int)) y7 x8 x9 x10)=some (.int (ns.length:Int)):=fun _ _ _=>ln;refine⟨_,rfl,⟨a',_,rfl,B6.ha,rfl⟩,_,rfl,rfl,m_value B6.ha nS ⟨_,rfl,⟨a,_,rfl,A6.ha,rfl⟩,_,rfl,rfl,m_value A6.ha nS ⟨_,ahT _,_,rfl,_,rfl,⟨a',_,rfl,B6.ha,rfl⟩,_,rfl,rfl,m_value B6.ha nS ⟨_,fsum _ _ _,_,ahT _,_,rfl,?_⟩⟩⟩⟩;have ok:okS u l (pln (jk u e l b) b r ns.sum)=true:=afw H h h1 h4 b0.1 b0.2
 have am:Jy [jk u e l b,plS u e l b r ns.sum]=some (.list (Qv (jk u e l b) (plS u e l b r ns.sum) r)):=by
  have:=afC H h ok;rw[acz]at this;exact this
 have am':(if ([jk u e l b,plS u e l b r ns.sum]:LP).length=2 then Jy [jk u e l b,plS u e l b r ns.sum] else none)=some (.list (Qv (jk u e l b) (plS u e l b r ns.sum) r)):=(if_pos rfl).trans am;refine⟨_,rfl,_,rfl,⟨a,_,rfl,A6.ha,rfl⟩,_,rfl,rfl,m_setting A6.ha ⟨_,rfl,_,rfl,_,rfl,_,am',?_⟩⟩;obtain⟨kn,k1,k2,k3⟩:=mvd _ (by have:=aj2 H h h1 h4 b0.1 b0.2;exact Int.natCast_pos.mpr this);have mlen:(Qv (jk u e l b) (plS u e l b r ns.sum) r).length<9999:=by have:=adt (jk u e l b) (plS u e l b r ns.sum) r;omega
 obtain⟨dm,k4,k5⟩:=aqa k2 k3 mlen;have k5':dm∈Qv (jk u e l b) (jz (pln (jk u e l b) b r ns.sum)) (pln (jk u e l b) b r ns.sum).length:=by rw[acz];exact k5
 have fm9:=arN (ρ:=FrL S (jk u e l b) (.int (r:Int)) (.int fr) a a' (.list (ns.map .int)) y7 z8 (some (.list (Qv (jk u e l b) (plS u e l b r ns.sum) r))) none) rfl rfl (arM _) k1 k4;generalize Qv (jk u e l b) (plS u e l b r ns.sum) r=MV at fm9 k5 mlen am am' ⊢;refine⟨_,rfl,dm,fm9,_,rfl,_,rfl,_,rfl,rfl,ajY H h A6 (by rw[JB];omega) ok nS k5' fun μ7 qs wq gq A7 el7=>⟨_,rfl,_,rfl,?_⟩⟩;have B7:=B6.els el7 ⟨Ne.symm d1,Ne.symm d3,Ne.symm d2,Ne.symm d4⟩;have t1:=ajX H h h1 h4 b0.1 b0.2 (n:=ns.sum+1) (by omega) (by omega);have t2:=amA H h h1 h4 b0.1 b0.2;have s1:=aop (ρ:=FrL S (jk u e l b) (.int (r:Int)) (.int fr) a a' (.list (ns.map .int)) y7 z8 (some (.list MV)) none) rfl su;have A7':Hd μ7 a p (jk u e l b) (plS u e l b r ns.sum) (zc u e l b r ns++[plS u e l b r ns.sum]++[jz qs]):=A7;have te:=aqh (pln (jk u e l b) b r ns.sum) ns.sum ((zc u e l b r ns++[plS u e l b r ns.sum]++[jz qs]).length:Int);refine⟨_,rfl,_,s1,_,rfl,_,rfl,_,rfl,rfl,adu A7' nS t1 (by decide) te ⟨_,rfl,_,rfl,_,rfl,.int (-1),rfl,_,rfl,_,rfl,_,rfl,rfl,adu A7' nS t2 (by decide) te ⟨_,rfl,_,rfl,?_⟩⟩⟩;refine⟨_,aqk rfl su,?_⟩;refine⟨ns.map .int,rfl,arJ H h h1 h4 (S:=S) (rd:= .int (r:Int)) (fr:=fr) (a':=a') (nu:= .list (ns.map .int)) (x7:=y7) (x9:=some (.list MV)) (by omega) (by simp[JB];omega) hx hB hn A7' fun μ8 w8 A8 el8=>?_⟩;have B8:=B7.els el8 ⟨Ne.symm d1,Ne.symm d3,Ne.symm d2,Ne.symm d4⟩
 have hlen:((zc u e l b r ns++[plS u e l b r ns.sum]++[jz qs]++ab7 u e l b r ns ns.length).length:Int)=2*(ns.length:Int)+2:=by
  simp[JB,ab7];omega
 have lB':(pastB.length:Int)=(ns.length:Int):=by rw[lB,List.length_reverse]
 have tw:=amF (ρ:=FrL S (jk u e l b) (.int (r:Int)) (.int fr) a a' (.list (ns.map .int)) y7 w8 (some (.list MV)) (some (.int 0))) rfl ln;refine⟨_,rfl,⟨a,_,rfl,A8.ha,rfl⟩,_,rfl,rfl,m_value A8.ha n0 ⟨_,rfl,_,ahT 0,_,rfl,_,rfl,⟨a,_,rfl,A8.ha,rfl⟩,_,rfl,rfl,m_many A8.ha A8.hp ?_⟩⟩;rw[hlen];refine⟨_,tw,_,ahT _,_,rfl,_,rfl,⟨a',_,rfl,B8.ha,rfl⟩,_,rfl,rfl,m_many B8.ha B8.hp ?_⟩;rw[lB'];refine⟨_,flen _ _ _,_,ahT _,_,rfl,?_⟩;have hbt:∀j,0<=(ns.take j).sum/\(ns.take j).sum<b ^ r:=fun j=>Qf hx hB (fun n hn'=>hn n (List.mem_of_mem_take hn')) (by rw[List.length_take];omega)
 have A8':Hd μ8 a p (jk u e l b) (plS u e l b r 0) (zc u e l b r ns++([plS u e l b r ns.sum]++[jz qs]++ab7 u e l b r ns ns.length)):=by
  have:=A8;simp only[List.append_assoc]at this ⊢;exact this
 refine⟨_,rfl,_,rfl,_,rfl,_,rfl,_,rfl,rfl,aj0 H h h1 h4 (by omega) hbt (by simp[ab7]) rfl (fun d hd=>?_) A8' fun μ9 A9 el9=>⟨_,rfl,_,rfl,?_⟩⟩
 ·rcases List.mem_append.mp hd with hd | hd
  ·rcases List.mem_append.mp hd with hd | hd
   ·rw[List.mem_singleton.mp hd];exact⟨_,nS⟩
   ·rw[List.mem_singleton.mp hd];exact⟨_,gq⟩
  ·obtain⟨i,hi,rfl⟩:=List.mem_map.mp hd
   obtain⟨c1,c2⟩:=hbt i
   have c3:(ns.take i).sum<=ns.sum:=by
    have e1:ns.sum=(ns.take i).sum+(ns.drop i).sum:=by rw[←List.sum_append,List.take_append_drop]
    have:=(Qf hx hB (ns:=ns.drop i) (fun x hx=>hn x (List.mem_of_mem_drop hx)) (by rw[List.length_drop];omega)).1;omega
   exact⟨_,JK H h h1 h4 (v:=ns.sum-(ns.take i).sum) (by omega) (by omega)⟩
 have pz:=aqj (ρ:=FrL S (jk u e l b) (.int (r:Int)) (.int fr) a a' (.list (ns.map .int)) y7 w8 (some (.list MV)) (some (.int 0))) rfl (aoo H h h1 h4)
 have ez:dEq (plS u e l b r 0) (plS u e l b r 0)=some (.bool true):=by
  show dEq (jz _) (jz _)=_;rw[afy,decide_eq_true rfl]
 have lay:=amE H h h1 h4 (v:=fr-1) (by omega) (by omega) (by omega);have nl:=JK H h h1 h4 (v:=fr-1) (by omega) (by omega);refine⟨_,rfl,⟨a,_,rfl,A9.ha,rfl⟩,_,rfl,rfl,m_setting A9.ha ⟨_,pz,_,ez,_,rfl,_,rfl,⟨a,_,rfl,A9.ha,rfl⟩,_,rfl,rfl,m_many A9.ha A9.hp ⟨_,rfl,_,arK 0,_,rfl,_,rfl,⟨a,_,rfl,A9.ha,rfl⟩,_,rfl,_,rfl,_,rfl,rfl,m_lay A9.ne A9.ha A9.hp (by show 0<1000000;omega) (amz H h h1 h4 0) lay nl ⟨_,rfl,_,arK _,rfl⟩⟩⟩⟩
end
theorem aoT{b:Int}(hb:1<=b):∀k:Nat,b*b<=b ^ (2+k)
 |0=>by rw[Nat.add_zero,Int.pow_succ,Int.pow_succ,Int.pow_zero,Int.one_mul];exact Int.le_refl _
 | k+1=>by
  have i:=aoT hb k;have p:0<=b*b:=Int.mul_nonneg (by omega) (by omega);have m:b ^ (2+k)*1<=b ^ (2+k)*b:=Int.mul_le_mul_of_nonneg_left hb (by omega);rw[show 2+(k+1)=(2+k)+1 by omega,Int.pow_succ];omega
theorem aj3(H:qG=true)(ns:List Int)(hn:ns.length<1000000):alZ [scr ns] (fun _=>none) (fun o _=>o= .ok (.bool true)):=by
 obtain⟨u,e,l,b,hM,okm⟩:=ahN ns hn 0 (by omega);have h:=an7 okm;obtain⟨a1,a2,a3,a4,a5,a6,a7,a8,a9,a10⟩:=qf h;obtain⟨dR,r1,r2,r3⟩:=zg ns hn 10 3 (by omega) (by omega);obtain⟨m,m1,m2,m3⟩:=zg ns hn 11 7 (by omega) (by omega);have hr:2+dR=(((2+dR).toNat:Nat):Int):=by omega
 have bb:b*b<=256:=by
  have:b*b<=16*16:=Int.mul_le_mul a9 a9 (by omega) (by omega);omega
 have b4:4<=b*b:=by
  have:2*2<=b*b:=Int.mul_le_mul a8 a8 (by omega) (by omega);omega
 have hge:b*b<=b ^ (2+dR).toNat:=by
  rw[show(2+dR).toNat=2+dR.toNat by omega];exact aoT (by omega) _
 have hpw:b ^ (2+dR).toNat<=65536:=ahO (by omega) a9 (by omega);refine amG H h (r:=(2+dR).toNat) (by omega) (by omega) (fr:=b*b) (mx:=if (b*b-1) / 6>1 then (b*b-1) / 6 else 1) (M0:=m.toNat) hM r1 hr (qP (by omega)) hge (by omega) (by omega) ?_ ?_ (by omega) rfl (fun j=>?_) (by rw[m1];congr 2;omega) (by omega) fun k hk=>zg ns hn 40 k (by omega) hk
 ·split<;>omega
 ·split<;>omega
 ·exact zg ns hn (20+(j:Int)) _ (by omega) (by split<;>omega)
end Rods
end
section
namespace BX
open PySem L2
open PyProof.Rows hiding St
theorem jP.thr{P:Program}{w:World}{K:Fg}{mg:SV}{base h:Heap}{x:Str}{st:Stmt}{ps:List Str}{k n:Nat}{g:LP->Option Str}(T:jP K x st)(X:K.In h)(G:h.Ns mainGlobals mg)
  (pa:jt x st ps) (ok:∀f fd,Fun K x x st f fd->FnOk P w K mg base (CXt P w) k f fd ps (ahk K mg n g)):qA P w K mg base x ps k n g:=by
 obtain⟨f,oc,od,an,kV,doc,pm,Kc,ct,osl,a,l,c,kp⟩:=T;have F1:=QO (st:=st) l c kp;exact⟨f,_,ok f _ F1,PySem.W.mg_of X G a,kp,F1.binds pa⟩
end BX
namespace Rods
open PySem L2 BX
open PyProof.Rows hiding St
structure Tops(K:Fg):Prop where
 isWhole:jP K "is_whole" aaD
 rodWorth:jP K "rod_worth" Jw
 beads:jP K "beads" ae0
 allRods:jP K "all_rods" aaE
 hasAll:jP K "has_all_digits" Zp
 isManner:jP K "is_manner" Zq
 check:jP K "check_manner" ac2
 rodsWith:jP K "rods_with" Qq
 fewest:jP K "fewest_beads" acj
 chkRods:jP K "check_rods" JI
 chkNum:jP K "check_number" zF
 asked:jP K "check_asked" Jg
 num:jP K "number_on" zv
 digits:jP K "digits_by_rods" Zt
 plainR:jP K "plain_rods" Zs
 plainS:jP K "plain_setting" aaJ
 isRod:jP K "is_rod" ae4
 isSet:jP K "is_setting" zT
 chkSet:jP K "check_setting" zq
 cell:jP K "_law_cell" aiu
 drawn:jP K "_law_drawn" ae8
 manner:jP K "_law_manner" acm
 enough:jP K "check_enough" aaK
 less:jP K "less" agr
 beh:jP K "behind_changes" Zx
 DA:jP K "digit_added" sDA
 cbd:jP K "changes_by_digits" ahx
 chA:jP K "changes_adding" alG
 adding:jP K "adding" aaL
 added:jP K "added" ac6
 NamesBeads:jP K "names_beads" JU
 Pushed:jP K "pushed" acq
 CanMove:jP K "can_move" aaN
 BehindMove:jP K "behind_move" JW
 Moved:jP K "moved" adc
 AllMoves:jP K "all_moves" qO
 LRefuses:jP K "_law_refuses" ZF
 LPushes:jP K "_law_pushes" Zc
 LUndone:jP K "_law_undone" zJ
 law:jP K "law" adj
 MInit:Jf K "Hand" "__init__" "Hand.__init__" afk
 MSetting:Jf K "Hand" "setting" "Hand.setting" Jx
 MValue:Jf K "Hand" "value" "Hand.value" ZD
 MGoOn:Jf K "Hand" "go_on" "Hand.go_on" afl
 MLay:Jf K "Hand" "lay" "Hand.lay" aiB
 MAdd:Jf K "Hand" "add" "Hand.add" aiD
 MTake:Jf K "Hand" "take" "Hand.take" afm
 MPush:Jf K "Hand" "push" "Hand.push" afo
 MUndo:Jf K "Hand" "undo" "Hand.undo" afq
 MMany:Jf K "Hand" "many" "Hand.many" abx
 cls:ahq K "Hand"
 fd_manner:ajz K "Hand" "manner"
 fd_now:ajz K "Hand" "now"
 fd_past:ajz K "Hand" "past"
structure Consts(K:Fg)(mg:SV):Prop where
 b:Bare mg
 least:GC K mg "LEAST_PARTS" (.tuple [.int 0,.int 1,.int 0,.int 2])
 most:GC K mg "MOST_PARTS" (.tuple [.int 3,.int 16,.int 12,.int 16])
 mostRods:GC K mg "MOST_RODS" (.int 4)
 mostNumber:GC K mg "MOST_NUMBER" (.int 99999)
 decks:GC K mg "DECKS" (.tuple [.str "upper",.str "lower"])
 ways:GC K mg "WAYS" (.tuple [.int 1,.int (-1)])
 errT:ErrT K mg "BeadError" ada
theorem ahU:jt "is_whole" aaD ["thing","least","most"]:=fun _ _ _ _ _ _ us hl=>by obtain⟨v0,v1,v2,rfl⟩:=Z2 us hl;rfl
theorem abW:jt "rod_worth" Jw ["manner","rod"]:=fun _ _ _ _ _ _ us hl=>by obtain⟨v0,v1,rfl⟩:=QN us hl;rfl
theorem amH:jt "beads" ae0 ["rod"]:=fun _ _ _ _ _ _ us hl=>by obtain⟨v0,rfl⟩:=afI us hl;rfl
theorem ahV:jt "all_rods" aaE ["manner"]:=fun _ _ _ _ _ _ us hl=>by obtain⟨v0,rfl⟩:=afI us hl;rfl
theorem aj4:jt "has_all_digits" Zp ["manner"]:=fun _ _ _ _ _ _ us hl=>by obtain⟨v0,rfl⟩:=afI us hl;rfl
theorem agL:jt "is_manner" Zq ["thing"]:=fun _ _ _ _ _ _ us hl=>by obtain⟨v0,rfl⟩:=afI us hl;rfl
theorem agM:jt "check_manner" ac2 ["thing"]:=fun _ _ _ _ _ _ us hl=>by obtain⟨v0,rfl⟩:=afI us hl;rfl
theorem agN:jt "rods_with" Qq ["manner","worth"]:=fun _ _ _ _ _ _ us hl=>by obtain⟨v0,v1,rfl⟩:=QN us hl;rfl
theorem aj5:jt "fewest_beads" acj ["manner","worth"]:=fun _ _ _ _ _ _ us hl=>by obtain⟨v0,v1,rfl⟩:=QN us hl;rfl
theorem adw:jt "check_rods" JI ["rods"]:=fun _ _ _ _ _ _ us hl=>by obtain⟨v0,rfl⟩:=afI us hl;rfl
theorem aen:jt "check_number" zF ["number"]:=fun _ _ _ _ _ _ us hl=>by obtain⟨v0,rfl⟩:=afI us hl;rfl
theorem agO:jt "check_asked" Jg ["manner","rods","number"]:=fun _ _ _ _ _ _ us hl=>by obtain⟨v0,v1,v2,rfl⟩:=Z2 us hl;rfl
theorem amI:jt "number_on" zv ["manner","setting"]:=fun _ _ _ _ _ _ us hl=>by obtain⟨v0,v1,rfl⟩:=QN us hl;rfl
theorem aj6:jt "digits_by_rods" Zt ["base","rods","number"]:=fun _ _ _ _ _ _ us hl=>by obtain⟨v0,v1,v2,rfl⟩:=Z2 us hl;rfl
theorem aeo:jt "plain_rods" Zs ["manner","rods","number"]:=fun _ _ _ _ _ _ us hl=>by obtain⟨v0,v1,v2,rfl⟩:=Z2 us hl;rfl
theorem aep:jt "plain_setting" aaJ ["manner","rods","number"]:=fun _ _ _ _ _ _ us hl=>by obtain⟨v0,v1,v2,rfl⟩:=Z2 us hl;rfl
theorem amJ:jt "is_rod" ae4 ["manner","thing"]:=fun _ _ _ _ _ _ us hl=>by obtain⟨v0,v1,rfl⟩:=QN us hl;rfl
theorem agP:jt "is_setting" zT ["manner","thing"]:=fun _ _ _ _ _ _ us hl=>by obtain⟨v0,v1,rfl⟩:=QN us hl;rfl
theorem aeq:jt "check_setting" zq ["manner","thing"]:=fun _ _ _ _ _ _ us hl=>by obtain⟨v0,v1,rfl⟩:=QN us hl;rfl
theorem aoq:jt "_law_cell" aiu ["_law_script","_law_k"]:=fun _ _ _ _ _ _ us hl=>by obtain⟨v0,v1,rfl⟩:=QN us hl;rfl
theorem amK:jt "_law_drawn" ae8 ["_law_script","_law_k","_law_many"]:=fun _ _ _ _ _ _ us hl=>by obtain⟨v0,v1,v2,rfl⟩:=Z2 us hl;rfl
theorem aj7:jt "_law_manner" acm ["_law_script","_law_at"]:=fun _ _ _ _ _ _ us hl=>by obtain⟨v0,v1,rfl⟩:=QN us hl;rfl
theorem aer:jt "check_enough" aaK ["manner","setting","number"]:=fun _ _ _ _ _ _ us hl=>by obtain⟨v0,v1,v2,rfl⟩:=Z2 us hl;rfl
theorem aiY:jt "less" agr ["manner","setting","number"]:=fun _ _ _ _ _ _ us hl=>by obtain⟨v0,v1,v2,rfl⟩:=Z2 us hl;rfl
theorem aql:jt "behind_changes" Zx ["setting","changes"]:=fun _ _ _ _ _ _ us hl=>by obtain⟨v0,v1,rfl⟩:=QN us hl;rfl
theorem aiZ:jt "digit_added" sDA ["manner","setting","rod","digit"]:=fun _ _ _ _ _ _ us hl=>by obtain⟨v0,v1,v2,v3,rfl⟩:=aqF us hl;rfl
theorem amL:jt "changes_by_digits" ahx ["manner","setting","number","digit_changes"]:=fun _ _ _ _ _ _ us hl=>by obtain⟨v0,v1,v2,v3,rfl⟩:=aqF us hl;rfl
theorem amM:jt "changes_adding" alG ["manner","setting","number"]:=fun _ _ _ _ _ _ us hl=>by obtain⟨v0,v1,v2,rfl⟩:=Z2 us hl;rfl
theorem aes:jt "adding" aaL ["manner","setting","number"]:=fun _ _ _ _ _ _ us hl=>by obtain⟨v0,v1,v2,rfl⟩:=Z2 us hl;rfl
theorem agQ:jt "added" ac6 ["manner","setting","number"]:=fun _ _ _ _ _ _ us hl=>by obtain⟨v0,v1,v2,rfl⟩:=Z2 us hl;rfl
theorem adI:jt "names_beads" JU ["setting","thing"]:=fun _ _ _ _ _ _ us hl=>by obtain⟨v0,v1,rfl⟩:=QN us hl;rfl
theorem aj8:jt "pushed" acq ["rod","deck","by"]:=fun _ _ _ _ _ _ us hl=>by obtain⟨v0,v1,v2,rfl⟩:=Z2 us hl;rfl
theorem ahW:jt "can_move" aaN ["manner","setting","thing"]:=fun _ _ _ _ _ _ us hl=>by obtain⟨v0,v1,v2,rfl⟩:=Z2 us hl;rfl
theorem adJ:jt "behind_move" JW ["setting","move"]:=fun _ _ _ _ _ _ us hl=>by obtain⟨v0,v1,rfl⟩:=QN us hl;rfl
theorem agR:jt "moved" adc ["manner","setting","move"]:=fun _ _ _ _ _ _ us hl=>by obtain⟨v0,v1,v2,rfl⟩:=Z2 us hl;rfl
theorem agS:jt "all_moves" qO ["manner","setting"]:=fun _ _ _ _ _ _ us hl=>by obtain⟨v0,v1,rfl⟩:=QN us hl;rfl
theorem agT:jt "_law_refuses" ZF ["_law_hand","_law_number"]:=fun _ _ _ _ _ _ us hl=>by obtain⟨v0,v1,rfl⟩:=QN us hl;rfl
theorem ahX:jt "_law_pushes" Zc ["_law_hand","_law_move"]:=fun _ _ _ _ _ _ us hl=>by obtain⟨v0,v1,rfl⟩:=QN us hl;rfl
theorem ahY:jt "_law_undone" zJ ["_law_hand","_law_numbers"]:=fun _ _ _ _ _ _ us hl=>by obtain⟨v0,v1,rfl⟩:=QN us hl;rfl
theorem amN:j9 "__init__" "Hand.__init__" afk ["self","manner","rods"]:=fun _ _ _ _ _ _ us hl=>match us,hl with | [_,_,_],_=>rfl
theorem abX:j9 "setting" "Hand.setting" Jx ["self"]:=fun _ _ _ _ _ _ us hl=>match us,hl with | [_],_=>rfl
theorem aet:j9 "value" "Hand.value" ZD ["self"]:=fun _ _ _ _ _ _ us hl=>match us,hl with | [_],_=>rfl
theorem amO:j9 "go_on" "Hand.go_on" afl ["self","fresh"]:=fun _ _ _ _ _ _ us hl=>match us,hl with | [_,_],_=>rfl
theorem aor:j9 "lay" "Hand.lay" aiB ["self","number"]:=fun _ _ _ _ _ _ us hl=>match us,hl with | [_,_],_=>rfl
theorem aos:j9 "add" "Hand.add" aiD ["self","number"]:=fun _ _ _ _ _ _ us hl=>match us,hl with | [_,_],_=>rfl
theorem amP:j9 "take" "Hand.take" afm ["self","number"]:=fun _ _ _ _ _ _ us hl=>match us,hl with | [_,_],_=>rfl
theorem amQ:j9 "push" "Hand.push" afo ["self","move"]:=fun _ _ _ _ _ _ us hl=>match us,hl with | [_,_],_=>rfl
theorem amR:j9 "undo" "Hand.undo" afq ["self"]:=fun _ _ _ _ _ _ us hl=>match us,hl with | [_],_=>rfl
theorem agU:j9 "many" "Hand.many" abx ["self"]:=fun _ _ _ _ _ _ us hl=>match us,hl with | [_],_=>rfl
theorem asy(HT:qG=true){P:Program}{w:World}{K:Fg}{h:Heap}{mg:SV}{base:Heap}(X:K.In h)(G:h.Ns mainGlobals mg)(T:Tops K)(C:Consts K mg):CLaw P w K mg base:=by
 have f_manner:zN K "Hand" "manner":=T.fd_manner.cls T.cls;have f_now:zN K "Hand" "now":=T.fd_now.cls T.cls;have f_past:zN K "Hand" "past":=T.fd_past.cls T.cls;have c_isWhole:jh P w K mg base "is_whole" ["thing","least","most"] 1 3 jQ:=T.isWhole.callee X G ahU fun f fd F=>jK F ahr fun Kc A Ko s H E hr=>aaF.2 P w K mg base f Kc A Ko s H E C.b hr;have c_rodWorth:jh P w K mg base "rod_worth" ["manner","rod"] 1 2 qo:=T.rodWorth.callee X G abW fun f fd F=>jK F abN fun Kc A Ko s H E hr=>Zo.2 P w K mg base f Kc A Ko s H E trivial hr;have c_beads:jh P w K mg base "beads" ["rod"] 1 1 Jl:=T.beads.callee X G amH fun f fd F=>jK F alD fun Kc A Ko s H E hr=>ahs.2 P w K mg base f Kc A Ko s H E trivial hr;have c_allRods:jh P w K mg base "all_rods" ["manner"] 1 1 JH:=T.allRods.callee X G ahV fun f fd F=>aht F C.b;have c_hasAll:jh P w K mg base "has_all_digits" ["manner"] 2 1 aaG:=T.hasAll.callee X G aj4 fun f fd F=>jK F ad1 fun Kc A Ko s H E hr=>ae1.2 P w K mg base f Kc A Ko s H E ⟨C.b,c_allRods,c_rodWorth⟩ hr;have c_isManner:jh P w K mg base "is_manner" ["thing"] 3 1 qN:=T.isManner.callee X G agL fun f fd F=>jK F JS fun Kc A Ko s H E hr=>abp.2 P w K mg base f Kc A Ko s H E ⟨C.b,C.least,C.most,c_isWhole,c_hasAll⟩ hr;have c_check:jh P w K mg base "check_manner" ["thing"] 4 1 Q6:=T.check.callee X G agM fun f fd F=>jK F agl fun Kc A Ko s H E hr=>ahu.2 P w K mg base f Kc A Ko s H E ⟨c_isManner⟩ hr;have c_rodsWith:jh P w K mg base "rods_with" ["manner","worth"] 2 2 Zr:=T.rodsWith.callee X G agN fun f fd F=>jK F agm fun Kc A Ko s H E hr=>abq.2 P w K mg base f Kc A Ko s H E ⟨c_allRods,c_rodWorth⟩ hr;have c_fewest:jh P w K mg base "fewest_beads" ["manner","worth"] 3 2 JT:=T.fewest.callee X G aj5 fun f fd F=>jK F ajE fun Kc A Ko s H E hr=>ae2.2 P w K mg base f Kc A Ko s H E ⟨C.b,c_rodsWith,c_beads⟩ hr;have c_chkRods:jh P w K mg base "check_rods" ["rods"] 2 1 Jh:=T.chkRods.callee X G adw fun f fd F=>jK F ac3 fun Kc A Ko s H E hr=>aaH.2 P w K mg base f Kc A Ko s H E ⟨c_isWhole,C.mostRods⟩ hr;have c_chkNum:jh P w K mg base "check_number" ["number"] 2 1 qC:=T.chkNum.callee X G aen fun f fd F=>jK F ad2 fun Kc A Ko s H E hr=>aaI.2 P w K mg base f Kc A Ko s H E ⟨c_isWhole,C.mostNumber⟩ hr
 have c_asked:jh P w K mg base "check_asked" ["manner","rods","number"] 5 3 aaa:=T.asked.callee X G agO fun f fd F=>jK F ago fun Kc A Ko s H E hr=>ahv.2 P w K mg base f Kc A Ko s H E ⟨c_check,c_chkRods,c_chkNum⟩ hr;have c_num:jh P w K mg base "number_on" ["manner","setting"] 2 2 zA:=T.num.callee X G amI fun f fd F=>jK F Q7 fun Kc A Ko s H E hr=>alE.2 P w K mg base f Kc A Ko s H E ⟨c_rodWorth⟩ hr;have c_digits:jh P w K mg base "digits_by_rods" ["base","rods","number"] 1 3 ae6:=T.digits.callee X G aj6 fun f fd F=>jK F ae5 fun Kc A Ko s H E hr=>anV.2 P w K mg base f Kc A Ko s H E C.b hr;have c_plainR:jh P w K mg base "plain_rods" ["manner","rods","number"] 4 3 Zw:=T.plainR.callee X G aeo fun f fd F=>jK F Zv fun Kc A Ko s H E hr=>ack.2 P w K mg base f Kc A Ko s H E ⟨C.b,c_digits,c_fewest⟩ hr;have c_plainS:jh P w K mg base "plain_setting" ["manner","rods","number"] 6 3 Jq:=T.plainS.callee X G aep fun f fd F=>jK F ad3 fun Kc A Ko s H E hr=>ae7.2 P w K mg base f Kc A Ko s H E ⟨c_asked,c_plainR⟩ hr;have c_isRod:jh P w K mg base "is_rod" ["manner","thing"] 2 2 Qd:=T.isRod.callee X G amJ fun f fd F=>jK F alF fun Kc A Ko s H E hr=>abr.2 P w K mg base f Kc A Ko s H E ⟨C.b,c_isWhole⟩ hr;have c_isSet:jh P w K mg base "is_setting" ["manner","thing"] 5 2 ac4:=T.isSet.callee X G agP fun f fd F=>jK F agp fun Kc A Ko s H E hr=>abt.2 P w K mg base f Kc A Ko s H E ⟨C.b,c_check,c_isRod,C.mostRods⟩ hr;have c_chkSet:jh P w K mg base "check_setting" ["manner","thing"] 6 2 qe:=T.chkSet.callee X G aeq fun f fd F=>jK F ad4 fun Kc A Ko s H E hr=>acl.2 P w K mg base f Kc A Ko s H E ⟨c_isSet⟩ hr;have c_cell:jh P w K mg base "_law_cell" ["_law_script","_law_k"] 1 2 agq:=T.cell.callee X G aoq fun f fd F=>jK F anW fun Kc A Ko s H E hr=>aiv.2 P w K mg base f Kc A Ko s H E C.b hr;have c_drawn:jh P w K mg base "_law_drawn" ["_law_script","_law_k","_law_many"] 2 3 za:=T.drawn.callee X G amK fun f fd F=>jK F ac5 fun Kc A Ko s H E hr=>ahw.2 P w K mg base f Kc A Ko s H E ⟨c_cell⟩ hr;have c_manner:jh P w K mg base "_law_manner" ["_law_script","_law_at"] 3 2 QE:=T.manner.callee X G aj7 fun f fd F=>jK F zU fun Kc A Ko s H E hr=>acn.2 P w K mg base f Kc A Ko s H E ⟨C.b,c_drawn⟩ hr
 have c_enough:jh P w K mg base "check_enough" ["manner","setting","number"] 3 3 Zz:=T.enough.callee X G aer fun f fd F=>jK F ad5 fun Kc A Ko s H E hr=>Zy.2 P w K mg base f Kc A Ko s H E ⟨c_num⟩ hr;have c_less:jh P w K mg base "less" ["manner","setting","number"] 7 3 abO:=T.less.callee X G aiY fun f fd F=>jK F aiw fun Kc A Ko s H E hr=>ac7.2 P w K mg base f Kc A Ko s H E ⟨C.b,c_chkSet,c_chkNum,c_enough,c_plainR,c_num⟩ hr;have c_beh:jh P w K mg base "behind_changes" ["setting","changes"] 1 2 ahy:=T.beh.callee X G aql fun f fd F=>jK F afa fun Kc A Ko s H E hr=>anY.2 P w K mg base f Kc A Ko s H E C.b hr
 have c_DA:∀d:Nat,jh P w K mg base "digit_added" ["manner","setting","rod","digit"] (d+3) 4 (gDA d):=by
  intro d
  induction d with
  |zero=>exact T.DA.callee X G aiZ fun f fd F=>⟨fun vs H Q E h=>(by obtain⟨ds,d,_,_,h,_⟩:=h;cases h),fun A Ko s H args us vs Q E _ _ _ _ h=>(by obtain⟨ds,d,_,_,h,_⟩:=h;cases h)⟩
  |succ d ih=>exact T.DA.callee X G aiZ fun f fd F=>jK F ags fun Kc A Ko s H E hr=>(bDA (gDA d) d).2 P w K mg base f Kc A Ko s H E ⟨c_rodWorth,c_fewest,ih⟩ hr
 have x_DA:∀d:Nat,qA P w K mg base "digit_added" ["manner","setting","rod","digit"] (d+3) 4 (tDA d):=by
  intro d
  induction d with
  |zero=>exact T.DA.thr X G aiZ fun f fd F=>⟨fun vs H Q E h=>(by obtain⟨ds,d,_,_,h,_⟩:=h;cases h),fun A Ko s H args us vs Q E _ _ _ _ h=>(by obtain⟨ds,d,_,_,h,_⟩:=h;cases h)⟩
  |succ d ih=>exact T.DA.thr X G aiZ fun f fd F=>zi F ags fun Kc A Ko s H E hr=>(xDA (gDA d) (tDA d) d).2 P w K mg base f Kc A Ko s H E ⟨⟨c_rodWorth,c_fewest,c_DA d⟩,(C.errT.err (by decide)),ih⟩ hr
 have g_DA:GC K mg "digit_added" (fnD "digit_added"):=by
  obtain⟨f,oc,od,an,kV,doc,pm,Kc,ct,osl,a,_⟩:=T.DA;exact⟨.ref f,.ref f,PySem.W.mg_of X G a,rfl,fun H=>⟨f,rfl,.inr (.inr (.inl ⟨_,rfl,a⟩))⟩⟩
 have c_cbdA:jh P w K mg base "changes_by_digits" ["manner","setting","number","digit_changes"] 10 4 gCA:=T.cbd.callee X G amL fun f fd F=>jK F zH fun Kc A Ko s H E hr=>(anZ "digit_added" (gDA 6)).2 P w K mg base f Kc A Ko s H E ⟨C.b,c_digits,c_beh,c_DA 6⟩ hr;have x_cbdA:qA P w K mg base "changes_by_digits" ["manner","setting","number","digit_changes"] 10 4 tCA:=T.cbd.thr X G amL fun f fd F=>zi F zH fun Kc A Ko s H E hr=>(arq "digit_added" (gDA 6) (tDA 6)).2 P w K mg base f Kc A Ko s H E ⟨⟨C.b,c_digits,c_beh,c_DA 6⟩,x_DA 6⟩ hr;have c_chA:jh P w K mg base "changes_adding" ["manner","setting","number"] 11 3 an1:=T.chA.callee X G amM fun f fd F=>jK F alH fun Kc A Ko s H E hr=>an0.2 P w K mg base f Kc A Ko s H E ⟨c_cbdA,g_DA⟩ hr;have x_chA:qA P w K mg base "changes_adding" ["manner","setting","number"] 11 3 ars:=T.chA.thr X G amM fun f fd F=>zi F alH fun Kc A Ko s H E hr=>arr.2 P w K mg base f Kc A Ko s H E ⟨⟨c_cbdA,g_DA⟩,x_cbdA⟩ hr;have c_adding:jh P w K mg base "adding" ["manner","setting","number"] 12 3 acp:=T.adding.callee X G aes fun f fd F=>jK F ad6 fun Kc A Ko s H E hr=>aco.2 P w K mg base f Kc A Ko s H E ⟨c_chkSet,c_chkNum,c_chA⟩ hr;have c_added:jh P w K mg base "added" ["manner","setting","number"] 13 3 ac9:=T.added.callee X G agQ fun f fd F=>jK F agt fun Kc A Ko s H E hr=>afb.2 P w K mg base f Kc A Ko s H E ⟨c_adding,c_beh⟩ hr;have x_check:qA P w K mg base "check_manner" ["thing"] 4 1 aff:=T.check.thr X G agM fun f fd F=>zi F agl fun Kc A Ko s H E hr=>afe.2 P w K mg base f Kc A Ko s H E ⟨c_isManner,(C.errT.err (by decide))⟩ hr;have x_isSet:qA P w K mg base "is_setting" ["manner","thing"] 5 2 ahA:=T.isSet.thr X G agP fun f fd F=>zi F agp fun Kc A Ko s H E hr=>afg.2 P w K mg base f Kc A Ko s H E ⟨x_check⟩ hr;have x_chkSet:qA P w K mg base "check_setting" ["manner","thing"] 6 2 JZ:=T.chkSet.thr X G aeq fun f fd F=>zi F ad4 fun Kc A Ko s H E hr=>acs.2 P w K mg base f Kc A Ko s H E ⟨c_isSet,x_isSet,(C.errT.err (by decide))⟩ hr;have x_chkRods:qA P w K mg base "check_rods" ["rods"] 2 1 ade:=T.chkRods.thr X G adw fun f fd F=>zi F ac3 fun Kc A Ko s H E hr=>aaP.2 P w K mg base f Kc A Ko s H E ⟨c_isWhole,C.mostRods,(C.errT.err (by decide))⟩ hr
 have x_chkNum:qA P w K mg base "check_number" ["number"] 2 1 J1:=T.chkNum.thr X G aen fun f fd F=>zi F ad2 fun Kc A Ko s H E hr=>ZA.2 P w K mg base f Kc A Ko s H E ⟨c_isWhole,C.mostNumber,(C.errT.err (by decide))⟩ hr;have x_asked:qA P w K mg base "check_asked" ["manner","rods","number"] 5 3 ahB:=T.asked.thr X G agO fun f fd F=>zi F ago fun Kc A Ko s H E hr=>afh.2 P w K mg base f Kc A Ko s H E ⟨c_chkRods,c_check,x_check,x_chkRods,x_chkNum⟩ hr;have x_plainR:qA P w K mg base "plain_rods" ["manner","rods","number"] 4 3 afi:=T.plainR.thr X G aeo fun f fd F=>zi F Zv fun Kc A Ko s H E hr=>aix.2 P w K mg base f Kc A Ko s H E ⟨c_digits,(C.errT.err (by decide))⟩ hr;have x_plainS:qA P w K mg base "plain_setting" ["manner","rods","number"] 6 3 afj:=T.plainS.thr X G aep fun f fd F=>zi F ad3 fun Kc A Ko s H E hr=>aiy.2 P w K mg base f Kc A Ko s H E ⟨c_asked,x_asked,x_plainR⟩ hr;have x_enough:qA P w K mg base "check_enough" ["manner","setting","number"] 3 3 act:=T.enough.thr X G aer fun f fd F=>zi F ad5 fun Kc A Ko s H E hr=>ZB.2 P w K mg base f Kc A Ko s H E ⟨c_num,(C.errT.err (by decide))⟩ hr;have x_adding:qA P w K mg base "adding" ["manner","setting","number"] 12 3 aiA:=T.adding.thr X G aes fun f fd F=>zi F ad6 fun Kc A Ko s H E hr=>aiz.2 P w K mg base f Kc A Ko s H E ⟨c_chkNum,c_chkSet,x_chkSet,x_chkNum,x_chA⟩ hr;have x_added:qA P w K mg base "added" ["manner","setting","number"] 13 3 alJ:=T.added.thr X G agQ fun f fd F=>zi F agt fun Kc A Ko s H E hr=>alI.2 P w K mg base f Kc A Ko s H E ⟨c_beh,x_adding⟩ hr;have x_less:qA P w K mg base "less" ["manner","setting","number"] 7 3 abP:=T.less.thr X G aiY fun f fd F=>zi F aiw fun Kc A Ko s H E hr=>ad7.2 P w K mg base f Kc A Ko s H E ⟨C.b,c_num,c_enough,c_chkNum,c_chkSet,x_chkSet,x_chkNum,x_enough,x_plainR⟩ hr;have c_NamesBeads:jh P w K mg base "names_beads" ["setting","thing"] 2 2 JV:=T.NamesBeads.callee X G adI fun f fd F=>jK F adF fun Kc A Ko s H E hr=>zb.2 P w K mg base f Kc A Ko s H E ⟨C.b,c_isWhole,C.decks⟩ hr;have c_Pushed:jh P w K mg base "pushed" ["rod","deck","by"] 1 3 acr:=T.Pushed.callee X G aj8 fun f fd F=>jK F ajI fun Kc A Ko s H E hr=>aaM.2 P w K mg base f Kc A Ko s H E ⟨trivial⟩ hr
 have c_CanMove:jh P w K mg base "can_move" ["manner","setting","thing"] 3 3 Ji:=T.CanMove.callee X G ahW fun f fd F=>jK F ahz fun Kc A Ko s H E hr=>aaO.2 P w K mg base f Kc A Ko s H E ⟨c_NamesBeads,c_isRod,c_Pushed⟩ hr;have c_BehindMove:jh P w K mg base "behind_move" ["setting","move"] 2 2 JY:=T.BehindMove.callee X G adJ fun f fd F=>jK F ZX fun Kc A Ko s H E hr=>JX.2 P w K mg base f Kc A Ko s H E ⟨c_Pushed⟩ hr;have c_Moved:jh P w K mg base "moved" ["manner","setting","move"] 7 3 aac:=T.Moved.callee X G agR fun f fd F=>jK F agu fun Kc A Ko s H E hr=>afd.2 P w K mg base f Kc A Ko s H E ⟨c_chkSet,c_CanMove,c_BehindMove⟩ hr;have x_Moved:qA P w K mg base "moved" ["manner","setting","move"] 7 3 alL:=T.Moved.thr X G agR fun f fd F=>zi F agu fun Kc A Ko s H E hr=>alK.2 P w K mg base f Kc A Ko s H E ⟨c_CanMove,c_chkSet,x_chkSet,(C.errT.err (by decide))⟩ hr;have mk_Hand:anK P w K mg base "Hand" ["self","manner","rods"] 7 3 adf:=T.MInit.mak T.cls X G amN fun f fd F=>adD F alM fun Kc A Ko s H E hr=>ahD.2 P w K mg base f Kc A Ko s H E ⟨f_now,f_manner,f_past,c_plainS,x_plainS⟩ hr;have m_setting:qY P w K mg base "Hand" "setting" ["self"] 1 1 zw:=T.MSetting.met T.cls abX fun f fd F=>adD F abR fun Kc A Ko s H E hr=>ZC.2 P w K mg base f Kc A Ko s H E ⟨f_now⟩ hr;have m_value:qY P w K mg base "Hand" "value" ["self"] 3 1 zI:=T.MValue.met T.cls aet fun f fd F=>adD F ad8 fun Kc A Ko s H E hr=>acu.2 P w K mg base f Kc A Ko s H E ⟨f_manner,f_now,c_num⟩ hr;have m_go_on:qY P w K mg base "Hand" "go_on" ["self","fresh"] 4 2 aad:=T.MGoOn.met T.cls amO fun f fd F=>adD F alN fun Kc A Ko s H E hr=>ahF.2 P w K mg base f Kc A Ko s H E ⟨f_past,f_now,m_value⟩ hr;have m_lay:qY P w K mg base "Hand" "lay" ["self","number"] 7 2 aiC:=T.MLay.met T.cls aor fun f fd F=>adD F an2 fun Kc A Ko s H E hr=>alP.2 P w K mg base f Kc A Ko s H E ⟨f_manner,f_now,m_go_on,C.b,c_plainS,x_plainS⟩ hr;have m_add:qY P w K mg base "Hand" "add" ["self","number"] 14 2 agv:=T.MAdd.met T.cls aos fun f fd F=>adD F an3 fun Kc A Ko s H E hr=>alR.2 P w K mg base f Kc A Ko s H E ⟨f_manner,f_now,m_go_on,c_added,x_added⟩ hr
 have m_take:qY P w K mg base "Hand" "take" ["self","number"] 8 2 Zb:=T.MTake.met T.cls amP fun f fd F=>adD F alS fun Kc A Ko s H E hr=>afn.2 P w K mg base f Kc A Ko s H E ⟨f_manner,f_now,m_go_on,c_less,x_less⟩ hr;have m_push:qY P w K mg base "Hand" "push" ["self","move"] 8 2 afp:=T.MPush.met T.cls amQ fun f fd F=>adD F alT fun Kc A Ko s H E hr=>ahI.2 P w K mg base f Kc A Ko s H E ⟨f_manner,f_now,m_go_on,c_Moved,x_Moved⟩ hr;have m_undo:qY P w K mg base "Hand" "undo" ["self"] 4 1 adg:=T.MUndo.met T.cls amR fun f fd F=>adD F alU fun Kc A Ko s H E hr=>ahK.2 P w K mg base f Kc A Ko s H E ⟨f_past,f_now,m_value,(C.errT.err (by decide))⟩ hr;have m_many:qY P w K mg base "Hand" "many" ["self"] 1 1 aae:=T.MMany.met T.cls agU fun f fd F=>adD F agw fun Kc A Ko s H E hr=>afr.2 P w K mg base f Kc A Ko s H E ⟨f_past,C.b⟩ hr;have c_AllMoves:jh P w K mg base "all_moves" ["manner","setting"] 7 2 Jy:=T.AllMoves.callee X G agS fun f fd F=>jK F Jj fun Kc A Ko s H E hr=>ZE.2 P w K mg base f Kc A Ko s H E ⟨C.b,c_chkSet,c_CanMove,C.decks,C.ways⟩ hr;have cq_rodWorth:JR P w K mg base "rod_worth" ["manner","rod"] 1 2 qo:=T.rodWorth.calQ X G abW fun f fd F=>aoM F abN fun Kc A Ko s H E hr q=>ajK P w K mg base f Kc A Ko s H E trivial hr q;have cq_num:JR P w K mg base "number_on" ["manner","setting"] 2 2 zA:=T.num.calQ X G amI fun f fd F=>aoM F Q7 fun Kc A Ko s H E hr q=>asr P w K mg base f Kc A Ko s H E cq_rodWorth hr q;have q_setting:agh P w K mg base "Hand" "setting" ["self"] 1 1 zw:=T.MSetting.metQ T.cls abX fun f fd F=>aly F abR fun Kc A Ko s H E hr q=>ajL P w K mg base f Kc A Ko s H E ⟨f_now⟩ hr q;have q_value:agh P w K mg base "Hand" "value" ["self"] 3 1 zI:=T.MValue.metQ T.cls aet fun f fd F=>aly F ad8 fun Kc A Ko s H E hr q=>an5 P w K mg base f Kc A Ko s H E ⟨f_manner,f_now,cq_num⟩ hr q;have q_many:agh P w K mg base "Hand" "many" ["self"] 1 1 aae:=T.MMany.metQ T.cls agU fun f fd F=>aly F agw fun Kc A Ko s H E hr q=>apX P w K mg base f Kc A Ko s H E ⟨f_past,C.b⟩ hr q;have k_LRefuses:abM P w K mg base "_law_refuses" ["_law_hand","_law_number"] 9 2 abz:=T.LRefuses.cal0 X G agT fun f fd F=>apQ F abS fun Kc A Ko s H E hr=>ZG.2 P w K mg base f Kc A Ko s H E ⟨m_setting,m_value,m_many,m_take,q_setting,q_value,q_many,C.errT⟩ hr
 have k_LPushes:abM P w K mg base "_law_pushes" ["_law_hand","_law_move"] 9 2 aaS:=T.LPushes.cal0 X G ahX fun f fd F=>alr F zW fun Kc A Ko s H E hr=>aaR.2 P w K mg base f Kc A Ko s H E ⟨m_setting,m_value,m_push⟩ hr;have k_LUndone:abM P w K mg base "_law_undone" ["_law_hand","_law_numbers"] 5 2 aaU:=T.LUndone.cal0 X G ahY fun f fd F=>alr F aag fun Kc A Ko s H E hr=>aaT.2 P w K mg base f Kc A Ko s H E ⟨m_undo,m_value,C.b⟩ hr;exact⟨m_many,m_add,m_value,m_setting,m_take,m_lay,mk_Hand,k_LPushes,k_LRefuses,k_LUndone,C.b,c_manner,c_drawn,c_AllMoves⟩
theorem aqm(HT:qG=true){P:Program}{w:World}{K:Fg}{h:Heap}{mg:SV}{fa:Addr}(X:K.In h)(G:h.Ns mainGlobals mg)(hfa:mg "law"=some (.ref fa))(T:Tops K)(C:Consts K mg):
  ∃fd:FuncData,(∀(s:Shared) (v:Value),BindsTo s fd ⟨[v],[]⟩ [("_law_script",v)])/\∀base:Heap,K.In base->base.Ns mainGlobals mg->FnOk P w K mg base CX0 15 fa fd ["_law_script"] (Q5 K 1 alZ):=by
 have Q:∀base:Heap,CLaw P w K mg base:=fun base=>asy HT X G T C;obtain⟨f,oc,od,an,kV,doc,pm,Kc,ct,osl,a,l,c,kp⟩:=T.law;have e:=hfa.symm.trans (PySem.W.mg_of X G a);cases e;have F1:=QO (st:=adj) l c kp;exact⟨_,fun s v=> .of_eq rfl,fun base _ _=>alr F1 zK fun Kc A Ko s H E hr=>an4.2 P w K mg base fa Kc A Ko s H E (Q base) hr⟩
theorem arO(HT:qG=true)(K:Fg)(H:Hp)(a:Addr)(ns:List Int)(hl:ns.length<=63)(hS:SqL K H a (ns.map V.int)):Q5 K 1 alZ [.ref a] H (fun v _=>v= .bl true) fun _ _ _=>False:=
 ⟨[scr ns],fun _=>none,fun o _=>o= .ok (.bool true),rfl,⟨_,_,rfl,⟨a,rfl,.inl ⟨ns,hS,rfl⟩⟩,rfl⟩,(fun a c z=>nomatch z),aj3 HT ns (by omega),(fun d μ' r v H' _ rv _=>by cases r;exact rv),fun c μ' r=>nomatch r⟩
theorem asz(HT:qG=true){l:PySem.W.OpenLaw}{q:Program}{loose:List Str}{XP:(SV)->Heap->Prop}{YP:World->Heap->Prop}{d:DefRec}{K:Params->Fg}(hn:l.most=some 63)(hdf:d.params.defaults=[])
  (hY:∀(w:World) (h:Heap),YP w h->(K w.params).In h) (hnm:d.name="law")
  (F:∀(w:World) (mg:SV) (h:Heap),(K w.params).In h->h.Ns mainGlobals mg->Tops (K w.params)/\Consts (K w.params) mg):
  PySem.W.WalkO q loose XP YP l.row.toRowW d [] (fun f vs=>PySem.call f vs):=
 L2.am9 (n:=63) (k:=15) (x:="_law_script") (CX:=fun _=>CX0) (sp:=fun w=>Q5 (K w.params) 1 alZ) hn (by decide) hdf ⟨rfl,by decide,by decide⟩ hY (fun w mg fa h KX G hm=>by
  obtain ⟨T,C⟩:=F w mg h KX G;rw [hnm] at hm;exact aqm HT KX G hm T C) (fun w H a ns hl _ hS=>arO HT (K w.params) H a ns hl hS) fun _ _ _ _ _ z=>z
theorem aot{K:Fg}{mg:SV}{h:Heap}(X:K.In h)(G:h.Ns mainGlobals mg)(z1:PySem.W.nsIn K mainGlobals "isinstance"=some none)(z2:PySem.W.nsIn K mainGlobals "bool"=some none)(z3:PySem.W.nsIn K mainGlobals "int"=some none)(z4:PySem.W.nsIn K mainGlobals "tuple"=some none)(z5:PySem.W.nsIn K mainGlobals "zip"=some none)(z6:PySem.W.nsIn K mainGlobals "range"=some none)(z7:PySem.W.nsIn K mainGlobals "all"=some none)(z8:PySem.W.nsIn K mainGlobals "len"=some none)(z9:PySem.W.nsIn K mainGlobals "max"=some none)(z10:PySem.W.nsIn K mainGlobals "min"=some none)(z11:PySem.W.nsIn K mainGlobals "sum"=some none)(z12:PySem.W.nsIn K mainGlobals "sorted"=some none)(z13:PySem.W.nsIn K mainGlobals "abs"=some none)(z14:PySem.W.nsIn K mainGlobals "list"=some none)(z15:PySem.W.nsIn K mainGlobals "enumerate"=some none)(z16:PySem.W.nsIn K mainGlobals "ValueError"=some none)(z17:PySem.W.nsIn K mainGlobals "str"=some none)(z18:PySem.W.nsIn K mainGlobals "set"=some none)(z19:PySem.W.nsIn K mainGlobals "dict"=some none):Bare mg:=
 have f:∀{x:Str},PySem.W.nsIn K mainGlobals x=some none->mg x=none:=fun z=>PySem.W.mg_none_of X G z
 ⟨f z1,f z2,f z3,f z4,f z5,f z6,f z7,f z8,f z9,f z10,f z11,f z12,f z13,f z14,f z15,f z16,f z17,f z18,f z19⟩
theorem gc4{K:Fg}{mg:SV}{h:Heap}{x:Str}{a:Addr}{od:Option Addr}{n:Nat}{osl:Array (Option Value)}{i1 i2 i3 i4:Int}{t1 t2 t3 t4:Tok}(X:K.In h)(G:h.Ns mainGlobals mg)(e:PySem.W.nsIn K mainGlobals x=some (some (.ref a)))
  (l:K.lookup a=some ⟨.type "tuple",od,.seq #[.int i1 t1,.int i2 t2,.int i3 t3,.int i4 t4] n,osl⟩):GC K mg x (.tuple [.int i1,.int i2,.int i3,.int i4]):=
 acQ X G e l rfl ⟨_,_,[.int i1,.int i2,.int i3,.int i4],rfl,(by show 4<=sizeLine;rw[sizeLine_eq];decide),.cons ⟨_,rfl⟩ (.cons ⟨_,rfl⟩ (.cons ⟨_,rfl⟩ (.cons ⟨_,rfl⟩ .nil))),fun H=>⟨_,_,rfl,rfl,_,_,rfl,rfl,_,_,rfl,rfl,_,_,rfl,rfl,rfl⟩⟩
theorem gcI{K:Fg}{mg:SV}{h:Heap}{x:Str}{i:Int}{t:Tok}(X:K.In h)(G:h.Ns mainGlobals mg)(e:PySem.W.nsIn K mainGlobals x=some (some (.int i t))):GC K mg x (.int i):=
 ⟨.int i,_,PySem.W.mg_of X G e,⟨t,rfl⟩,fun H=>rfl⟩
theorem amS{K:Fg}{mg:SV}{h:Heap}{x:Str}{a:Addr}{od:Option Addr}{n:Nat}{osl:Array (Option Value)}{i1 i2:Str}{t1 t2:Tok}(X:K.In h)(G:h.Ns mainGlobals mg)(e:PySem.W.nsIn K mainGlobals x=some (some (.ref a)))
  (l:K.lookup a=some ⟨.type "tuple",od,.seq #[.str i1 t1,.str i2 t2] n,osl⟩):GC K mg x (.tuple [.str i1,.str i2]):=
 acQ X G e l rfl ⟨_,_,[.str i1,.str i2],rfl,(by show 2<=sizeLine;rw[sizeLine_eq];decide),.cons ⟨_,rfl⟩ (.cons ⟨_,rfl⟩ .nil),fun H=>⟨_,_,rfl,rfl,_,_,rfl,rfl,rfl⟩⟩
theorem aou{K:Fg}{mg:SV}{h:Heap}{x:Str}{a:Addr}{od:Option Addr}{n:Nat}{osl:Array (Option Value)}{i1 i2:Int}{t1 t2:Tok}(X:K.In h)(G:h.Ns mainGlobals mg)(e:PySem.W.nsIn K mainGlobals x=some (some (.ref a)))
  (l:K.lookup a=some ⟨.type "tuple",od,.seq #[.int i1 t1,.int i2 t2] n,osl⟩):GC K mg x (.tuple [.int i1,.int i2]):=
 acQ X G e l rfl ⟨_,_,[.int i1,.int i2],rfl,(by show 2<=sizeLine;rw[sizeLine_eq];decide),.cons ⟨_,rfl⟩ (.cons ⟨_,rfl⟩ .nil),fun H=>⟨_,_,rfl,rfl,_,_,rfl,rfl,rfl⟩⟩
theorem aov{K:Fg}{mg:SV}{h:Heap}{y:Str}{cs:List Str}(X:K.In h)(G:h.Ns mainGlobals mg)(q:aeU K y cs=true):ErrT K mg y cs:=
 ⟨q,fun c C e=>PySem.W.mg_of X G (anE e)⟩
end Rods
def PySem.W.Fast.tw11356208100579778211:Unit:=()
def PySem.W.Fast.tw11522616538928641524:Unit:=()
def PySem.W.Fast.tw18430807481270194990:Unit:=()
def PySem.W.Fast.tw2109154865853859026:Unit:=()
def PySem.W.Fast.tw9964945388429315897:Unit:=()
def PySem.W.Fast.tw14964328983890411280:Unit:=()
def PySem.W.Fast.tw7153337092030493513:Unit:=()
def PySem.W.Fast.tw14791825399954969631:Unit:=()
def PySem.W.Fast.tw11160254580738197950:Unit:=()
def PySem.W.Fast.tw587956009116685165:Unit:=()
open PySem PySem.W PyProof.Rows
set_option maxRecDepth 100000 in
set_option maxHeartbeats 0 in
theorem PySem.Challenge.cw_beadrods_k51_whole_hands_holds : PySem.Challenge.rw_beadrods_k51_whole_hands.Holds := by
  w_on; o_law; k_head; (case hw => w_witness2)
  k_fill
  refine Rods.asz Rods.allN_true (l := PySem.Challenge.rw_beadrods_k51_whole_hands) rfl rfl (fun w h Y => PySem.W.kIn_of Y) rfl ?F
  case F =>
    intro w mg h KX G
    refine ⟨⟨?f1, ?f2, ?f3, ?f4, ?f5, ?f6, ?f7, ?f8, ?f9, ?f10, ?f11, ?f12, ?f13, ?f14, ?f15, ?f16, ?f17, ?f18, ?f19, ?f20, ?f21, ?f22, ?f23, ?f24, ?f25, ?f26, ?f27, ?f28, ?f29, ?f30, ?f31, ?f32, ?f33, ?f34, ?f35, ?f36, ?f37, ?f38, ?f39, ?f40, ?m1, ?m2, ?m3, ?m4, ?m5, ?m6, ?m7, ?m8, ?m9, ?m10, ?cl, ?d1, ?d2, ?d3⟩, ⟨?b, ?c1, ?c2, ?c3, ?c4, ?c5, ?c6, ?et⟩⟩
    case b => refine' Rods.aot KX G ?_ ?_ ?_ ?_ ?_ ?_ ?_ ?_ ?_ ?_ ?_ ?_ ?_ ?_ ?_ ?_ ?_ ?_ ?_ <;> k_is
    case c1 =>
      refine' Rods.gc4 KX G ?a ?l
      (case a => k_is); (case l => k_is)
    case c2 =>
      refine' Rods.gc4 KX G ?a ?l
      (case a => k_is); (case l => k_is)
    case c3 =>
      refine' Rods.gcI KX G ?a
      (case a => k_is)
    case c4 =>
      refine' Rods.gcI KX G ?a
      (case a => k_is)
    case c5 =>
      refine' Rods.amS KX G ?a ?l
      (case a => k_is); (case l => k_is)
    case c6 =>
      refine' Rods.aou KX G ?a ?l
      (case a => k_is); (case l => k_is)
    case et => exact Rods.aov KX G (by kernel_rfl)
    case m1 =>
      refine' BX.zp ?a ?b ?i ?l ?c ?k
      (case a => k_is); (case b => k_is); (case i => k_is); (case l => k_is); (case c => k_is); (case k => k_is)
    case m2 =>
      refine' BX.zp ?a ?b ?i ?l ?c ?k
      (case a => k_is); (case b => k_is); (case i => k_is); (case l => k_is); (case c => k_is); (case k => k_is)
    case m3 =>
      refine' BX.zp ?a ?b ?i ?l ?c ?k
      (case a => k_is); (case b => k_is); (case i => k_is); (case l => k_is); (case c => k_is); (case k => k_is)
    case m4 =>
      refine' BX.zp ?a ?b ?i ?l ?c ?k
      (case a => k_is); (case b => k_is); (case i => k_is); (case l => k_is); (case c => k_is); (case k => k_is)
    case m5 =>
      refine' BX.zp ?a ?b ?i ?l ?c ?k
      (case a => k_is); (case b => k_is); (case i => k_is); (case l => k_is); (case c => k_is); (case k => k_is)
    case m6 =>
      refine' BX.zp ?a ?b ?i ?l ?c ?k
      (case a => k_is); (case b => k_is); (case i => k_is); (case l => k_is); (case c => k_is); (case k => k_is)
    case m7 =>
      refine' BX.zp ?a ?b ?i ?l ?c ?k
      (case a => k_is); (case b => k_is); (case i => k_is); (case l => k_is); (case c => k_is); (case k => k_is)
    case m8 =>
      refine' BX.zp ?a ?b ?i ?l ?c ?k
      (case a => k_is); (case b => k_is); (case i => k_is); (case l => k_is); (case c => k_is); (case k => k_is)
    case m9 =>
      refine' BX.zp ?a ?b ?i ?l ?c ?k
      (case a => k_is); (case b => k_is); (case i => k_is); (case l => k_is); (case c => k_is); (case k => k_is)
    case m10 =>
      refine' BX.zp ?a ?b ?i ?l ?c ?k
      (case a => k_is); (case b => k_is); (case i => k_is); (case l => k_is); (case c => k_is); (case k => k_is)
    case cl =>
      refine' BX.anO ?a ?b ?c ?d ?e ?f ?g
      (case a => k_is); (case b => k_is); (case c => k_is); (case d => k_is); (case e => k_is); (case f => k_is); (case g => k_is)
    case d1 =>
      refine' BX.aeZ ?a ?b
      (case a => k_is); (case b => k_is)
    case d2 =>
      refine' BX.aeZ ?a ?b
      (case a => k_is); (case b => k_is)
    case d3 =>
      refine' BX.aeZ ?a ?b
      (case a => k_is); (case b => k_is)
    all_goals
      refine' BX.akX ?a ?l ?c ?k
      (case a => k_is); (case l => k_is); (case c => k_is); (case k => k_is)
#print axioms PySem.Challenge.cw_beadrods_k51_whole_hands_holds
end
