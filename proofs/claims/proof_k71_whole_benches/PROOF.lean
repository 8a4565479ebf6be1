import PyProof.Rows.All
import Wide.All
import OpenK.AllK
import Wide.FinOn
import Lean
import PyProof.EqAt
import PyProof.EqKinds
import PyProof.TupleCall
import PyProof.DictWalks
import PyProof.ListMulRoad
import PyProof.Rows.Range3
import PyProof.StationsW
import OpenK.KOwn
import PyProof.ExcBaseAll.ValueError
import PyProof.MaxThree
import KE.KIsAll
import KE.KIsNot
import PyProof.RulesAs
import PyProof.ExcArgsOwn
import PyProof.ExcAttrAll.ValueError
import KE.KRevSl
import PyProof.ListRange
import PyProof.StrBlock2
import PyProof.StrBlockH
import PyProof.StrBlockL
import PyProof.StrCalls2
import PyProof.SliceStr2
import PyProof.StrBlockI
import PyProof.StrLawsTight
import PyProof.StrLawsChain
import PyProof.Rows.StrItems
import PyProof.StrWalks
import PyProof.EnumMake
import PyProof.Draws
import KE.KSortAsk
import KE.KDictList
import KE.KDictSum
import KE.KDictOf
import PyProof.FString5
import PySem.Challenge.RW_beadrods_k71_whole_benches
set_option Elab.async false
set_option linter.all false
set_option maxRecDepth 100000
set_option maxHeartbeats 4000000
abbrev Fg:=PySem.W.Frag
abbrev SV:=PySem.Str->Option PySem.Value
abbrev OP:=Option PySem.PyData
abbrev LP:=List PySem.PyData
abbrev SP0:=PySem.Shared->Prop
theorem zzA{α : Type _}{a : α}{l : List α} : (a :: l)[0]? = some a := rfl
theorem zzB{α : Type _}{a : α}{i : Nat}{l : List α} : (a :: l)[i + 1]? = l[i]? := rfl
theorem zzC{α : Type _}{o : Option α} : (some o).join = o := rfl
theorem zzD{α β : Type _}(a : α)(f : α → Option β) : (some a).bind f = f a := rfl
theorem zzE{α β : Type _}(a : α)(f : α → β) : Option.map f (some a) = some (f a) := rfl
theorem zzF{α : Type _}{x : α}{xs : List α}{i : Nat}{a : α} : (x :: xs).set (i + 1) a = x :: xs.set i a := rfl
theorem zzG{α : Type _}{x : α}{xs : List α}{a : α} : (x :: xs).set 0 a = a :: xs := rfl
theorem zzH{α β : Type _}(f : α → Option β) : (none : Option α).bind f = none := rfl
theorem zzI{α β : Type _}(f : α → β) : Option.map f (none : Option α) = none := rfl
theorem zzJ : (!true) = false := rfl
theorem zzK : (!false) = true := rfl
theorem zzL : (false = true) = False := Bool.false_eq_true
theorem zzM{α : Sort _}{x : Decidable True}(a b : α) : ite True a b = a := if_true a b
theorem zzN{α : Sort _}{x : Decidable False}(a b : α) : ite False a b = b := if_false a b
section
namespace L2
open PySem PySem.Spec PyProof.Rows
noncomputable abbrev Key:=Sum Int Str
noncomputable def acv:Key->Value->Bool
 |.inl k,v=>Value.isInt k v
 |.inr x,v=>Value.isStrOf x v
noncomputable def asm(w:World):Key->Int
 |.inl k=>hashInt k
 |.inr x=>hashStr w x
theorem qf:∀{k:Key}{v:Value},acv k v=true->(∃i t,k=Sum.inl i/\v=Value.int i t)∨(∃x t,k=Sum.inr x/\v=Value.str x t)
 | .inl i,v,h=>by
  obtain⟨t,e⟩:=Value.isInt_shape (k:=i) (v:=v) h;exact .inl ⟨i,t,rfl,e⟩
 | .inr x,v,h=>by
  obtain⟨t,e⟩:=Value.isStrOf_shape (x:=x) (v:=v) h;exact .inr ⟨x,t,rfl,e⟩
theorem ajV(i:Int)(t:Tok):acv (.inl i) (.int i t)=true:=by simp[acv,Value.isInt]
theorem ajW(x:Str)(t:Tok):acv (.inr x) (.str x t)=true:=by simp[acv,Value.isStrOf]
theorem apK(a b:Int):decide ((Sum.inl a:Key)=Sum.inl b)=(a==b):=by
 by_cases e:a=b
 ·subst e;simp
 ·have h:¬ (Sum.inl a:Key)=Sum.inl b:=fun q=>e (Sum.inl.inj q)
  rw[decide_eq_false h];exact(beq_eq_false_iff_ne.mpr e).symm
theorem apL(a b:Str):decide ((Sum.inr a:Key)=Sum.inr b)=decide (a=b):=by
 by_cases e:a=b
 ·subst e;simp
 ·have h:¬ (Sum.inr a:Key)=Sum.inr b:=fun q=>e (Sum.inr.inj q)
  rw[decide_eq_false h,decide_eq_false e]
theorem apM(a:Int)(b:Str):decide ((Sum.inl a:Key)=Sum.inr b)=false:=decide_eq_false (fun q=>nomatch q)
theorem apN(a:Str)(b:Int):decide ((Sum.inr a:Key)=Sum.inl b)=false:=decide_eq_false (fun q=>nomatch q)
noncomputable def ql(prog:Program)(w:World):PySem.KeyKind prog w Key where
 is:=acv
 hash:=asm w
 inj:=fun v a b ha hb=>by
  rcases qf ha with ⟨i,t,rfl,rfl⟩ | ⟨x,t,rfl,rfl⟩
  ·rcases qf hb with ⟨j,u,rfl,e⟩ | ⟨y,u,rfl,e⟩
   ·injection e with e1 _;rw[e1]
   ·exact nomatch e
  ·rcases qf hb with ⟨j,u,rfl,e⟩ | ⟨y,u,rfl,e⟩
   ·exact nomatch e
   ·injection e with e1 _;rw[e1]
 byValue:=fun k v h=>by
  rcases qf h with ⟨i,t,rfl,rfl⟩ | ⟨x,t,rfl,rfl⟩<;>rfl
 pyHash:=fun hv h=>by
  rcases qf hv with ⟨i,t,rfl,rfl⟩ | ⟨x,t,rfl,rfl⟩
  ·exact wpAny_pyHash_int h
  ·exact wpAny_pyHash_str h
 eqBool:=fun hu hv h=>by
  rcases qf hu with ⟨i,t,rfl,rfl⟩ | ⟨x,t,rfl,rfl⟩
  ·rcases qf hv with ⟨j,u,rfl,rfl⟩ | ⟨y,u,rfl,rfl⟩
   ·rw[apK]at h;exact wpAny_eqBool_int h
   ·rw[apM]at h;exact SeqAt.EqAt.int_str i t y u _ _ _ _ h
  ·rcases qf hv with ⟨j,u,rfl,rfl⟩ | ⟨y,u,rfl,rfl⟩
   ·rw[apN]at h;exact SeqAt.EqAt.str_int x t j u _ _ _ _ h
   ·rw[apL]at h;exact wpAny_eqBool_str h
 «strs»:=fun k x t v h=>by
  rcases qf h with ⟨i,u,rfl,e⟩ | ⟨y,u,rfl,e⟩
  ·exact nomatch e
  ·injection e with e1 _
   subst e1;cases v<;>rfl
theorem ahq(prog:Program)(w:World)(k:Key)(v:Value):(ql prog w).is k v=acv k v:=rfl
theorem af8(prog:Program)(w:World)(i:Int)(t:Tok):(ql prog w).is (.inl i) (.int i t)=true:=ajV i t
theorem af9(prog:Program)(w:World)(x:Str)(t:Tok):(ql prog w).is (.inr x) (.str x t)=true:=ajW x t
inductive V where
 |non | bl (b:Bool) | int (i:Int) | str (x:Str) | byt (b:Array UInt8) | flt (b:UInt64) | ref (a:Addr) | ty (n:String)
 deriving DecidableEq
noncomputable def jT:V->Value->Prop
 |.non,u=>u=Value.none
 |.bl b,u=>u=Value.bool b
 |.int i,u=>∃t,u=Value.int i t
 |.str x,u=>∃t,u=Value.str x t
 |.byt b,u=>∃t,u=Value.bytes b t
 |.flt b,u=>∃t,u=Value.float b t
 |.ref a,u=>u=Value.ref a
 |.ty n,u=>u=Value.type n
noncomputable abbrev jG:List V->List Value->Prop:=Paired jT
theorem jG.length{xs:List V}{us:List Value}(r:jG xs us):xs.length=us.length:=Paired.length r
theorem jG.get:∀{xs:List V}{us:List Value}{i:Nat}{x:V},jG xs us->xs[i]?=some x->∃u,us[i]?=some u/\jT x u
 |_,_,_,_,.nil,e=>by simp at e
 |_,_,0,_,.cons r _,e=>by simp at e;subst e;exact⟨_,rfl,r⟩
 | _,_,i+1,x,.cons _ t,e=>by
  obtain⟨u,h1,h2⟩:=jG.get (i:=i) (x:=x) t (by simpa using e);exact⟨u,by simpa using h1,h2⟩
theorem jG.set{x:V}{u:Value}(r:jT x u):∀{xs:List V}{us:List Value} (i:Nat),jG xs us->jG (xs.set i x) (us.set i u)
 |_,_,_,.nil=> .nil
 |_,_,0,.cons _ t=> .cons r t
 |_,_,i+1,.cons q t=> .cons q (jG.set r i t)
theorem jG.append:∀{xs ys:List V}{us ws:List Value},jG xs us->jG ys ws->jG (xs++ys) (us++ws)
 |_,_,_,_,.nil,s=>s
 |_,_,_,_,.cons r t,s=> .cons r (jG.append t s)
theorem jG.take:∀{xs:List V}{us:List Value} (n:Nat),jG xs us->jG (xs.take n) (us.take n)
 |_,_,0,_=> .nil
 |_,_,_+1,.nil=> .nil
 |_,_,n+1,.cons r t=> .cons r (jG.take n t)
theorem jG.drop:∀{xs:List V}{us:List Value} (n:Nat),jG xs us->jG (xs.drop n) (us.drop n)
 |_,_,0,r=>r
 |_,_,_+1,.nil=> .nil
 |_,_,n+1,.cons _ t=>jG.drop n t
theorem jG.none_of:∀{xs:List V}{us:List Value}{i:Nat},jG xs us->xs[i]?=none->us[i]?=none:=fun {xs us i} r e=>by
 have h1:=r.length;have h2:xs.length<=i:=List.getElem?_eq_none_iff.mp e;exact List.getElem?_eq_none_iff.mpr (by omega)
noncomputable def QX:Option V->Option Value->Prop
 |some v,some u=>jT v u
 |none,none=>True
 |_,_=>False
noncomputable def KV{κ:Type}:List (κ×V)->List (κ×Value)->Prop:=Paired fun (p:κ×V) (q:κ×Value)=>p.1=q.1/\jT p.2 q.2
noncomputable def kV:Key->V
 |.inl i=> .int i
 |.inr x=> .str x
inductive HO where
 |lst (xs:List V)
 |tup (xs:List V)
 |dK (kvs:List (Key×V)) | dT (kvs:List (List Key×V))
 |set (S:Int->Bool) (n:Nat)
 |ins (C dx:Addr) (fs:List (Str×V))
 |own (x:Addr)
 |xd (fs:List (Str×V))
 |met (f x:Addr)
 |rng (lo hi:Int)
 |frz (o:Obj) (u:HO)
 |tbl (ps:Array Value)
 |ext (φ:Heap->Prop)
noncomputable abbrev Hp:=Addr->Option HO
noncomputable def upd(H:Hp)(a:Addr)(o:HO):Hp:=fun b=>if b=a then some o else H b
theorem jn{H:Hp}{a:Addr}{o:HO}:upd H a o a=some o:=by unfold upd;rw[if_pos rfl]
theorem js{H:Hp}{a b:Addr}{o:HO}(h:b≠a):upd H a o b=H b:=by unfold upd;rw[if_neg h]
theorem qE{H:Hp}{a:Addr}{o u:HO}:upd (upd H a o) a u=upd H a u:=by
 funext b;unfold upd;split<;>rfl
theorem are{H:Hp}{a b:Addr}{o u:HO}(h:H a=some o)(h':H b=some u)(d:o≠u):a≠b:=by
 intro e;subst e;rw[h]at h';exact d (Option.some.inj h')
theorem qF{H:Hp}{a b:Addr}{o:HO}(h:H a=some o)(h':H b=none):a≠b:=by
 intro e;subst e;rw[h]at h';cases h'
section
variable (P:Program)(w:World)
noncomputable def qt(H:Hp)(h:Heap)(a:Addr):HO->Prop
 |.lst xs=>xs.length<=sizeLine/\∃(its:List Value) (n:Nat),jG xs its/\h.get? a=some { cls:= .type "list",data:= .seq its.toArray n }
 |.tup xs=>xs.length<=sizeLine/\∃its:List Value,jG xs its/\IsTup h a its.toArray
 |.dK kvs=>kvs.length<=sizeLine/\(a==sysModules)=false/\∃vs,KV kvs vs/\h.DictOf (ql P w) a vs
 | .dT kvs=>kvs.length<=sizeLine/\(a==sysModules)=false/\∃xs:List (List Key×Addr×Value),
   Paired (fun (p:List Key×V) (q:List Key×Addr×Value)=>p.1=q.1/\H q.2.1=some (.tup (p.1.map kV))/\jT p.2 q.2.2) kvs xs/\
   ∃o es ep,h.get? a=some o/\o.ExactDict/\o.data= .dict es ep/\es.toList=xs.map (entryOfKey (tupleKind (ql P w)))/\(xs.map (·.1)).Nodup
 |.set S n=>h.SetOf (intKind P w) a S n
 | .ins C dx fs=>H dx=some (.own a)/\fs.length<=1000/\dx≠a/\h.get? a=some (PySem.W.instObj C dx)/\
   ∃mA,h.Ns1 dx mA/\(∀f,QX (fs.lookup f) (mA f))/\PySem.Within mA (fs.map (·.1))
 |.own _=>∃o,h.get? a=some o
 |.xd fs=>∃mA,h.Ns1 a mA/\∀f,QX (fs.lookup f) (mA f)
 |.rng lo hi=>∃t u v,h.get? a=some { cls:= .type "range",data:= .fields #[.int lo t,.int hi u,.int 1 v] }
 |.frz o u=>h.get? a=some o/\qt H h a u
 |.tbl ps=>h.get? a=some { cls:= .none,data:= .fields ps }
 |.met f x=>h.get? a=some (PySem.W.methodObj (.ref f) (.ref x))
 |.ext φ=>φ h/\(∃o,h.get? a=some o)/\∀h1 h2:Heap,φ h1->(∀o,h1.get? a=some o->h2.get? a=some o)->φ h2
noncomputable def HOk(H:Hp)(h:Heap):Prop:=∀a o,H a=some o->qt P w H h a o
end
section
variable {P:Program}{w:World}{H H':Hp}{h h':Heap}{a:Addr}{o:HO}
theorem qt.lt(x:qt P w H h a o):a<h.objs.size:=by
 cases o with
 |lst xs=>obtain⟨_,_,_,_,e⟩:=x;exact Heap.lt_size e
 |tup xs=>obtain⟨_,_,_,p⟩:=x;exact p.lt
 |dK kvs=>obtain⟨_,_,_,_,o,_,_,e,_⟩:=x;exact Heap.lt_size e
 |dT kvs=>obtain⟨_,_,_,_,o,_,_,e,_⟩:=x;exact Heap.lt_size e
 |set S n=>obtain⟨o,_,_,_,e,_⟩:=x;exact Heap.lt_size e
 |ins C dx fs=>obtain⟨_,_,_,e,_⟩:=x;exact Heap.lt_size e
 |own y=>obtain⟨_,e⟩:=x;exact Heap.lt_size e
 |xd fs=>obtain⟨_,⟨_,_,_,e,_⟩,_⟩:=x;exact Heap.lt_size e
 |rng lo hi=>obtain⟨_,_,_,e⟩:=x;exact Heap.lt_size e
 |frz ob u=>obtain⟨e,_⟩:=x;exact Heap.lt_size e
 |tbl ps=>exact Heap.lt_size (show h.get? a=some _ from x)
 |met f y=>exact Heap.lt_size (show h.get? a=some _ from x)
 |ext φ=>obtain⟨_,⟨_,e⟩,_⟩:=x;exact Heap.lt_size e
theorem Paired.mapP{α β:Type}{F G:α->β->Prop}:∀{l₁:List α}{l₂:List β},Paired F l₁ l₂->(∀a b,F a b->G a b)->Paired G l₁ l₂
 |_,_,.nil,_=> .nil
 |_,_,.cons r t,f=> .cons (f _ _ r) (Paired.mapP t f)
theorem qt.stay(x:qt P w H h a o)(k:∀b u,(b=a∨H b=some (.own a))->h.get? b=some u->h'.get? b=some u)
  (ho:∀b,H b=some (.own a)->H' b=some (.own a)) (ht:∀b xs,H b=some (.tup xs)->H' b=some (.tup xs)):qt P w H' h' a o:=by
 induction o with
 |lst xs=>obtain⟨z,its,n,r,e⟩:=x;exact⟨z,its,n,r,k _ _ (.inl rfl) e⟩
 |tup xs=>obtain⟨z,its,r,ob,e,c⟩:=x;exact⟨z,its,r,ob,k _ _ (.inl rfl) e,c⟩
 |dK kvs=>obtain⟨z,y,vs,r,ob,es,ep,e,c⟩:=x;exact⟨z,y,vs,r,ob,es,ep,k _ _ (.inl rfl) e,c⟩
 | dT kvs=>
  obtain⟨z,y,xs,r,ob,es,ep,e,c⟩:=x;exact⟨z,y,xs,Paired.mapP r fun p q z=>⟨z.1,ht _ _ z.2.1,z.2.2⟩,ob,es,ep,k _ _ (.inl rfl) e,c⟩
 |set S n=>obtain⟨ob,es,ep,t,e,c⟩:=x;exact⟨ob,es,ep,t,k _ _ (.inl rfl) e,c⟩
 | ins C dx fs=>
  obtain⟨d,z,ne,e,mA,⟨od,es,ep,e2,c⟩,r⟩:=x;exact⟨ho _ d,z,ne,k _ _ (.inl rfl) e,mA,⟨od,es,ep,k _ _ (.inr d) e2,c⟩,r⟩
 |own y=>obtain⟨ob,e⟩:=x;exact⟨ob,k _ _ (.inl rfl) e⟩
 |xd fs=>obtain⟨mA,⟨od,es,ep,e,c⟩,r⟩:=x;exact⟨mA,⟨od,es,ep,k _ _ (.inl rfl) e,c⟩,r⟩
 |rng lo hi=>obtain⟨t,u,v,e⟩:=x;exact⟨t,u,v,k _ _ (.inl rfl) e⟩
 |frz ob u ih=>obtain⟨e,q⟩:=x;exact⟨k _ _ (.inl rfl) e,ih q⟩
 | tbl ps=>
  have e:h.get? a=some { cls:= .none,data:= .fields ps }:=x;show h'.get? a=some { cls:= .none,data:= .fields ps };exact k a _ (.inl rfl) e
 | met f y=>
  have e:h.get? a=some (PySem.W.methodObj (.ref f) (.ref y)):=x;show h'.get? a=some (PySem.W.methodObj (.ref f) (.ref y));exact k a _ (.inl rfl) e
 |ext φ=>obtain⟨p,⟨o,e⟩,st⟩:=x;exact⟨st _ _ p fun o q=>k _ _ (.inl rfl) q,⟨o,k _ _ (.inl rfl) e⟩,st⟩
theorem HOk.lt(x:HOk P w H h)(e:H a=some o):a<h.objs.size:=(x a o e).lt
theorem HOk.fresh(x:HOk P w H h)(e:h.objs.size<=a):H a=none:=by
 cases q:H a with
 |none=>rfl
 |some u=>exact absurd (Nat.lt_of_lt_of_le (x.lt q) e) (Nat.lt_irrefl _)
theorem HOk.kept(x:HOk P w H h)(k:∀b u,h.get? b=some u->h'.get? b=some u):HOk P w H h':=fun a o e=>
 (x a o e).stay (fun b u _ q=>k b u q) (fun _ q=>q) fun _ _ q=>q
theorem HOk.laid(x:HOk P w H h)(k:∀b u,h.get? b=some u->h'.get? b=some u)(hp:h.objs.size<=a)(new:qt P w (upd H a o) h' a o):HOk P w (upd H a o) h':=fun b u e=>by
 have hn:=x.fresh hp;by_cases hb:b=a
 ·subst hb;rw[jn]at e;cases e;exact new
 ·rw[js hb]at e
  exact(x b u e).stay (fun c v _ q=>k c v q) (fun c q=>by rw[js (qF q hn)];exact q) fun c xs q=>by rw[js (qF q hn)];exact q
end
noncomputable def Rd(H:Hp)(a:Addr)(u:HO):Prop:=H a=some u∨∃o,H a=some (.frz o u)
theorem Rd.of{H:Hp}{a:Addr}{u:HO}(h:H a=some u):Rd H a u:= .inl h
theorem Rd.ok{P:Program}{w:World}{H:Hp}{h:Heap}{a:Addr}{u:HO}(r:Rd H a u)(x:HOk P w H h):qt P w H h a u:=by
 rcases r with r | ⟨o,r⟩
 ·exact x a u r
 ·obtain⟨_,q⟩:=x a _ r
  exact q
noncomputable def Mut:Option HO->Prop
 |some (.lst _)=>True
 |some (.dK _)=>True
 |some (.dT _)=>True
 |some (.set _ _)=>True
 |some (.ins _ _ _)=>True
 |some (.ext _)=>True
 |_=>False
section
variable {P:Program}{w:World}{H:Hp}{h h':Heap}{x e:Addr}{o':HO}
theorem HOk.write(ok:HOk P w H h)(mu:Mut (H x))(he:e=x∨H e=some (.own x))(k:∀b u,b≠e->h.get? b=some u->h'.get? b=some u)(heo:∃u,h'.get? e=some u)
  (new:qt P w (upd H x o') h' x o'):HOk P w (upd H x o') h':=fun b u q=>by
 have nown:∀c y,H c=some (.own y)->c≠x:=fun c y r z=>by subst z;rw[r]at mu;exact mu
 have ntup:∀c xs,H c=some (.tup xs)->c≠x:=fun c xs r z=>by subst z;rw[r]at mu;exact mu
 by_cases hb:b=x
 ·subst hb;rw[jn]at q;cases q;exact new
 ·rw[js hb]at q
  by_cases hbe:b=e
  ·have q':H b=some (.own x):=by
    rcases he with z | z
    ·exact absurd (hbe.trans z) hb
    ·rw[hbe];exact z
   rw[q]at q';cases q';obtain⟨v,hv⟩:=heo;exact⟨v,by rw[hbe];exact hv⟩
  ·refine(ok b u q).stay (fun c v hc r=>k c v ?_ r) (fun c r=>by rw[js (nown c b r)];exact r) fun c xs r=>by rw[js (ntup c xs r)];exact r
   rcases hc with rfl | hc
   ·exact hbe
   ·rintro rfl
    rcases he with z | z
    ·exact nown c b hc z
    ·rw[hc]at z;cases z;exact hb rfl
end
structure Un(fs ex:List Addr)(H H':Hp)(h h':Heap):Prop where
 keep:∀b o,h.get? b=some o->H b=none->b∉fs->b∉ex->h'.get? b=some o
 slot:∀b o,h.get? b=some o->H b=none->b∈fs->b∉ex->∃sl,h'.get? b=some { o with slots:=sl }
 free:∀b o,h.get? b=some o->H b=none->b∉ex->H' b=none
 there:∀b o,h.get? b=some o->b∉ex->∃o',h'.get? b=some o'
 tups:∀b xs,H b=some (.tup xs)->H' b=some (.tup xs)
 frzs:∀b o u,H b=some (.frz o u)->H' b=some (.frz o u)
 tbls:∀b ps,H b=some (.tbl ps)->∃more,H' b=some (.tbl (ps++more))
section
variable {fs fs' ex ex':List Addr}{H H1 H2:Hp}{h h1 h2 h':Heap}{a x e:Addr}{o:HO}
theorem Un.any(u:Un fs ex H H1 h h1){b:Addr}{ob:Obj}(q:h.get? b=some ob)(n:H b=none)(hx:b∉ex):∃sl,h1.get? b=some { ob with slots:=sl }:=by
 by_cases hb:b∈fs
 ·exact u.slot b ob q n hb hx
 ·exact⟨ob.slots,u.keep b ob q n hb hx⟩
theorem Un.trans(a:Un fs ex H H1 h h1)(b:Un fs ex H1 H2 h1 h2):Un fs ex H H2 h h2 where
 keep:=fun c ob q n hc hx=>b.keep c ob (a.keep c ob q n hc hx) (a.free c ob q n hx) hc hx
 slot:=fun c ob q n hc hx=>by
  obtain⟨sl,e1⟩:=a.slot c ob q n hc hx;obtain⟨sl',e2⟩:=b.slot c _ e1 (a.free c ob q n hx) hc hx;exact⟨sl',e2⟩
 free:=fun c ob q n hx=>by
  obtain⟨o',e1⟩:=a.there c ob q hx;exact b.free c o' e1 (a.free c ob q n hx) hx
 there:=fun c ob q hx=>by
  obtain⟨o',e1⟩:=a.there c ob q hx;exact b.there c o' e1 hx
 tups:=fun c xs q=>b.tups c xs (a.tups c xs q)
 frzs:=fun c ob xs q=>b.frzs c ob xs (a.frzs c ob xs q)
 tbls:=fun c ps q=>by
  obtain⟨m1,e1⟩:=a.tbls c ps q;obtain⟨m2,e2⟩:=b.tbls c _ e1;exact⟨m1++m2,by rw[e2,Array.append_assoc]⟩
theorem Un.kept(k:∀b u,h.get? b=some u->h'.get? b=some u):Un fs ex H H h h':=
 ⟨fun b ob q _ _ _=>k b ob q,fun b ob q _ _ _=>⟨ob.slots,k b ob q⟩,fun _ _ _ n _=>n,fun b ob q _=>⟨ob,k b ob q⟩,fun _ _ q=>q,fun _ _ _ q=>q,fun _ ps q=>⟨#[],by rw[q];simp⟩⟩
theorem Un.refl:Un fs ex H H h h:=Un.kept fun _ _ q=>q
theorem Un.laid(k:∀b u,h.get? b=some u->h'.get? b=some u)(hp:h.objs.size<=a)(hn:H a=none):Un fs ex H (upd H a o) h h' where
 keep:=fun b u q _ _ _=>k b u q
 slot:=fun b u q _ _ _=>⟨u.slots,k b u q⟩
 free:=fun b u q n _=>by rw[js (Nat.ne_of_lt (Nat.lt_of_lt_of_le (Heap.lt_size q) hp))];exact n
 there:=fun b u q _=>⟨u,k b u q⟩
 tups:=fun b xs q=>by rw[js (qF q hn)];exact q
 frzs:=fun b u xs q=>by rw[js (qF q hn)];exact q
 tbls:=fun b ps q=>⟨#[],by rw[js (qF q hn),q];simp⟩
theorem Un.write(mu:Mut (H x))(he:e=x∨H e=some (.own x))(k:∀b u,b≠e->h.get? b=some u->h'.get? b=some u)(heo:∃u,h'.get? e=some u):Un fs ex H (upd H x o) h h':=by
 have hx:∀b,H b=none->b≠x:=fun b n z=>by subst z;rw[n]at mu;exact mu
 have hb:∀b,H b=none->b≠e:=fun b n z=>by
  subst z;rcases he with r | r
  ·exact hx b n r
  ·rw[n]at r;cases r
 have hm:∀b u,H b=some u->¬ Mut (some u)->b≠x:=fun b u q nm z=>by subst z;rw[q]at mu;exact nm mu
 refine⟨fun b u q n _ _=>k b u (hb b n) q,fun b u q n _ _=>⟨u.slots,k b u (hb b n) q⟩,fun b u q n _=>by rw[js (hx b n)];exact n,fun b u q _=>?_,
  fun b xs q=>by rw [js (hm b _ q fun z=>z)]; exact q,fun b u xs q=>by rw [js (hm b _ q fun z=>z)]; exact q,fun b ps q=>⟨#[],by rw [js (hm b _ q fun z=>z),q]; simp⟩⟩
 by_cases hbe:b=e
 ·subst hbe;exact heo
 ·exact⟨u,k b u hbe q⟩
theorem Un.mono(u:Un fs ex H H1 h h1)(hs:∀b∈fs,b∈fs')(hx:∀b∈ex,b∈ex'):Un fs' ex' H H1 h h1:=
 ⟨fun b ob q n hb he=>u.keep b ob q n (fun z=>hb (hs b z)) fun z=>he (hx b z),fun _ _ q n _ he=>u.any q n fun z=>he (hx _ z),fun b ob q n he=>u.free b ob q n fun z=>he (hx b z),fun b ob q he=>u.there b ob q fun z=>he (hx b z),u.tups,u.frzs,u.tbls⟩
end
noncomputable def trk(h:Heap)(H:Hp):List Addr:=(List.range h.objs.size).filter fun a=>(H a).isSome
noncomputable def aeB(h:Heap)(H:Hp):Heap:=PySem.W.hideAll h (trk h H)
theorem ajX(h:Heap)(H:Hp):(aeB h H).objs.size=h.objs.size:=PySem.W.hideAll_size _ _
theorem ak7{h:Heap}{H:Hp}{b:Addr}{o:Obj}(e:h.get? b=some o)(n:H b=none):(aeB h H).get? b=some o:=
 PySem.W.hideAll_get _ e fun hm=>by
  have q:(H b).isSome=true:=(List.mem_filter.mp hm).2;rw[n]at q;simp at q
theorem anC{h:Heap}{H:Hp}{b:Addr}{o:Obj}(e:(aeB h H).get? b=some o):h.get? b=some o/\H b=none:=by
 have e':h.get? b=some o:=PySem.W.of_hideAll (trk h H) e;refine⟨e',?_⟩;cases q:H b with
 |none=>rfl
 | some x=>
  have hm:b∈trk h H:=List.mem_filter.mpr ⟨List.mem_range.mpr (Heap.lt_size e'),by simp[q]⟩;have z:(aeB h H).get? b=none:=PySem.W.hideAll_none (trk h H) hm;rw[z]at e;cases e
noncomputable def za(g h:Heap)(L:Addr):List (Addr×Obj):=(List.range h.objs.size).filterMap fun a=>if a=L∨(g.get? a).isSome=true then none else (h.get? a).map fun o=>(a,o)
theorem Q4{g h:Heap}{L a:Addr}{o:Obj}(h1:a≠L)(h2:g.get? a=none)(h3:h.get? a=some o):(a,o)∈za g h L:=
 List.mem_filterMap.mpr ⟨a,List.mem_range.mpr (Heap.lt_size h3),by simp[h1,h2,h3]⟩
theorem acw{g h:Heap}{L:Addr}{p:Addr×Obj}(hp:p∈za g h L):p.1≠L/\g.get? p.1=none/\h.get? p.1=some p.2:=by
 obtain⟨b,_,e⟩:=List.mem_filterMap.mp hp;split at e
 ·cases e
 ·rename_i hn
  cases q:h.get? b with
  |none=>rw[q]at e;simp at e
  | some u=>
   rw[q]at e;simp only[zzE,Option.some.injEq]at e;subst e;refine⟨fun z=>hn (.inl z),?_,q⟩;show g.get? b=none;cases r:g.get? b with
   |none=>rfl
   |some v=>exact(hn (.inr (by simp[r]))).elim
noncomputable def j1(g h:Heap)(L d:Addr):List (Addr×Obj):=(za g h L).filter fun p=>decide (p.1≠d)
theorem aga{g h:Heap}{L:Addr}:News g L h (za g h L):=fun p hp=>let ⟨a,b,c⟩:=acw hp;⟨c,a,b⟩
structure Mod(K:Fg)(mg:SV)(base:Heap):Prop where
 kin:K.In base
 glob:base.Ns mainGlobals mg
 blt:∃mb,base.Ns builtinsNs mb/\∀x:Str,x≠"__name__"->mb x=bootBuiltins x
 nolimit:base.NoLimit
structure Cx where
 prog:Program
 w:World
 K:Fg
 mg:SV
 base:Heap
 A:Around
 N:List Str
 s₀:Shared
 H₀:Hp
 env:Env
 Ko:List Env
 stack:List Env
 ex:List Addr
 fn:Str->Bool
 calm:Bool
 pn:List (Addr×Obj)
 xe:Value->SP0
noncomputable def frs(l:List Env):List Addr:=l.filterMap (·.frame)
noncomputable abbrev Cx.fs(X:Cx):List Addr:=frs X.Ko
noncomputable def Vis(sc:Scope)(x:Str):Prop:=sc.names.lookup x=some .local∨sc.names.lookup x=some .cell∨sc.names.lookup x=some .free
noncomputable def Loc(sc:Scope)(x:Str):Prop:=sc.names.lookup x=some .local∨sc.names.lookup x=some .cell
noncomputable def asn(env:Env)(h:Heap)(m:SV)(x:Str)(u:Value):Prop:=
 (env.kindOf x=some .local/\m x=some u)∨((env.kindOf x=some .cell∨env.kindOf x=some .free)/\∃c,env.cells.lookup x=some c/\h.IsCell c (some u))
structure Cx.Ok(X:Cx):Prop where
 mod:Mod X.K X.mg X.base
 kind:X.env.scope.kind= .function
 glob:X.env.globals=mainGlobals
 blt:X.env.builtins=builtinsNs
 above:X.s₀.heap.objs.size<=X.env.locals
 inj:∀x y c,X.env.cells.lookup x=some c->X.env.cells.lookup y=some c->x=y
 has:∀x,(X.env.kindOf x=some .cell∨X.env.kindOf x=some .free)->∃c,X.env.cells.lookup x=some c
 cab:∀x c,X.fn x=true->X.env.cells.lookup x=some c->X.s₀.heap.objs.size<=c
 hd:X.calm=true->X.A.handled=none
 frames:X.A.frames=some X.stack
 stk:X.stack=X.Ko∨(X.stack=X.env::X.Ko/\X.env.frame=some X.env.locals)
 exf:∀b∈X.ex,b≠X.env.locals/\∀x c,X.env.cells.lookup x=some c->c≠b
 bs:∀b o,X.base.get? b=some o->X.s₀.heap.get? b=some o/\X.H₀ b=none
 bsz:X.base.objs.size<=X.s₀.heap.objs.size
 noex:∀b o,X.base.get? b=some o->b∉X.ex
 exfs:∀b∈X.ex,b∉X.fs
 funs:X.s₀.heap.FunFrames X.base X.Ko
 frf:∀b∈X.fs,X.H₀ b=none
structure Inv(X:Cx)(Kp:List (Addr×Obj))(σ:List (Option V))(H:Hp)(s:Shared):Prop where
 ok:X.Ok
 os:s.os=X.s₀.os
 bare:AllBare s.gens
 base:Un X.fs X.ex X.H₀ H X.s₀.heap s.heap
 loc:∃m,s.heap.Ns X.env.locals m/\∀(i:Nat) (x:Str) (v:V),X.N[i]?=some x->σ[i]?=some (some v)->Vis X.env.scope x->∃u,jT v u/\asn X.env s.heap m x u
 cell:∀x c,X.env.cells.lookup x=some c->∃v,s.heap.IsCell c v
 free:H X.env.locals=none
 freeC:∀x c,X.env.cells.lookup x=some c->H c=none
 pin:∀p∈X.pn++Kp,s.heap.get? p.1=some p.2/\H p.1=none/\p.1≠X.env.locals/\p.1∉X.fs/\∀v,p.2.data ≠ .cell v
 hok:HOk X.prog X.w H s.heap
 len:σ.length=X.N.length
section
variable {X:Cx}{Kp:List (Addr×Obj)}{σ:List (Option V)}{H H':Hp}{s:Shared}{h':Heap}
theorem Cx.Ok.nofr(ok:X.Ok){b:Addr}{o:Obj}(e:X.base.get? b=some o):b∉X.fs:=fun hb=>by
 have:=(ok.funs.mem hb).1;rw[e]at this;cases this
theorem Inv.bs(I:Inv X Kp σ H s):∀b o,X.base.get? b=some o->s.heap.get? b=some o/\H b=none:=fun b o e=>
 ⟨I.base.keep b o (I.ok.bs b o e).1 (I.ok.bs b o e).2 (I.ok.nofr e) (I.ok.noex b o e),I.base.free b o (I.ok.bs b o e).1 (I.ok.bs b o e).2 (I.ok.noex b o e)⟩
theorem Inv.bk(I:Inv X Kp σ H s):∀b o,X.base.get? b=some o->s.heap.get? b=some o:=fun b o e=>(I.bs b o e).1
theorem Inv.mod(I:Inv X Kp σ H s):Mod X.K X.mg X.base:=I.ok.mod
theorem Inv.kIn(I:Inv X Kp σ H s):X.K.In s.heap:=I.ok.mod.kin.keeps I.bk
theorem Inv.nolimit(I:Inv X Kp σ H s):s.heap.NoLimit:=I.ok.mod.nolimit.keeps I.bk
theorem Inv.fr(I:Inv X Kp σ H s):∃m,Fr X.base X.env.locals s.heap m:=
 let ⟨m,hn,_⟩:=I.loc
 ⟨m,hn,I.bk,Nat.le_trans I.ok.bsz I.ok.above⟩
theorem Inv.lt(I:Inv X Kp σ H s):X.env.locals<s.heap.objs.size:=let ⟨_,hn,_⟩:=I.loc;hn.lt
theorem Inv.sz(I:Inv X Kp σ H s):X.s₀.heap.objs.size<=s.heap.objs.size:=Nat.le_trans I.ok.above (Nat.le_of_lt I.lt)
theorem Inv.nofs(I:Inv X Kp σ H s){a:Addr}(h:s.heap.objs.size<=a):a∉X.fs:=fun hb=>by
 obtain⟨_,o,ho,_⟩:=I.ok.funs.mem hb;exact absurd (Nat.lt_of_lt_of_le (Heap.lt_size ho) (Nat.le_trans I.sz h)) (Nat.lt_irrefl _)
theorem Inv.cne(I:Inv X Kp σ H s):∀x c,X.env.cells.lookup x=some c->c≠X.env.locals:=fun x c e z=>by
 obtain⟨v,o,ho,hd⟩:=I.cell x c e;obtain⟨m,⟨o',es,ep,ho',hd',_⟩,_⟩:=I.loc;rw[z,ho']at ho;cases ho;rw[hd']at hd;cases hd
theorem Inv.funs(I:Inv X Kp σ H s):s.heap.FunFrames X.base X.Ko:=by
 have all:∀(l:List Env),(∀b∈frs l,b∈X.fs)->X.s₀.heap.FunFrames X.base l->s.heap.FunFrames X.base l:=by
  intro l
  induction l with
  |nil=>intro _ _;trivial
  | cons env r ih=>
   intro hs hl;obtain⟨hk,⟨L,o,hf,hn,ho,hd⟩,hr⟩:=hl;have hL:L∈X.fs:=hs L (by unfold frs;rw[List.filterMap_cons,hf];exact List.mem_cons_self);obtain⟨sl,e⟩:=I.base.slot L o ho (I.ok.frf L hL) hL fun z=>I.ok.exfs L z hL;exact⟨hk,⟨L,_,hf,hn,e,hd⟩,ih (fun b hb=>hs b (by unfold frs;rw[List.filterMap_cons,hf];exact List.mem_cons_of_mem _ hb)) hr⟩
 exact all X.Ko (fun _ hb=>hb) I.ok.funs
theorem Inv.stack(I:Inv X Kp σ H s):s.heap.FunFrames X.base X.stack:=by
 rcases I.ok.stk with e | ⟨e,hf⟩
 ·rw[e];exact I.funs
 ·rw[e]
  obtain⟨m,hn,_⟩:=I.loc;refine .cons (by rw[I.ok.kind];decide) hf hn ?_ I.funs;exact Heap.get?_none_of_le (Nat.le_trans I.ok.bsz I.ok.above)
theorem Inv.stkSub(I:Inv X Kp σ H s):∀b∈frs X.stack,b∈X.env.locals::X.fs:=fun b hb=>by
 rcases I.ok.stk with e | ⟨e,hf⟩
 ·rw[e]at hb;exact List.mem_cons_of_mem _ hb
 ·rw[e]at hb
  unfold frs at hb;rw[List.filterMap_cons,hf]at hb;exact hb
theorem Inv.stkFree(I:Inv X Kp σ H s):∀b∈frs X.stack,H b=none:=fun b hb=>by
 rcases List.mem_cons.mp (I.stkSub b hb)with e | hb
 ·rw[e];exact I.free
 ·obtain⟨_,o,ho,_⟩:=I.ok.funs.mem hb
  exact I.base.free b o ho (I.ok.frf b hb) fun z=>I.ok.exfs b z hb
theorem Inv.step{g':Array GenState}{t':Nat}{d':Drawn}{ch:List Addr}(I:Inv X Kp σ H s)
  (hch:∀b∈ch,(b∈X.ex∨X.s₀.heap.objs.size<=b)/\b≠X.env.locals/\(∀x c,X.env.cells.lookup x=some c->c≠b)/\∀p∈X.pn++Kp,p.1≠b)
  (keep:∀b o,b≠X.env.locals->b∉X.fs->b∉ch->s.heap.get? b=some o->H b=none->h'.get? b=some o)
  (slot:∀b o,b≠X.env.locals->b∈X.fs->b∉ch->s.heap.get? b=some o->H b=none->∃sl,h'.get? b=some { o with slots:=sl }) (free:∀b o,b∉ch->s.heap.get? b=some o->H b=none->H' b=none)
  (there:∀b o,b∉ch->s.heap.get? b=some o->∃o',h'.get? b=some o')
  (tups:∀b xs,H b=some (.tup xs)->H' b=some (.tup xs)) (frzs:∀b o u,H b=some (.frz o u)->H' b=some (.frz o u)) (tbls:∀b ps,H b=some (.tbl ps)->∃more,H' b=some (.tbl (ps++more)))
  (ns:∀m,s.heap.Ns X.env.locals m->h'.Ns X.env.locals m) (hok:HOk X.prog X.w H' h') (hg:AllBare g'):
  Inv X Kp σ H' { s with heap:=h',gens:=g',drawn:=d',toks:=t' }:=by
 have neL:∀b o,X.s₀.heap.get? b=some o->b≠X.env.locals:=fun b o e=>Nat.ne_of_lt (Nat.lt_of_lt_of_le (Heap.lt_size e) I.ok.above)
 have neC:∀b o,X.s₀.heap.get? b=some o->b∉X.ex->b∉ch:=fun b o e hx hb=>by
  rcases (hch b hb).1 with z | z
  ·exact hx z
  ·exact absurd (Nat.lt_of_lt_of_le (Heap.lt_size e) z) (Nat.lt_irrefl _)
 have cellK:∀x c,X.env.cells.lookup x=some c->∀v,s.heap.IsCell c v->h'.IsCell c v:=fun x c e v ⟨o,ho,hd⟩=>by
  have nch:c∉ch:=fun z=>(hch c z).2.2.1 x c e rfl;by_cases hc:c∈X.fs
  ·obtain⟨sl,q⟩:=slot c o (I.cne x c e) hc nch ho (I.freeC x c e)
   exact⟨_,q,hd⟩
  ·exact⟨o,keep c o (I.cne x c e) hc nch ho (I.freeC x c e),hd⟩
 refine⟨I.ok,I.os,hg,⟨fun b o e n hb hx=>?_,fun b o e n hb hx=>?_,fun b o e n hx=>?_,fun b o e hx=>?_,fun b xs e=>tups b xs (I.base.tups b xs e),fun b o xs e=>frzs b o xs (I.base.frzs b o xs e),fun b ps e=>?_⟩,?_,fun x c e=>?_,?_,fun x c e=>?_,fun p hp=>?_,hok,I.len⟩
 ·exact keep b o (neL b o e) hb (neC b o e hx) (I.base.keep b o e n hb hx) (I.base.free b o e n hx)
 ·obtain⟨sl,e1⟩:=I.base.slot b o e n hb hx
  obtain⟨sl',e2⟩:=slot b _ (neL b o e) hb (neC b o e hx) e1 (I.base.free b o e n hx);exact⟨sl',e2⟩
 ·obtain⟨o',e1⟩:=I.base.there b o e hx
  exact free b o' (neC b o e hx) e1 (I.base.free b o e n hx)
 ·obtain⟨o',e1⟩:=I.base.there b o e hx
  exact there b o' (neC b o e hx) e1
 ·obtain⟨m1,e1⟩:=I.base.tbls b ps e
  obtain⟨m2,e2⟩:=tbls b _ e1;exact⟨m1++m2,by rw[e2,Array.append_assoc]⟩
 ·obtain⟨m,hn,hl⟩:=I.loc
  refine⟨m,ns m hn,fun i x v e1 e2 e3=>?_⟩;obtain⟨u,r,l⟩:=hl i x v e1 e2 e3;refine⟨u,r,?_⟩;rcases l with l | ⟨k,c,e,z⟩
  ·exact .inl l
  ·exact .inr ⟨k,c,e,cellK x c e _ z⟩
 ·obtain⟨v,z⟩:=I.cell x c e
  exact⟨v,cellK x c e v z⟩
 ·obtain⟨m,⟨o,_,_,ho,_⟩,_⟩:=I.loc
  exact free _ o (fun z=>(hch _ z).2.1 rfl) ho I.free
 ·obtain⟨v,o,ho,hd⟩:=I.cell x c e
  exact free c o (fun z=>(hch c z).2.2.1 x c e rfl) ho (I.freeC x c e)
 ·obtain⟨e,n,ne,nf,d⟩:=I.pin p hp
  have nch:p.1∉ch:=fun z=>(hch p.1 z).2.2.2 p hp rfl;exact⟨keep p.1 p.2 ne nf nch e n,free p.1 p.2 nch e n,ne,nf,d⟩
theorem Inv.un{t':Nat}(I:Inv X Kp σ H s)(u:Un X.fs [] H H' s.heap h')(hok:HOk X.prog X.w H' h'):Inv X Kp σ H' { s with heap:=h',toks:=t' }:=by
 obtain⟨m,⟨o,es,ep,ho,r⟩,_⟩:=id I.loc;obtain⟨sl,hL⟩:=u.any ho I.free (by simp)
 exact I.step (g':=s.gens) (d':=s.drawn) (ch:=[]) (fun _ z=>nomatch z) (fun b o _ hb _ e n=>u.keep b o e n hb (by simp)) (fun b o _ hb _ e n=>u.slot b o e n hb (by simp)) (fun b o _ e n=>u.free b o e n (by simp)) (fun b o _ e=>u.there b o e (by simp)) u.tups u.frzs u.tbls (fun m' hm=>by
  obtain ⟨o',es',ep',ho',r'⟩:=hm;rw [ho] at ho'; cases ho';exact ⟨_,es',ep',hL,r'⟩) hok I.bare
theorem Inv.call{g':Array GenState}{t':Nat}{d':Drawn}{ch:List Addr}(I:Inv X Kp σ H s)(u:Un (frs X.stack) ch H H' s.heap h')(hok:HOk X.prog X.w H' h')(hg:AllBare g')
  (hch:∀b∈ch,(b∈X.ex∨X.s₀.heap.objs.size<=b)/\b≠X.env.locals/\(∀x c,X.env.cells.lookup x=some c->c≠b)/\∀p∈X.pn++Kp,p.1≠b):
  Inv X Kp σ H' { s with heap:=h',gens:=g',drawn:=d',toks:=t' }:=by
 obtain⟨m,⟨o,es,ep,ho,r⟩,_⟩:=id I.loc;obtain⟨sl,hL⟩:=u.any ho I.free fun z=>(hch _ z).2.1 rfl
 exact I.step (ch:=ch) hch (fun b o hL hb hc e n=>u.keep b o e n (fun z=>(List.mem_cons.mp (I.stkSub b z)).elim hL hb) hc) (fun b o _ _ hc e n=>u.any e n hc) (fun b o hc e n=>u.free b o e n hc) (fun b o hc e=>u.there b o e hc) u.tups u.frzs u.tbls (fun m' hm=>by
  obtain ⟨o',es',ep',ho',r'⟩:=hm;rw [ho] at ho'; cases ho';exact ⟨_,es',ep',hL,r'⟩) hok hg
theorem Inv.turned{t':Nat}{it:Addr}(I:Inv X Kp σ H s)(k:∀b o,b≠it->s.heap.get? b=some o->h'.get? b=some o)(hn:H it=none)(hL:it≠X.env.locals)
  (h1:it∈X.ex∨X.s₀.heap.objs.size<=it) (h2:∀x c,X.env.cells.lookup x=some c->c≠it) (h3:∀p∈X.pn++Kp,p.1≠it):Inv X Kp σ H { s with heap:=h',toks:=t' }:=by
 have nit:∀b u,H b=some u->b≠it:=fun b u e z=>by rw[z,hn]at e;cases e
 refine I.step (g':=s.gens) (d':=s.drawn) (ch:=[it]) (fun b hb=>?_) (fun b o _ _ hc e _=>k b o (fun z=>hc (by simp[z])) e) (fun b o _ _ hc e _=>⟨o.slots,k b o (fun z=>hc (by simp[z])) e⟩) (fun _ _ _ _ n=>n)
  (fun b o hc e=>⟨o,k b o (fun z=>hc (by simp[z])) e⟩) (fun _ _ e=>e) (fun _ _ _ e=>e) (fun b ps e=>⟨#[],by rw[e];simp⟩) (fun m hm=>?_) (fun b u e=>?_) I.bare
 ·have e:b=it:=by simpa using hb
  subst e;exact⟨h1,hL,h2,h3⟩
 ·obtain⟨o,es,ep,ho,r⟩:=hm
  exact⟨o,es,ep,k _ o (Ne.symm hL) ho,r⟩
 ·refine(I.hok b u e).stay (fun c v hc q=>k c v ?_ q) (fun _ q=>q) fun _ _ q=>q
  rcases hc with z | z
  ·rw[z];exact nit b u e
  ·exact nit c _ z
theorem Inv.tok(I:Inv X Kp σ H s)(t:Nat):Inv X Kp σ H { s with toks:=t }:=I.un (h':=s.heap) (t':=t) Un.refl I.hok
theorem Inv.kept{t':Nat}(I:Inv X Kp σ H s)(k:∀b u,s.heap.get? b=some u->h'.get? b=some u):Inv X Kp σ H { s with heap:=h',toks:=t' }:=I.un (Un.kept k) (I.hok.kept k)
theorem Inv.laid{a:Addr}{o:HO}{t':Nat}(I:Inv X Kp σ H s)(k:∀b u,s.heap.get? b=some u->h'.get? b=some u)(hp:s.heap.objs.size<=a)(new:qt X.prog X.w (upd H a o) h' a o):
  Inv X Kp σ (upd H a o) { s with heap:=h',toks:=t' }:=I.un (Un.laid k hp (I.hok.fresh hp)) (I.hok.laid k hp new)
theorem Inv.write{x e:Addr}{o:HO}{t':Nat}(I:Inv X Kp σ H s)(mu:Mut (H x))(he:e=x∨H e=some (.own x))(k:∀b u,b≠e->s.heap.get? b=some u->h'.get? b=some u)(heo:∃u,h'.get? e=some u)
  (new:qt X.prog X.w (upd H x o) h' x o):Inv X Kp σ (upd H x o) { s with heap:=h',toks:=t' }:=I.un (Un.write mu he k heo) (I.hok.write mu he k heo new)
theorem Inv.pins_of{pins':List (Addr×Obj)}(I:Inv X Kp σ H s)(h:∀p∈pins',s.heap.get? p.1=some p.2/\H p.1=none/\p.1≠X.env.locals/\p.1∉X.fs/\∀v,p.2.data ≠ .cell v):Inv X pins' σ H s:=
 ⟨I.ok,I.os,I.bare,I.base,I.loc,I.cell,I.free,I.freeC,fun p hp=>(List.mem_append.mp hp).elim (fun z=>I.pin p (List.mem_append_left _ z)) (h p),I.hok,I.len⟩
theorem agb{N:List Str}(hN:N.Nodup){i j:Nat}{x:Str}(a:N[i]?=some x)(b:N[j]?=some x):i=j:=by
 obtain⟨h1,e1⟩:=List.getElem?_eq_some_iff.mp a;obtain⟨h2,e2⟩:=List.getElem?_eq_some_iff.mp b;exact(List.getElem_inj hN).mp (e1.trans e2.symm)
theorem adQ{M:Model}{A:Around}{E:Value->SP0}{i:Nat}{x:Str}{v:V}{u:Value}{Q:Unit->SP0}(I:Inv X Kp σ H s)(hN:X.N.Nodup)(hi:X.N[i]?=some x)(hx:Loc X.env.scope x)(r:jT v u)
  (h:∀s',Inv X Kp (σ.set i (some v)) H s'->(∃a,Heap.SameBut a s.heap s'.heap/\(a=X.env.locals∨X.env.cells.lookup x=some a))->Q () s') (hf:X.fn x=true∨X.env.scope.names.lookup x=some .local:=by first|exact .inl rfl|exact .inr rfl|assumption):wpAny M A (storeName X.env x u) Q E s:=by
 obtain⟨m,hn,hl⟩:=id I.loc;have hcls:(X.env.scope.kind == .class||(X.env.scope.kind == .module&&X.env.locals != X.env.globals))=false:=by rw[I.ok.kind];rfl
 have hiσ:i < σ.length:=by rw[I.len];exact(List.getElem?_eq_some_iff.mp hi).1
 have cne:=I.cne
 have tracked:∀{a:Addr} {h':Heap},(∃o,s.heap.get? a=some o/\H a=none)->Heap.SameBut a s.heap h'->HOk X.prog X.w H h':=fun {a h'} ha hs b ob e=>by
  obtain⟨_,_,hfree⟩:=ha;refine(I.hok b ob e).stay (fun c w' hc q=>(hs.2 c ?_).trans q) (fun _ q=>q) fun _ _ q=>q
  rintro rfl
  rcases hc with rfl | hc
  ·rw[hfree]at e;cases e
  ·rw[hfree]at hc;cases hc
 rcases hx with hk | hk
 ·refine wpAny_storeName_local hk hn (fun h' hn' hs=>?_) hcls
  obtain⟨oL,_,_,hoL,_⟩:=id hn;refine h _ ⟨I.ok,I.os,I.bare,⟨fun b o e n hb hx=>?_,fun b o e n hb hx=>?_,I.base.free,fun b o e hx=>?_,I.base.tups,I.base.frzs,I.base.tbls⟩,⟨_,hn',fun j y v' e1 e2 e3=>?_⟩,fun y c e=>?_,I.free,I.freeC,fun p hp=>?_,tracked ⟨oL,hoL,I.free⟩ hs,by simpa using I.len⟩ ⟨_,hs,.inl rfl⟩
  ·exact(hs.2 b (Nat.ne_of_lt (Nat.lt_of_lt_of_le (Heap.lt_size e) I.ok.above))).trans (I.base.keep b o e n hb hx)
  ·obtain⟨sl,e1⟩:=I.base.slot b o e n hb hx
   exact⟨sl,(hs.2 b (Nat.ne_of_lt (Nat.lt_of_lt_of_le (Heap.lt_size e) I.ok.above))).trans e1⟩
  ·obtain⟨o',e1⟩:=I.base.there b o e hx
   exact⟨o',(hs.2 b (Nat.ne_of_lt (Nat.lt_of_lt_of_le (Heap.lt_size e) I.ok.above))).trans e1⟩
  ·by_cases hj:j=i
   ·subst hj
    rw[hi]at e1;cases e1;rw[List.getElem?_set_self hiσ]at e2;cases e2;exact⟨u,r,.inl ⟨hk,by simp⟩⟩
   ·rw[List.getElem?_set_ne (Ne.symm hj)]at e2
    obtain⟨u',r',q⟩:=hl j y v' e1 e2 e3;refine⟨u',r',?_⟩;rcases q with ⟨k,e⟩ | ⟨k,c,e,z⟩
    ·refine .inl ⟨k,?_⟩
     have:y≠x:=fun e=>hj (agb hN e1 (e▸hi));simp[this,e]
    ·exact .inr ⟨k,c,e,z.sameBut hs (cne y c e)⟩
  ·obtain⟨w',z⟩:=I.cell y c e
   exact⟨w',z.sameBut hs (cne y c e)⟩
  ·obtain⟨e,n,ne,nf,d⟩:=I.pin p hp
   exact⟨(hs.2 p.1 ne).trans e,n,ne,nf,d⟩
 ·have hfn:X.fn x=true:=by
   rcases hf with z | z
   ·exact z
   ·rw[z]at hk;cases hk
  obtain⟨c,hc⟩:=I.ok.has x (.inl hk);obtain⟨w',z⟩:=I.cell x c hc;refine wpAny_storeName_cell I.ok.kind hk hc z (fun h' hc' hs=>?_);obtain⟨oc,hoc,hocd⟩:=id z;refine h { s with heap:=h' } ⟨I.ok,I.os,I.bare,⟨fun b o e n hb hx=>?_,fun b o e n hb hx=>?_,I.base.free,fun b o e hx=>?_,I.base.tups,I.base.frzs,I.base.tbls⟩,⟨m,hn.sameBut hs (Ne.symm (cne x c hc)),fun j y v' e1 e2 e3=>?_⟩,fun y c' e=>?_,I.free,I.freeC,fun p hp=>?_,tracked ⟨oc,hoc,I.freeC x c hc⟩ hs,by simpa using I.len⟩ ⟨c,hs,.inr hc⟩
  ·exact(hs.2 b (Nat.ne_of_lt (Nat.lt_of_lt_of_le (Heap.lt_size e) (I.ok.cab x c hfn hc)))).trans (I.base.keep b o e n hb hx)
  ·obtain⟨sl,e1⟩:=I.base.slot b o e n hb hx
   exact⟨sl,(hs.2 b (Nat.ne_of_lt (Nat.lt_of_lt_of_le (Heap.lt_size e) (I.ok.cab x c hfn hc)))).trans e1⟩
  ·obtain⟨o',e1⟩:=I.base.there b o e hx
   exact⟨o',(hs.2 b (Nat.ne_of_lt (Nat.lt_of_lt_of_le (Heap.lt_size e) (I.ok.cab x c hfn hc)))).trans e1⟩
  ·by_cases hj:j=i
   ·subst hj
    rw[hi]at e1;cases e1;rw[List.getElem?_set_self hiσ]at e2;cases e2;exact⟨u,r,.inr ⟨.inl hk,c,hc,hc'⟩⟩
   ·rw[List.getElem?_set_ne (Ne.symm hj)]at e2
    obtain⟨u',r',q⟩:=hl j y v' e1 e2 e3;refine⟨u',r',?_⟩;rcases q with q | ⟨k,c',e,z'⟩
    ·exact .inl q
    ·refine .inr ⟨k,c',e,z'.sameBut hs ?_⟩
     rintro rfl
     exact hj (agb hN e1 (I.ok.inj _ _ _ e hc▸hi))
  ·by_cases hcc:c'=c
   ·subst hcc;exact⟨_,hc'⟩
   ·obtain⟨w2,z2⟩:=I.cell y c' e
    exact⟨w2,z2.sameBut hs hcc⟩
  ·obtain⟨e,n,ne,nf,d⟩:=I.pin p hp
   refine⟨(hs.2 p.1 ?_).trans e,n,ne,nf,d⟩;intro q;rw[q,hoc]at e;have q':oc=p.2:=Option.some.inj e;exact d w' (by rw[←q'];exact hocd)
theorem agc{M:Model}{A:Around}{E:Value->SP0}{i:Nat}{x:Str}{v:V}{u:Value}{Q:Unit->SP0}(I:Inv X Kp σ H s)(hN:X.N.Nodup)(hi:X.N[i]?=some x)(hx:Loc X.env.scope x)(r:jT v u)
  (h:∀s',Inv X Kp (σ.set i (some v)) H s'->Q () s') (hf:X.fn x=true∨X.env.scope.names.lookup x=some .local:=by first|exact .inl rfl|exact .inr rfl|assumption):wpAny M A (storeName X.env x u) Q E s:=
 adQ I hN hi hx r (fun s' I' _=>h s' I') hf
theorem Inv.call'{s':Shared}{ch:List Addr}(I:Inv X Kp σ H s)(ho:s'.os=s.os)(u:Un (frs X.stack) ch H H' s.heap s'.heap)(hok:HOk X.prog X.w H' s'.heap)(hg:AllBare s'.gens)
  (hch:∀b∈ch,(b∈X.ex∨X.s₀.heap.objs.size<=b)/\b≠X.env.locals/\(∀x c,X.env.cells.lookup x=some c->c≠b)/\∀p∈X.pn++Kp,p.1≠b):Inv X Kp σ H' s':=by
 obtain⟨h',g',d',t',o'⟩:=s';have e:o'=s.os:=ho;subst e;exact I.call (g':=g') (t':=t') (d':=d') u hok hg hch
end
noncomputable abbrev XK:=Value->Option Addr->Hp->Prop
noncomputable abbrev St:=List (Option V)
noncomputable abbrev VK:=V->Hp->Prop
noncomputable abbrev TE:=St->Hp->VK->Prop
noncomputable abbrev TT:=St->Hp->(Bool->Hp->Prop)->Prop
noncomputable abbrev TA:=St->Hp->(List V->Hp->Prop)->Prop
structure Ends where
 nx:St->Hp->Prop
 rt:VK
 bk:St->Hp->Prop:=fun _ _=>False
 ct:St->Hp->Prop:=fun _ _=>False
noncomputable abbrev TS:=Ends->St->Hp->Prop
noncomputable def EP(X:Cx)(Kp:List (Addr×Obj))(σ:St)(Q:VK)(u:Value)(s':Shared):Prop:=∃v H',Inv X Kp σ H' s'/\jT v u/\Q v H'
noncomputable def TP(X:Cx)(Kp:List (Addr×Obj))(σ:St)(Q:Bool->Hp->Prop)(b:Bool)(s':Shared):Prop:=∃H',Inv X Kp σ H' s'/\Q b H'
noncomputable def AP(X:Cx)(Kp:List (Addr×Obj))(σ:St)(Q:List V->Hp->Prop)(us:List Value)(s':Shared):Prop:=∃vs H',Inv X Kp σ H' s'/\jG vs us/\Q vs H'
noncomputable def SP(X:Cx)(Kp:List (Addr×Obj))(D:Ends)(f:Flow)(s':Shared):Prop:=
 match f with
 |.next=>∃σ' H',Inv X Kp σ' H' s'/\D.nx σ' H'
 |.brk=>∃σ' H',Inv X Kp σ' H' s'/\D.bk σ' H'
 |.cont=>∃σ' H',Inv X Kp σ' H' s'/\D.ct σ' H'
 |.ret u=>∃v σ' H',Inv X Kp σ' H' s'/\jT v u/\D.rt v H'
noncomputable def PE(X:Cx)(e:Expr)(t:TE):Prop:=
 ∀(Kp:List (Addr×Obj)) (s:Shared) (σ:St) (H:Hp) (Q:VK),Inv X Kp σ H s->t σ H Q->wpAny (model X.prog X.w) X.A (eval e X.env) (EP X Kp σ Q) X.xe s
noncomputable def PT(X:Cx)(e:Expr)(t:TT):Prop:=
 ∀(Kp:List (Addr×Obj)) (s:Shared) (σ:St) (H:Hp) (Q:Bool->Hp->Prop),Inv X Kp σ H s->t σ H Q->wpAny (model X.prog X.w) X.A (isTrue e X.env (eval e X.env)) (TP X Kp σ Q) X.xe s
noncomputable def PW(X:Cx)(e:Expr)(t:TT):Prop:=
 ∀(whole:Sem Value) (Kp:List (Addr×Obj)) (s:Shared) (σ:St) (H:Hp) (Q:Bool->Hp->Prop),Inv X Kp σ H s->t σ H Q->wpAny (model X.prog X.w) X.A (isTrue e X.env whole) (TP X Kp σ Q) X.xe s
theorem PW.pt{X:Cx}{e:Expr}{t:TT}(h:PW X e t):PT X e t:=h _
noncomputable def PA(X:Cx)(es:List Expr)(t:TA):Prop:=
 ∀(pos:Pos) (Kp:List (Addr×Obj)) (s:Shared) (σ:St) (H:Hp) (Q:List V->Hp->Prop),Inv X Kp σ H s->t σ H Q->wpAny (model X.prog X.w) X.A (spliced (backTo pos (starEach es X.env))) (AP X Kp σ Q) X.xe s
noncomputable def PS(X:Cx)(st:Stmt)(t:TS):Prop:=
 ∀(Kp:List (Addr×Obj)) (s:Shared) (σ:St) (H:Hp) (D:Ends),Inv X Kp σ H s->t D σ H->wpAny (model X.prog X.w) X.A (exec st X.env) (SP X Kp D) X.xe s
noncomputable def PSs(X:Cx)(st:List Stmt)(t:TS):Prop:=
 ∀(Kp:List (Addr×Obj)) (s:Shared) (σ:St) (H:Hp) (D:Ends),Inv X Kp σ H s->t D σ H->wpAny (model X.prog X.w) X.A (execs st X.env) (SP X Kp D) X.xe s
theorem thn{α:Type}{t:Sem α}{Q Q':α->SP0}{M:Model}{A:Around}{E:Value->SP0}{s:Shared}(h:wpAny M A t Q E s)(hQ:∀a s,Q a s->Q' a s):wpAny M A t Q' E s:=wpAny_mono h hQ fun _ _ x=>x
section
variable {X:Cx}
noncomputable def apO(i:Nat):TE:=fun σ H Q=>∃v,σ[i]?=some (some v)/\Q v H
noncomputable def tC(v:V):TE:=fun _ H Q=>Q v H
theorem QC{i:Nat}{x:Str}{pos:Pos}(hN:X.N[i]?=some x)(hv:Vis X.env.scope x)(hd:(x==("__debug__":Str))=false:=by decide)(hcd:(x==("__classdict__":Str))=false:=by decide):PE X (.Name x pos) (apO i):=by
 intro Kp s σ H Q I h;obtain⟨v,e,h⟩:=h;obtain⟨m,hn,hl⟩:=I.loc;obtain⟨u,r,l⟩:=hl i x v hN e hv;have fin:EP X Kp σ Q u s:=⟨v,H,I,r,h⟩;rcases l with ⟨hk,hm⟩ | ⟨hk,c,hc,hcell⟩
 ·exact wpAny_Name (wpAny_loadName_local I.ok.kind hk hn hm fin) hd
 ·rcases hk with hk | hk
  ·exact wpAny_Name (wpAny_loadName_cell I.ok.kind hk hc hcell fin) hd
  ·exact wpAny_Name (wpAny_loadName_free I.ok.kind hk hc hcell fin hcd) hd
theorem ak8{i j pos}:PE X (.Constant (.int i) j pos) (tC (.int i)):=fun _ _ _ H _ I h=>wpAny_Constant_int ⟨.int i,H,I.tok _,⟨_,rfl⟩,h⟩
theorem arf{b j pos}:PE X (.Constant (.bool b) j pos) (tC (.bl b)):=fun _ _ _ H _ I h=>Constant_bool ⟨.bl b,H,I,rfl,h⟩
theorem ak9{j pos}:PE X (.Constant .none j pos) (tC .non):=fun _ _ _ H _ I h=>Constant_none ⟨.non,H,I,rfl,h⟩
theorem ala{x j pos}:PE X (.Constant (.str x) j pos) (tC (.str x)):=fun _ _ _ H _ I h=>Calls.Constant_str ⟨.str x,H,I.tok _,⟨_,rfl⟩,h⟩
noncomputable def Gl(X:Cx)(x:Str):Prop:=X.env.kindOf x=some .globalImplicit
theorem aab{E:Value->SP0}{Kp:List (Addr×Obj)}{s:Shared}{σ:St}{H:Hp}{x:Str}{u:Value}{pos:Pos}{Q:Value->SP0}(I:Inv X Kp σ H s)(hg:Gl X x)(hm:X.mg x=some u)(h:Q u s)
  (hd:(x==("__debug__":Str))=false:=by decide):wpAny (model X.prog X.w) X.A (eval (.Name x pos) X.env) Q E s:=
 Calls.Name_function_global I.ok.kind hg (Calls.loadGlobal_global (by rw[I.ok.glob];exact I.mod.glob.keeps I.bk) hm h) hd
theorem aaZ{E:Value->SP0}{Kp:List (Addr×Obj)}{s:Shared}{σ:St}{H:Hp}{x:Str}{u:Value}{pos:Pos}{Q:Value->SP0}(I:Inv X Kp σ H s)(hg:Gl X x)(hm:X.mg x=none)(hv:bootBuiltins x=some u)(h:Q u s)
  (hn:x≠"__name__":=by decide) (hd:(x==("__debug__":Str))=false:=by decide):wpAny (model X.prog X.w) X.A (eval (.Name x pos) X.env) Q E s:=by
 obtain⟨mb,h1,h2⟩:=I.mod.blt;exact Calls.Name_function_global I.ok.kind hg (Calls.loadGlobal_builtin (by rw[I.ok.glob];exact I.mod.glob.keeps I.bk) hm (by rw[I.ok.blt];exact h1.keeps I.bk) ((h2 x hn).trans hv) h) hd
theorem aeC{x:Str}{v:V}{u:Value}{pos:Pos}(hg:Gl X x)(hm:X.mg x=some u)(r:jT v u)(hd:(x==("__debug__":Str))=false:=by decide):PE X (.Name x pos) (tC v):=
 fun _ _ _ H _ I h=>aab I hg hm ⟨v,H,I,r,h⟩ hd
theorem aiV{x:Str}{v:V}{u:Value}{pos:Pos}(hg:Gl X x)(hm:X.mg x=none)(hv:bootBuiltins x=some u)(r:jT v u)(hn:x≠"__name__":=by decide)(hd:(x==("__debug__":Str))=false:=by decide):PE X (.Name x pos) (tC v):=
 fun _ _ _ H _ I h=>aaZ I hg hm hv ⟨v,H,I,r,h⟩ hn hd
variable {a b:Expr}{ta tb:TE}{pos:Pos}
noncomputable def PC(X:Cx)(op:CmpOp)(a b:Expr)(t:TE):Prop:=
 ∀(Kp:List (Addr×Obj)) (s:Shared) (σ:St) (H:Hp) (Q:VK),Inv X Kp σ H s->t σ H Q->
  wpAny (model X.prog X.w) X.A (eval a X.env) (fun v s₁=>wpAny (model X.prog X.w) X.A (eval b X.env) (fun u s₂=>wpAny (model X.prog X.w) X.A (compareOp op v u) (EP X Kp σ Q) X.xe s₂) X.xe s₁) X.xe s
theorem alb(b:Expr){op:CmpOp}(h:op ≠ .In)(h2:op ≠ .NotIn):behindInMarks op b=false:=by
 have e1:(op==CmpOp.In)=false:=by cases op<;>first|rfl|exact absurd rfl h
 have e2:(op==CmpOp.NotIn)=false:=by cases op<;>first|rfl|exact absurd rfl h2
 cases b<;>simp[behindInMarks,e1,e2]
noncomputable def tB(t:TE):TT:=fun σ H Q=>t σ H fun x H1=>∃c,x= .bl c/\Q c H1
theorem apP{op:CmpOp}{t:TE}(h:PC X op a b t)(h1:behindInMarks op b=false:=by first|exact alb _ (by decide) (by decide)|rfl):PT X (.Compare a [op] [b] pos) (tB t):=by
 intro Kp s σ H Q I hw;refine wpAny_isTrue_Compare1 (thn (h Kp s σ H _ I hw) fun v s1 h1=>thn h1 fun u s2 h2=>thn h2 fun c s3 ⟨x,H1,I1,r1,q1⟩=>?_) h1;obtain⟨d,rfl,q⟩:=q1;cases r1;exact wpAny_truthy_bool ⟨H1,I1,q⟩
theorem apQ{e:Expr}{t:TE}(h:PE X e t)(he:∀whole,isTrue e X.env whole=(do let v ←whole;standAt e.pos;holding [v] (truthy v)):=by intro _;rfl):PT X e (tB t):=by
 intro Kp s σ H Q I hw;refine isTrue_plain (thn (h Kp s σ H _ I hw) fun v s1 ⟨x,H1,I1,r1,q1⟩=>?_) (he _);obtain⟨d,rfl,q⟩:=q1;cases r1;exact wpAny_truthy_bool ⟨H1,I1,q⟩
variable {tA tB':TT}{j1:List Expr}
noncomputable def aso(t u:TT):TT:=fun σ H Q=>t σ H fun c H1=>if c=true then u σ H1 Q else Q false H1
noncomputable def tOr(t u:TT):TT:=fun σ H Q=>t σ H fun c H1=>if c=true then Q true H1 else u σ H1 Q
noncomputable def asp(t:TT):TT:=fun σ H Q=>t σ H fun c H1=>Q (!c) H1
theorem anD(ha:PT X a tA):PW X (.BoolOp .And [a] pos) tA:=by
 intro wh Kp s σ H Q I h;refine isTrue_and (thn (ha Kp s σ H Q I h) fun c s1 e=>?_);cases c with
 |true=>exact isTrue_and_nil e
 |false=>exact e
theorem alc(ha:PT X a tA):PW X (.BoolOp .Or [a] pos) tA:=by
 intro wh Kp s σ H Q I h;refine isTrue_or (thn (ha Kp s σ H Q I h) fun c s1 e=>?_);cases c with
 |false=>exact isTrue_or_nil e
 |true=>exact e
theorem apR(ha:PT X a tA)(hb:PW X (.BoolOp .And (b::j1) pos) tB'):PW X (.BoolOp .And (a::b::j1) pos) (aso tA tB'):=by
 intro wh Kp s σ H Q I h;refine isTrue_and (thn (ha Kp s σ H _ I h) fun c s1 ⟨H1,I1,q1⟩=>?_);cases c with
 |true=>exact hb wh Kp s1 σ H1 Q I1 q1
 |false=>exact⟨H1,I1,q1⟩
theorem aph(ha:PT X a tA)(hb:PW X (.BoolOp .Or (b::j1) pos) tB'):PW X (.BoolOp .Or (a::b::j1) pos) (tOr tA tB'):=by
 intro wh Kp s σ H Q I h;refine isTrue_or (thn (ha Kp s σ H _ I h) fun c s1 ⟨H1,I1,q1⟩=>?_);cases c with
 |true=>exact⟨H1,I1,q1⟩
 |false=>exact hb wh Kp s1 σ H1 Q I1 q1
theorem apS(ha:PT X a tA):PT X (.UnaryOp .Not a pos) (asp tA):=by
 intro Kp s σ H Q I h;exact isTrue_not (ha Kp s σ H (fun c H1=>Q (!c) H1) I h)
noncomputable def arh(ta tb:TE):TE:=fun σ H Q=>ta σ H fun x H1=>∃c,x= .bl c/\if c=true then tb σ H1 Q else Q (.bl false) H1
theorem apT{op}{t:TE}(h:PE X a t):PE X (.BoolOp op [a] pos) t:=fun Kp s σ H Q I hw=>BoolOp_one (h Kp s σ H Q I hw)
theorem apU(ha:PE X a ta)(hb:PE X (.BoolOp .And (b::j1) pos) tb):PE X (.BoolOp .And (a::b::j1) pos) (arh ta tb):=by
 intro Kp s σ H Q I h;refine BoolOp_and (thn (ha Kp s σ H _ I h) fun v s1 ⟨x,H1,I1,r1,q1⟩=>?_);obtain⟨c,rfl,q1⟩:=q1;cases r1;refine wpAny_truthy_bool ?_;cases c with
 |true=>exact hb Kp s1 σ H1 Q I1 q1
 |false=>exact⟨.bl false,H1,I1,rfl,q1⟩
noncomputable def tIf(t:TT)(ta tb:TE):TE:=fun σ H Q=>t σ H fun c H1=>if c=true then ta σ H1 Q else tb σ H1 Q
theorem ald{c:Expr}(hc:PT X c tA)(ha:PE X a ta)(hb:PE X b tb):PE X (.IfExp c a b pos) (tIf tA ta tb):=by
 intro Kp s σ H Q I h;refine wpAny_IfExp (thn (hc Kp s σ H _ I h) fun d s1 ⟨H1,I1,q1⟩=>?_);cases d with
 |true=>exact ha Kp s1 σ H1 Q I1 q1
 |false=>exact hb Kp s1 σ H1 Q I1 q1
end
noncomputable def SqL(K:Fg)(H:Hp)(a:Addr)(xs:List V):Prop:=
 Rd H a (.lst xs) ∨
  ∃(o:Obj) (its:Array Value) (n:Nat),K.lookup a=some o/\o.cls= .type "list"/\o.dict=none/\o.data= .seq its n/\its.size<=sizeLine/\jG xs its.toList
noncomputable def SqT(K:Fg)(H:Hp)(a:Addr)(xs:List V):Prop:=
 Rd H a (.tup xs) ∨
  ∃(o:Obj) (its:Array Value) (n:Nat),K.lookup a=some o/\o.cls= .type "tuple"/\o.data= .seq its n/\its.size<=sizeLine/\jG xs its.toList
noncomputable def asq:Value->Option V
 |.none=>some .non
 |.bool b=>some (.bl b)
 |.int i _=>some (.int i)
 |.str x _=>some (.str x)
 |.bytes b _=>some (.byt b)
 |.float b _=>some (.flt b)
 |.ref a=>some (.ref a)
 |.type n=>some (.ty n)
 |_=>none
theorem jT.abs{x:V}{u:Value}(r:jT x u):asq u=some x:=by
 cases x with
 |non=>cases r;rfl
 |bl _=>cases r;rfl
 |int _=>obtain⟨t,rfl⟩:=r;rfl
 |str _=>obtain⟨t,rfl⟩:=r;rfl
 |byt _=>obtain⟨t,rfl⟩:=r;rfl
 |flt _=>obtain⟨t,rfl⟩:=r;rfl
 |ref _=>cases r;rfl
 |ty _=>cases r;rfl
theorem jT.inj{x y:V}{u:Value}(r:jT x u)(q:jT y u):x=y:=Option.some.inj (r.abs.symm.trans q.abs)
theorem jG.inj:∀{xs ys:List V}{us:List Value},jG xs us->jG ys us->xs=ys
 |_,_,_,.nil,.nil=>rfl
 |_,_,_,.cons r t,.cons r' t'=>by rw[r.inj r',jG.inj t t']
section
variable {X:Cx}{Kp:List (Addr×Obj)}{σ:St}{H:Hp}{s:Shared}{a:Addr}{xs ys:List V}
theorem SqL.of{K:Fg}(h:H a=some (.lst xs)):SqL K H a xs:= .inl (.inl h)
theorem SqT.of{K:Fg}(h:H a=some (.tup xs)):SqT K H a xs:= .inl (.inl h)
theorem Inv.list(I:Inv X Kp σ H s)(h:SqL X.K H a xs):∃its:List Value,jG xs its/\PlainL s.heap a its.toArray/\xs.length<=sizeLine:=by
 rcases h with h | ⟨o,its,n,hk,hc,hd,hs,hz,r⟩
 ·obtain⟨z,its,n,r,e⟩:=h.ok I.hok
  exact⟨its,r,⟨_,n,e,rfl,rfl,rfl⟩,z⟩
 ·refine⟨its.toList,r,⟨o,n,I.kIn a o hk,hc,hd,by simpa using hs⟩,?_⟩
  have e:=r.length;simp only[Array.length_toList]at e;omega
theorem Inv.tuple(I:Inv X Kp σ H s)(h:SqT X.K H a xs):∃its:List Value,jG xs its/\IsTup s.heap a its.toArray/\xs.length<=sizeLine:=by
 rcases h with h | ⟨o,its,n,hk,hc,hs,hz,r⟩
 ·obtain⟨z,its,r,p⟩:=h.ok I.hok
  exact⟨its,r,p,z⟩
 ·refine⟨its.toList,r,⟨o,I.kIn a o hk,hc,n,by simpa using hs⟩,?_⟩
  have e:=r.length;simp only[Array.length_toList]at e;omega
theorem Inv.list_inj(I:Inv X Kp σ H s)(h:SqL X.K H a xs)(h':SqL X.K H a ys):xs=ys:=by
 obtain⟨its,r,⟨o,n,e,_,_,d⟩,_⟩:=I.list h;obtain⟨its',r',⟨o',n',e',_,_,d'⟩,_⟩:=I.list h';rw[e]at e';cases e';rw[d]at d';injection d' with d1 _
 have:its=its':=by simpa using congrArg Array.toList d1
 subst this;exact r.inj r'
theorem Inv.tuple_inj(I:Inv X Kp σ H s)(h:SqT X.K H a xs)(h':SqT X.K H a ys):xs=ys:=by
 obtain⟨its,r,⟨o,e,_,n,d⟩,_⟩:=I.tuple h;obtain⟨its',r',⟨o',e',_,n',d'⟩,_⟩:=I.tuple h';rw[e]at e';cases e';rw[d]at d';injection d' with d1 _
 have:its=its':=by simpa using congrArg Array.toList d1
 subst this;exact r.inj r'
end
noncomputable abbrev Cx.wish(X:Cx)(E:Value->SP0):Cx:={ X with xe:=E }
noncomputable abbrev Cx.nox(X:Cx):Cx:=X.wish fun _ _=>False
theorem Cx.Ok.wish{X:Cx}(ok:X.Ok)(E:Value->SP0):(X.wish E).Ok:=
 ⟨ok.mod,ok.kind,ok.glob,ok.blt,ok.above,ok.inj,ok.has,ok.cab,ok.hd,ok.frames,ok.stk,ok.exf,ok.bs,ok.bsz,ok.noex,ok.exfs,ok.funs,ok.frf⟩
theorem Cx.Ok.unwish{X:Cx}{E:Value->SP0}(ok:(X.wish E).Ok):X.Ok:=
 ⟨ok.mod,ok.kind,ok.glob,ok.blt,ok.above,ok.inj,ok.has,ok.cab,ok.hd,ok.frames,ok.stk,ok.exf,ok.bs,ok.bsz,ok.noex,ok.exfs,ok.funs,ok.frf⟩
section
variable {X:Cx}{Kp:List (Addr×Obj)}{σ:St}{H:Hp}{s:Shared}{E:Value->SP0}
theorem Inv.wish(I:Inv X Kp σ H s)(E:Value->SP0):Inv (X.wish E) Kp σ H s:=⟨I.ok.wish E,I.os,I.bare,I.base,I.loc,I.cell,I.free,I.freeC,I.pin,I.hok,I.len⟩
theorem Inv.unwish(I:Inv (X.wish E) Kp σ H s):Inv X Kp σ H s:=⟨I.ok.unwish,I.os,I.bare,I.base,I.loc,I.cell,I.free,I.freeC,I.pin,I.hok,I.len⟩
theorem SP.unwish{D:Ends}{f:Flow}{s':Shared}(h:SP (X.wish E) Kp D f s'):SP X Kp D f s':=by
 cases f with
 |next=>obtain⟨σ',H',I,q⟩:=h;exact⟨σ',H',I.unwish,q⟩
 |brk=>obtain⟨σ',H',I,q⟩:=h;exact⟨σ',H',I.unwish,q⟩
 |cont=>obtain⟨σ',H',I,q⟩:=h;exact⟨σ',H',I.unwish,q⟩
 |ret u=>obtain⟨v,σ',H',I,r,q⟩:=h;exact⟨v,σ',H',I.unwish,r,q⟩
theorem PE.nox{e:Expr}{t:TE}(h:PE X.nox e t):PE X e t:=fun Kp s σ H Q I hw=>
 wpAny_mono (h Kp s σ H Q (I.wish _) hw) (fun _ _ ⟨v,H',I',r,q⟩=>⟨v,H',I'.unwish,r,q⟩) fun _ _ z=>False.elim z
theorem PT.nox{e:Expr}{t:TT}(h:PT X.nox e t):PT X e t:=fun Kp s σ H Q I hw=>
 wpAny_mono (h Kp s σ H Q (I.wish _) hw) (fun _ _ ⟨H',I',q⟩=>⟨H',I'.unwish,q⟩) fun _ _ z=>False.elim z
theorem PSs.nox{st:List Stmt}{t:TS}(h:PSs X.nox st t):PSs X st t:=fun Kp s σ H D I hw=>
 wpAny_mono (h Kp s σ H D (I.wish _) hw) (fun _ _ q=>q.unwish) fun _ _ z=>False.elim z
end
section
variable {X:Cx}{st:Stmt}{j1:List Stmt}{t u:TS}{e:Expr}{te:TE}{pos:Pos}
noncomputable def ari:TS:=fun D σ H=>D.nx σ H
noncomputable def asr(t u:TS):TS:=fun D σ H=>t { D with nx:=u D } σ H
theorem aeD:PSs X [] ari:=fun _ _ σ H _ I h=>wpAny_execs_nil ⟨σ,H,I,h⟩
theorem Je(h1:PS X st t)(h2:PSs X j1 u):PSs X (st::j1) (asr t u):=by
 intro Kp s σ H D I h;refine wpAny_execs_cons (thn (h1 Kp s σ H { D with nx:=u D } I h) fun f s1 q=>?_);cases f with
 | next=>
  obtain⟨σ',H',I',q⟩:=q;exact h2 Kp s1 σ' H' D I' q
 |ret v=>exact q
 |brk=>exact q
 |cont=>exact q
theorem aeE(h1:PS X st t):PSs X [st] t:=by
 intro Kp s σ H D I h;refine wpAny_execs_cons (thn (h1 Kp s σ H D I h) fun f s1 q=>?_);cases f with
 |next=>exact wpAny_execs_nil q
 |ret v=>exact q
 |brk=>exact q
 |cont=>exact q
theorem Inv.quiet{Kp:List (Addr×Obj)}{σ:St}{H:Hp}{s:Shared}(I:Inv X Kp σ H s):interactive X.env=false:=by simp[interactive,I.ok.kind]
noncomputable def arj(te:TE):TS:=fun D σ H=>te σ H fun _ H1=>D.nx σ H1
theorem abX(he:PE X e te)(hs:swapsWith e none pos.line X.env=pure false:=by rfl):PS X (.Expr e pos) (arj te):=by
 intro Kp s σ H D I h;exact wpAny_Expr_any (thn (he Kp s σ H _ I h) fun v s1 ⟨x,H1,I1,r1,q1⟩=>⟨σ,H1,I1,q1⟩) I.quiet hs
noncomputable def ass(te:TE):TS:=fun D σ H=>te σ H D.rt
theorem aeF(he:PE X e te):PS X (.Return (some e) pos) (ass te):=by
 intro Kp s σ H D I h;exact wpAny_Return_some (thn (he Kp s σ H _ I h) fun v s1 ⟨x,H1,I1,r1,q1⟩=>⟨x,σ,H1,I1,r1,q1⟩)
noncomputable def ast(c:TT)(t u:TS):TS:=fun D σ H=>c σ H fun b H1=>if b=true then t D σ H1 else u D σ H1
theorem api{c:Expr}{a b:List Stmt}{tc:TT}(hc:PT X c tc)(ha:PSs X a t)(hb:PSs X b u):PS X (.If c a b pos) (ast tc t u):=by
 intro Kp s σ H D I h;refine wpAny_If (thn (hc Kp s σ H _ I h) fun d s1 ⟨H1,I1,q1⟩=>?_);cases d with
 |true=>exact ha Kp s1 σ H1 D I1 q1
 |false=>exact hb Kp s1 σ H1 D I1 q1
noncomputable def ale:TS:=fun _ _ _=>False
theorem alf:PS X st ale:=fun _ _ _ _ _ _ h=>h.elim
theorem ajY{sts:List Stmt}:PSs X sts ale:=fun _ _ _ _ _ _ h=>h.elim
end
noncomputable abbrev TG:=V->St->Hp->(St->Hp->Prop)->Prop
noncomputable abbrev TGs:=List V->St->Hp->(St->Hp->Prop)->Prop
noncomputable def PG(X:Cx)(target:Expr)(t:TG):Prop:=
 ∀(Kp:List (Addr×Obj)) (s:Shared) (σ:St) (H:Hp) (v:V) (u:Value) (Q:St->Hp->Prop),Inv X Kp σ H s->jT v u->t v σ H Q->
  wpAny (model X.prog X.w) X.A (assign target X.env u) (fun _ s'=>∃σ' H',Inv X Kp σ' H' s'/\Q σ' H') X.xe s
noncomputable def PGs(X:Cx)(ts:List Expr)(t:TGs):Prop:=
 ∀(Kp:List (Addr×Obj)) (s:Shared) (σ:St) (H:Hp) (vs:List V) (us:List Value) (Q:St->Hp->Prop),Inv X Kp σ H s->jG vs us->t vs σ H Q->
  wpAny (model X.prog X.w) X.A (assignInOrder ((assignEach ts X.env).map (·.2)) us) (fun _ s'=>∃σ' H',Inv X Kp σ' H' s'/\Q σ' H') X.xe s
noncomputable abbrev apV:=V->V->V->Hp->(Hp->Prop)->Prop
noncomputable def anE(X:Cx)(t:apV):Prop:=
 ∀(Kp:List (Addr×Obj)) (s:Shared) (σ:St) (H:Hp) (o i v:V) (ov iv u:Value) (Q:Hp->Prop),Inv X Kp σ H s->jT o ov->jT i iv->jT v u->t o i v H Q->
  wpAny (model X.prog X.w) X.A (setItem ov iv u) (fun _ s'=>∃H',Inv X Kp σ H' s'/\Q H') X.xe s
section
variable {X:Cx}{pos:Pos}
noncomputable def alg(i:Nat):TG:=fun v σ H Q=>Q (σ.set i (some v)) H
theorem aeG{i:Nat}{x:Str}(hN:X.N.Nodup)(hi:X.N[i]?=some x)(hx:Loc X.env.scope x)(hf:X.fn x=true∨X.env.scope.names.lookup x=some .local:=by first|exact .inl rfl|exact .inr rfl|assumption):PG X (.Name x pos) (alg i):=by
 intro Kp s σ H v u Q I r h;exact wpAny_assign_Name (agc I hN hi hx r (fun s' I'=>⟨_,H,I',h⟩) hf)
noncomputable def asu:TGs:=fun vs σ H Q=>vs=[]/\Q σ H
noncomputable def ark(t:TG)(u:TGs):TGs:=fun vs σ H Q=>∃v r,vs=v::r/\t v σ H fun σ' H'=>u r σ' H' Q
theorem anF:PGs X [] asu:=by
 intro Kp s σ H vs us Q I r h;obtain⟨e,h⟩:=h;subst e;cases r;exact assignInOrder_nil ⟨σ,H,I,h⟩
theorem alh{e:Expr}{es:List Expr}{t:TG}{u:TGs}(h1:PG X e t)(h2:PGs X es u)
  (hs:(assignEach (e::es) X.env).map (·.2)=assign e X.env::(assignEach es X.env).map (·.2):=by rfl):PGs X (e::es) (ark t u):=by
 intro Kp s σ H vs us Q I r h;obtain⟨v,vr,e1,h⟩:=h;subst e1;cases r with
 | cons r rr=>
  rw[hs];refine assignInOrder_cons (thn (h1 Kp s σ H _ _ _ I r h) fun _ s1 ⟨σ1,H1,I1,q1⟩=>?_);exact h2 Kp s1 σ1 H1 _ _ Q I1 rr q1
noncomputable def asv(K:Fg)(n:Nat)(t:TGs):TG:=fun v σ H Q=>∃a xs,v= .ref a/\SqT K H a xs/\xs.length=n/\t xs σ H Q
theorem apW{es:List Expr}{k:Nat}{t:TGs}{n:Nat}(hc:X.calm=true)(h:PGs X es t)
  (hn:(assignEach es X.env).length=n:=by rfl) (hst:(assignEach es X.env).findIdx? (·.1)=none:=by rfl):PG X (.Tuple es k pos) (asv X.K n t):=by
 intro Kp s σ H v u Q I r hw;obtain⟨a,xs,e1,hq,hl,hw⟩:=hw;subst e1;cases r;obtain⟨its,rv,ht,hz⟩:=I.tuple hq;refine assign_Tuple_tuple (I.ok.hd hc) ht (by simp[hn,←hl,rv.length]) hst fun h' hx=>?_;have I1:Inv X Kp σ H { s with heap:=h' }:=I.kept (t':=s.toks) fun b o e=>hx b o (Nat.ne_of_lt (Heap.lt_size e)) e;exact h Kp _ σ H xs _ Q I1 (by simpa using rv) hw
noncomputable def asw(to ti:TE)(t:apV):TG:=fun v σ H Q=>to σ H fun o H1=>ti σ H1 fun i H2=>t o i v H2 fun H3=>Q σ H3
theorem ahr{o i:Expr}{to ti:TE}{t:apV}(ho:PE X o to)(hi:PE X i ti)(hs:anE X t)
  (ha:∀v,assign (.Subscript o i pos) X.env v=(do
   let ov ←holding [v] (eval o X.env)
   let iv ←holding [v,ov] (eval i X.env)
   standAt pos
   holding [v,ov,iv] (setItem ov iv v)
   release [v,ov,iv] []):=by intro _; rfl):PG X (.Subscript o i pos) (asw to ti t):=by
 intro Kp s σ H v u Q I r h;rw[ha];refine wpAny_bind (wpAny_holding (thn (ho Kp s σ H _ I h) fun ov s1 ⟨x,H1,I1,r1,q1⟩=>?_));refine wpAny_bind (wpAny_holding (thn (hi Kp s1 σ H1 _ I1 q1) fun iv s2 ⟨y,H2,I2,r2,q2⟩=>?_));refine wpAny_bind (wpAny_standAt (wpAny_bind (wpAny_holding (thn (hs Kp s2 σ H2 x y v ov iv u _ I2 r1 r2 r q2) fun _ s3 ⟨H3,I3,q3⟩=>?_))));exact wpAny_release ⟨σ,H3,I3,q3⟩
noncomputable def apX(te:TE)(g:TG):TS:=fun D σ H=>te σ H fun x H1=>g x σ H1 D.nx
theorem acx{tg e:Expr}{te:TE}{g:TG}(he:PE X e te)(hg:PG X tg g)(hs:swapsWithSole [tg] e pos.line X.env=pure false:=by rfl)(hw:swappedStores [tg] e X.env=pure none:=by rfl)
  (h1:(assignEach [tg] X.env).map (·.2)=[assign tg X.env]:=by rfl):PS X (.Assign [tg] e pos) (apX te g):=by
 intro Kp s σ H D I h;refine wpAny_Assign_stores (thn (he Kp s σ H _ I h) fun v s1 ⟨x,H1,I1,r1,q1⟩=>?_) hs hw;rw[h1];exact thn (hg Kp s1 σ H1 x v _ I1 r1 q1) fun _ s2 q=>q
theorem aa0{i:Nat}{x:Str}{e:Expr}{te:TE}{pos':Pos}(hN:X.N.Nodup)(hi:X.N[i]?=some x)(hx:Loc X.env.scope x)(he:PE X e te)(hs:swapsWith e (some (.Name x pos')) pos.line X.env=pure false:=by rfl)(hf:X.fn x=true∨X.env.scope.names.lookup x=some .local:=by first|exact .inl rfl|exact .inr rfl|assumption):
  PS X (.Assign [.Name x pos'] e pos) (apX te (alg i)):=by
 intro Kp s σ H D I h;refine wpAny_Assign_Name (thn (he Kp s σ H _ I h) fun v s1 ⟨y,H1,I1,r1,q1⟩=>?_) hs;exact agc I1 hN hi hx r1 (fun s2 I2=>⟨_,H1,I2,q1⟩) hf
end
section
variable {X:Cx}{pos:Pos}
noncomputable def apY(c:TT)(tb:TS):TS:=fun D σ H=>∃W:Nat->St->Hp->Prop,(∃m,W m σ H)/\∀m σ H,W m σ H->
 c σ H fun b H1=>if b=true then ∃N:St->Hp->Prop,(∀σ' H',N σ' H'->∃m',m' < m/\W m' σ' H')/\tb { D with nx:=N,ct:=N,bk:=D.nx } σ H1 else D.nx σ H1
theorem ali{c:Expr}{body:List Stmt}{tc:TT}{tb:TS}(hp:PassesOwn (model X.prog X.w) X.A X.env X.xe)(hc:PT X c tc)(hb:PSs X body tb):PS X (.While c body [] pos) (apY tc tb):=by
 intro Kp s σ H D I h;obtain⟨W,⟨m0,w0⟩,turn⟩:=h;refine wpAny_While (codeAny_whileLoop (fun n s'=>∃σ' H',Inv X Kp σ' H' s'/\W n σ' H') ?_ m0 ⟨σ,H,I,w0⟩)
 rintro n s1 ⟨σ1,H1,I1,w1⟩
 refine wpAny_passesOwn hp (thn (hc Kp s1 σ1 H1 _ I1 (turn n σ1 H1 w1)) fun b s2 ⟨H2,I2,q2⟩=>?_);cases b with
 | true=>
  obtain⟨N,hN,q2⟩:=q2;rw[if_pos rfl];refine wpAny_passesOwn hp (thn (hb Kp s2 σ1 H2 _ I2 q2) fun f s3 q3=>?_);cases f with
  | next=>
   obtain⟨σ3,H3,I3,n3⟩:=q3;obtain⟨m',hm,w3⟩:=hN σ3 H3 n3;exact⟨m',hm,σ3,H3,I3,w3⟩
  | cont=>
   obtain⟨σ3,H3,I3,n3⟩:=q3;obtain⟨m',hm,w3⟩:=hN σ3 H3 n3;exact⟨m',hm,σ3,H3,I3,w3⟩
  |brk=>exact q3
  |ret v=>exact q3
 | false=>
  rw[if_neg Bool.false_ne_true];exact wpAny_execs_nil ⟨σ1,H2,I2,q2⟩
end
structure It where
 go:Nat->Hp->Prop
 yld:Nat->Hp->V->Hp->Prop
 stop:Nat->Hp->Prop
noncomputable def aeH(X:Cx)(Kp:List (Addr×Obj))(H:Hp)(b:Addr):Prop:=
 H b=none/\b≠X.env.locals/\b∉X.fs/\(b∈X.ex∨X.s₀.heap.objs.size<=b)/\(∀x c,X.env.cells.lookup x=some c->c≠b)/\∀p∈X.pn++Kp,p.1≠b
theorem Inv.fpOk{X:Cx}{Kp:List (Addr×Obj)}{σ:St}{H H':Hp}{s:Shared}{b:Addr}(I:Inv X Kp σ H s)(hb:s.heap.objs.size<=b)(hn:H' b=none):aeH X Kp H' b:=by
 refine⟨hn,Nat.ne_of_gt (Nat.lt_of_lt_of_le I.lt hb),I.nofs hb,.inr (Nat.le_trans I.sz hb),fun x c e z=>?_,fun p hp z=>?_⟩
 ·obtain⟨v,q⟩:=I.cell x c e
  exact absurd (Nat.lt_of_lt_of_le q.lt (by rw[z];exact hb)) (Nat.lt_irrefl _)
 ·exact absurd (Nat.lt_of_lt_of_le (Heap.lt_size (I.pin p hp).1) (by rw[z];exact hb)) (Nat.lt_irrefl _)
structure Turn(P:Program)(w:World)(K:Fg)(tg:Expr)(J:It)(fp:List Addr)(it:Addr)(tn:Nat->Heap->Prop):Prop where
 mem:it∈fp
 obj:∀i h,tn i h->∀b∈fp,∃o,h.get? b=some o/\∀v,o.data ≠ .cell v
 keep:∀i h h',tn i h->(∀b∈fp,∀o,h.get? b=some o->h'.get? b=some o)->tn i h'
 item:∀(X:Cx),X.prog=P->X.w=w->X.K=K->X.calm=true->∀(i:Nat) (Kp:List (Addr×Obj)) (s:Shared) (σ:St) (H:Hp) (E:Value->SP0),Inv X Kp σ H s->(∀b∈fp,aeH X Kp H b)->tn i s.heap->J.go i H->
  wpAny (model P w) X.A (pyNext (.ref it)) (fun r s1=>∃u,r=some u/\
   wpAny (model P w) X.A (letOwnedTupleGo tg (.ref it) u) (fun _ s2=>∃ x H',Inv X Kp σ H' s2/\jT x u/\J.yld i H x H'/\tn (i+1) s2.heap/\∀ b ∈ fp,H' b=none) E s1) E s
 done:∀(X:Cx),X.prog=P->X.w=w->X.K=K->X.calm=true->∀(i:Nat) (Kp:List (Addr×Obj)) (s:Shared) (σ:St) (H:Hp) (E:Value->SP0),Inv X Kp σ H s->(∀b∈fp,aeH X Kp H b)->tn i s.heap->J.stop i H->
  wpAny (model P w) X.A (pyNext (.ref it)) (fun r s1=>r=none/\Inv X Kp σ H s1) E s
 self:∀(A:Around) (i:Nat) (s:Shared) (Q:Value->SP0) (E:Value->SP0),tn i s.heap->Q (.ref it) s->wpAny (model P w) A (pyIter (.ref it)) Q E s
noncomputable abbrev TI:=St->Hp->(It->Hp->Prop)->Prop
noncomputable def PIE(X:Cx)(Kp:List (Addr×Obj))(σ:St)(tg:Expr)(R:It->Hp->Prop)(itv:Value)(s2:Shared):Prop:=
 ∃(it:Addr) (fp:List Addr) (tn:Nat->Heap->Prop) (J:It) (H':Hp),itv= .ref it/\Inv X Kp σ H' s2/\Turn X.prog X.w X.K tg J fp it tn/\tn 0 s2.heap/\(∀b∈fp,aeH X Kp H' b)/\R J H'
noncomputable def PI(X:Cx)(tg iter:Expr)(wi:TI):Prop:=
 ∀(Kp:List (Addr×Obj)) (s:Shared) (σ:St) (H:Hp) (R:It->Hp->Prop),Inv X Kp σ H s->wi σ H R->
  wpAny (model X.prog X.w) X.A (eval iter X.env) (fun v s1=>wpAny (model X.prog X.w) X.A (pyIter v) (PIE X Kp σ tg R) X.xe s1) X.xe s
theorem aiW{M : Model}{A : Around}{E : Value -> Shared -> Prop}{s : Shared}{tg : Expr}{it : Addr}{u : Value}{o : Obj}{n : String}{vs : Array Value}{Q : Unit -> Shared -> Prop}(ho : s.heap.get? it = some o)(hc : o.cls = .type n)(hd : o.data = .fields vs)
    (hn : ["enumerate", "zip", "dict_itemiterator", "dict_reverseitemiterator", "odict_iterator", "itertools.zip_longest", "itertools.pairwise"].contains n = false) (hQ : Q () s) : wpAny M A (letOwnedTupleGo tg (.ref it) u) Q E s := by
  unfold letOwnedTupleGo
  cases tg<;>first
    |exact wpAny_pure hQ
    | (cases u<;>first
        | exact wpAny_pure hQ
        | (refine wpAny_bind (wpAny_load ho ?_)
           rw [hc, hd];show wpAny M A (if (["enumerate", "zip", "dict_itemiterator", "dict_reverseitemiterator", "odict_iterator", "itertools.zip_longest", "itertools.pairwise"].contains n && vs[0]? == some (rawInt _)) = true then _ else _) Q E s;rw [if_neg (by intro h; rw [hn, Bool.false_and] at h; cases h)];exact wpAny_pure hQ))
noncomputable def Itl(K:Fg)(a:Addr):It:=
 ⟨fun i H=>∃xs x,SqL K H a xs/\xs[i]?=some x,fun i H x H'=>H'=H/\∀xs,SqL K H a xs->xs[i]?=some x,fun i H=>∃xs,SqL K H a xs/\xs.length<=i⟩
noncomputable def Itt(K:Fg)(a:Addr):It:=
 ⟨fun i H=>∃xs x,SqT K H a xs/\xs[i]?=some x,fun i H x H'=>H'=H/\∀xs,SqT K H a xs->xs[i]?=some x,fun i H=>∃xs,SqT K H a xs/\xs.length<=i⟩
noncomputable def Itr(lo:Int)(n:Nat):It:=⟨fun i _=>i<n,fun i H x H'=>H'=H/\x= .int (lo+i),fun i _=>n<=i⟩
theorem ajZ{P:Program}{w:World}{K:Fg}{tg:Expr}(a it:Addr):Turn P w K tg (Itl K a) [it] it (fun i h=>h.IsListIter it a i) where
 mem:=by simp
 obj:=fun i h st b hb=>by
  have e:b=it:=by simpa using hb
  subst e;obtain⟨o,e,c,d⟩:=st;exact⟨o,e,fun v z=>by rw[d]at z;cases z⟩
 keep:=fun i h h' st k=>st.at fun o e=>k it (by simp) o e
 item:=by
  intro X hP hw hK hc i Kp s σ H E I hf st hg;subst hP hw hK;obtain⟨xs,x,hq,hx⟩:=hg;obtain⟨its,rv,p,hz⟩:=I.list hq;obtain⟨u,hu,ru⟩:=rv.get hx;obtain⟨f0,f1,f2,f3,f4,f5⟩:=hf it (by simp);refine wpAny_pyNext_list_item st p.isList (x:=u) (by simpa using hu) fun h' st' sb=>?_;have I1:Inv X Kp σ H { s with heap:=h' }:=I.turned (t':=s.toks) (fun b o hb e=>(sb.2 b hb).trans e) f0 f1 f3 f4 f5;obtain⟨o,e,c,d⟩:=id st';exact⟨u,rfl,aiW (s:={ s with heap:=h' }) e c d (by decide) ⟨x,H,I1,ru,⟨rfl,fun ys hy=>by rw[I.list_inj hy hq];exact hx⟩,st',fun b hb=>(hf b hb).1⟩⟩
 done:=by
  intro X hP hw hK hc i Kp s σ H E I hf st hg;subst hP hw hK;obtain⟨xs,hq,hx⟩:=hg;obtain⟨its,rv,p,hz⟩:=I.list hq;obtain⟨f0,f1,f2,f3,f4,f5⟩:=hf it (by simp);have hl:=rv.length;exact wpAny_pyNext_list_end (I.ok.hd hc) st p.isList (by simp;omega) fun h' eb=>⟨rfl,I.turned (t':=s.toks) (fun b o hb e=>eb b o hb e) f0 f1 f3 f4 f5⟩
 self:=fun _ _ _ _ _ st h=>wpAny_pyIter_listiter st h
theorem ahs{P:Program}{w:World}{K:Fg}{tg:Expr}(a it:Addr):Turn P w K tg (Itt K a) [it] it (fun i h=>h.IsTupleIter it a i) where
 mem:=by simp
 obj:=fun i h st b hb=>by
  have e:b=it:=by simpa using hb
  subst e;obtain⟨o,e,c,d⟩:=st;exact⟨o,e,fun v z=>by rw[d]at z;cases z⟩
 keep:=fun i h h' st k=>st.at fun o e=>k it (by simp) o e
 item:=by
  intro X hP hw hK hc i Kp s σ H E I hf st hg;subst hP hw hK;obtain⟨xs,x,hq,hx⟩:=hg;obtain⟨its,rv,p,hz⟩:=I.tuple hq;obtain⟨u,hu,ru⟩:=rv.get hx;obtain⟨f0,f1,f2,f3,f4,f5⟩:=hf it (by simp);refine wpAny_pyNext_tuple_item st (show s.heap.IsTuple a its.toArray from p) (x:=u) (by simpa using hu) fun h' st' sb=>?_;have I1:Inv X Kp σ H { s with heap:=h' }:=I.turned (t':=s.toks) (fun b o hb e=>(sb.2 b hb).trans e) f0 f1 f3 f4 f5;obtain⟨o,e,c,d⟩:=id st';exact⟨u,rfl,aiW (s:={ s with heap:=h' }) e c d (by decide) ⟨x,H,I1,ru,⟨rfl,fun ys hy=>by rw[I.tuple_inj hy hq];exact hx⟩,st',fun b hb=>(hf b hb).1⟩⟩
 done:=by
  intro X hP hw hK hc i Kp s σ H E I hf st hg;subst hP hw hK;obtain⟨xs,hq,hx⟩:=hg;obtain⟨its,rv,p,hz⟩:=I.tuple hq;obtain⟨f0,f1,f2,f3,f4,f5⟩:=hf it (by simp);have hl:=rv.length;exact wpAny_pyNext_tuple_end (I.ok.hd hc) st (show s.heap.IsTuple a its.toArray from p) (by simp;omega) fun h' eb=>⟨rfl,I.turned (t':=s.toks) (fun b o hb e=>eb b o hb e) f0 f1 f3 f4 f5⟩
 self:=fun _ _ _ _ _ st h=>wpAny_pyIter_tupleiter st h
theorem aht{P:Program}{w:World}{K:Fg}{tg:Expr}(it:Addr)(lo:Int)(n:Nat):Turn P w K tg (Itr lo n) [it] it (fun i h=>IsRangeIter h it (lo+(i:Nat)*1) ((n:Int)-(i:Nat)) 1) where
 mem:=by simp
 obj:=fun i h st b hb=>by
  have e:b=it:=by simpa using hb
  subst e
  exact⟨_,st,fun v z=>by
   have z':Data.fields _=Data.cell v:=z;cases z'⟩
 keep:=fun i h h' st k=>k it (by simp) _ st
 item:=by
  intro X hP hw hK hc i Kp s σ H E I hf st hg;subst hP hw hK;obtain⟨f0,f1,f2,f3,f4,f5⟩:=hf it (by simp);have W:=Walks.range (prog:=X.prog) (w:=X.w) (I.ok.hd hc) it lo 1 n;refine W.item i s _ _ hg st fun v h' tk hv st' kk=>?_;obtain⟨t,rfl⟩:=hv;have I1:Inv X Kp σ H { s with heap:=h',toks:=tk }:=I.turned (fun b o hb e=>kk b o (by simpa using hb) e) f0 f1 f3 f4 f5;refine⟨_,rfl,aiW (s:={ s with heap:=h',toks:=tk }) (n:="range_iterator") st' rfl rfl (by decide) ⟨.int (lo+i),H,I1,⟨t,?_⟩,⟨rfl,rfl⟩,st',fun b hb=>(hf b hb).1⟩⟩;rw[Int.mul_one]
 done:=by
  intro X hP hw hK hc i Kp s σ H E I hf st hg;subst hP hw hK;obtain⟨f0,f1,f2,f3,f4,f5⟩:=hf it (by simp);exact wpAny_pyNext_range_end (I.ok.hd hc) st (by have:n<=i:=hg;omega) fun h' eb=>⟨rfl,I.turned (t':=s.toks) (fun b o hb e=>eb b o hb e) f0 f1 f3 f4 f5⟩
 self:=fun _ _ _ _ _ st h=>wpAny_pyIter_rangeiter st h
section
variable {X:Cx}{tg:Expr}
noncomputable def arl(K:Fg)(tl:TE):TI:=fun σ H R=>tl σ H fun x H1=>∃a,x= .ref a/\(∃xs,SqL K H1 a xs)/\R (Itl K a) H1
noncomputable def asx(K:Fg)(tl:TE):TI:=fun σ H R=>tl σ H fun x H1=>∃a,x= .ref a/\(∃xs,SqT K H1 a xs)/\R (Itt K a) H1
theorem aiX{l:Expr}{tl:TE}(hl:PE X l tl):PI X tg l (arl X.K tl):=by
 intro Kp s σ H R I h;refine thn (hl Kp s σ H _ I h) fun v s1 ⟨x,H1,I1,r1,q1⟩=>?_;obtain⟨a,e,⟨xs,hq⟩,q⟩:=q1;subst e;cases r1;obtain⟨its,rv,p,hz⟩:=I1.list hq;refine wpAny_pyIter_list p.isList ?_;refine⟨s1.heap.objs.size,[s1.heap.objs.size],_,_,H1,rfl,I1.kept (t':=s1.toks) fun b o e=>Heap.get?_push_of_some _ e,ajZ a _,⟨_,Heap.get?_push_size _ rfl,rfl,rfl⟩,fun b hb=>?_,q⟩;have e:b=s1.heap.objs.size:=by simpa using hb
 subst e;exact I1.fpOk (Nat.le_refl _) (I1.hok.fresh (Nat.le_refl _))
theorem apZ{l:Expr}{tl:TE}(hl:PE X l tl):PI X tg l (asx X.K tl):=by
 intro Kp s σ H R I h;refine thn (hl Kp s σ H _ I h) fun v s1 ⟨x,H1,I1,r1,q1⟩=>?_;obtain⟨a,e,⟨xs,hq⟩,q⟩:=q1;subst e;cases r1;obtain⟨its,rv,p,hz⟩:=I1.tuple hq;refine wpAny_pyIter_tuple (show s1.heap.IsTuple a its.toArray from p) ?_;refine⟨s1.heap.objs.size,[s1.heap.objs.size],_,_,H1,rfl,I1.kept (t':=s1.toks) fun b o e=>Heap.get?_push_of_some _ e,ahs a _,⟨_,Heap.get?_push_size _ rfl,rfl,rfl⟩,fun b hb=>?_,q⟩;have e:b=s1.heap.objs.size:=by simpa using hb
 subst e;exact I1.fpOk (Nat.le_refl _) (I1.hok.fresh (Nat.le_refl _))
theorem alj{Kp:List (Addr×Obj)}{σ:St}{H:Hp}{s:Shared}{R:It->Hp->Prop}{E:Value->SP0}{lo hi:Int}{t u v:Tok}{tk:Nat}(I:Inv X Kp σ H s)(h1:-(2 ^ 62)<=lo)(h2:lo<2 ^ 62)(h3:-(2 ^ 62)<=hi)(h4:hi<2 ^ 62)
  (q:R (Itr lo (hi-lo).toNat) H):wpAny (model X.prog X.w) X.A (pyIter (.ref s.heap.objs.size)) (PIE X Kp σ tg R) E { s with heap:=s.heap.push { cls:= .type "range",data:= .fields #[.int lo t,.int hi u,.int 1 v] },toks:=tk }:=by
 refine wpAny_pyIter_range (IsRange.new ..) (small_one h1 h2 h3 h4) ?_;have I1:Inv X Kp σ H { s with heap:=s.heap.push { cls:= .type "range",data:= .fields #[.int lo t,.int hi u,.int 1 v] },toks:=tk }:=I.kept fun b o e=>Heap.get?_push_of_some _ e
 refine⟨(s.heap.push { cls:= .type "range",data:= .fields #[.int lo t,.int hi u,.int 1 v] }).objs.size,[(s.heap.push { cls:= .type "range",data:= .fields #[.int lo t,.int hi u,.int 1 v] }).objs.size],_,_,H,rfl,
  I1.kept (t':=tk) fun b o e=>Heap.get?_push_of_some _ e,aht _ lo (hi - lo).toNat,?_,fun b hb=>?_,q⟩
 ·have e1:lo+((0:Nat):Int)*1=lo:=by simp
  have e2:(((hi-lo).toNat:Nat):Int)-((0:Nat):Int)=Builtin.Range.rangeSize lo hi 1:=by rw[rangeSize_one];split<;>omega
  show IsRangeIter _ _ (lo+((0:Nat):Int)*1) ((((hi-lo).toNat:Nat):Int)-((0:Nat):Int)) 1;rw[e1,e2];exact Heap.get?_push_size _ rfl
 ·have e:b=(s.heap.push { cls:= .type "range",data:= .fields #[.int lo t,.int hi u,.int 1 v] }).objs.size:=by simpa using hb
  subst e;exact I1.fpOk (Nat.le_refl _) (I1.hok.fresh (Nat.le_refl _))
noncomputable def arm(ta:TA):TI:=fun σ H R=>ta σ H fun vs H1=>∃j:Int,vs=[.int j]/\-(2 ^ 62)<=j/\j<2 ^ 62/\R (Itr 0 j.toNat) H1
theorem aa1{a:Expr}{ta:TA}{p pos:Pos}(hg:Gl X "range")(hm:X.mg "range"=none)(ha:PA X [a] ta)(hs:starEach [a] X.env=[(false,eval a X.env)]:=by rfl):PI X tg (.Call (.Name "range" p) [a] [] pos) (arm ta):=by
 intro Kp s σ H R I h;refine Call_ (aaZ I hg hm boot_range (PyProof.Rows.callWith_type1 (thn (ha pos Kp s σ H _ I h) fun us s1 ⟨vs,H1,I1,r1,q1⟩=>?_) hs rfl));obtain⟨j,e,q1,q2,q⟩:=q1;subst e;cases r1 with
 | cons r rr=>
  cases rr;obtain⟨t,rfl⟩:=r;exact call_range_1 (alj I1 (by omega) (by omega) q1 q2 (by simpa using q))
noncomputable def asy(wi:TI)(g:TG)(tb:TS):TS:=fun D σ H=>wi σ H fun J H1=>∃W:Nat->Nat->St->Hp->Prop,(∃m,W 0 m σ H1)/\∀i m σ H,W i m σ H->
 (J.stop i H/\D.nx σ H)∨(J.go i H/\∃N:St->Hp->Prop,(∀σ' H',N σ' H'->∃m',m' < m/\W (i+1) m' σ' H')/\∀x H',J.yld i H x H'->g x σ H' fun σ2 H2=>tb { D with nx:=N,ct:=N,bk:=D.nx } σ2 H2)
noncomputable def aa2(fp:List Addr)(h:Heap):List (Addr×Obj):=fp.filterMap fun b=>(h.get? b).map fun o=>(b,o)
theorem zN{fp:List Addr}{h:Heap}{b:Addr}{o:Obj}(hb:b∈fp)(e:h.get? b=some o):(b,o)∈aa2 fp h:=List.mem_filterMap.mpr ⟨b,hb,by rw[e];rfl⟩
theorem aj0{fp:List Addr}{h:Heap}{p:Addr×Obj}(hp:p∈aa2 fp h):p.1∈fp/\h.get? p.1=some p.2:=by
 obtain⟨b,hb,e⟩:=List.mem_filterMap.mp hp;cases q:h.get? b with
 |none=>rw[q]at e;cases e
 | some o=>
  rw[q]at e;have e':(b,o)=p:=Option.some.inj e;subst e';exact⟨hb,q⟩
theorem Inv.pinned{Kp:List (Addr×Obj)}{σ:St}{H:Hp}{s:Shared}{fp:List Addr}(I:Inv X Kp σ H s)(hf:∀b∈fp,aeH X Kp H b)(ho:∀b∈fp,∃o,s.heap.get? b=some o/\∀v,o.data ≠ .cell v):Inv X (Kp++aa2 fp s.heap) σ H s:=
 I.pins_of fun p hp=>(List.mem_append.mp hp).elim (fun z=>I.pin p (List.mem_append_right _ z)) fun z=>by
  obtain⟨hb,e⟩:=aj0 z;obtain⟨f0,f1,f2,_⟩:=hf p.1 hb;obtain⟨o,e',d⟩:=ho p.1 hb;rw[e]at e';cases e';exact⟨e,f0,f1,f2,d⟩
theorem Inv.unpinned{Kp pl:List (Addr×Obj)}{σ:St}{H:Hp}{s:Shared}(I:Inv X (Kp++pl) σ H s):Inv X Kp σ H s:=I.pins_of fun p hp=>I.pin p (List.mem_append_right _ (List.mem_append_left _ hp))
theorem acy{iter:Expr}{body:List Stmt}{wi:TI}{g:TG}{tb:TS}{pos:Pos}(hp:PassesOwn (model X.prog X.w) X.A X.env X.xe)(hc:X.calm=true)(hi:PI X tg iter wi)(hg:PG X tg g)(hb:PSs X body tb)
  (hs:∀x,foldedSetIterable iter X.env x=pure x:=by intro _;rfl):PS X (.For tg iter body [] pos) (asy wi g tb):=by
 intro Kp s σ H D I h;refine wpAny_For (thn (hi Kp s σ H _ I h) fun v s1 h1=>thn h1 fun itv s2 h2=>?_) hs;obtain⟨it,fp,tn,J,H2,e,I2,T,st2,f2,W,⟨m0,w0⟩,turn⟩:=h2;subst e;have stat:∀{H':Hp},(∀b∈fp,H' b=none)->∀b∈fp,aeH X Kp H' b:=fun hn b hb=>⟨hn b hb,(f2 b hb).2⟩;refine codeAny_forLoop_any (fun n s'=>∃i σ' H',Inv X Kp σ' H' s'/\tn i s'.heap/\(∀b∈fp,H' b=none)/\W i n σ' H') ?_ m0 ⟨0,σ,H2,I2,st2,fun b hb=>(f2 b hb).1,w0⟩
 rintro n s3 ⟨i,σ3,H3,I3,st3,fr3,w3⟩
 rcases turn i n σ3 H3 w3 with ⟨stop,qn⟩ | ⟨go,N,hN,step⟩
 ·refine wpAny_passesOwn hp (thn (T.done X rfl rfl rfl hc i Kp s3 σ3 H3 X.xe I3 (stat fr3) st3 stop) fun r s4 ⟨hr,I4⟩=>?_)
  subst hr;exact wpAny_execs_nil ⟨σ3,H3,I4,qn⟩
 ·refine wpAny_passesOwn hp (thn (T.item X rfl rfl rfl hc i Kp s3 σ3 H3 X.xe I3 (stat fr3) st3 go) fun r s4 ⟨u,hr,h4⟩=>?_)
  subst hr;refine wpAny_passesOwn hp (thn h4 fun _ s5 ⟨x,H5,I5,r5,y5,st5,fr5⟩=>?_);have I5':=I5.pinned (stat fr5) (T.obj _ _ st5);refine wpAny_passesOwn hp (thn (hg _ s5 σ3 H5 x u _ I5' r5 (step x H5 y5)) fun _ s6 ⟨σ6,H6,I6,q6⟩=>?_);refine wpAny_passesOwn hp (thn (hb _ s6 σ6 H6 _ I6 q6) fun f s7 q7=>?_)
  have again:∀{σ7:St} {H7:Hp},Inv X (Kp++aa2 fp s5.heap) σ7 H7 s7->N σ7 H7->∃m,m<n/\∃i σ' H',Inv X Kp σ' H' s7/\tn i s7.heap/\(∀b∈fp,H' b=none)/\W i m σ' H':=fun {σ7 H7} I7 n7=>by
   obtain⟨m',hm,w7⟩:=hN σ7 H7 n7;refine⟨m',hm,i+1,σ7,H7,I7.unpinned,T.keep _ _ _ st5 fun b hb o e=>(I7.pin (b,o) (List.mem_append_right _ (List.mem_append_right _ (zN hb e)))).1,fun b hb=>?_,w7⟩;obtain⟨o,e,d⟩:=T.obj _ _ st5 b hb;exact(I7.pin (b,o) (List.mem_append_right _ (List.mem_append_right _ (zN hb e)))).2.1
  cases f with
  |next=>obtain⟨σ7,H7,I7,n7⟩:=q7;exact again I7 n7
  |cont=>obtain⟨σ7,H7,I7,n7⟩:=q7;exact again I7 n7
  |brk=>obtain⟨σ7,H7,I7,q7⟩:=q7;exact⟨σ7,H7,I7.unpinned,q7⟩
  |ret v=>obtain⟨x7,σ7,H7,I7,r7,q7⟩:=q7;exact⟨x7,σ7,H7,I7.unpinned,r7,q7⟩
end
theorem adR{lo:Int}{n:Nat}{g:TG}{tb:TS}{D:Ends}{σ:St}{H:Hp}(Pv:Nat->St->Hp->Prop)(h0:Pv 0 σ H)
  (hs:∀i σ H,i<n->Pv i σ H->g (.int (lo+i)) σ H fun σ2 H2=>tb { D with nx:=Pv (i+1),ct:=Pv (i+1),bk:=D.nx } σ2 H2) (hd:∀σ H,Pv n σ H->D.nx σ H):
  ∃W:Nat->Nat->St->Hp->Prop,(∃m,W 0 m σ H)/\∀i m σ H,W i m σ H->
   ((Itr lo n).stop i H/\D.nx σ H)∨((Itr lo n).go i H/\∃N:St->Hp->Prop,(∀σ' H',N σ' H'->∃m',m' < m/\W (i+1) m' σ' H')/\∀x H',(Itr lo n).yld i H x H'->g x σ H' fun σ2 H2=>tb { D with nx:=N,ct:=N,bk:=D.nx } σ2 H2):=by
 refine⟨fun i m σ H=>m=n-i/\i<=n/\Pv i σ H,⟨n,by simp,Nat.zero_le _,h0⟩,?_⟩
 rintro i m σ H ⟨rfl,hi,p⟩
 by_cases hlt:i<n
 ·refine .inr ⟨hlt,Pv (i+1),fun σ' H' p'=>⟨n-(i+1),by omega,rfl,hlt,p'⟩,fun x H' y=>?_⟩
  obtain⟨e,y⟩:=y;subst e y;exact hs i σ _ hlt p
 ·have e:i=n:=by omega
  subst e;exact .inl ⟨Nat.le_refl _,hd σ H p⟩
noncomputable abbrev R2:=V->V->Hp->VK->Prop
noncomputable def OpR(X:Cx)(f:Value->Value->Sem Value)(r:R2):Prop:=
 ∀(Kp:List (Addr×Obj)) (s:Shared) (σ:St) (H:Hp) (x y:V) (v u:Value) (Q:VK),Inv X Kp σ H s->jT x v->jT y u->r x y H Q->
  wpAny (model X.prog X.w) X.A (f v u) (EP X Kp σ Q) X.xe s
noncomputable def UnR(X:Cx)(f:Value->Sem Value)(r:V->Hp->VK->Prop):Prop:=
 ∀(Kp:List (Addr×Obj)) (s:Shared) (σ:St) (H:Hp) (x:V) (v:Value) (Q:VK),Inv X Kp σ H s->jT x v->r x H Q->
  wpAny (model X.prog X.w) X.A (f v) (EP X Kp σ Q) X.xe s
noncomputable def zh(X:Cx)(f:Value)(r:List V->Hp->VK->Prop):Prop:=
 ∀(Kp:List (Addr×Obj)) (s:Shared) (σ:St) (H:Hp) (xs:List V) (us:List Value) (Q:VK),Inv X Kp σ H s->jG xs us->r xs H Q->
  wpAny (model X.prog X.w) X.A (call f us) (EP X Kp σ Q) X.xe s
noncomputable def tOp(r:R2)(ta tb:TE):TE:=fun σ H Q=>ta σ H fun x H1=>tb σ H1 fun y H2=>r x y H2 Q
noncomputable def tUn(r:V->Hp->VK->Prop)(ta:TE):TE:=fun σ H Q=>ta σ H fun x H1=>r x H1 Q
noncomputable def rI(C:Int->Int->Prop)(g:Int->Int->V):R2:=fun x y H Q=>∃i j,x= .int i/\y= .int j/\C i j/\Q (g i j) H
noncomputable def rI0(g:Int->Int->V):R2:=fun x y H Q=>∃i j,x= .int i/\y= .int j/\Q (g i j) H
noncomputable def rU(g:Int->V):V->Hp->VK->Prop:=fun x H Q=>∃i,x= .int i/\Q (g i) H
section
variable {X:Cx}{a b c:Expr}{ta tb tc:TE}{pos:Pos}
theorem anG(ha:PE X a ta)(hb:PE X b tb){Kp:List (Addr×Obj)}{s:Shared}{σ:St}{H:Hp}{R:V->V->Hp->Prop}(I:Inv X Kp σ H s)
  (h:ta σ H fun x H1=>tb σ H1 fun y H2=>R x y H2) {Q:Value->SP0} {f:Value->Value->Sem Value}
  (hf:∀v u s2 x y H2,Inv X Kp σ H2 s2->jT x v->jT y u->R x y H2->wpAny (model X.prog X.w) X.A (f v u) Q X.xe s2):
  wpAny (model X.prog X.w) X.A (eval a X.env) (fun v s₁=>wpAny (model X.prog X.w) X.A (eval b X.env) (fun u s₂=>wpAny (model X.prog X.w) X.A (f v u) Q X.xe s₂) X.xe s₁) X.xe s:=by
 refine thn (ha Kp s σ H _ I h) fun v s1 ⟨x,H1,I1,r1,q1⟩=>?_;refine thn (hb Kp s1 σ H1 _ I1 q1) fun u s2 ⟨y,H2,I2,r2,q2⟩=>?_;exact hf v u s2 x y H2 I2 r1 r2 q2
theorem apj{op:Operator}{r:R2}(ho:OpR X (binaryOp op) r)(ha:PE X a ta)(hb:PE X b tb):PE X (.BinOp a op b pos) (tOp r ta tb):=by
 intro Kp s σ H Q I h;exact wpAny_BinOp (anG ha hb I h fun v u s2 x y H2 I2 rx ry q=>ho Kp s2 σ H2 x y v u Q I2 rx ry q)
theorem apk{op:UnaryOp}{r:V->Hp->VK->Prop}(ho:UnR X (unaryOp op) r)(ha:PE X a ta):PE X (.UnaryOp op a pos) (tUn r ta):=by
 intro Kp s σ H Q I h;exact UnaryOp_ (thn (ha Kp s σ H _ I h) fun v s1 ⟨x,H1,I1,r1,q1⟩=>ho Kp s1 σ H1 x v Q I1 r1 q1)
theorem opI{f:Value->Value->Sem Value}{C:Int->Int->Prop}{g:Int->Int->Int}
  (rule:∀(i j:Int) (t u:Tok) (s:Shared) (Q:Value->SP0) (E:Value->SP0),C i j->Q (.int (g i j) s.toks) { s with toks:=s.toks+1 }->wpAny (model X.prog X.w) X.A (f (.int i t) (.int j u)) Q E s):
  OpR X f (rI C fun i j=> .int (g i j)):=by
 intro Kp s σ H x y v u Q I rx ry h;obtain⟨i,j,rfl,rfl,hc,q⟩:=h;obtain⟨t,rfl⟩:=rx;obtain⟨t',rfl⟩:=ry;exact rule i j t t' s _ _ hc ⟨.int (g i j),H,I.tok _,⟨_,rfl⟩,q⟩
theorem arn{f:Value->Value->Sem Value}{g:Int->Int->Int}
  (rule:∀(i j:Int) (t u:Tok) (s:Shared) (Q:Value->SP0) (E:Value->SP0),Q (.int (g i j) s.toks) { s with toks:=s.toks+1 }->wpAny (model X.prog X.w) X.A (f (.int i t) (.int j u)) Q E s):
  OpR X f (rI0 fun i j=> .int (g i j)):=by
 intro Kp s σ H x y v u Q I rx ry h;obtain⟨i,j,rfl,rfl,q⟩:=h;obtain⟨t,rfl⟩:=rx;obtain⟨t',rfl⟩:=ry;exact rule i j t t' s _ _ ⟨.int (g i j),H,I.tok _,⟨_,rfl⟩,q⟩
theorem anH{f:Value->Value->Sem Value}{g:Int->Int->Bool}
  (rule:∀(i j:Int) (t u:Tok) (s:Shared) (Q:Value->SP0) (E:Value->SP0),Q (.bool (g i j)) s->wpAny (model X.prog X.w) X.A (f (.int i t) (.int j u)) Q E s):
  OpR X f (rI0 fun i j=> .bl (g i j)):=by
 intro Kp s σ H x y v u Q I rx ry h;obtain⟨i,j,rfl,rfl,q⟩:=h;obtain⟨t,rfl⟩:=rx;obtain⟨t',rfl⟩:=ry;exact rule i j t t' s _ _ ⟨.bl (g i j),H,I,rfl,q⟩
noncomputable def asz(i j:Int):Prop:=0<j/\j<1073741824
noncomputable def ap0(i j:Int):Prop:=(-(2 ^ 64)<i/\i<2 ^ 64)∨(-(2 ^ 64)<j/\j<2 ^ 64)
theorem ap0.ok{i j:Int}(h:ap0 i j):IntMulOk i j:=by
 rcases h with ⟨h1,h2⟩ | ⟨h1,h2⟩
 ·exact .of_left (intBits_le_64 h1 h2)
 ·exact .of_right (intBits_le_64 h1 h2)
theorem ap1:OpR X (binaryOp .Add) (rI0 fun i j=> .int (i+j)):=arn fun _ _ _ _ _ _ _ q=>add_int q
theorem ap2:OpR X (binaryOp .Sub) (rI0 fun i j=> .int (i-j)):=arn fun _ _ _ _ _ _ _ q=>sub_int q
theorem ap3:OpR X (binaryOp .Mult) (rI ap0 fun i j=> .int (i*j)):=opI fun _ _ _ _ _ _ _ hc q=>mul_int q hc.ok
theorem anI:OpR X (binaryOp .FloorDiv) (rI asz fun i j=> .int (i / j)):=opI fun i j _ _ _ _ _ hc q=>by
 have h1:(0:Int)<j:=hc.1;have h2:j<1073741824:=hc.2;exact floordiv_int (by omega) (by rw[Int.fdiv_eq_ediv_of_nonneg i (by omega)];exact q) (.inl (PyProof.noPylong_small (by omega)))
theorem ap4:OpR X (binaryOp .Mod) (rI (fun _ j=>0<j) fun i j=> .int (i % j)):=opI fun i j _ _ _ _ _ hc q=>by
 have h1:(0:Int)<j:=hc;exact mod_int' (by omega) (by rw[Int.fmod_eq_emod_of_nonneg i (by omega)];exact q)
theorem unI{f:Value->Sem Value}{g:Int->Int}
  (rule:∀(i:Int) (t:Tok) (s:Shared) (Q:Value->SP0) (E:Value->SP0),Q (.int (g i) s.toks) { s with toks:=s.toks+1 }->wpAny (model X.prog X.w) X.A (f (.int i t)) Q E s):
  UnR X f (rU fun i=> .int (g i)):=by
 intro Kp s σ H x v Q I rx h;obtain⟨i,rfl,q⟩:=h;obtain⟨t,rfl⟩:=rx;exact rule i t s _ _ ⟨.int (g i),H,I.tok _,⟨_,rfl⟩,q⟩
theorem alk:UnR X (unaryOp .USub) (rU fun i=> .int (-i)):=unI fun _ _ _ _ _ q=>neg_int q
end
section
variable {X:Cx}{a b c:Expr}{ta tb tc:TE}{pos:Pos}
theorem alm{Kp:List (Addr×Obj)}{σ:St}{H:Hp}{s:Shared}{Q:VK}{k k':Bool}(I:Inv X Kp σ H s)(q:Q (.bl k) H)(e:k=k'):EP X Kp σ Q (.bool k') s:=by
 subst e;exact⟨.bl k,H,I,rfl,q⟩
theorem aro:OpR X (compareOp .Lt) (rI0 fun i j=> .bl (decide (i<j))):=anH fun _ _ _ _ _ _ _ q=>lt_int q
theorem arp:OpR X (compareOp .LtE) (rI0 fun i j=> .bl (decide (i<=j))):=anH fun _ _ _ _ _ _ _ q=>le_int q
theorem arq:OpR X (compareOp .Gt) (rI0 fun i j=> .bl (decide (j<i))):=anH fun _ _ _ _ _ _ _ q=>gt_int q
theorem arr:OpR X (compareOp .GtE) (rI0 fun i j=> .bl (decide (j<=i))):=anH fun _ _ _ _ _ _ _ q=>ge_int q
theorem anJ:OpR X (compareOp .IsNot) (fun x y H Q=>y= .non/\Q (.bl (!decide (x= .non))) H):=by
 intro Kp s σ H x y v u Q I rx ry h;obtain⟨rfl,q⟩:=h;cases ry;refine isnot_none_gen (alm I q ?_)
 cases x<;>first
  | (cases rx;rfl)
  | (obtain⟨t,rfl⟩:=rx;rfl)
theorem OpR.or{f:Value->Value->Sem Value}{r r':R2}(h:OpR X f r)(h':OpR X f r'):OpR X f (fun x y H Q=>r x y H Q∨r' x y H Q):=by
 intro Kp s σ H x y v u Q I rx ry q;rcases q with q | q
 ·exact h Kp s σ H x y v u Q I rx ry q
 ·exact h' Kp s σ H x y v u Q I rx ry q
theorem acz(b:Expr){op:CmpOp}(h:op ≠ .In:=by decide)(h2:op ≠ .NotIn:=by decide):behindInMarks op b=false:=by
 have e1:(op==CmpOp.In)=false:=by cases op<;>first|rfl|exact absurd rfl h
 have e2:(op==CmpOp.NotIn)=false:=by cases op<;>first|rfl|exact absurd rfl h2
 cases b<;>simp[behindInMarks,e1,e2]
theorem aiY{op:CmpOp}{r:R2}(ho:OpR X (compareOp op) r)(ha:PE X a ta)(hb:PE X b tb)(hm:behindInMarks op b=false):PE X (.Compare a [op] [b] pos) (tOp r ta tb):=by
 intro Kp s σ H Q I h;exact wpAny_Compare1 (anG ha hb I h fun v u s2 x y H2 I2 rx ry q=>ho Kp s2 σ H2 x y v u Q I2 rx ry q) hm
noncomputable def apl(t:TE):TT:=fun σ H Q=>t σ H fun x H'=>∃k,x= .bl k/\Q k H'
theorem aiZ{op:CmpOp}{r:R2}(ho:OpR X (compareOp op) r)(ha:PE X a ta)(hb:PE X b tb)(hm:behindInMarks op b=false):PT X (.Compare a [op] [b] pos) (apl (tOp r ta tb)):=by
 intro Kp s σ H Q I h
 refine wpAny_isTrue_Compare1 (thn (ha Kp s σ H _ I h) fun v s1 ⟨x,H1,I1,r1,q1⟩=>thn (hb Kp s1 σ H1 _ I1 q1) fun u s2 ⟨y,H2,I2,r2,q2⟩=>
  thn (ho Kp s2 σ H2 x y v u _ I2 r1 r2 q2) fun c s3 ⟨z,H3,I3,r3,k,e,q3⟩=>?_) hm
 subst e;cases r3;exact wpAny_truthy_bool ⟨H3,I3,q3⟩
noncomputable def ahu(r r':R2)(ta tb tc:TE):TE:=fun σ H Q=>ta σ H fun x H1=>tb σ H1 fun y H2=>r x y H2 fun z H3=>∃k,z= .bl k/\
 (if k=true then tc σ H3 fun w' H4=>r' y w' H4 Q else Q (.bl false) H3)
theorem aln{op op':CmpOp}{r r':R2}(ho:OpR X (compareOp op) r)(ho':OpR X (compareOp op') r')(ha:PE X a ta)(hb:PE X b tb)(hc:PE X c tc)
  (hm:lastMarks [op,op'] [b,c]=false:=by with_unfolding_all rfl):PE X (.Compare a [op,op'] [b,c] pos) (ahu r r' ta tb tc):=by
 intro Kp s σ H Q I h
 refine Compare_chain (thn (ha Kp s σ H _ I h) fun v s1 ⟨x,H1,I1,r1,q1⟩=>chain_link (thn (hb Kp s1 σ H1 _ I1 q1) fun u s2 ⟨y,H2,I2,r2,q2⟩=>
  thn (ho Kp s2 σ H2 x y v u _ I2 r1 r2 q2) fun d s3 ⟨z,H3,I3,r3,k,e,q3⟩=>?_)) hm
 subst e;cases r3;refine wpAny_truthy_bool ?_;cases k with
 |false=>exact ite_ff ⟨.bl false,H3,I3,rfl,q3⟩
 |true=>exact ite_tt (chain_last (thn (hc Kp s3 σ H3 _ I3 q3) fun w' s4 ⟨z',H4,I4,r4,q4⟩=>ho' Kp s4 σ H4 y z' u w' Q I4 r2 r4 q4))
theorem alo{op op':CmpOp}{r r':R2}(ho:OpR X (compareOp op) r)(ho':OpR X (compareOp op') r')(ha:PE X a ta)(hb:PE X b tb)(hc:PE X c tc)
  (hm:lastMarks [op,op'] [b,c]=false:=by with_unfolding_all rfl):PT X (.Compare a [op,op'] [b,c] pos) (apl (ahu r r' ta tb tc)):=by
 intro Kp s σ H Q I h
 refine isTrue_chain (thn (ha Kp s σ H _ I h) fun v s1 ⟨x,H1,I1,r1,q1⟩=>test_link (thn (hb Kp s1 σ H1 _ I1 q1) fun u s2 ⟨y,H2,I2,r2,q2⟩=>
  thn (ho Kp s2 σ H2 x y v u _ I2 r1 r2 q2) fun d s3 ⟨z,H3,I3,r3,k,e,q3⟩=>?_)) hm
 subst e;cases r3;refine wpAny_truthy_bool ?_;cases k with
 | false=>
  obtain⟨k',e',q'⟩:=q3;cases e';exact ite_ff ⟨H3,I3,q'⟩
 | true=>
  refine ite_tt (test_last (thn (hc Kp s3 σ H3 _ I3 q3) fun w' s4 ⟨z',H4,I4,r4,q4⟩=>thn (ho' Kp s4 σ H4 y z' u w' _ I4 r2 r4 q4) fun d' s5 ⟨z2,H5,I5,r5,k2,e2,q5⟩=>?_));subst e2;cases r5;exact wpAny_truthy_bool ⟨H5,I5,q5⟩
theorem acA:(sizeLine:Nat)<2 ^ 63:=by rw[sizeLine_eq];decide
noncomputable def agd(b:Expr):Prop:=∀o i,subscripted b false o i=operate [o,i] (getItem o i)
theorem age(ha:PE X a ta)(hb:PE X b tb)(hs:agd b):
  PE X (.Subscript a b pos) (tOp (fun x y H Q=>∃z i c,x= .str z/\y= .int i/\0<=i/\i<2 ^ 63/\i<z.length/\z.cps[i.toNat]?=some c/\Q (.str ⟨#[c]⟩) H) ta tb):=by
 intro Kp s σ H Q I h;refine Subscript_ (anG ha hb I h fun v u s2 x y H2 I2 rx ry q=>?_);obtain⟨z,i,c,rfl,rfl,h0,h63,h1,hc,q⟩:=q;obtain⟨t,rfl⟩:=rx;obtain⟨t',rfl⟩:=ry;have e:seqIndex? i z.length=some i.toNat:=PySem.StrLaws.seqIndex_nonneg h0 h1
 exact tail_any (typeIs_str s2 z t) slot_str_getitem.lookup (getItem_str (c:=c) (by
  have e1:decide (i < -(2 ^ 63:Int))=false:=decide_eq_false (by omega);have e2:decide (i >= 2 ^ 63)=false:=decide_eq_false (by omega);rw [e1,e2] <;> rfl) (by rw [e]; exact hc) ⟨.str ⟨#[c]⟩,H2,I2.tok _,⟨_,rfl⟩,q⟩) (hs _ _)
theorem QV{x:V}{us:List Value}(r:jG [x] us):∃u,us=[u]/\jT x u:=by
 cases r with
 |cons r1 r2=>cases r2;exact⟨_,rfl,r1⟩
theorem ai0{x y:V}{us:List Value}(r:jG [x,y] us):∃u w',us=[u,w']/\jT x u/\jT y w':=by
 cases r with
 | cons r1 r2=>
  cases r2 with
  |cons r3 r4=>cases r4;exact⟨_,_,rfl,r1,r3⟩
theorem aj1(hc:X.calm=true):zh X (.builtin "max") (fun xs H Q=>∃i j,xs=[.int i,.int j]/\Q (.int (if j>i then j else i)) H):=by
 intro Kp s σ H xs us Q I r h;obtain⟨i,j,rfl,q⟩:=h;obtain⟨u,w',rfl,⟨t,rfl⟩,⟨t',rfl⟩⟩:=ai0 r;refine max_two_ints (I.ok.hd hc) fun h' tk k=>⟨_,H,I.kept k,?_,q⟩;by_cases hj:j>i
 ·rw[if_pos hj,if_pos hj];exact⟨_,rfl⟩
 ·rw[if_neg hj,if_neg hj];exact⟨_,rfl⟩
theorem aj2(hc:X.calm=true):zh X (.builtin "min") (fun xs H Q=>∃i j,xs=[.int i,.int j]/\Q (.int (if j<i then j else i)) H):=by
 intro Kp s σ H xs us Q I r h;obtain⟨i,j,rfl,q⟩:=h;obtain⟨u,w',rfl,⟨t,rfl⟩,⟨t',rfl⟩⟩:=ai0 r;refine min_two_ints (I.ok.hd hc) fun h' tk k=>⟨_,H,I.kept k,?_,q⟩;by_cases hj:j<i
 ·rw[if_pos hj,if_pos hj];exact⟨_,rfl⟩
 ·rw[if_neg hj,if_neg hj];exact⟨_,rfl⟩
theorem aj3:zh X (.type "int") (fun xs H Q=>(∃i,xs=[.int i]/\Q (.int i) H)∨∃k,xs=[.bl k]/\Q (.int (if k then 1 else 0)) H):=by
 intro Kp s σ H xs us Q I r h;rcases h with ⟨i,rfl,q⟩ | ⟨k,rfl,q⟩
 ·obtain⟨u,rfl,t,rfl⟩:=QV r
  exact call_int_int ⟨.int i,H,I,⟨_,rfl⟩,q⟩
 ·obtain⟨u,rfl,r1⟩:=QV r
  cases r1;exact call_int_bool ⟨.int (if k then 1 else 0),H,I.tok _,⟨_,rfl⟩,q⟩
end
structure ObjM(h:Heap)(x dx C:Addr)(mA:SV):Prop where
 obj:h.get? x=some (PySem.W.instObj C dx)
 ns:h.Ns1 dx mA
 ne:dx≠x
theorem aj4{h:Heap}{dx:Addr}{mA:SV}(n:h.Ns1 dx mA):∃od,h.get? dx=some od/\∀name,PySem.W.lookIn name od=some (mA name):=by
 obtain⟨o,es,ep,ho,hd,hk,_,hm⟩:=n;refine⟨o,ho,fun name=>?_⟩;have e:=hm name;unfold nsFind findBy at e;rw[←Array.find?_toList]at e;unfold PySem.W.lookIn;rw[hd];dsimp only;split
 ·rename_i y q
  rw[q]at e;exact congrArg some e
 ·rename_i q
  rw[q]at e
  have a:es.toList.any (·.refKey)=false:=by
   rw[List.any_eq_false];intro y hy;obtain⟨z,t,hkey⟩:=hk y (Array.mem_toList_iff.mp hy);simp[DictEntry.refKey,hkey]
  have a':¬ es.toList.any (·.refKey)=true:=by rw[a];exact Bool.false_ne_true
  rw[if_neg a'];exact congrArg some e
theorem ObjM.look{h:Heap}{x dx C:Addr}{mA:SV}(I:ObjM h x dx C mA):∃od,PySem.W.InstAt h x (PySem.W.instObj C dx) C (some od)/\∀name,PySem.W.lookIn name od=some (mA name):=
 let ⟨od,ho,hl⟩:=aj4 I.ns
 ⟨od,⟨I.obj,rfl,rfl,ho⟩,hl⟩
section
variable {prog:Program}{w:World}{A:Around}{E:Value->SP0}{s:Shared}{K:Fg}{x dx C f:Addr}{mA:SV}{name:Str}{v:Value}
theorem anK{expr:Bool}{Q:Value->SP0}(X:K.In s.heap)(I:ObjM s.heap x dx C mA)(hg:PySem.W.plainGet K C name=true)(hh:PySem.W.hasDictIn K C=true)
  (ha:PySem.W.findIn K (.ref C) name=some none) (hv:mA name=some v) (hv':PySem.W.handedIn v=true) (h:Q v { s with toks:=s.toks+1 }):
  wpAny (model prog w) A (getAttr (.ref x) name expr) Q E s:=by
 obtain⟨od,J,hl⟩:=I.look;exact PySem.W.get_value X J (PySem.W.plainGet_of hg).1 (PySem.W.findObj_own hh ha rfl (by rw[hl,hv])) hv' h
theorem alp{pl:Sem Bool}{Q:Value×List Value->SP0}(X:K.In s.heap)(I:ObjM s.heap x dx C mA)(hg:PySem.W.plainGet K C name=true)
  (hf:PySem.W.findIn K (.ref C) name=some (some (.ref f))) (ht:PySem.W.isFn K (.ref f)=true) (hv:mA name=none) (h:Q (.ref f,[.ref x]) s):
  wpAny (model prog w) A (getMethod (.ref x) name pl) Q E s:=by
 obtain⟨od,J,hl⟩:=I.look;exact PySem.W.method_fn X J (PySem.W.plainGet_of hg).1 (PySem.W.plainGet_of hg).2 hf (beq_iff_eq.mp ht) (by show(PySem.W.lookIn name od).map (·.isSome)=some false;rw[hl,hv];rfl) h
theorem anL{ns:List Str}{Q:Unit->SP0}(X:K.In s.heap)(I:ObjM s.heap x dx C mA)
  (hs:PySem.W.findIn K (.ref C) "__setattr__"=some (some (.builtin "object.__setattr__"))) (hp:PySem.W.plainOver K C=true) (ht:PySem.W.takerIn K C name=some none) (hh:PySem.W.hasDictIn K C=true)
  (hw:PySem.Within mA ns) (hsz:ns.length<=sizeLine)
  (h:∀h',ObjM h' x dx C (fun y=>if y=name then some v else mA y)->Heap.SameBut dx s.heap h'->Q () { s with heap:=h',toks:=s.toks+2 }):
  wpAny (model prog w) A (setAttr (.ref x) name v) Q E s:=by
 obtain⟨od,J,hl⟩:=I.look;refine PySem.W.set_plain X J hs (PySem.W.osa_open (s:={ s with toks:=s.toks+1 }) (r:=none) X J hp ht fun b=>?_);obtain⟨cd,hc,hd'⟩:=PySem.W.any_some hh;have hx:s.heap.get? x=some ⟨.ref C,some dx,.plain,#[]⟩:=I.obj;refine wpAny_bind (wpAny_pure (wpAny_bind (wpAny_bind (wpAny_loadPart hx (wpAny_bind (PySem.W.Looks.here (s:={ s with toks:=s.toks+1 }) (PySem.W.looks_clsIn X hc) ?_))))));rw[hd'];refine wpAny_pure (a:=some dx) (wpAny_bind (wpAny_pure (wpAny_bind ?_)));refine wpAny_nsSet1 (s:={ s with toks:=s.toks+1 }) I.ns fun h' hn2 hs2=>?_;obtain⟨oD,esD,epD,hoD,hdD,hcD⟩:=hn2.count (PySem.Within.cons name v hw);refine wpAny_bind (wpAny_lookBehind hoD (by rw[hdD];exact pastItsLine_dict (Nat.le_trans hcD (by rw[List.length_cons];omega))) ?_);exact wpAny_pure (h _ ⟨(hs2.2 _ (Ne.symm I.ne)).trans I.obj,hn2,I.ne⟩ hs2)
theorem alq{R:Result->SP0}{vs:List Value}{kw:List (Str×Value)}(X:K.In s.heap)(hm:PySem.W.makesIn K C=true)
  (hi:PySem.W.findIn K (.ref C) "__init__"=some (some (.ref f))) (hf:PySem.W.typeIn K (.ref f)=some (.type "function"))
  (h:codeAny (model prog w) (A.under (.builtin "type.__call__" ⟨.ref C::vs,kw⟩)) (.call (.ref f) ⟨.ref (s.heap.objs.size+1)::vs,kw⟩) (PySem.W.InitBack (s.heap.objs.size+1) R)
   { s with heap:=(s.heap.push PySem.W.emptyDict).push (PySem.W.instObj C s.heap.objs.size) }):
  codeAny (model prog w) A (.call (.ref C) ⟨vs,kw⟩) R s:=by
 obtain⟨hh,g,d,t,os⟩:=s;exact PySem.W.make_core (PySem.W.makes_of X hm) (PySem.W.looks_findIn X hi) (fun self=>PySem.W.bind_fn X self hf) (.inl rfl) h
end
noncomputable def QD(f:Str)(v:V):List (Str×V)->List (Str×V)
 | []=>[(f,v)]
 | (g,x)::r=>if g=f then (g,v)::r else (g,x)::QD f v r
theorem abE(f g:Str)(v:V):∀fs:List (Str×V),(QD f v fs).lookup g=if g=f then some v else fs.lookup g
 | []=>by
  show List.lookup g [(f,v)]=_;by_cases h:g=f
  ·have hb:(g==f)=true:=beq_iff_eq.mpr h
   simp only[List.lookup,hb,if_pos h]
  ·have hb:(g==f)=false:=beq_eq_false_iff_ne.mpr h
   simp only[List.lookup,hb,if_neg h]
 | (k,x)::r=>by
  have ih:=abE f g v r;rw[show QD f v ((k,x)::r)=(if k=f then (k,v)::r else (k,x)::QD f v r) from rfl];by_cases hk:k=f
  ·rw[if_pos hk]
   by_cases h:g=k
   ·have hb:(g==k)=true:=beq_iff_eq.mpr h
    simp only[List.lookup,hb,if_pos (h.trans hk)]
   ·have hb:(g==k)=false:=beq_eq_false_iff_ne.mpr h
    simp only[List.lookup,hb,if_neg (fun e:g=f=>h (e.trans hk.symm))]
  ·rw[if_neg hk]
   by_cases h:g=k
   ·have hb:(g==k)=true:=beq_iff_eq.mpr h
    simp only[List.lookup,hb,if_neg (fun e:g=f=>hk (h.symm.trans e))]
   ·have hb:(g==k)=false:=beq_eq_false_iff_ne.mpr h
    simp only[List.lookup,hb];exact ih
theorem aa3(f:Str)(v:V):∀fs:List (Str×V),f∈(QD f v fs).map (·.1)/\∀g,g∈fs.map (·.1)->g∈(QD f v fs).map (·.1)
 | []=>⟨by simp[QD],fun g h=>by simp at h⟩
 | (k,x)::r=>by
  obtain⟨i1,i2⟩:=aa3 f v r;rw[show QD f v ((k,x)::r)=(if k=f then (k,v)::r else (k,x)::QD f v r) from rfl];by_cases hk:k=f
  ·rw[if_pos hk]
   subst hk;exact⟨by simp,fun g h=>by simpa using h⟩
  ·rw[if_neg hk]
   refine⟨?_,fun g h=>?_⟩
   ·rw[List.map_cons]
    exact List.mem_cons_of_mem _ i1
   ·rw[List.map_cons]at h ⊢
    rcases List.mem_cons.mp h with e | e
    ·exact List.mem_cons.mpr (.inl e)
    ·exact List.mem_cons_of_mem _ (i2 g e)
theorem abF(f:Str)(v:V):∀fs:List (Str×V),(QD f v fs).length<=fs.length+1
 | []=>by simp[QD]
 | (k,x)::r=>by
  have ih:=abF f v r;rw[show QD f v ((k,x)::r)=(if k=f then (k,v)::r else (k,x)::QD f v r) from rfl];by_cases hk:k=f
  ·rw[if_pos hk,List.length_cons,List.length_cons];omega
  ·rw[if_neg hk,List.length_cons,List.length_cons];omega
theorem QX.some_of{v:V}{o:Option Value}(r:QX (some v) o):∃u,o=some u/\jT v u:=by
 cases o with
 |none=>exact(show False from r).elim
 |some u=>exact⟨u,rfl,r⟩
theorem QX.none_of{o:Option Value}(r:QX none o):o=none:=by
 cases o with
 |none=>rfl
 |some u=>exact(show False from r).elim
theorem aj5{v:V}{u:Value}(r:jT v u):PySem.W.handedIn u=true:=by
 cases v with
 |non=>cases (show u=Value.none from r);rfl
 |bl b=>cases (show u=Value.bool b from r);rfl
 |int i=>obtain⟨t,e⟩:=(show ∃t,u=Value.int i t from r);cases e;rfl
 |str x=>obtain⟨t,e⟩:=(show ∃t,u=Value.str x t from r);cases e;rfl
 |byt b=>obtain⟨t,e⟩:=(show ∃t,u=Value.bytes b t from r);cases e;rfl
 |flt b=>obtain⟨t,e⟩:=(show ∃t,u=Value.float b t from r);cases e;rfl
 |ref a=>cases (show u=Value.ref a from r);rfl
 |ty n=>cases (show u=Value.type n from r);rfl
section
variable {P:Program}{w:World}{H H':Hp}{h h':Heap}{a C dx:Addr}{fs fs':List (Str×V)}
theorem aeI(hok:HOk P w H h)(e:H a=some (.ins C dx fs)):∃mA,ObjM h a dx C mA/\(∀f,QX (fs.lookup f) (mA f))/\PySem.Within mA (fs.map (·.1))/\fs.length<=1000/\H dx=some (.own a):=by
 obtain⟨d,z,ne,ob,mA,n,r,q⟩:=(show qt P w H h a (.ins C dx fs) from hok a _ e);exact⟨mA,⟨ob,n,ne⟩,r,q,z,d⟩
end
structure Cls(K:Fg)(C:Addr):Prop where
 pg:PySem.W.plainGet K C Str.empty=true
 hd:PySem.W.hasDictIn K C=true
 po:PySem.W.plainOver K C=true
 sa:PySem.W.findIn K (.ref C) "__setattr__"=some (some (.builtin "object.__setattr__"))
theorem Cls.get{K:Fg}{C:Addr}(c:Cls K C)(f:Str):PySem.W.plainGet K C f=true:=c.pg
noncomputable def ZT(K:Fg)(C:Addr)(f:Str):Prop:=PySem.W.findIn K (.ref C) f=some none
theorem ZT.taker{K:Fg}{C:Addr}{f:Str}(n:ZT K C f):PySem.W.takerIn K C f=some none:=by
 unfold PySem.W.takerIn;rw[show PySem.W.findIn K (.ref C) f=some none from n];rfl
structure Con(K:Fg)(C:Addr)(f:Str)(v:V)(u:Value):Prop where
 at_:PySem.W.findIn K (.ref C) f=some (some u)
 rel:jT v u
 get:PySem.W.specialIn K u "__get__"=some none
 cp:PySem.W.copiedNames.contains f=false
structure Meth(K:Fg)(C:Addr)(m:Str)(f:Addr):Prop where
 at_:PySem.W.findIn K (.ref C) m=some (some (.ref f))
 fn:PySem.W.isFn K (.ref f)=true
 kp:PySem.W.keepIn K (.ref f)=true
section
variable {X:Cx}{Kp:List (Addr×Obj)}{σ:St}{H:Hp}{s:Shared}{a C dx:Addr}{fs:List (Str×V)}{f:Str}{v:V}{A:Around}{E:Value->SP0}
theorem ahv{b:Bool}{Q:Value->SP0}(I:Inv X Kp σ H s)(e:H a=some (.ins C dx fs))(c:Cls X.K C)(n:ZT X.K C f)(l:fs.lookup f=some v)
  (h:∀u s',Inv X Kp σ H s'->jT v u->Q u s'):wpAny (model X.prog X.w) A (getAttr (.ref a) f b) Q E s:=by
 obtain⟨mA,O,r,_,_,_⟩:=aeI I.hok e;obtain⟨u,hu,ru⟩:=QX.some_of (v:=v) (o:=mA f) (by rw[←l];exact r f);exact anK I.kIn O (c.get f) c.hd n hu (aj5 ru) (h u _ (I.tok _) ru)
theorem acB{m:Str}{g:Addr}{pl:Sem Bool}{Q:Value×List Value->SP0}(I:Inv X Kp σ H s)(e:H a=some (.ins C dx fs))(c:Cls X.K C)(k:Meth X.K C m g)(l:fs.lookup m=none)
  (h:Q (.ref g,[.ref a]) s):wpAny (model X.prog X.w) A (getMethod (.ref a) m pl) Q E s:=by
 obtain⟨mA,O,r,_,_,_⟩:=aeI I.hok e;have hn:mA m=none:=QX.none_of (by rw[←l];exact r m);exact alp I.kIn O (c.get m) k.at_ k.fn hn h
theorem ahw{y:V}{u:Value}{Q:Unit->SP0}(I:Inv X Kp σ H s)(e:H a=some (.ins C dx fs))(c:Cls X.K C)(n:ZT X.K C f)(hl:fs.length<1000)(ry:jT y u)
  (h:∀s',Inv X Kp σ (upd H a (.ins C dx (QD f y fs))) s'->Q () s'):wpAny (model X.prog X.w) A (setAttr (.ref a) f u) Q E s:=by
 obtain⟨mA,O,r,wi,_,ho⟩:=aeI I.hok e;have hz:(fs.map (·.1)).length<=sizeLine:=by rw[List.length_map,sizeLine_eq];omega
 refine anL I.kIn O c.sa c.po n.taker c.hd wi hz fun h' O' sb=>h _ ?_;have hd:∃o,h'.get? dx=some o:=let ⟨o,_,_,e',_⟩:=O'.ns;⟨o,e'⟩
 refine I.write (x:=a) (e:=dx) (by rw[e];exact True.intro) (.inr ho) (fun b q hb z=>(sb.2 b hb).trans z) hd ?_;refine⟨by rw[js O.ne];exact ho,?_,O.ne,O'.obj,_,O'.ns,fun g=>?_,fun g hg=>?_⟩
 ·have:=abF f y fs;omega
 ·show QX ((QD f y fs).lookup g) (if g=f then some u else mA g)
  rw[abE];by_cases q:g=f
  ·rw[if_pos q,if_pos q];exact ry
  ·rw[if_neg q,if_neg q];exact r g
 ·by_cases q:g=f
  ·rw[q];exact(aa3 f y fs).1
  ·refine(aa3 f y fs).2 g (wi g fun z=>hg ?_)
   show(if g=f then some u else mA g)=none;rw[if_neg q];exact z
theorem Inv.made(I:Inv X Kp σ H s):Inv X Kp σ (upd (upd H s.heap.objs.size (.own (s.heap.objs.size+1))) (s.heap.objs.size+1) (.ins C s.heap.objs.size []))
  { s with heap:=(s.heap.push PySem.W.emptyDict).push (PySem.W.instObj C s.heap.objs.size) }:=by
 have e1:(s.heap.push PySem.W.emptyDict).get? s.heap.objs.size=some PySem.W.emptyDict:=Heap.get?_push_size s.heap rfl
 have e2:((s.heap.push PySem.W.emptyDict).push (PySem.W.instObj C s.heap.objs.size)).get? (s.heap.objs.size+1)=some (PySem.W.instObj C s.heap.objs.size):=by
  have:=Heap.get?_push_size (s.heap.push PySem.W.emptyDict) (o:=PySem.W.instObj C s.heap.objs.size) rfl;rwa[Heap.size_push]at this
 have e3:(s.heap.push PySem.W.emptyDict).Ns s.heap.objs.size (fun _=>none):=⟨PySem.W.emptyDict,#[],_,e1,rfl,(fun e he=>absurd he (by simp)),fun _=>rfl⟩;have I1:=I.laid (a:=s.heap.objs.size) (o:= .own (s.heap.objs.size+1)) (h':=s.heap.push PySem.W.emptyDict) (t':=s.toks) (fun b u q=>Heap.get?_push_of_some _ q) (Nat.le_refl _) ⟨_,e1⟩;refine I1.laid (a:=s.heap.objs.size+1) (o:= .ins C s.heap.objs.size []) (t':=s.toks) (fun b u q=>Heap.get?_push_of_some _ q) (Nat.le_of_eq (Heap.size_push _ _)) ?_;have ne:s.heap.objs.size≠s.heap.objs.size+1:=Nat.ne_of_lt (Nat.lt_succ_self _);refine⟨by rw[js ne,jn],Nat.zero_le _,ne,e2,fun _=>none,(Heap.Ns1.of_empty e3).at fun o q=>Heap.get?_push_of_some _ q,fun _=>True.intro,fun y hy=>absurd rfl hy⟩
theorem anM{prog:Program}{w:World}{env:Env}{e:Expr}{f:Str}{pos:Pos}{s:Shared}{Q:Value->SP0}(hb:attributeBase e f env (eval e env)=eval e env)
  (h:wpAny (model prog w) A (eval e env) (fun o s₁=>wpAny (model prog w) A (getAttr o f true) Q E s₁) E s):wpAny (model prog w) A (eval (.Attribute e f pos) env) Q E s:=
 Attribute_any_ h (by rw[arm_eval_Attribute,hb])
end
noncomputable def ars(K:Fg)(ta:TE)(f:Str):TE:=fun σ H Q=>ta σ H fun x H1=>∃a C dx fs v,x= .ref a/\H1 a=some (.ins C dx fs)/\Cls K C/\ZT K C f/\fs.lookup f=some v/\Q v H1
noncomputable def asA(K:Fg)(ta tv:TE)(f:Str):TS:=fun D σ H=>tv σ H fun y H1=>ta σ H1 fun x H2=>∃a C dx fs,x= .ref a/\H2 a=some (.ins C dx fs)/\Cls K C/\ZT K C f/\fs.length<1000/\
 D.nx σ (upd H2 a (.ins C dx (QD f y fs)))
section
variable {X:Cx}{o e value:Expr}{f:Str}{pos pos' tpos:Pos}{ta tv:TE}
theorem ahx(he:PE X e ta)(hb:attributeBase e f X.env (eval e X.env)=eval e X.env):PE X (.Attribute e f pos) (ars X.K ta f):=by
 intro Kp s σ H Q I h;refine anM hb (thn (he Kp s σ H _ I h) fun u s1 ⟨x,H1,I1,rx,a,C,dx,fs,v,ex,ea,c,n,l,q⟩=>?_);subst ex;obtain rfl:u=Value.ref a:=rx;exact ahv I1 ea c n l fun u' s2 I2 ru=>⟨v,H1,I2,ru,q⟩
theorem ap5(ha:PE X o ta)(hv:PE X value tv)(hs:swapsWith value (some (.Attribute o f pos')) pos.line X.env=pure false):PS X (.Assign [.Attribute o f pos'] value pos) (asA X.K ta tv f):=by
 intro Kp s σ H D I h;refine plainObj_wpAny_Assign_Attribute (thn (hv Kp s σ H _ I h) fun u s1 ⟨y,H1,I1,ry,q⟩=>thn (ha Kp s1 σ H1 _ I1 q) fun ov s2 ⟨x,H2,I2,rx,a,C,dx,fs,ex,ea,c,n,l,q2⟩=>?_) hs;subst ex;obtain rfl:ov=Value.ref a:=rx;exact ahw I2 ea c n l ry fun s3 I3=>⟨σ,_,I3,q2⟩
end
section
variable {X:Cx}{Kp:List (Addr×Obj)}{σ:St}{H:Hp}{s:Shared}{A:Around}{E:Value->SP0}{Q:Value->SP0}{c:Value}{b:Bool}
inductive TyOf (K:Fg) (H:Hp):V->Value->Prop where
 |non:TyOf K H .non (.type "NoneType")
 |bl (x:Bool):TyOf K H (.bl x) (.type "bool")
 |int (i:Int):TyOf K H (.int i) (.type "int")
 |str (x:Str):TyOf K H (.str x) (.type "str")
 |flt (x:UInt64):TyOf K H (.flt x) (.type "float")
 |lst {a:Addr} {xs:List V} (e:H a=some (.lst xs)):TyOf K H (.ref a) (.type "list")
 |frz {a:Addr} {o:Obj} {xs:List V} (e:H a=some (.frz o (.lst xs))):TyOf K H (.ref a) (.type "list")
 |tup {a:Addr} {xs:List V} (e:H a=some (.tup xs)):TyOf K H (.ref a) (.type "tuple")
 |dK {a:Addr} {kvs:List (Key×V)} (e:H a=some (.dK kvs)):TyOf K H (.ref a) (.type "dict")
 |dT {a:Addr} {kvs:List (List Key×V)} (e:H a=some (.dT kvs)):TyOf K H (.ref a) (.type "dict")
 | ins {a C dx:Addr} {fs:List (Str×V)} (e:H a=some (.ins C dx fs)) (cl:Cls K C) (ha:PySem.W.findIn K (.ref C) "__class__"=some (some (.builtin "object.__class__")))
   (hn:PySem.W.specialIn K (.builtin "object.__class__") "__get__"=some (some (.builtin "getset_descriptor.__get__"))) (htk:PySem.W.takesIn K (.builtin "object.__class__")=some true)
   (hm:PySem.W.mroIn K C (.type "object")=some true):TyOf K H (.ref a) (.ref C)
end
structure Room(k:Nat)(A:Around):Prop where
 hd:A.handled=none
 dp:A.depth+3*k+5<recursionLimit
 un:A.units+16*k+200<cLine
theorem Room.mono{j k:Nat}{A:Around}(r:Room k A)(h:j<=k):Room j A:=⟨r.hd,by have:=r.dp;omega,by have:=r.un;omega⟩
theorem Room.deeper{k:Nat}{A:Around}(r:Room (k+1) A)(env:Env):Room k (A.deeper env):=
 ⟨r.hd,by have:=r.dp;show A.depth+1+3*k+5<_;omega,by have:=r.un;show A.units+3+16*k+200<_;omega⟩
theorem Room.in1{k:Nat}{A:Around}(r:Room (k+1) A):Room k A.in1:=
 ⟨r.hd,by have:=r.dp;show A.depth+3*k+5<_;omega,by have:=r.un;show A.units+1+16*k+200<_;omega⟩
theorem ahy{A:Around}{C:Addr}{us:List Value}{kw:List (Str×Value)}:(A.under (.builtin "type.__call__" ⟨.ref C::us,kw⟩)).depth=A.depth+1:=by
 first|rfl|simp[Around.under,Code.weight,Code.isCreation,Code.isGuard,Code.isCaller,Code.frames,Code.isFrame,guardIds]
theorem ahz{A:Around}{C:Addr}{us:List Value}{kw:List (Str×Value)}:(A.under (.builtin "type.__call__" ⟨.ref C::us,kw⟩)).units=A.units+1:=by
 first|rfl|simp[Around.under,Code.cUnits,Code.frames,Code.isFrame]
theorem Room.make{k:Nat}{A:Around}(r:Room (k+1) A)(C:Addr)(us:List Value)(kw:List (Str×Value)):Room k (A.under (.builtin "type.__call__" ⟨.ref C::us,kw⟩)):=
 ⟨r.hd,by have:=r.dp;rw[ahy];omega,by have:=r.un;rw[ahz];omega⟩
theorem Room.depth{k:Nat}{A:Around}(r:Room k A):A.depth<recursionLimit:=by have:=r.dp;omega
theorem Room.units{k:Nat}{A:Around}(r:Room k A):A.units+64<cLine:=by have:=r.un;omega
noncomputable def anN:TA:=fun _ H Q=>Q [] H
noncomputable def agf(ta:TE)(tr:TA):TA:=fun σ H Q=>ta σ H fun x H1=>tr σ H1 fun xs H2=>Q (x::xs) H2
section
variable {X:Cx}{e:Expr}{es:List Expr}{te:TE}{t:TA}{pos:Pos}
theorem adD{α:Type}:∀(us:List α),us.length=1->∃a,us=[a]
 | [a],_=>⟨a,rfl⟩
theorem ZU{α:Type}(us:List α)(h:us.length=2):∃a b,us=[a,b]:=by
 cases us with
 |nil=>cases h
 |cons a r=>obtain⟨b,rfl⟩:=adD r (Nat.succ.inj h);exact⟨a,b,rfl⟩
theorem aa4{α:Type}(us:List α)(h:us.length=3):∃a b c,us=[a,b,c]:=by
 cases us with
 |nil=>cases h
 |cons a r=>obtain⟨b,c,rfl⟩:=ZU r (Nat.succ.inj h);exact⟨a,b,c,rfl⟩
theorem Jk:PA X [] anN:=fun _ _ _ _ H Q I h=>Calls.spliced_nil ⟨[],H,I,.nil,h⟩
theorem qG(ha:PE X e te)(hr:PA X es t)(hs:starEach (e::es) X.env=(false,eval e X.env)::starEach es X.env:=by rfl):PA X (e::es) (agf te t):=by
 intro pos Kp s σ H Q I h;rw[hs];show wpAny _ _ (spliced ((false,eval e X.env)::backTo pos (starEach es X.env))) _ _ s;refine Calls.spliced_cons (thn (ha Kp s σ H _ I h) fun u s1 ⟨x,H1,I1,r1,q1⟩=>?_);exact thn (hr pos Kp s1 σ H1 _ I1 q1) fun us s2 ⟨xs,H2,I2,r2,q2⟩=>⟨x::xs,H2,I2,.cons r1 r2,q2⟩
noncomputable def asC(t:TA):TE:=fun σ H Q=>t σ H fun xs H1=>xs.length<=sizeLine/\∀p,H1 p=none->Q (.ref p) (upd H1 p (.tup xs))
noncomputable def asD(t:TA):TE:=fun σ H Q=>t σ H fun xs H1=>xs.length<=sizeLine/\∀p,H1 p=none->Q (.ref p) (upd H1 p (.lst xs))
theorem ahA{x1}(h:PA X es t):PE X (.Tuple es x1 pos) (asC t):=by
 intro Kp s σ H Q I hq;refine wpAny_Tuple_spliced (thn (h pos Kp s σ H _ I hq) fun us s1 ⟨xs,H1,I1,r,z,q⟩=>⟨by rw[←r.length];exact z,?_⟩);have hf:H1 s1.heap.objs.size=none:=I1.hok.fresh (Nat.le_refl _);refine⟨.ref s1.heap.objs.size,upd H1 s1.heap.objs.size (.tup xs),I1.laid (t':=s1.toks) (fun b u e=>Heap.get?_push_of_some _ e) (Nat.le_refl _) ?_,rfl,q _ hf⟩;exact⟨z,us,r,⟨_,Heap.get?_push_size _ rfl,rfl,_,rfl⟩⟩
theorem ahB(h:PA X es t):PE X (.List es pos) (asD t):=by
 intro Kp s σ H Q I hq;refine wpAny_List_spliced (thn (h pos Kp s σ H _ I hq) fun us s1 ⟨xs,H1,I1,r,z,q⟩=>⟨by rw[←r.length];exact z,?_⟩);have hf:H1 s1.heap.objs.size=none:=I1.hok.fresh (Nat.le_refl _);refine⟨.ref s1.heap.objs.size,upd H1 s1.heap.objs.size (.lst xs),I1.laid (t':=s1.toks) (fun b u e=>Heap.get?_push_of_some _ e) (Nat.le_refl _) ?_,rfl,q _ hf⟩;exact⟨z,us,0,r,Heap.get?_push_size _ rfl⟩
end
noncomputable abbrev Sp:=List V->Hp->VK->XK->Prop
noncomputable abbrev CXT:=List Env->Hp->Shared->XK->Value->SP0
structure Env0(P:Program)(w:World)(K:Fg)(mg:SV)(base:Heap)(A:Around)(Ko:List Env)(s:Shared)(H:Hp):Prop where
 frames:A.frames=some Ko
 mod:Mod K mg base
 bs:∀b o,base.get? b=some o->s.heap.get? b=some o/\H b=none
 bsz:base.objs.size<=s.heap.objs.size
 funs:s.heap.FunFrames base Ko
 frf:∀b∈frs Ko,H b=none
 hok:HOk P w H s.heap
 bare:AllBare s.gens
noncomputable def CE(Ko:List Env)(P:Program)(w:World)(H:Hp)(s:Shared)(Q:VK)(u:Value)(s':Shared):Prop:=
 ∃v H',s'.os=s.os/\AllBare s'.gens/\Un (frs Ko) [] H H' s.heap s'.heap/\HOk P w H' s'.heap/\jT v u/\Q v H'
noncomputable def CR(CX:CXT)(Ko:List Env)(P:Program)(w:World)(H:Hp)(s:Shared)(Q:VK)(E:XK)(r:Result)(s':Shared):Prop:=
 match r with
 |.ok (.ret u)=>CE Ko P w H s Q u s'
 |.ok _=>False
 |.error e=>CX Ko H s E e s'
structure FnOk(P:Program)(w:World)(K:Fg)(mg:SV)(base:Heap)(CX:CXT)(k:Nat)(f:Addr)(fd:FuncData)(ps:List Str)(sp:Sp):Prop where
 len:∀vs H Q E,sp vs H Q E->vs.length=ps.length
 run:∀(A:Around) (Ko:List Env) (s:Shared) (H:Hp) (args:Args) (us:List Value) (vs:List V) (Q:VK) (E:XK),Room k A->Env0 P w K mg base A Ko s H->BindsTo s fd args (ps.zip us)->jG vs us->sp vs H Q E->
  codeAny (model P w) A (.call (.ref f) args) (CR CX Ko P w H s Q E) s
theorem FnOk.mono{P:Program}{w:World}{K:Fg}{mg:SV}{base:Heap}{CX:CXT}{j k:Nat}{f:Addr}{fd:FuncData}{ps:List Str}{sp:Sp}(F:FnOk P w K mg base CX j f fd ps sp)(h:j<=k):
  FnOk P w K mg base CX k f fd ps sp:=⟨F.len,fun A Ko s H args us vs Q E hr=>F.run A Ko s H args us vs Q E (hr.mono h)⟩
theorem FnOk.imp{P:Program}{w:World}{K:Fg}{mg:SV}{base:Heap}{CX:CXT}{k:Nat}{f:Addr}{fd:FuncData}{ps:List Str}{sp sp':Sp}(F:FnOk P w K mg base CX k f fd ps sp)
  (h:∀vs H Q E,sp' vs H Q E->sp vs H Q E):FnOk P w K mg base CX k f fd ps sp':=
 ⟨fun vs H Q E q=>F.len vs H Q E (h _ _ _ _ q),fun A Ko s H args us vs Q E hr he hb hv hs=>F.run A Ko s H args us vs Q E hr he hb hv (h _ _ _ _ hs)⟩
theorem Env0.make{P:Program}{w:World}{K:Fg}{mg:SV}{base:Heap}{A:Around}{Ko:List Env}{s:Shared}{H:Hp}(e:Env0 P w K mg base A Ko s H)(C:Addr)(us:List Value)(kw:List (Str×Value)):
  Env0 P w K mg base (A.under (.builtin "type.__call__" ⟨.ref C::us,kw⟩)) Ko s H:=⟨by first|exact e.frames | (simpa[Around.under,Code.envs,Code.isFrame,pushEnvs]using e.frames),e.mod,e.bs,e.bsz,e.funs,e.frf,e.hok,e.bare⟩
theorem Env0.in1{P:Program}{w:World}{K:Fg}{mg:SV}{base:Heap}{A:Around}{Ko:List Env}{s:Shared}{H:Hp}(e:Env0 P w K mg base A Ko s H):
  Env0 P w K mg base A.in1 Ko s H:=⟨e.frames,e.mod,e.bs,e.bsz,e.funs,e.frf,e.hok,e.bare⟩
section
variable {X:Cx}{Kp:List (Addr×Obj)}{σ:St}{H:Hp}{s s':Shared}
theorem Inv.env0(I:Inv X Kp σ H s):Env0 X.prog X.w X.K X.mg X.base X.A X.stack s H:=
 ⟨I.ok.frames,I.ok.mod,I.bs,Nat.le_trans I.ok.bsz I.sz,I.stack,I.stkFree,I.hok,I.bare⟩
theorem Inv.after{Q:VK}{u:Value}(I:Inv X Kp σ H s)(h:CE X.stack X.prog X.w H s Q u s'):EP X Kp σ Q u s':=by
 obtain⟨v,H',os,bare,un,hok,r,q⟩:=h;obtain⟨hh,g,d,t,os'⟩:=s';obtain rfl:os'=s.os:=os;exact⟨v,H',I.call (h':=hh) (g':=g) (d':=d) (t':=t) (ch:=[]) un hok bare (fun b z=>absurd z (by simp)),r,q⟩
end
noncomputable def art(sp:Sp)(dvs:List V)(E:XK)(t:TA):TE:=fun σ H Q=>t σ H fun vs H1=>sp (vs++dvs) H1 Q E
noncomputable def JS(K:Fg)(fd:FuncData)(ps:List Str)(ds:List Value):Prop:=
 ∀(s:Shared) (us:List Value),K.In s.heap->(us++ds).length=ps.length->BindsTo s fd ⟨us,[]⟩ (ps.zip (us++ds))
theorem JS.all{K:Fg}{fd:FuncData}{ps:List Str}(h:∀us:List Value,us.length=ps.length->bindArgs fd ⟨us,[]⟩=pure (ps.zip us)):JS K fd ps []:=fun s us _ hl=>by
 rw[List.append_nil]at hl ⊢;exact .of_eq (h us hl)
noncomputable def ahC(CX:CXT)(X:Cx)(E:XK):Prop:=∀(Kp:List (Addr×Obj)) (σ:St) (H:Hp) (s:Shared) (e:Value) (s':Shared),Inv X Kp σ H s->CX X.stack H s E e s'->X.xe e s'
section
variable {X:Cx}{CX:CXT}{k:Nat}{f C:Addr}{fd:FuncData}{ps:List Str}{sp:Sp}{dvs:List V}{ds:List Value}{E:XK}{x m:Str}{p pos apos:Pos}{e o:Expr}{es:List Expr}{ta:TE}{t:TA}
theorem ahD{Kp:List (Addr×Obj)}{σ:St}{H:Hp}{s:Shared}{Q:VK}{us:List Value}{vs:List V}(F:FnOk X.prog X.w X.K X.mg X.base CX k f fd ps sp)(hr:Room k X.A)(hb:JS X.K fd ps ds)(hd:jG dvs ds)(hx:ahC CX X E)
  (I:Inv X Kp σ H s) (r:jG vs us) (h:sp (vs++dvs) H Q E):wpAny (model X.prog X.w) X.A (call (.ref f) us) (EP X Kp σ Q) X.xe s:=by
 have r2:jG (vs++dvs) (us++ds):=r.append hd;have hl:(us++ds).length=ps.length:=by rw[←r2.length];exact F.len _ _ _ _ h
 refine wpAny_call (codeAny_mono (F.run X.A X.stack s H ⟨us,[]⟩ (us++ds) (vs++dvs) Q E hr I.env0 (hb s us I.kIn hl) r2 h) fun r s' hq=>?_);cases r with
 |error e=>exact hx Kp σ H s e s' I hq
 | ok fl=>
  cases fl with
  |ret u=>exact I.after hq
  |next=>exact False.elim hq
  |brk=>exact False.elim hq
  |cont=>exact False.elim hq
theorem ai1(F:FnOk X.prog X.w X.K X.mg X.base CX k f fd ps sp)(hr:Room k X.A)(hg:Gl X x)(hm:X.mg x=some (.ref f))(hk:PySem.W.keepIn X.K (.ref f)=true)(hb:JS X.K fd ps ds)(hd:jG dvs ds)(hx:ahC CX X E)
  (ha:PA X (e::es) t) (hdb:(x==("__debug__":Str))=false:=by decide) (he:starEach (e::es) X.env=(false,eval e X.env)::starEach es X.env:=by rfl) (hpl:(backTo pos (starEach es X.env)).any (·.1)=false:=by rfl):
  PE X (.Call (.Name x p) (e::es) [] pos) (art sp dvs E t):=by
 intro Kp s σ H Q I h;refine wpAny_Call_Name_kw (aab I hg hm ?_ hdb);refine PySem.W.callWith_K (h₀:=X.base) I.ok.mod.kin hk (thn (ha pos Kp s σ H _ I h) fun us s1 ⟨vs,H1,I1,r,q⟩=>⟨I1.kIn,?_⟩) he hpl;exact ahD F hr hb hd hx I1 r q
structure Mk(K:Fg)(C f:Addr):Prop where
 makes:PySem.W.makesIn K C=true
 init:PySem.W.findIn K (.ref C) "__init__"=some (some (.ref f))
 fn:PySem.W.isFn K (.ref f)=true
 kp:PySem.W.keepIn K (.ref C)=true
end
noncomputable def PK(X:Cx)(kws:List Keyword)(t:TA):Prop:=
 ∀(pos:Pos) (Kp:List (Addr×Obj)) (s:Shared) (σ:St) (H:Hp) (Q:List V->Hp->Prop),Inv X Kp σ H s->t σ H Q->wpAny (model X.prog X.w) X.A (evalAll ((backToKw pos (keywordEach kws X.env)).map (·.2))) (AP X Kp σ Q) X.xe s
section
variable {X:Cx}{CX:CXT}{k:Nat}{f C:Addr}{fd:FuncData}{ps ks:List Str}{sp:Sp}{E:XK}{x m:Str}{p pos apos kpos:Pos}{e o:Expr}{es:List Expr}{kws:List Keyword}{te ta:TE}{t tk:TA}{nm:Option Str}
theorem ap6:PK X [] anN:=fun _ _ _ _ H Q I h=>wpAny_evalAll_nil ⟨[],H,I,.nil,h⟩
theorem ai2(ha:PE X e te)(hr:PK X kws t):PK X (⟨nm,e,kpos⟩::kws) (agf te t):=by
 intro pos Kp s σ H Q I h;show wpAny _ _ (evalAll ((do let v ←eval e X.env;standAt pos;pure v)::(backToKw pos (keywordEach kws X.env)).map (·.2))) _ _ s;refine wpAny_evalAll_cons (wpAny_bind (thn (ha Kp s σ H _ I h) fun u s1 ⟨x,H1,I1,r1,q1⟩=>wpAny_bind (wpAny_standAt (wpAny_pure ?_))));exact thn (hr pos Kp s1 σ H1 _ I1 q1) fun us s2 ⟨xs,H2,I2,r2,q2⟩=>⟨x::xs,H2,I2,.cons r1 r2,q2⟩
structure KBinds(K:Fg)(fd:FuncData)(ps ks:List Str)(g:List Value->List Value->List Value)(gV:List V->List V->List V):Prop where
 to:∀(s:Shared) (us ws:List Value),K.In s.heap->(g us ws).length=ps.length->BindsTo s fd ⟨us,ks.zip ws⟩ (ps.zip (g us ws))
 rel:∀{vs:List V} {us:List Value} {zs:List V} {ws:List Value},jG vs us->jG zs ws->jG (gV vs zs) (g us ws)
variable {g:List Value->List Value->List Value}{gV:List V->List V->List V}
end
structure FnScope(N P:List Str)(sc:Scope):Prop where
 kind:sc.kind= .function
 co:sc.isCoroutine=false
 gen:sc.isGenerator=false
 nd:N.Nodup
 pre:N.take P.length=P
 par:∀x∈P,sc.names.lookup x=some .local∨sc.names.lookup x=some .cell
 nofree:∀y∈sc.names,y.2 ≠ .free
theorem adS{kindOf:Str->Option NameKind}{x:Str}:∀{binds:List (Str×Value)}{m:SV},(∀v,(x,v)∉binds)->bindL kindOf binds m x=m x
 | [],_,_=>rfl
 | (n,v)::r,m,h=>by
  unfold bindL;rw[adS fun w hw=>h w (List.mem_cons_of_mem _ hw)];split
  ·have:x≠n:=by rintro rfl;exact h v List.mem_cons_self
   simp[this]
  ·rfl
theorem adT{kindOf:Str->Option NameKind}{x:Str}:∀{binds:List (Str×Value)}{m:SV},(∀v,(x,v)∉binds)->bindC kindOf binds m x=m x
 | [],_,_=>rfl
 | (n,v)::r,m,h=>by
  unfold bindC;rw[adT fun w hw=>h w (List.mem_cons_of_mem _ hw)];split
  ·rfl
  ·have:x≠n:=by rintro rfl;exact h v List.mem_cons_self
   simp[this]
theorem adU{kindOf:Str->Option NameKind}{x:Str}{v:Value}:∀{P:List Str}{vs:List Value}{i:Nat}{m:SV},P.Nodup->P[i]?=some x->vs[i]?=some v->kindOf x=some .local->
  bindL kindOf (P.zip vs) m x=some v
 | [],_,_,_,_,h,_,_=>by simp at h
 |_::_,[],_,_,_,_,h,_=>by simp at h
 | p::P,w::vs,0,m,nd,h1,h2,hk=>by
  simp at h1 h2;subst h1;subst h2;show bindL kindOf ((p,w)::P.zip vs) m p=_;unfold bindL;rw[adS fun v hv=>(List.nodup_cons.mp nd).1 (List.of_mem_zip hv).1,if_pos hk];simp
 | p::P,w::vs,i+1,m,nd,h1,h2,hk=>by
  show bindL kindOf ((p,w)::P.zip vs) m x=_;unfold bindL;exact adU (i:=i) (List.nodup_cons.mp nd).2 (by simpa using h1) (by simpa using h2) hk
theorem adV{kindOf:Str->Option NameKind}{x:Str}{v:Value}:∀{P:List Str}{vs:List Value}{i:Nat}{m:SV},P.Nodup->P[i]?=some x->vs[i]?=some v->kindOf x≠some .local->
  bindC kindOf (P.zip vs) m x=some v
 | [],_,_,_,_,h,_,_=>by simp at h
 |_::_,[],_,_,_,_,h,_=>by simp at h
 | p::P,w::vs,0,m,nd,h1,h2,hk=>by
  simp at h1 h2;subst h1;subst h2;show bindC kindOf ((p,w)::P.zip vs) m p=_;unfold bindC;rw[adT fun v hv=>(List.nodup_cons.mp nd).1 (List.of_mem_zip hv).1,if_neg hk];simp
 | p::P,w::vs,i+1,m,nd,h1,h2,hk=>by
  show bindC kindOf ((p,w)::P.zip vs) m x=_;unfold bindC;exact adV (i:=i) (List.nodup_cons.mp nd).2 (by simpa using h1) (by simpa using h2) hk
noncomputable def JB(N:List Str)(vs:List V):St:=vs.map some++List.replicate (N.length-vs.length) none
noncomputable def Jl(CX:CXT)(P:Program)(w:World)(K:Fg)(mg:SV)(base:Heap)(N:List Str)(qual:Str)(scope:Scope)(f:Addr)(cd:Value)(A:Around)(Ko:List Env)(s:Shared)(H:Hp)(E:XK):Cx where
 prog:=P
 w:=w
 K:=K
 mg:=mg
 base:=base
 A:=A.deeper (envOfC qual scope s.heap.objs.size f cd)
 N:=N
 s₀:=s
 H₀:=H
 env:=envOfC qual scope s.heap.objs.size f cd
 Ko:=Ko
 stack:=envOfC qual scope s.heap.objs.size f cd::Ko
 ex:=[]
 calm:=true
 fn:=fun _=>true
 pn:=[]
 xe:=fun e s'=>wpAny (model P w) (A.deeper (envOfC qual scope s.heap.objs.size f cd)) (leaving (envOfC qual scope s.heap.objs.size f cd) e) (fun _ s''=>CX Ko H s E e s'') (fun e' s''=>CX Ko H s E e' s'') s'
theorem agg{sc:Scope}{n:Nat}{x:Str}(h:sc.names.lookup x=some .cell):∃c,(cellsFrom n sc.names []).lookup x=some c:=by
 have q:=PySem.W.cellsFrom_some sc.names n [] (.inl h);exact Option.isSome_iff_exists.mp q
theorem adW{CX:CXT}{P:Program}{w:World}{K:Fg}{mg:SV}{base:Heap}{N ps:List Str}{qual:Str}{scope:Scope}{f:Addr}{cd:Value}{A:Around}{Ko:List Env}{s s1:Shared}{H:Hp}{E:XK}{us:List Value}{vs:List V}
  (S:FnScope N ps scope) (hd:A.handled=none) (e0:Env0 P w K mg base A Ko s H) (hl:vs.length=ps.length) (r:jG vs us)
  (x:InCallC s s.heap.objs.size (bindL (envOfC qual scope s.heap.objs.size f cd).kindOf (ps.zip us) fun _=>none) (cellsFrom (s.heap.objs.size+1) scope.names []) (bindC (envOfC qual scope s.heap.objs.size f cd).kindOf (ps.zip us) fun _=>none) s1):
  Inv (Jl CX P w K mg base N qual scope f cd A Ko s H E) [] (JB N vs) H s1:=by
 have hpl:ps.length<=N.length:=by have:=congrArg List.length S.pre;rw[List.length_take]at this;omega
 obtain⟨h1,tk,rfl,hk⟩:=x.done;have noA:∀b:Addr,b∉(Jl CX P w K mg base N qual scope f cd A Ko s H E).ex:=fun b z=>absurd (show b∈([]:List Addr) from z) (by simp)
 refine⟨⟨e0.mod,S.kind,rfl,rfl,Nat.le_refl _,fun y z c h1 h2=>?_,fun y hy=>?_,fun y c _ h=>?_,fun _=>hd,Around.frames_deeper e0.frames,.inr ⟨rfl,rfl⟩,fun b z=>absurd z (noA b),e0.bs,e0.bsz,fun b _ _=>noA b,fun b z=>absurd z (noA b),e0.funs,e0.frf⟩,
  rfl,e0.bare,Un.kept hk,⟨_,x.toInCall.ns,fun i y v h1 h2 h3=>?_⟩,fun y c h=>⟨_,x.cell y c h⟩,e0.hok.fresh (Nat.le_refl _),fun y c h=>?_,fun p hp=>absurd (show p ∈ ([]:List (Addr × Obj)) from hp) (by simp),e0.hok.kept hk,?_⟩
 ·exact name_of_addr x.apart (PySem.mem_of_lookup h1) (PySem.mem_of_lookup h2)
 ·have hy:scope.names.lookup y=some .cell∨scope.names.lookup y=some .free:=hy
  rcases hy with hy | hy
  ·exact agg hy
  ·exact absurd rfl (S.nofree _ (PySem.mem_of_lookup hy))
 ·exact Nat.le_of_lt (x.above y c (PySem.mem_of_lookup h))
 ·have hi:i<vs.length:=by
   unfold JB at h2;by_cases hi:i<vs.length
   ·exact hi
   ·rw[List.getElem?_append_right (by simpa using hi)]at h2
    rw[List.getElem?_replicate]at h2;split at h2<;>cases h2
  have ha:vs[i]?=some v:=by
   unfold JB at h2;rw[List.getElem?_append_left (by simpa using hi),List.getElem?_map]at h2;cases e:vs[i]? with
   |none=>rw[e]at h2;cases h2
   |some a=>rw[e]at h2;cases h2;rfl
  obtain⟨u,hu,rv⟩:=r.get ha
  have hp:ps[i]?=some y:=by
   rw[←S.pre,List.getElem?_take_of_lt (by omega)];exact h1
  have ndP:ps.Nodup:=by rw[←S.pre];exact S.nd.sublist (List.take_sublist _ _)
  refine⟨u,rv,?_⟩;rcases S.par y (List.mem_of_getElem? hp)with k | k
  ·exact .inl ⟨k,adU ndP hp hu k⟩
  ·obtain⟨c,e⟩:=agg (n:=s.heap.objs.size+1) k
   refine .inr ⟨.inl k,c,e,?_⟩;have q:=x.cell y c e;rw[adV ndP hp hu (by show scope.names.lookup y≠_;rw[k];decide)]at q;exact q
 ·exact e0.hok.fresh (Nat.le_of_lt (x.above y c (PySem.mem_of_lookup h)))
 ·unfold JB
  show _=N.length;rw[List.length_append,List.length_map,List.length_replicate];omega
theorem aru{CX:CXT}{P:Program}{w:World}{K:Fg}{mg:SV}{base:Heap}{k:Nat}{f:Addr}{name qual:Str}{params:Arguments}{body:List Stmt}{scope:Scope}{dV kV doc pm Kc ct oc:Value}{an od:Option Addr}
  {osl:Array (Option Value)} {N ps:List Str} {sp:Sp} (lk:K.lookup f=some ⟨oc,od,.func (PySem.W.fnOf name qual params body scope dV kV doc pm an Kc ct),osl⟩) (hcd:PySem.W.codeIn K Kc qual=true) (S:FnScope N ps scope)
  (len:∀vs H Q E,sp vs H Q E->vs.length=ps.length)
  (hbody:∀(A:Around) (Ko:List Env) (s:Shared) (H:Hp) (vs:List V) (Q:VK) (E:XK),Room k (A.deeper (envOfC qual scope s.heap.objs.size f Kc))->sp vs H Q E->
   ∃ t,PSs (Jl CX P w K mg base N qual scope f Kc A Ko s H E) body t/\t { nx:=fun _ H'=>Q .non H',rt:=Q } (JB N vs) H):
  FnOk P w K mg base CX (k+1) f (PySem.W.fnOf name qual params body scope dV kV doc pm an Kc ct) ps sp:=by
 refine⟨len,fun A Ko s H args us vs Q E hr e0 hb r hsp=>?_⟩;have hl:=len _ _ _ _ hsp;have KX:K.In s.heap:=e0.mod.kin.keeps fun b o e=>(e0.bs b o e).1;have lim:s.heap.NoLimit:=e0.mod.nolimit.keeps fun b o e=>(e0.bs b o e).1
 have hkind:∀y∈ps.zip us,scope.names.lookup y.1=some .local∨(scope.names.lookup y.1=some .cell/\((cellsFrom (s.heap.objs.size+1) scope.names []).lookup y.1).isSome=true):=fun⟨n,v⟩ hy=>by
  rcases S.par n (List.of_mem_zip hy).1 with q | q
  ·exact .inl q
  ·exact .inr ⟨q,PySem.W.cellsFrom_some _ _ _ (.inl q)⟩
 refine codeAny_call_function hr.depth (KX _ _ lk) rfl S.co S.gen rfl (PySem.W.codeRec_of KX hcd) (hb _ _ _ _ ?_);refine wpAny_newFunctionEnv_cells S.kind hkind fun env he s1 x=>?_;subst he;refine⟨lim.keeps x.toInCall.keep,codeAny_func ?_⟩;obtain⟨t,ht,hq⟩:=hbody A Ko s H vs Q E (hr.deeper _) hsp;have I:Inv (Jl CX P w K mg base N qual scope f Kc A Ko s H E) [] (JB N vs) H s1:=adW S hr.hd e0 hl r x;refine wpAny_mono (ht [] s1 (JB N vs) H _ I hq) (fun fl s' hs=>?_) fun e s' hs=>hs
 have fin:∀{σ':St} {H':Hp} {v:V} {u:Value},Inv (Jl CX P w K mg base N qual scope f Kc A Ko s H E) [] σ' H' s'->jT v u->Q v H'->CE Ko P w H s Q u s':=
  fun {σ' H' v u} J rv q=>⟨v,H',J.os,J.bare,J.base,J.hok,rv,q⟩
 cases fl with
 | ret u=>
  obtain⟨v,σ',H',J,rv,q⟩:=hs;exact fin J rv q
 | next=>
  obtain⟨σ',H',J,q⟩:=hs;exact fin (v:=V.non) (u:=Value.none) J rfl q
 | brk=>
  obtain⟨_,_,_,q⟩:=hs;exact False.elim q
 | cont=>
  obtain⟨_,_,_,q⟩:=hs;exact False.elim q
section
variable {X:Cx}{x:Str}{p pos:Pos}{e:Expr}{es:List Expr}{t:TA}{id T:String}{r:List V->Hp->VK->Prop}
noncomputable def tCB(r:List V->Hp->VK->Prop)(t:TA):TE:=fun σ H Q=>t σ H fun vs H1=>r vs H1 Q
theorem aac(hc:zh X (.builtin id) r)(hg:Gl X x)(hm:X.mg x=none)(hv:bootBuiltins x=some (.builtin id))(ha:PA X (e::es) t)(hn:x≠"__name__":=by decide)(hdb:(x==("__debug__":Str))=false:=by decide)
  (he:starEach (e::es) X.env=(false,eval e X.env)::starEach es X.env:=by rfl) (hpl:(backTo pos (starEach es X.env)).any (·.1)=false:=by rfl):PE X (.Call (.Name x p) (e::es) [] pos) (tCB r t):=by
 intro Kp s σ H Q I h;refine wpAny_Call_Name_kw (aaZ I hg hm hv ?_ hn hdb);exact PyProof.Rows.callWith_builtin1 (thn (ha pos Kp s σ H _ I h) fun us s1 ⟨vs,H1,I1,r1,q1⟩=>hc Kp s1 σ H1 vs us Q I1 r1 q1) he hpl
theorem aa5(hc:zh X (.type T) r)(hg:Gl X x)(hm:X.mg x=none)(hv:bootBuiltins x=some (.type T))(ha:PA X (e::es) t)(hn:x≠"__name__":=by decide)(hdb:(x==("__debug__":Str))=false:=by decide)
  (he:starEach (e::es) X.env=(false,eval e X.env)::starEach es X.env:=by rfl) (hpl:(backTo pos (starEach es X.env)).any (·.1)=false:=by rfl):PE X (.Call (.Name x p) (e::es) [] pos) (tCB r t):=by
 intro Kp s σ H Q I h;refine wpAny_Call_Name_kw (aaZ I hg hm hv ?_ hn hdb);exact PyProof.Rows.callWith_type1 (thn (ha pos Kp s σ H _ I h) fun us s1 ⟨vs,H1,I1,r1,q1⟩=>hc Kp s1 σ H1 vs us Q I1 r1 q1) he hpl
end
end L2
namespace HT
open PySem PyProof.Rows
noncomputable def lexLt:List Int->List Int->Bool
 | [],[]=>false
 | [],_::_=>true
 |_::_,[]=>false
 |x::xs,y::ys=>if x=y then lexLt xs ys else decide (x<y)
theorem lexLt_cons(x y:Int)(xs ys:List Int):lexLt (x::xs) (y::ys)=if x=y then lexLt xs ys else decide (x<y):=rfl
theorem lexLt_nil_nil:lexLt [] []=false:=rfl
theorem acC(y:Int)(ys:List Int):lexLt [] (y::ys)=true:=rfl
theorem acD(x:Int)(xs:List Int):lexLt (x::xs) []=false:=rfl
theorem alr(A:Around)(s:Shared)(a:Int)(t:Tok)(c:Int)(u:Tok):∃e,SeqAt.EqAt A s (.int a t) (.int c u) e/\(e=true↔a=c):=
 ⟨(a==c),SeqAt.EqAt.int_int a t c u,by simp⟩
theorem als(A:Around)(s:Shared)(a:Int)(t:Tok)(c:Int)(u:Tok)(prog:Program)(w:World)(E:Value->SP0)(Q:Value->SP0)(h:Q (.bool (decide (a<c))) s):
  wpAny (model prog w) A (richCompare .Lt (.int a t) (.int c u)) Q E s:=
 (PyProof.Rows.lt_int h:wpAny (model prog w) A (compareOp .Lt (.int a t) (.int c u)) Q E s)
section
open PySem.SeqAt
open PySem.AutoSeq1 (wpAny_loadPart')
open PySem.MeetsSeq PySem.MeetsSeq2 PySem.MeetsSeq3
theorem adE(l b:Addr)(items items2:Array Value)(n n2:Nat)(dd dd2:Option Addr)(sl sl2:Array (Option Value))(ns ms:List Int)(hi:IntsAre items.toList ns)(hj:IntsAre items2.toList ms):
  Meets (Builtin.«tuple.__lt__» ⟨[.ref l,.ref b],[]⟩)
   (fun _ R s=>s.heap.get? l=some { cls:= .type "tuple",dict:=dd,data:= .seq items n,slots:=sl }/\s.heap.get? b=some { cls:= .type "tuple",dict:=dd2,data:= .seq items2 n2,slots:=sl2 }/\
    R (.ok (.ret (.bool (lexLt ns ms)))) s):=
 .of_wp fun prog w A R s h=>by
  obtain⟨hp,g,d,tk,os⟩:=s;obtain⟨hl,hb,h⟩:=h;have f2:=AutoSeq1.sub_tuple_tuple;have z1:items.size=ns.length:=by rw[←hi.length];simp
  have z2:items2.size=ms.length:=by rw[←hj.length];simp
  wp_walk using wpAny_loadPart' hl,wpAny_loadPart' hb,wpAny_forIn_list _ (fun j1 b s'=>b.1=none/\s'=⟨hp,g,d,tk,os⟩/\∃(vs ws:List Value) (ns' ms':List Int),j1=vs.zip ws/\
   IntsAre vs ns'/\IntsAre ws ms'/\ns'.length+items2.size=ms'.length+items.size/\R (.ok (.ret (.bool (lexLt ns' ms')))) ⟨hp,g,d,tk,os⟩) _
  case turn=>
   rintro⟨y,x⟩ j1 b s' ⟨hb',rfl,vs,ws,ns',ms',hz,hvi,hwi,hlen,hR⟩
   cases hvi with
   |nil=>rw[List.zip_nil_left]at hz;cases hz
   | cons a t hvi'=>
    cases hwi with
    |nil=>rw[List.zip_nil_right]at hz;cases hz
    | cons c u hwi'=>
     rw[List.zip_cons_cons]at hz;injection hz with hyx hrest
     injection hyx with hy hx
     subst hy hx;rw[lexLt_cons]at hR;simp only[List.length_cons]at hlen;obtain⟨e,he,hiff⟩:=alr A.in1 ⟨hp,g,d,tk,os⟩ a t c u;refine wpAny_bind (he prog w _ _ ?_);cases e with
     | true=>
      rw[if_pos (hiff.mp rfl)]at hR
      wp_walk
      exact⟨rfl,rfl,_,_,_,_,hrest,hvi',hwi',by omega,hR⟩
     | false=>
      rw[if_neg (fun q=>absurd (hiff.mpr q) Bool.false_ne_true)]at hR;have hri:=als A.in1 ⟨hp,g,d,tk,os⟩ a t c u prog w
      wp_walk using hri
      exact⟨_,rfl,by simpa using hR⟩
  case fin=>
   rintro⟨b1,b2⟩ s' ⟨hb',rfl,vs,ws,ns',ms',hz,hvi,hwi,hlen,hR⟩
   simp only at hb';subst hb'
   have hv:lexLt ns' ms'=decide (items.size<items2.size):=by
    cases hvi with
    | nil=>
     cases hwi with
     | nil=>
      simp only[List.length_nil]at hlen;rw[lexLt_nil_nil];exact(decide_eq_false (by omega)).symm
     | cons c u hw=>
      simp only[List.length_nil,List.length_cons]at hlen;rw[acC];exact(decide_eq_true (by omega)).symm
    | cons a t hv=>
     cases hwi with
     | nil=>
      simp only[List.length_nil,List.length_cons]at hlen;rw[acD];exact(decide_eq_false (by omega)).symm
     | cons c u hw=>
      rw[List.zip_cons_cons]at hz;cases hz
   rw[hv]at hR
   wp_walk
   exact⟨_,rfl,by simpa[Builtin.Tuple.tupleCompareSizes]using hR⟩
  case h=>
   exact⟨rfl,rfl,items.toList,items2.toList,ns,ms,rfl,hi,hj,by omega,h⟩
end
section
variable {prog:Program}{w:World}{A:Around}{E:Value->SP0}{s:Shared}
theorem lt_tupInts{l b:Addr}{items items2:Array Value}{ns ms:List Int}{Q:Value->SP0}(hl:IsTup s.heap l items)(hb:IsTup s.heap b items2)(hi:IntsAre items.toList ns)(hj:IntsAre items2.toList ms)
  (hu:A.units<cLine) (h:Q (.bool (lexLt ns ms)) s):wpAny (model prog w) A (compareOp .Lt (.ref l) (.ref b)) Q E s:=by
 obtain⟨⟨cls,dd,data,sl⟩,ho,hc,n,hd⟩:=id hl;obtain⟨⟨cls2,dd2,data2,sl2⟩,ho2,hc2,n2,hd2⟩:=id hb;simp only at hc hd hc2 hd2;subst hc hd hc2 hd2
 exact richCompare_meets_room (op:= .Lt) ⟨_,ho,rfl⟩ ⟨_,ho2,rfl⟩ PySem.F.slot_tuple_lt PySem.F.entry_tuple_lt (PySem.F.args_tuple_lt_2 _ _) (adE l b items items2 n n2 dd dd2 sl sl2 ns ms hi hj)
  ⟨ho,ho2,show Value.bool (lexLt ns ms)≠Value.notImplemented/\Q (.bool (lexLt ns ms)) s from⟨(fun x=>nomatch x),h⟩⟩ hu
theorem cat_tup{t b:Addr}{vs ws:List Value}{Q:Value->SP0}(ht:IsTup s.heap t vs.toArray)(hb:IsTup s.heap b ws.toArray)(hv:vs≠[])
  (h1:ws=[]->Q (.ref t) s) (h2:ws≠[]->Q (.ref s.heap.objs.size) { s with heap:=s.heap.push { cls:= .type "tuple",data:= .seq (vs++ws).toArray } })
  (hsz:vs.length+ws.length<=sizeLine):wpAny (model prog w) A (binaryOp .Add (.ref t) (.ref b)) Q E s:=by
 obtain⟨⟨cls,dd,data,sl⟩,ho,hc,n,hd⟩:=id ht;obtain⟨⟨cls2,dd2,data2,sl2⟩,ho2,hc2,n2,hd2⟩:=id hb;simp only at hc hd hc2 hd2;subst hc hd hc2 hd2;have e:vs.toArray++ws.toArray=(vs++ws).toArray:=by simp
 by_cases hw:ws=[]
 ·exact concat_meets ⟨_,ho,rfl⟩ ⟨_,ho2,rfl⟩ noFill_tuple_add seq_tuple_add PySem.F.slot_tuple_add PySem.F.entry_tuple_add (PySem.F.args_tuple_add_2 _ _)
   (tuple_addW1 t b vs.toArray ws.toArray n n2 dd dd2 sl sl2 (by simpa using hv) (by simp[hw])) ⟨ho,ho2,h1 hw⟩
 ·refine concat_meets ⟨_,ho,rfl⟩ ⟨_,ho2,rfl⟩ noFill_tuple_add seq_tuple_add PySem.F.slot_tuple_add PySem.F.entry_tuple_add (PySem.F.args_tuple_add_2 _ _)
   (tuple_addW2 t b vs.toArray ws.toArray n n2 dd dd2 sl sl2 (by simpa using hv) (by simpa using hw) (by rw[List.size_toArray,List.size_toArray];exact hsz)) ⟨ho,ho2,?_⟩
  rw[e];exact h2 hw
noncomputable def sIx(n d:Nat):Option Int->Nat
 |none=>d
 |some v=>if v<0 then (v+(n:Int)).toNat else min v.toNat n
theorem sIx_none(n d:Nat):sIx n d none=d:=rfl
theorem sIx_nat(n d k:Nat):sIx n d (some (k:Int))=min k n:=by
 show(if (k:Int)<0 then ((k:Int)+(n:Int)).toNat else min (k:Int).toNat n)=min k n;rw[if_neg (by omega),Int.toNat_natCast]
theorem ap7(n d:Nat)(hd:d<=n)(o:Option Int):sIx n d o<=n:=by
 cases o with
 |none=>exact hd
 | some v=>
  show(if v<0 then (v+(n:Int)).toNat else min v.toNat n)<=n;by_cases hv:v<0
  ·rw[if_pos hv];omega
  ·rw[if_neg hv];exact Nat.min_le_right _ _
theorem ai3(v:Int)(n d:Nat):(if v<0 then max (v+(n:Int)) 0 else min v (n:Int))=((sIx n d (some v):Nat):Int):=by
 show(if v<0 then max (v+(n:Int)) 0 else min v (n:Int))=(((if v<0 then (v+(n:Int)).toNat else min v.toNat n):Nat):Int);by_cases hv:v<0
 ·simp only[if_pos hv];omega
 ·simp only[if_neg hv];omega
theorem ahE(lo hi:Option Int)(n:Nat):Builtin.Slice.sliceAdjust lo hi 1 (n:Int)=(((sIx n 0 lo:Nat):Int),((sIx n n hi:Nat):Int)):=by
 have h1:¬ ((1:Int)<0):=by omega
 unfold Builtin.Slice.sliceAdjust;simp only[h1,zzN];refine Prod.ext ?_ ?_
 ·cases lo with
  |none=>rfl
  |some v=>exact ai3 v n 0
 ·cases hi with
  |none=>rfl
  |some v=>exact ai3 v n n
theorem ahF(i j:Nat):Builtin.Slice.slicePlaces (i:Int) (j:Int) 1=j-i:=by
 unfold Builtin.Slice.slicePlaces;have h1:(1:Int)>0:=by omega
 simp only[h1,zzM,Int.ediv_one];split<;>omega
theorem slicePart_{v:Value}{o:Option Int}{Q:Option Int->SP0}(p:IsPart v o)(h:Q o s):wpAny (model prog w) A (Builtin.Slice.slicePartIndex v) Q E s:=by
 cases p with
 |none=>exact slicePart_none h
 |int i t=>exact slicePart_int h
theorem sliceApplied_gen{sl:Addr}{vl vu:Value}{lo hi:Option Int}{n:Nat}{Q:Int×Int×Nat->SP0}(hs:s.heap.IsSliceOf sl vl vu .none)(pl:IsPart vl lo)(pu:IsPart vu hi)
  (h:Q (((sIx n 0 lo:Nat):Int),1,sIx n n hi-sIx n 0 lo) s):wpAny (model prog w) A (Builtin.Slice.sliceApplied (.ref sl) (pure (n:Int))) Q E s:=by
 obtain⟨os,hos,hcs,hds⟩:=id hs;unfold Builtin.Slice.sliceApplied Builtin.Slice.sliceFields;refine wpAny_bind (wpAny_bind (wpAny_field hos hds (x:=vl) rfl (wpAny_bind (wpAny_field hos hds (x:=vu) rfl (wpAny_bind (wpAny_field hos hds (x:= .none) rfl (wpAny_pure ?_)))))));refine wpAny_bind (slicePart_none ?_);show wpAny _ _ (if ((1:Int)==0)=true then _ else _) _ _ s;rw[if_neg (by decide)];refine wpAny_bind (slicePart_ pl (wpAny_bind (slicePart_ pu (wpAny_bind (wpAny_pure ?_)))));show wpAny _ _ (match Builtin.Slice.sliceAdjust lo hi 1 (n:Int)with | (lo,hi)=>pure (lo,(1:Int),Builtin.Slice.slicePlaces lo hi 1)) _ _ s;rw[ahE lo hi n];show wpAny _ _ (pure (((sIx n 0 lo:Nat):Int),(1:Int),Builtin.Slice.slicePlaces ((sIx n 0 lo:Nat):Int) ((sIx n n hi:Nat):Int) 1)) _ _ s;rw[ahF];exact wpAny_pure h
theorem alu(xs:Array Value)(i k:Nat):((List.range k).filterMap fun (m:Nat)=>xs[((i:Int)+(m:Int)*1).toNat]?).toArray=((xs.toList.drop i).take k).toArray:=by
 have e:(fun (m:Nat)=>xs[((i:Int)+(m:Int)*1).toNat]?)=fun m=>xs[i+m]?:=by
  funext m;have:((i:Int)+(m:Int)*1).toNat=i+m:=by omega
  rw[this]
 rw[e];have:=pick_run xs i k;rw[List.filterMap_map]at this;have e2:((fun x=>xs[x]?)∘fun x=>i+x)=fun m=>xs[i+m]?:=rfl;rw[e2]at this;rw[this]
theorem getItem_tuple_cut{t sl:Addr}{items:Array Value}{vl vu:Value}{lo hi:Option Int}{Q:Value->SP0}(ht:IsTup s.heap t items)(hs:s.heap.IsSliceOf sl vl vu .none)(pl:IsPart vl lo)(pu:IsPart vu hi)
  (hw:¬ (sIx items.size 0 lo=0/\sIx items.size items.size hi=items.size))
  (h:Q (.ref s.heap.objs.size) { s with heap:=s.heap.push { cls:= .type "tuple",data:= .seq ((items.toList.drop (sIx items.size 0 lo)).take (sIx items.size items.size hi-sIx items.size 0 lo)).toArray } })
  (hsz:items.size<=sizeLine):wpAny (model prog w) A (getItem (.ref t) (.ref sl)) Q E s:=by
 have htake:sizeOk (.seq ((items.toList.drop (sIx items.size 0 lo)).take (sIx items.size items.size hi-sIx items.size 0 lo)).toArray):=by
  show((items.toList.drop (sIx items.size 0 lo)).take (sIx items.size items.size hi-sIx items.size 0 lo)).toArray.size<=sizeLine;rw[List.size_toArray,List.length_take,List.length_drop,Array.length_toList];omega
 have hj:sIx items.size items.size hi<=items.size:=ap7 _ _ (Nat.le_refl _) hi;obtain⟨os,hos,hcs,hds⟩:=id hs;have hTs:s.TypeIs (.ref sl) "slice":=⟨os,hos,hcs⟩;unfold getItem
 try with_reducible refine wpAny_holding ?_
 first | refine wpAny_bind (wpAny_pure ?_) | skip
 refine wpAny_bind (wpAny_sequenceKey ht.typeIs (by decide) ?_)
 refine wpAny_bind (wpAny_callSpecial?_slot (name:=Str.ofString "__getitem__") ht.typeIs PyProof.Rows.slot_tuple_getitem
  (wpAny_call_entry PyProof.Rows.slot_tuple_getitem ht.typeIs entry_tuple_getitem ?_ (args_tuple_getitem _ _)))
 show wpAny _ _ (Builtin.Tuple.tupleItemsOf (.ref t) >>= _) _ _ s;refine wpAny_bind (tupleItemsOf_ ht ?_);refine wpAny_bind (wpAny_typeOf hTs ?_);rw[if_pos (by decide)];refine wpAny_bind (sliceApplied_gen hs pl pu ?_)
 have hno:¬ ((((sIx items.size 0 lo:Nat):Int)==0&&(1:Int)==1&&(sIx items.size items.size hi-sIx items.size 0 lo)==items.size)=true):=by
  intro q;rw[Bool.and_eq_true,Bool.and_eq_true]at q;have q1:((sIx items.size 0 lo:Nat):Int)=0:=eq_of_beq q.1.1;have q2:sIx items.size items.size hi-sIx items.size 0 lo=items.size:=eq_of_beq q.2;exact hw ⟨by omega,by omega⟩
 show wpAny _ _ (if (((sIx items.size 0 lo:Nat):Int)==0&&(1:Int)==1&&(sIx items.size items.size hi-sIx items.size 0 lo)==items.size)=true then _ else _) _ _ s;rw[if_neg hno,alu]
 first
  |exact wpAny_bind (m:=Builtin.Tuple.tupleExact _) (wpAny_newObj_type (wpAny_pure ⟨_,rfl,wpAny_pure h⟩) htake)
  |exact wpAny_bind (m:=Builtin.Tuple.tupleExact _) (wpAny_newObj_type (wpAny_bind (wpAny_pure (wpAny_pure ⟨_,rfl,wpAny_pure h⟩))) htake)
  |exact wpAny_bind (wpAny_bind (m:=Builtin.Tuple.tupleExact _) (wpAny_newObj_type (wpAny_pure (wpAny_pure ⟨_,rfl,wpAny_pure h⟩)) htake))
  |exact wpAny_bind (wpAny_bind (m:=Builtin.Tuple.tupleExact _) (wpAny_newObj_type (wpAny_pure ⟨_,rfl,wpAny_pure h⟩) htake))
end
end HT
namespace L2
open PySem PySem.Spec PyProof.Rows
noncomputable abbrev TO:=St->Hp->(Option Int->Hp->Prop)->Prop
noncomputable def PO(X:Cx)(e:Option Expr)(t:TO):Prop:=
 ∀(Kp:List (Addr×Obj)) (s:Shared) (σ:St) (H:Hp) (Q:Option Int->Hp->Prop),Inv X Kp σ H s->t σ H Q->
  wpAny (model X.prog X.w) X.A (evalPart e X.env) (fun u s'=>∃o H',Inv X Kp σ H' s'/\IsPart u o/\Q o H') X.xe s
noncomputable def anO:TO:=fun _ H Q=>Q none H
noncomputable def arv(t:TE):TO:=fun σ H Q=>t σ H fun x H1=>∃i,x= .int i/\Q (some i) H1
section
variable {X:Cx}{e:Expr}{te:TE}{lo hi:Option Expr}{tl th:TO}{pos p2:Pos}
theorem ai4:PO X none anO:=by
 intro Kp s σ H Q I h;rw[evalPart_none];exact wpAny_pure ⟨none,H,I,.none,h⟩
theorem aeJ(h:PE X e te):PO X (some e) (arv te):=by
 intro Kp s σ H Q I hw;rw[evalPart_some];refine thn (h Kp s σ H _ I hw) fun u s1 ⟨x,H1,I1,r1,q1⟩=>?_;obtain⟨i,rfl,q⟩:=q1;obtain⟨t,rfl⟩:=r1;exact⟨some i,H1,I1,.int i t,q⟩
noncomputable def SlR(X:Cx)(r:V->Option Int->Option Int->Hp->VK->Prop):Prop:=
 ∀(Kp:List (Addr×Obj)) (s:Shared) (σ:St) (H:Hp) (x:V) (v vl vu:Value) (lo hi:Option Int) (sl:Addr) (Q:VK),Inv X Kp σ H s->jT x v->s.heap.IsSliceOf sl vl vu .none->IsPart vl lo->IsPart vu hi->r x lo hi H Q->
  ∃T id,typeLookup (.type T) "__getitem__"=pure (some (.builtin id))/\s.TypeIs v T/\wpAny (model X.prog X.w) X.A (getItem v (.ref sl)) (EP X Kp σ Q) X.xe s
theorem SlR.or{r r':V->Option Int->Option Int->Hp->VK->Prop}(h:SlR X r)(h':SlR X r'):SlR X (fun x lo hi H Q=>r x lo hi H Q∨r' x lo hi H Q):=by
 intro Kp s σ H x v vl vu lo hi sl Q I rx hs pl pu q;rcases q with q | q
 ·exact h Kp s σ H x v vl vu lo hi sl Q I rx hs pl pu q
 ·exact h' Kp s σ H x v vl vu lo hi sl Q I rx hs pl pu q
noncomputable def tSl(r:V->Option Int->Option Int->Hp->VK->Prop)(te:TE)(tl th:TO):TE:=fun σ H Q=>te σ H fun x H1=>tl σ H1 fun l H2=>th σ H2 fun u H3=>r x l u H3 Q
theorem agh{r:V->Option Int->Option Int->Hp->VK->Prop}(hr:SlR X r)(he:PE X e te)(hl:PO X lo tl)(hu:PO X hi th):PE X (.Subscript e (.Slice lo hi none p2) pos) (tSl r te tl th):=by
 intro Kp s σ H Q I h;refine Subscript_ (thn (he Kp s σ H _ I h) fun v s1 ⟨x,H1,I1,r1,q1⟩=>?_);refine wpAny_Slice (thn (hl Kp s1 σ H1 _ I1 q1) fun vl s2 ⟨l,H2,I2,pl,q2⟩=>thn (hu Kp s2 σ H2 _ I2 q2) fun vu s3 ⟨u,H3,I3,pu,q3⟩=>?_);rw[evalPart_none];refine wpAny_pure ?_;have I4:Inv X Kp σ H3 { s3 with heap:=s3.heap.push { cls:= .type "slice",data:= .fields #[vl,vu,.none] } }:=I3.kept (t':=s3.toks) fun b ob q=>Heap.get?_push_of_some _ q;obtain⟨T,id,hT,ht,hg⟩:=hr Kp { s3 with heap:=s3.heap.push { cls:= .type "slice",data:= .fields #[vl,vu,.none] } } σ H3 x v vl vu l u s3.heap.objs.size Q I4 r1 (Heap.IsSliceOf.new ..) pl pu q3;show wpAny (model X.prog X.w) X.A (subscriptTail e (.Slice lo hi none p2) v (.ref s3.heap.objs.size)) (EP X Kp σ Q) X.xe { s3 with heap:=s3.heap.push { cls:= .type "slice",data:= .fields #[vl,vu,.none] } };exact tail_any (ops:=[.ref s3.heap.objs.size,v]) ht hT hg (by with_unfolding_all rfl)
noncomputable def aeK(xs:List V)(lo hi:Option Int):List V:=(xs.drop (HT.sIx xs.length 0 lo)).take (HT.sIx xs.length xs.length hi-HT.sIx xs.length 0 lo)
theorem agi(xs:List V)(lo hi:Option Int):(aeK xs lo hi).length<=xs.length:=by
 unfold aeK;rw[List.length_take,List.length_drop];omega
noncomputable def arw(K:Fg):V->Option Int->Option Int->Hp->VK->Prop:=fun x lo hi H Q=>∃a xs,x= .ref a/\SqT K H a xs/\
 ¬ (HT.sIx xs.length 0 lo=0/\HT.sIx xs.length xs.length hi=xs.length)/\∀p,H p=none->Q (.ref p) (upd H p (.tup (aeK xs lo hi)))
theorem alv:SlR X (arw X.K):=by
 intro Kp s σ H x v vl vu lo hi sl Q I rx hs pl pu h;obtain⟨a,xs,rfl,hx,hw,q⟩:=h;cases rx;obtain⟨its,r,ht,hz⟩:=I.tuple hx;have hlen:its.toArray.size=xs.length:=by rw[List.size_toArray];exact r.length.symm
 refine⟨"tuple",_,PyProof.Rows.slot_tuple_getitem.lookup,ht.typeIs,?_⟩;refine HT.getItem_tuple_cut ht hs pl pu (by rw[hlen];exact hw) ?_ (by rw[hlen];exact hz);rw[hlen];refine⟨.ref s.heap.objs.size,_,I.laid (t':=s.toks) (o:= .tup (aeK xs lo hi)) (fun b ob q=>Heap.get?_push_of_some _ q) (Nat.le_refl _) ?_,rfl,q _ (I.hok.fresh (Nat.le_refl _))⟩;exact⟨Nat.le_trans (agi xs lo hi) hz,_,(r.drop (HT.sIx xs.length 0 lo)).take (HT.sIx xs.length xs.length hi-HT.sIx xs.length 0 lo),IsTup.new _ _⟩
noncomputable def arx(K:Fg):R2:=fun x y H Q=>∃a b xs ys,x= .ref a/\y= .ref b/\SqT K H a xs/\SqT K H b ys/\xs≠[]/\xs.length+ys.length<=sizeLine/\
 (ys=[]->Q (.ref a) H)/\(ys≠[]->∀p,H p=none->Q (.ref p) (upd H p (.tup (xs++ys))))
theorem jG.nil_iff{xs:List V}{us:List Value}(r:jG xs us):us=[]↔xs=[]:=by
 cases r with
 |nil=>simp
 |cons _ _=>simp
theorem anP:OpR X (binaryOp .Add) (arx X.K):=by
 intro Kp s σ H x y v u Q I rx ry h;obtain⟨a,b,xs,ys,rfl,rfl,ha,hb,hx,hz,q1,q2⟩:=h;cases rx;cases ry;obtain⟨its,r1,p1,_⟩:=I.tuple ha;obtain⟨its2,r2,p2,_⟩:=I.tuple hb;refine HT.cat_tup p1 p2 (fun z=>hx (r1.nil_iff.mp z)) (fun z=>⟨.ref a,H,I,rfl,q1 (r2.nil_iff.mp z)⟩) (fun z=>?_) (by rw[←r1.length,←r2.length];exact hz);refine⟨.ref s.heap.objs.size,_,I.laid (t':=s.toks) (o:= .tup (xs++ys)) (fun b ob q=>Heap.get?_push_of_some _ q) (Nat.le_refl _) ?_,rfl,q2 (fun w=>z (r2.nil_iff.mpr w)) _ (I.hok.fresh (Nat.le_refl _))⟩;exact⟨by rw[List.length_append];exact hz,_,r1.append r2,IsTup.new _ _⟩
end
noncomputable def ixN(n:Nat)(i:Int):Option Nat:=if 0<=i then (if i<n then some i.toNat else none) else if -(n:Int)<=i then some (i+n).toNat else none
noncomputable def atI{α:Type}(xs:List α)(i:Int):Option α:=(ixN xs.length i).bind fun j=>xs[j]?
theorem ai5{n:Nat}{i:Int}{j:Nat}(h:ixN n i=some j):seqIndex? i n=some j/\j<n/\-(n:Int)<=i/\i<n:=by
 unfold ixN at h;by_cases h0:0<=i
 ·rw[if_pos h0]at h
  by_cases h1:i<n
  ·rw[if_pos h1]at h
   have e:i.toNat=j:=Option.some.inj h;exact⟨by rw[seqIndex_of h0 h1,e],by omega,by omega,h1⟩
  ·rw[if_neg h1]at h;cases h
 ·rw[if_neg h0]at h
  by_cases h1:-(n:Int)<=i
  ·rw[if_pos h1]at h
   have e:(i+n).toNat=j:=Option.some.inj h;exact⟨by rw[seqIndex_neg (by omega) h1,e],by omega,h1,by omega⟩
  ·rw[if_neg h1]at h;cases h
theorem ai6{α:Type}{xs:List α}{i:Int}{v:α}(h:atI xs i=some v):∃j,seqIndex? i xs.length=some j/\xs[j]?=some v/\j<xs.length/\-(xs.length:Int)<=i/\i<xs.length:=by
 unfold atI at h;cases e:ixN xs.length i with
 |none=>rw[e]at h;cases h
 | some j=>
  rw[e]at h;obtain⟨h1,h2,h3,h4⟩:=ai5 e;exact⟨j,h1,h,h2,h3,h4⟩
noncomputable def aeL(b:Expr):Prop:=∀o i,subscripted b false o i=operate [o,i] (getItem o i)
noncomputable def IxR(X:Cx)(r:R2):Prop:=
 ∀(value slice:Expr) (Kp:List (Addr×Obj)) (s:Shared) (σ:St) (H:Hp) (x y:V) (v u:Value) (Q:VK),Inv X Kp σ H s->jT x v->jT y u->r x y H Q->
  subscripted slice false v u=operate [v,u] (getItem v u)->wpAny (model X.prog X.w) X.A (subscriptTail value slice v u) (EP X Kp σ Q) X.xe s
noncomputable def MtR(X:Cx)(id:String)(r:V->List V->Hp->VK->Prop):Prop:=
 ∀(Kp:List (Addr×Obj)) (s:Shared) (σ:St) (H:Hp) (x:V) (xs:List V) (v:Value) (us:List Value) (Q:VK),Inv X Kp σ H s->jT x v->jG xs us->r x xs H Q->
  wpAny (model X.prog X.w) X.A (call (.builtin id) (v::us)) (EP X Kp σ Q) X.xe s
section
variable {X:Cx}{a b:Expr}{ta tb:TE}{pos:Pos}
theorem IxR.or{r r':R2}(h:IxR X r)(h':IxR X r'):IxR X (fun x y H Q=>r x y H Q∨r' x y H Q):=by
 intro value slice Kp s σ H x y v u Q I rx ry q hs;rcases q with q | q
 ·exact h value slice Kp s σ H x y v u Q I rx ry q hs
 ·exact h' value slice Kp s σ H x y v u Q I rx ry q hs
theorem MtR.or{id:String}{r r':V->List V->Hp->VK->Prop}(h:MtR X id r)(h':MtR X id r'):MtR X id (fun x xs H Q=>r x xs H Q∨r' x xs H Q):=by
 intro Kp s σ H x xs v us Q I rx rs q;rcases q with q | q
 ·exact h Kp s σ H x xs v us Q I rx rs q
 ·exact h' Kp s σ H x xs v us Q I rx rs q
theorem apm{r:R2}(hr:IxR X r)(ha:PE X a ta)(hb:PE X b tb)(hs:aeL b):PE X (.Subscript a b pos) (tOp r ta tb):=by
 intro Kp s σ H Q I h;exact Subscript_ (anG ha hb I h fun v u s2 x y H2 I2 rx ry q=>hr a b Kp s2 σ H2 x y v u Q I2 rx ry q (hs _ _))
noncomputable def asE(K:Fg):R2:=fun x y H Q=>∃p xs i v,x= .ref p/\y= .int i/\SqL K H p xs/\atI xs i=some v/\Q v H
noncomputable def asF(K:Fg):R2:=fun x y H Q=>∃p xs i v,x= .ref p/\y= .int i/\SqT K H p xs/\atI xs i=some v/\Q v H
theorem anQ:IxR X (asE X.K):=by
 intro value slice Kp s σ H x y v u Q I rx ry h hs;obtain⟨p,xs,i,z,rfl,rfl,hq,he,q⟩:=h;cases rx;obtain⟨t,rfl⟩:=ry;obtain⟨its,r,pl,hz⟩:=I.list hq;obtain⟨j,h1,h2,h3,h4,h5⟩:=ai6 he;obtain⟨w,ew,rw'⟩:=r.get h2;have hl:=r.length;have hn:=acA;have fin:EP X Kp σ Q w s:=⟨z,H,I,rw',q⟩;by_cases h0:0<=i
 ·have hj:i.toNat=j:=by
   rw[seqIndex_of h0 h5]at h1;exact Option.some.inj h1
  exact item_listR pl.isList h0 (by omega) (by rw[hj];simpa using ew) fin hs
 ·have hj:(i+(its.toArray.size:Int)).toNat=j:=by
   rw[seqIndex_neg (by omega) h4]at h1;rw[List.size_toArray,←hl];exact Option.some.inj h1
  exact subscriptTail_builtinR (x:=w) pl.isList.typeIs slot_list_getitem.lookup
   (wpAny_getItem_list_neg (Q:=fun r s'=>r=w/\EP X Kp σ Q r s') pl.isList (by omega) (by rw[List.size_toArray]<;>omega) (by omega) (by rw[hj];simpa using ew) ⟨rfl,fin⟩) hs
theorem ap8:IxR X (asF X.K):=by
 intro value slice Kp s σ H x y v u Q I rx ry h hs;obtain⟨p,xs,i,z,rfl,rfl,hq,he,q⟩:=h;cases rx;obtain⟨t,rfl⟩:=ry;obtain⟨its,r,pl,hz⟩:=I.tuple hq;obtain⟨j,h1,h2,h3,h4,h5⟩:=ai6 he;obtain⟨w,ew,rw'⟩:=r.get h2;have hl:=r.length;have hn:=acA;have fin:EP X Kp σ Q w s:=⟨z,H,I,rw',q⟩
 exact subscriptTail_builtinR (x:=w) pl.typeIs slot_tuple_getitem.lookup
  (getItem_tuple (j:=j) (Q:=fun r s'=>r=w/\EP X Kp σ Q r s') pl (by omega) (by omega) (by rw[List.size_toArray,←hl];exact h1) (by simpa using ew) ⟨rfl,fin⟩) hs
theorem ahG(its:List Value)(n j:Nat)(u:Value):Obj.mapSeq (·.setIfInBounds j u) { cls:= .type "list",data:= .seq its.toArray n }={ cls:= .type "list",data:= .seq (its.set j u).toArray n }:=by
 simp[Obj.mapSeq]
theorem Inv.lst{Kp:List (Addr×Obj)}{σ:St}{H:Hp}{s:Shared}{p:Addr}{xs:List V}(I:Inv X Kp σ H s)(h:H p=some (.lst xs)):
  ∃(its:List Value) (n:Nat),jG xs its/\s.heap.get? p=some { cls:= .type "list",data:= .seq its.toArray n }/\xs.length<=sizeLine:=by
 obtain⟨z,its,n,r,e⟩:=I.hok p _ h;exact⟨its,n,r,e,z⟩
theorem Inv.lstUpd{Kp:List (Addr×Obj)}{σ:St}{H:Hp}{s:Shared}{p:Addr}{xs ys:List V}{its its':List Value}{n n':Nat}{f:Obj->Obj}(I:Inv X Kp σ H s)(h:H p=some (.lst xs))
  (ho:s.heap.get? p=some { cls:= .type "list",data:= .seq its.toArray n }) (hf:f { cls:= .type "list",data:= .seq its.toArray n }={ cls:= .type "list",data:= .seq its'.toArray n' }) (r:jG ys its') (hz:ys.length<=sizeLine) (t:Nat):
  Inv X Kp σ (upd H p (.lst ys)) { s with heap:=s.heap.update p f,toks:=t }:=by
 have e:(s.heap.update p f).get? p=some { cls:= .type "list",data:= .seq its'.toArray n' }:=by
  rw[Heap.get?_update_self f ho (by rw[hf]<;>rfl),hf]
 refine I.write (x:=p) (e:=p) (by rw[h];trivial) (.inl rfl) (fun b u hb q=>(Heap.get?_update_other _ _ (Ne.symm hb)).trans q) ⟨_,e⟩ ?_;exact⟨hz,its',n',r,e⟩
noncomputable def ary:V->V->V->Hp->(Hp->Prop)->Prop:=fun o i v H Q=>∃p xs k j,o= .ref p/\i= .int k/\H p=some (.lst xs)/\ixN xs.length k=some j/\Q (upd H p (.lst (xs.set j v)))
theorem alw:anE X ary:=by
 intro Kp s σ H o i v ov iv u Q I ro ri rv h;obtain⟨p,xs,k,j,rfl,rfl,hp,hj,q⟩:=h;cases ro;obtain⟨t,rfl⟩:=ri;obtain⟨its,n,r,ho,hz⟩:=I.lst hp;obtain⟨h1,h2,h3,h4⟩:=ai5 hj;have hl:=r.length;have hn:=acA
 have I':Inv X Kp σ (upd H p (.lst (xs.set j v))) { s with heap:=s.heap.update p (Obj.mapSeq (·.setIfInBounds j u)) }:=
  I.lstUpd hp ho (ahG its n j u) (r.set rv j) (by rw[List.length_set];exact hz) s.toks
 by_cases h0:0<=k
 ·have hk:k.toNat=j:=by
   rw[seqIndex_of h0 h4]at h1;exact Option.some.inj h1
  exact PySem.W.ki_setAt ho h0 (by omega) (by rw[List.size_toArray,←hl];exact h4) (by rw[hk];exact⟨_,I',q⟩)
 ·have hk:(k+(its.toArray.size:Int)).toNat=j:=by
   rw[seqIndex_neg (by omega) h3]at h1;rw[List.size_toArray,←hl];exact Option.some.inj h1
  exact PySem.W.ki_setBack ho (by omega) (by rw[List.size_toArray,←hl];exact h3) (by omega) (by rw[hk];exact⟨_,I',q⟩)
theorem aeM:zh X (.builtin "len") (fun xs H Q=>∃p ys,xs=[.ref p]/\(SqL X.K H p ys∨SqT X.K H p ys)/\Q (.int ys.length) H):=by
 intro Kp s σ H xs us Q I r h;obtain⟨p,ys,rfl,hq,q⟩:=h;obtain⟨u,rfl,rx⟩:=QV r;cases rx;have hn:=acA;rcases hq with hq | hq
 ·obtain⟨its,r',pl,hz⟩:=I.list hq
  have hlen:=r'.length;exact Calls.call_len_list pl.isList (by simp only[List.size_toArray]<;>omega) ⟨.int ys.length,H,I.tok _,⟨s.toks+1,by rw[List.size_toArray,hlen]⟩,q⟩
 ·obtain⟨its,r',pl,hz⟩:=I.tuple hq
  have hlen:=r'.length;exact len_tuple pl (by simp only[List.size_toArray]<;>omega) ⟨.int ys.length,H,I.tok _,⟨s.toks+1,by rw[List.size_toArray,hlen]⟩,q⟩
theorem aeN:zh X (.builtin "len") (fun xs H Q=>∃z,xs=[.str z]/\z.length<=sizeLine/\Q (.int z.length) H):=by
 intro Kp s σ H xs us Q I r h;obtain⟨z,rfl,hz,q⟩:=h;obtain⟨u,rfl,t,rfl⟩:=QV r;have hn:=acA;exact len_str (by omega) ⟨.int z.length,H,I.tok _,⟨_,rfl⟩,q⟩
theorem zh.or{f:Value}{r r':List V->Hp->VK->Prop}(h:zh X f r)(h':zh X f r'):zh X f (fun xs H Q=>r xs H Q∨r' xs H Q):=by
 intro Kp s σ H xs us Q I rs q;rcases q with q | q
 ·exact h Kp s σ H xs us Q I rs q
 ·exact h' Kp s σ H xs us Q I rs q
theorem aeO:zh X (.type "list") (fun xs H Q=>∃p ys,xs=[.ref p]/\(SqL X.K H p ys∨SqT X.K H p ys)/\∀l,H l=none->Q (.ref l) (upd H l (.lst ys))):=by
 intro Kp s σ H xs us Q I r h;obtain⟨p,ys,rfl,hq,q⟩:=h;obtain⟨u,rfl,rx⟩:=QV r;cases rx
 have fin:∀(its:List Value),jG ys its->ys.length<=sizeLine->∀(h':Heap) (c':Nat),(∀b o',s.heap.get? b=some o'->h'.get? b=some o')->
   h'.get? s.heap.objs.size=some { cls:= .type "list",dict:=none,data:= .seq its.toArray c',slots:=#[] }->EP X Kp σ Q (.ref s.heap.objs.size) { s with heap:=h' }:=fun its r' hz h' c' kp e=>
  ⟨.ref s.heap.objs.size,_,I.laid (t':=s.toks) kp (Nat.le_refl _) (show qt X.prog X.w _ h' _ (.lst ys) from⟨hz,its,c',r',e⟩),rfl,q _ (I.hok.fresh (Nat.le_refl _))⟩
 rcases hq with hq | hq
 ·obtain⟨its,r',pl,hz⟩:=I.list hq
  have hlen:=r'.length;obtain⟨o,ho,hc,n,hd⟩:=pl.isList;exact call_list_seq p (.inl rfl) ho hc hd (fun h' c' kp e=>fin its r' hz h' c' kp e) (by simp only[List.size_toArray]<;>omega)
 ·obtain⟨its,r',pl,hz⟩:=I.tuple hq
  have hlen:=r'.length;obtain⟨o,ho,hc,n,hd⟩:=pl;exact call_list_seq p (.inr rfl) ho hc hd (fun h' c' kp e=>fin its r' hz h' c' kp e) (by simp only[List.size_toArray]<;>omega)
theorem adF:zh X (.type "tuple") (fun xs H Q=>∃p ys,xs=[.ref p]/\((SqL X.K H p ys/\∀l,H l=none->Q (.ref l) (upd H l (.tup ys)))∨(SqT X.K H p ys/\Q (.ref p) H))):=by
 intro Kp s σ H xs us Q I r h;obtain⟨p,ys,rfl,h⟩:=h;obtain⟨u,rfl,rx⟩:=QV r;cases rx;rcases h with ⟨hq,q⟩ | ⟨hq,q⟩
 ·obtain⟨its,r',pl,hz⟩:=I.list hq
  have hlen:=r'.length;refine call_tuple_list pl.isList (fun h' kp=>?_) (by simp only[List.size_toArray]<;>omega);have I1:Inv X Kp σ H { s with heap:=h' }:=I.kept (t':=s.toks) kp
  have I2:Inv X Kp σ (upd H h'.objs.size (.tup ys)) { s with heap:=h'.push { cls:= .type "tuple",data:= .seq its.toArray } }:=
   I1.laid (t':=s.toks) (fun b o e=>Heap.get?_push_of_some _ e) (Nat.le_refl _) (show qt X.prog X.w _ _ _ (.tup ys) from⟨hz,its,r',IsTup.new _ _⟩)
  exact⟨.ref h'.objs.size,_,I2,rfl,q _ (I1.hok.fresh (Nat.le_refl _))⟩
 ·obtain⟨its,r',pl,hz⟩:=I.tuple hq
  exact call_tuple_same pl ⟨.ref p,H,I,rfl,q⟩
noncomputable def tyV(K:Fg)(T:String)(x:V)(H:Hp):Prop:=match x with
 |.str _=>T="str"
 |.int _=>T="int"
 | .ref p=>(T="list"/\∃xs,SqL K H p xs)∨(T="tuple"/\∃o,K.lookup p=some o/\o.cls= .type "tuple"/\o.dict=none) ∨
   (T="dict"/\((∃kvs,H p=some (.dK kvs))∨∃kvs,H p=some (.dT kvs)))∨(T="set"/\∃S n,H p=some (.set S n))
 |_=>False
theorem alx{Kp:List (Addr×Obj)}{σ:St}{H:Hp}{s:Shared}{T:String}{x:V}{v:Value}(I:Inv X Kp σ H s)(r:jT x v)(ty:tyV X.K T x H):
  s.TypeIs v T/\∀a,v= .ref a->∃ob,s.heap.get? a=some ob/\ob.dict=none:=by
 cases x with
 | str z=>
  obtain⟨t,rfl⟩:=r;cases (show T="str" from ty);exact⟨typeIs_str s z t,fun _ e=>nomatch e⟩
 | int i=>
  obtain⟨t,rfl⟩:=r;cases (show T="int" from ty);exact⟨typeIs_int s i t,fun _ e=>nomatch e⟩
 | ref p=>
  cases r;rcases ty with ⟨rfl,xs,hq⟩ | ⟨rfl,o,hk,hc,hd⟩ | ⟨rfl,hk⟩ | ⟨rfl,S,n,hk⟩
  ·obtain⟨its,_,pl,_⟩:=I.list hq
   refine⟨pl.isList.typeIs,fun a e=>?_⟩;cases e;obtain⟨o,n,e,c,hd,_⟩:=pl;exact⟨o,e,hd⟩
  ·refine⟨⟨o,I.kIn p o hk,hc⟩,fun a e=>?_⟩
   cases e;exact⟨o,I.kIn _ o hk,hd⟩
  ·have z:∃o,s.heap.get? p=some o/\o.ExactDict:=by
    rcases hk with ⟨kvs,hk⟩ | ⟨kvs,hk⟩
    ·obtain⟨_,_,_,_,o,_,_,e,ex,_⟩:=I.hok p _ hk
     exact⟨o,e,ex⟩
    ·obtain⟨_,_,_,_,o,_,_,e,ex,_⟩:=I.hok p _ hk
     exact⟨o,e,ex⟩
   obtain⟨o,e,ex⟩:=z;refine⟨⟨o,e,ex.1⟩,fun a e2=>?_⟩;cases e2;exact⟨o,e,ex.2.1⟩
  ·obtain⟨o,_,_,_,e,ex,_⟩:=I.hok p _ hk
   refine⟨⟨o,e,ex.1⟩,fun a e2=>?_⟩;cases e2;exact⟨o,e,ex.2.1⟩
 |_=>exact False.elim ty
noncomputable def tBM(K:Fg)(T:String)(r:V->List V->Hp->VK->Prop)(to:TE)(t:TA):TE:=fun σ H Q=>to σ H fun x H1=>tyV K T x H1/\t σ H1 fun xs H2=>r x xs H2 Q
variable {o e:Expr}{es:List Expr}{to:TE}{t:TA}{name:Str}{apos cpos:Pos}{T id:String}{r:V->List V->Hp->VK->Prop}
theorem apn(pa:PlainAttrs T)(slot:Slot T name id)(hty:typeOf (.builtin id)=pure (.type "method_descriptor"))(hm:MtR X id r)(ho:PE X o to)(ha:PA X (e::es) t)
  (hbase:attributeBase o name X.env (eval o X.env)=eval o X.env:=by rfl)
  (hfew:((backTo cpos (starEach (e::es) X.env)).all (fun x=>!x.1)&&(backToKw cpos (keywordEach [] X.env)).all (fun x=>x.1.isSome)
   && decide ((e::es).length+([]:List Keyword).length+(if ([]:List Keyword).isEmpty then 0 else 1)<30))=true:=by rfl)
  (hline:(apos.endLine==cpos.line)=true:=by rfl) (hs:starEach (e::es) X.env=(false,eval e X.env)::starEach es X.env:=by rfl) (hplain:(backTo cpos (starEach es X.env)).any (·.1)=false:=by rfl):
  PE X (.Call (.Attribute o name apos) (e::es) [] cpos) (tBM X.K T r to t):=by
 intro Kp s σ H Q I h;refine wpAny_Call_method_late hbase hfew hline rfl (thn (ho Kp s σ H _ I h) fun v s1 ⟨x,H1,I1,r1,ty,q1⟩=>?_);obtain⟨h1,h2⟩:=alx I1 r1 ty;refine⟨T,id,pa,slot,hty,h1,h2,?_⟩;have hA:=ha cpos Kp s1 σ H1 _ I1 q1;rw[hs]at hA ⊢;refine Calls.callWith_builtin (by show(false||(backTo cpos (starEach es X.env)).any (·.1))=false;rw[hplain]<;>rfl) (Calls.evalArgs_plain ?_);exact thn hA fun us s2 ⟨vs,H2,I2,r2,q2⟩=>hm Kp s2 σ H2 x vs v us Q I2 r1 r2 q2
end
noncomputable def MtM(X:Cx)(id:String)(r:V->List V->Hp->VK->Prop):Prop:=
 ∀(Kp:List (Addr×Obj)) (s:Shared) (σ:St) (H:Hp) (x:V) (xs:List V) (v:Value) (us:List Value) (Q:VK),Inv X Kp σ H s->jT x v->jG xs us->r x xs H Q->
  wpAny (model X.prog X.w) X.A (call (.builtin id) (v::us)) (EP X Kp σ Q) X.xe s
theorem jG.one:∀{x:V}{us:List Value},jG [x] us->∃u,us=[u]/\jT x u
 |_,_,.cons r .nil=>⟨_,rfl,r⟩
theorem jG.zero:∀{us:List Value},jG [] us->us=[]
 |_,.nil=>rfl
theorem jG.reverse{xs:List V}{us:List Value}(h:jG xs us):jG xs.reverse us.reverse:=by
 induction h with
 |nil=>exact .nil
 |cons r t ih=>rw[List.reverse_cons,List.reverse_cons];exact jG.append ih (.cons r .nil)
theorem jG.rep{xs:List V}{us:List Value}(h:jG xs us):∀k:Nat,jG (List.replicate k xs).flatten (List.replicate k us).flatten
 |0=> .nil
 | k+1=>by
  rw[List.replicate_succ,List.replicate_succ,List.flatten_cons,List.flatten_cons];exact jG.append h (jG.rep h k)
theorem adX(its:List Value):∀(k:Nat) (acc:List Value),
  List.foldl (fun x1 x2=>x1++x2) acc.toArray (List.replicate k its.toArray)=(acc++(List.replicate k its).flatten).toArray
 |0,acc=>by simp
 | k+1,acc=>by
  have e:acc.toArray++its.toArray=(acc++its).toArray:=by simp
  have e2:(acc++its)++(List.replicate k its).flatten=acc++(List.replicate (k+1) its).flatten:=by
   rw[List.replicate_succ,List.flatten_cons,List.append_assoc]
  rw[←e2,←adX its k (acc++its),←e,List.replicate_succ,List.foldl_cons]
section
variable {X:Cx}{Kp:List (Addr×Obj)}{σ:St}{H:Hp}{s:Shared}{l b:Addr}{xs ys zs:List V}
theorem Inv.lset{its its':List Value}{n:Nat}{f:Array Value->Array Value}{t':Nat}(I:Inv X Kp σ H s)(hH:H l=some (.lst xs))
  (e:s.heap.get? l=some { cls:= .type "list",data:= .seq its.toArray n }) (hf:f its.toArray=its'.toArray) (hv:jG ys its') (hz:ys.length<=sizeLine):
  Inv X Kp σ (upd H l (.lst ys)) { s with heap:=s.heap.update l (Obj.mapSeq f),toks:=t' }:=by
 have q:=PySem.IsL.update e f;rw[hf]at q;refine I.write (x:=l) (e:=l) (by rw[hH];exact trivial) (.inl rfl) (fun b' u hb hu=>(Heap.get?_update_other s.heap (Obj.mapSeq f) (Ne.symm hb)).trans hu) ⟨_,q⟩ ?_;exact⟨hz,its',_,hv,q⟩
theorem Inv.lnew{its:List Value}{t':Nat}(I:Inv X Kp σ H s)(hv:jG ys its)(hz:ys.length<=sizeLine):
  Inv X Kp σ (upd H s.heap.objs.size (.lst ys)) { s with heap:=s.heap.push { cls:= .type "list",data:= .seq its.toArray },toks:=t' }:=
 I.laid (fun _ _ q=>Heap.get?_push_of_some _ q) (Nat.le_refl _) ⟨hz,its,0,hv,Heap.get?_push_size _ rfl⟩
theorem Inv.fresh(I:Inv X Kp σ H s):H s.heap.objs.size=none:=I.hok.fresh (Nat.le_refl _)
theorem Inv.lstM(I:Inv X Kp σ H s)(hH:H l=some (.lst xs)):xs.length<=sizeLine/\∃(its:List Value) (n:Nat),jG xs its/\xs.length=its.length/\s.heap.get? l=some { cls:= .type "list",data:= .seq its.toArray n }:=by
 obtain⟨z,its,n,r,e⟩:=I.hok l _ hH;exact⟨z,its,n,r,r.length,e⟩
theorem aly{n:Nat}(h:n<=sizeLine):Builtin.List.listTooLong n=false:=by
 unfold Builtin.List.listTooLong;exact decide_eq_false (by omega)
end
section
variable {X:Cx}
noncomputable def anR:V->List V->Hp->VK->Prop:=fun x vs H Q=>∃l xs y,x= .ref l/\vs=[y]/\H l=some (.lst xs)/\xs.length<sizeLine/\Q .non (upd H l (.lst (xs++[y])))
theorem adY:MtM X "list.append" anR:=by
 intro Kp s σ H x vs v us Q I rx rv h;obtain⟨l,xs,y,rfl,rfl,hH,hz,q⟩:=h;cases rx;obtain⟨u,rfl,ru⟩:=rv.one;obtain⟨z,its,n,r,hl,e⟩:=I.lstM hH;refine call_meets F.slot_list_append ⟨_,e,rfl⟩ F.entry_list_append (F.args_list_append_2 _ _) (PySem.list_append l its.toArray n u (by rw[List.size_toArray];omega)) ⟨e,?_⟩;refine⟨.non,_,I.lset (its':=its++[u]) hH e (by simp) (r.append (.cons ru .nil)) ?_,rfl,q⟩;rw[List.length_append,List.length_singleton];omega
noncomputable def ap9:V->List V->Hp->VK->Prop:=fun x vs H Q=>∃l xs,x= .ref l/\vs=[]/\H l=some (.lst xs)/\Q .non (upd H l (.lst []))
theorem alz:MtM X "list.clear" ap9:=by
 intro Kp s σ H x vs v us Q I rx rv h;obtain⟨l,xs,rfl,rfl,hH,q⟩:=h;cases rx;have hus:=rv.zero;subst hus;obtain⟨z,its,n,r,hl,e⟩:=I.lstM hH;refine call_meets F.slot_list_clear ⟨_,e,rfl⟩ F.entry_list_clear (F.args_list_clear_1 _) (AutoSeq1.list_clear_list_0 l its.toArray n (by rw[List.size_toArray];omega)) ⟨e,?_⟩;exact⟨.non,_,I.lset (its':=[]) (ys:=[]) hH e rfl .nil (Nat.zero_le _),rfl,q⟩
noncomputable def asG:R2:=fun x y H Q=>∃l b xs zs,x= .ref l/\y= .ref b/\H l=some (.lst xs)/\H b=some (.lst zs)/\xs.length+zs.length<=sizeLine/\∀p,H p=none->Q (.ref p) (upd H p (.lst (xs++zs)))
theorem aqa:OpR X (binaryOp .Add) asG:=by
 intro Kp s σ H x y v u Q I rx ry h;obtain⟨l,b,xs,zs,rfl,rfl,hH,hB,hz,q⟩:=h;cases rx;cases ry;obtain⟨z,its,n,r,hl,e⟩:=I.lstM hH;obtain⟨z2,its2,n2,r2,hl2,e2⟩:=I.lstM hB;refine PySem.P.add_list e e2 ?_ (by rw[List.size_toArray,List.size_toArray];omega);have ea:its.toArray++its2.toArray=(its++its2).toArray:=by simp
 rw[ea];exact⟨.ref _,_,I.lnew (t':=s.toks) (r.append r2) (by rw[List.length_append];omega),rfl,q _ I.fresh⟩
noncomputable def asH:R2:=fun x y H Q=>∃l k xs,x= .ref l/\y= .int k/\H l=some (.lst xs)/\-(2 ^ 63)<=k/\k<2 ^ 63/\xs.length*k.toNat<=sizeLine/\
 ∀p,H p=none->Q (.ref p) (upd H p (.lst (List.replicate k.toNat xs).flatten))
theorem anS{α:Type}(xs:List α)(k:Nat):(List.replicate k xs).flatten.length=k*xs.length:=by
 induction k with
 |zero=>simp
 |succ k ih=>rw[List.replicate_succ,List.flatten_cons,List.length_append,ih,Nat.succ_mul,Nat.add_comm]
theorem aqb:OpR X (binaryOp .Mult) asH:=by
 intro Kp s σ H x y v u Q I rx ry h;obtain⟨l,k,xs,rfl,rfl,hH,h1,h2,hz,q⟩:=h;cases rx;obtain⟨t,rfl⟩:=ry;obtain⟨z,its,n,r,hl,e⟩:=I.lstM hH;have hlen:its.toArray.size*k.toNat<=sizeLine:=by rw[List.size_toArray,←hl];exact hz
 have hcap:¬ its.toArray.size*k.toNat>(2 ^ 63-1) / 8:=by
  have:(sizeLine:Nat)<=(2 ^ 63-1) / 8:=by decide
  omega
 have hfit:¬ (!Builtin.List.listFitsIndex k)=true:=by
  rw[fitsIndex_both h1 h2];exact Bool.false_ne_true
 have hlong:¬ Builtin.List.listTooLong (its.toArray.size*k.toNat)=true:=by
  rw[aly hlen];exact Bool.false_ne_true
 have hnew:List.foldl (fun x1 x2=>x1++x2) #[] (List.replicate (if its.toArray.isEmpty=true then 0 else k.toNat) its.toArray)=(List.replicate k.toNat its).flatten.toArray:=by
  have f0:∀m:Nat,List.foldl (fun x1 x2=>x1++x2) #[] (List.replicate m its.toArray)=(List.replicate m its).flatten.toArray:=fun m=>by
   have:=adX its m [];rw[List.nil_append]at this;exact this
  rw[f0];cases its with
  |nil=>simp
  |cons a r'=>rw[if_neg (by simp)]
 refine wpAny_binaryOp_repeat_ref (T:="list") (U:="int") (by decide) ⟨_,e,rfl⟩ (fun s'=>typeIs_int s' k t) noFill_list_mul F.fills_int_mul F.slot_int_rmul repeat_list F.slot_int_index.lookup
  (call_meets F.slot_int_rmul (typeIs_int s k t) F.entry_int_rmul (F.args_int_rmul_2 _ _) (int___rmul___int_list k t l its.toArray n)
   ⟨e,rfl,⟨_,e,rfl⟩,call_meets F.slot_list_mul ⟨_,e,rfl⟩ F.entry_list_mul (F.args_list_mul_2 _ _) (AutoListH.list___mul___list_int_3 l its.toArray n k t hfit hcap hlong) ⟨e,?_⟩⟩)
 rw[hnew];exact⟨.ref _,_,I.lnew (t':=s.toks) (r.rep k.toNat) (by rw[anS,Nat.mul_comm];exact hz),rfl,q _ I.fresh⟩
end
section
variable {prog:Program}{w:World}{A:Around}{E:Value->SP0}{s:Shared}
set_option maxRecDepth 100000 in
end
section
variable {X:Cx}
end
end L2
namespace Att
open PySem PySem.W PySem.Calls PyProof.Rows
theorem abS{P:Params}{h:Heap}:∀(ns:List Int) (vs:List Value),WellAll P h vs (ns.map WData.int)->IntsAre vs ns:=by
 intro ns
 induction ns with
 | nil=>
  intro vs w;rw[List.map_nil]at w;cases w;exact .nil
 | cons n ns ih=>
  intro vs w;rw[List.map_cons]at w;cases w with
  | cons a b=>
   cases a;exact .cons _ _ (ih _ b)
theorem aj6{l:OpenLaw}{n:Nat}(hn:l.most=some n){P:Params}{h:Heap}{args:List WData}{vals:List Value}
  (hpre:l.row.toRowW.claim.pre args=true) (hwl:WellAll P h vals args):
  ∃a vs ns,vals=[Value.ref a]/\args=[WData.list (ns.map WData.int)]/\h.get? a=some { cls:= .type "list",data:= .seq vs.toArray }/\IntsAre vs ns/\ns.length<=n:=by
 have hsh:WShape.hasAll [] args [.list .int]=true:=(pre_splitW hpre).1;have hc:l.pre.holds [] { args:=args }=true:=(pre_splitW hpre).2;obtain⟨d,r,rfl,h1,h2⟩:=hasAllW_cons hsh;obtain rfl:=hasAllW_nil h2;obtain⟨xs,rfl,h3⟩:=hasW_list h1;obtain⟨ns,rfl⟩:=items_int h3
 have hlen:ns.length<=n:=by
  unfold OpenLaw.pre at hc
  have h4:(WTm.not (.lt (.lit (.int (n:Int))) (.len (.arg 0)))).holds [] { args:=[.list (ns.map .int)] }=true:=by
   have h4:=(holds_andW hc).1;rw[hn]at h4;exact h4
  have h5:=condW_of h4 (w_not (w_lt w_lit (w_len_list (w_arg rfl))));rw[List.length_map]at h5;refine Nat.le_of_not_lt fun q=>?_;have q':(n:Int)<((ns.length:Nat):Int):=by omega
  first
   | (rw[decide_eq_true q']at h5;exact absurd h5 (by decide))
   | (simp at h5;omega)
 cases hwl with
 | cons w1 w2=>
  cases w2;cases w1 with
  |list ho hall=>exact⟨_,_,ns,rfl,rfl,ho,abS ns _ hall,hlen⟩
theorem aj7(l:OpenLaw)(args:List WData):l.row.toRowW.claim.post args (.bool true) args=true:=
 postW_of (r:=l.row.toRowW) (X:=(true==true))
  (show WShape.has [] (.bool true) .bool=true by first|rfl | decide|simp[WShape.has,WShape.arms,WShape.armsAll])
  (show(WTm.eq .res (.lit (.bool true))).value [] { args:=args,res:=some (.bool true),after:=args }=some (.bool (true==true)) from w_eq_bool (w_res rfl) w_lit) rfl
theorem attach_call{l:OpenLaw}{n:Nat}{q:Program}{loose:List Str}{XP:(SV)->Heap->Prop}{YP:World->Heap->Prop}{d:DefRec}
  (hn:l.most=some n) (hdf:d.params.defaults=[])
  (call:∀(w:World) (s₀ s₁:Shared) (mg mb:SV) (fa:Addr) (o:Obj) (pm cd doc:Value) (a:Addr) (vs:List Value) (ns:List Int),
   Ground q loose [] XP w s₀ mg mb s₁.heap->YP w s₁.heap->
   s₁.heap.get? fa=some o->o.data= .func (docDef d.name d.params d.body d.scope pm cd doc)->s₁.heap.CodeRec cd d.name->mg d.name=some (.ref fa)->
   s₁.heap.get? a=some { cls:= .type "list",data:= .seq vs.toArray }->IntsAre vs ns->ns.length<=n->s₁.gens=#[]->
   codeAny (model l.prog w) callerA (.call (.ref fa) ⟨[.ref a],[]⟩) (fun r s'=>r= .ok (.ret (.bool true))/\OldK s₁.heap s'.heap/\s'.os=s₁.os/\AllBare s'.gens) s₁):
  WalkO q loose XP YP l.row.toRowW d [] (fun f vs=>PySem.call f vs):=by
 intro w s₀ s₁ mg mb G Y fa o pm cd doc dV kV ho hd hcd hD hmg hg args vals as hpre hlay hrd hwl hlo;obtain rfl:dV= .none:=Dflts.none hD hdf;obtain rfl:kV= .none:=Dflts.noKw hD;obtain⟨a,vs,ns,rfl,rfl,hobj,hints,hlen⟩:=aj6 hn hpre hwl;refine enter_call (codeAny_mono (call w s₀ s₁ mg mb fa o pm cd doc a vs ns G Y ho (fd_plain hd) hcd hmg hobj hints hlen hg) fun r s' hq=>?_);obtain⟨rfl,h2,h3,h4⟩:=hq;exact⟨.inl ⟨.bool true,.bool true,[],rfl,fun _=>rfl,.bool true,aj7 l _,fun _=>⟨List.Pairwise.nil,fun _ hm=>(nomatch hm)⟩⟩,h2,h3,h4⟩
section
variable {prog:Program}{w:World}{A:Around}{E:Value->SP0}{s:Shared}{K:Frag}
noncomputable def asI(h:Heap)(L d:Addr):List (Addr×Obj):=(List.range h.objs.size).filterMap fun a=>if a=L∨a=d then none else (h.get? a).map fun o=>(a,o)
end
end Att
namespace L2
open PySem PySem.Spec PyProof.Rows
theorem Zl:∀{vs:List Value}{ns:List Int},IntsAre vs ns->jG (ns.map V.int) vs
 |_,_,.nil=> .nil
 |_,_,.cons n t h=> .cons ⟨t,rfl⟩ (Zl h)
noncomputable def aqc(H:Hp):Prop:=∀b,H b=none∨∃o xs,H b=some (.frz o (.lst xs))
theorem alA{P:Program}{w:World}{K:Fg}{mg mb:SV}{CX:CXT}{k:Nat}{fa a:Addr}{fd:FuncData}{x:Str}{sp:Sp}{s₁:Shared}{vs:List Value}{ns:List Int}
  (KX:K.In s₁.heap) (hns:s₁.heap.Ns mainGlobals mg) (hb:s₁.heap.Ns builtinsNs mb) (hbb:∀x:Str,x≠"__name__"->mb x=bootBuiltins x) (hlim:s₁.heap.NoLimit) (hg:s₁.gens=#[])
  (ha:s₁.heap.get? a=some { cls:= .type "list",data:= .seq vs.toArray }) (hi:IntsAre vs ns) (hl:ns.length<=sizeLine) (hr:Room k callerA)
  (F:∀base:Heap,K.In base->base.Ns mainGlobals mg->FnOk P w K mg base CX k fa fd [x] sp) (hbind:∀(s:Shared) (u:Value),BindsTo s fd ⟨[u],[]⟩ [(x,u)])
  (hsp:∀H:Hp,aqc H->SqL K H a (ns.map V.int)->sp [.ref a] H (fun v _=>v= .bl true) fun _ _ _=>False)
  (hCX:∀H e s',CX [] H s₁ (fun _ _ _=>False) e s'->False):
  codeAny (model P w) callerA (.call (.ref fa) ⟨[.ref a],[]⟩) (fun r s'=>r= .ok (.ret (.bool true))/\OldK s₁.heap s'.heap/\s'.os=s₁.os/\AllBare s'.gens) s₁:=by
 have rv:=Zl hi;have lenV:=hi.length
 have core:∀H:Hp,aqc H->SqL K H a (ns.map V.int)->HOk P w H s₁.heap->(∀b,H b≠none->b=a)->(H a≠none->K.lookup a=none)->
   codeAny (model P w) callerA (.call (.ref fa) ⟨[.ref a],[]⟩) (fun r s'=>r= .ok (.ret (.bool true))/\OldK s₁.heap s'.heap/\s'.os=s₁.os/\AllBare s'.gens) s₁:=by
  intro H hO hS hok hA hK;have base_of:∀{b:Addr} {o:Obj},s₁.heap.get? b=some o->H b=none->(aeB s₁.heap H).get? b=some o:=fun e n=>ak7 e n
  have noA:∀{b:Addr} {o:Obj} {es:Array DictEntry} {ep:Nat},s₁.heap.get? b=some o->o.data= .dict es ep->H b=none:=fun {b o es ep} e d=>by
   cases q:H b with
   |none=>rfl
   | some u=>
    have e':b=a:=hA b (by rw[q];simp);subst e';rw[ha]at e;cases e;have d':Data.seq vs.toArray _=Data.dict es ep:=d;cases d'
  have nsK:∀{b:Addr} {m:SV},s₁.heap.Ns b m->(aeB s₁.heap H).Ns b m:=fun {b m} ⟨o,es,ep,e,d,r⟩=>⟨o,es,ep,base_of e (noA e d),d,r⟩
  have hKb:K.In (aeB s₁.heap H):=fun b o e=>base_of (KX b o e) (by
   cases q:H b with
   | none=>rfl
   | some u=>
    have e':b=a:=hA b (by rw [q]; simp);subst e';rw [hK (by rw [q]; simp)] at e; cases e)
  have hM:Mod K mg (aeB s₁.heap H):=⟨hKb,nsK hns,⟨mb,nsK hb,hbb⟩,let ⟨mc,h1,h2⟩:=hlim;⟨mc,nsK h1,h2⟩⟩;have e0:Env0 P w K mg (aeB s₁.heap H) callerA [] s₁ H:=⟨rfl,hM,fun b o e=>anC e,Nat.le_of_eq (ajX _ _),trivial,fun b hb=>absurd (show b∈([]:List Addr) from hb) (by simp),hok,.of_eq hg⟩;refine codeAny_mono ((F _ hKb (nsK hns)).run callerA [] s₁ H ⟨[.ref a],[]⟩ [.ref a] [.ref a] _ _ hr e0 (hbind s₁ (.ref a)) (.cons rfl .nil) (hsp H hO hS)) fun r s' h=>?_;cases r with
  |error e=>exact(hCX H e s' h).elim
  | ok fl=>
   cases fl with
   |next=>exact False.elim h
   |brk=>exact False.elim h
   |cont=>exact False.elim h
   | ret u=>
    obtain⟨v,H',os,bare,un,hok',r',q⟩:=h;have q':v= .bl true:=q;subst q';obtain rfl:u=Value.bool true:=r';refine⟨rfl,OldK.of_keep fun b o e=>?_,os,bare⟩;cases q:H b with
    |none=>exact un.keep b o e q (by intro z;exact absurd (show b∈([]:List Addr) from z) (by simp)) (by simp)
    | some u=>
     rcases hO b with z | ⟨ob,xs,z⟩
     ·rw[q]at z;cases z
     ·have z2:=un.frzs b ob _ z
      obtain⟨e1,_⟩:=hok b _ z;obtain⟨e2,_⟩:=hok' b _ z2;rw[e]at e1;cases e1;exact e2
 cases hk:K.lookup a with
 | some o=>
  have e:=KX a o hk;rw[ha]at e;cases e;refine core (fun _=>none) (fun _=> .inl rfl) (.inr ⟨_,vs.toArray,_,hk,rfl,rfl,rfl,by rw[List.size_toArray,lenV];exact hl,by simpa using rv⟩) (fun b u z=>by have z':(none:Option HO)=some u:=z;cases z') (fun b z=>absurd rfl z) fun z=>absurd rfl z
 | none=>
  refine core (fun b=>if b=a then some (.frz { cls:= .type "list",data:= .seq vs.toArray } (.lst (ns.map V.int))) else none) (fun b=>?_) (.inl (.inr ⟨{ cls:= .type "list",data:= .seq vs.toArray },if_pos rfl⟩)) (fun b u z=>?_) (fun b z=>?_) fun _=>hk
  ·by_cases hb:b=a
   ·exact .inr ⟨_,_,if_pos hb⟩
   ·exact .inl (if_neg hb)
  ·by_cases hb:b=a
   ·have z':=(if_pos hb).symm.trans z
    cases z';subst hb;exact⟨ha,by rw[List.length_map];exact hl,vs,_,rv,ha⟩
   ·have z':=(if_neg hb).symm.trans z
    cases z'
  ·by_cases hb:b=a
   ·exact hb
   ·exact absurd (if_neg hb) z
theorem anT{l:PySem.W.OpenLaw}{n k:Nat}{q:Program}{loose:List Str}{XP:(SV)->Heap->Prop}{YP:World->Heap->Prop}{d:DefRec}{K:Params->Fg}{CX:World->CXT}{sp:World->Sp}{x:Str}
  (hn:l.most=some n) (hn2:n<=sizeLine) (hdf:d.params.defaults=[]) (hr:Room k callerA)
  (hY:∀(w:World) (h:Heap),YP w h->(K w.params).In h)
  (F:∀(w:World) (mg:SV) (fa:Addr) (h:Heap),(K w.params).In h->h.Ns mainGlobals mg->mg d.name=some (.ref fa)->
   ∃ fd:FuncData,(∀ (s:Shared) (u:Value),BindsTo s fd ⟨[u],[]⟩ [(x,u)])/\
    ∀ base:Heap,(K w.params).In base->base.Ns mainGlobals mg->FnOk l.prog w (K w.params) mg base (CX w) k fa fd [x] (sp w))
  (hsp:∀(w:World) (H:Hp) (a:Addr) (ns:List Int),ns.length<=n->aqc H->SqL (K w.params) H a (ns.map V.int)->sp w [.ref a] H (fun v _=>v= .bl true) fun _ _ _=>False)
  (hCX:∀(w:World) (H:Hp) (s:Shared) (e:Value) (s':Shared),CX w [] H s (fun _ _ _=>False) e s'->False):
  PySem.W.WalkO q loose XP YP l.row.toRowW d [] (fun f vs=>PySem.call f vs):=by
 refine Att.attach_call hn hdf fun w s₀ s₁ mg mb fa o pm cd doc a vs ns G Y ho hd hcd hmg hobj hints hlen hg=>?_;have KX:=hY w _ Y;obtain⟨fd,hb,hF⟩:=F w mg fa _ KX G.T.g hmg;exact alA KX G.T.g G.T.b G.T.builtins G.T.nolimit hg hobj hints (Nat.le_trans hlen hn2) hr hF hb (fun H hO hS=>hsp w H a ns hlen hO hS) fun H e s'=>hCX w H s₁ e s'
noncomputable def qH(s:Stmt)(j:Nat):Stmt:=match s with
 |.ClassDef _ _ _ body _ _ _ _ _ _ _=>body.getD j (.Pass ⟨0,0,0,0⟩)
 |_=> .Pass ⟨0,0,0,0⟩
noncomputable def zY(s:Stmt):Arguments:=match s with
 |.FunctionDef _ a _ _ _ _ _ _ _ _=>a
 |_=>{ posonlyargs:=[],args:=[],vararg:=none,kwonlyargs:=[],kw_defaults:=[],kwarg:=none,defaults:=[] }
noncomputable def jQ(s:Stmt):List Stmt:=match s with
 |.FunctionDef _ _ b _ _ _ _ _ _ _=>b
 |_=>[]
noncomputable def jf(s:Stmt):Scope:=match s with
 |.FunctionDef _ _ _ _ _ _ sc _ _ _=>sc
 |_=>{ kind:= .function,names:=[],isGenerator:=false,isCoroutine:=false }
noncomputable abbrev CX0:CXT:=fun _ _ _ _ _ _=>False
noncomputable abbrev E0:XK:=fun _ _ _=>False
theorem ai7{X:Cx}:ahC CX0 X E0:=fun _ _ _ _ _ _ _ h=>h.elim
structure Fun(K:Fg)(x qual:Str)(st:Stmt)(f:Addr)(fd:FuncData):Prop where
 ex:∃(oc:Value) (od:Option Addr) (kV doc pm:Value) (an:Option Addr) (Kc ct:Value) (osl:Array (Option Value)),
  fd=PySem.W.fnOf x qual (zY st) (jQ st) (jf st) .none kV doc pm an Kc ct/\K.lookup f=some ⟨oc,od,.func fd,osl⟩/\PySem.W.codeIn K Kc qual=true
 kp:PySem.W.keepIn K (.ref f)=true
section
variable {P:Program}{w:World}{K:Fg}{mg:SV}{base:Heap}
theorem Fun.ok{x qual:Str}{st:Stmt}{f:Addr}{fd:FuncData}{N ps:List Str}{k:Nat}{sp:Sp}(F:Fun K x qual st f fd)(S:FnScope N ps (jf st))(len:∀vs H Q E,sp vs H Q E->vs.length=ps.length)
  (hbody:∀(Kc:Value) (A:Around) (Ko:List Env) (s:Shared) (H:Hp) (vs:List V) (Q:VK) (E:XK),Room k (A.deeper (envOfC qual (jf st) s.heap.objs.size f Kc))->sp vs H Q E->
   ∃ t,PSs (Jl CX0 P w K mg base N qual (jf st) f Kc A Ko s H E).nox (jQ st) t/\t { nx:=fun _ H'=>Q .non H',rt:=Q } (JB N vs) H):FnOk P w K mg base CX0 (k+1) f fd ps sp:=by
 obtain⟨oc,od,kV,doc,pm,an,Kc,ct,osl,rfl,lk,hcd⟩:=F.ex;refine aru lk hcd S len fun A Ko s H vs Q E hr hsp=>?_;obtain⟨t,h,q⟩:=hbody Kc A Ko s H vs Q E hr hsp;exact⟨t,h.nox,q⟩
theorem Fun.binds{x qual:Str}{st:Stmt}{f:Addr}{fd:FuncData}{ps:List Str}(F:Fun K x qual st f fd)
  (h:∀(kV doc pm:Value) (an:Option Addr) (Kc ct:Value) (us:List Value),us.length=ps.length->bindArgs (PySem.W.fnOf x qual (zY st) (jQ st) (jf st) .none kV doc pm an Kc ct) ⟨us,[]⟩=pure (ps.zip us)):JS K fd ps []:=by
 obtain⟨oc,od,kV,doc,pm,an,Kc,ct,osl,rfl,lk,hcd⟩:=F.ex;exact .all (h kV doc pm an Kc ct)
theorem acE{x qual:Str}{st:Stmt}{f:Addr}{oc:Value}{od an:Option Addr}{osl:Array (Option Value)}{kV doc pm Kc ct:Value}(l:K.lookup f=some ⟨oc,od,.func (PySem.W.fnOf x qual (zY st) (jQ st) (jf st) .none kV doc pm an Kc ct),osl⟩)
  (c:PySem.W.codeIn K Kc qual=true) (k:PySem.W.keepIn K (.ref f)=true):Fun K x qual st f (PySem.W.fnOf x qual (zY st) (jQ st) (jf st) .none kV doc pm an Kc ct):=⟨⟨oc,od,kV,doc,pm,an,Kc,ct,osl,rfl,l,c⟩,k⟩
end
section
variable {X:Cx}
theorem pv(i:Nat){x:Str}{pos:Pos}(hN:X.N[i]?=some x:=by rfl)(hv:Vis X.env.scope x:=by first|exact Or.inl rfl|exact Or.inr (Or.inl rfl)|exact Or.inr (Or.inr rfl))(hd:(x==("__debug__":Str))=false:=by decide)
  (hcd:(x==("__classdict__":Str))=false:=by decide):PE X (.Name x pos) (apO i):=QC hN hv hd hcd
end
theorem arz{A B:Prop}(h:B):if false=true then A else B:=by
 rw[if_neg Bool.false_ne_true];exact h
theorem arA{A B:Prop}(h:A):if true=true then A else B:=by
 rw[if_pos rfl];exact h
noncomputable def jp(H H':Hp):Prop:=∀b o,H b=some o->H' b=some o
theorem jp.refl(H:Hp):jp H H:=fun _ _ h=>h
theorem jp.trans{H H1 H2:Hp}(a:jp H H1)(b:jp H1 H2):jp H H2:=fun c o h=>b c o (a c o h)
theorem jp.free{H H':Hp}(e:jp H H'){l:Addr}(h:H' l=Option.none):H l=Option.none:=by
 cases q:H l with
 |none=>rfl
 | some o=>
  rw[e l o q]at h;cases h
theorem jp.seq{K:Fg}{H H':Hp}{a:Addr}{xs:List V}(e:jp H H')(h:SqL K H a xs):SqL K H' a xs:=by
 rcases h with (h | ⟨o,h⟩) | h
 ·exact .inl (.inl (e _ _ h))
 ·exact .inl (.inr ⟨o,e _ _ h⟩)
 ·exact .inr h
section
variable {κ:Type}[DecidableEq κ]
noncomputable def QE(kvs:List (κ×V))(k:κ):Option V:=(kvs.find? fun kv=>decide (kv.1=k)).map (·.2)
noncomputable def putK(kvs:List (κ×V))(k:κ)(v:V):List (κ×V):=
 if (kvs.any fun kv=>decide (kv.1=k))=true then kvs.map (fun kv=>if kv.1=k then (kv.1,v) else kv) else kvs++[(k,v)]
noncomputable def apo(kvs:List (κ×V))(k:κ):List (κ×V):=kvs.filter fun kv=>decide (kv.1≠k)
theorem acF{p:κ×V}{r:List (κ×V)}{k:κ}(e:p.1=k):QE (p::r) k=some p.2:=by simp[QE,List.find?_cons,e]
theorem acG{p:κ×V}{r:List (κ×V)}{k:κ}(e:¬ p.1=k):QE (p::r) k=QE r k:=by simp[QE,List.find?_cons,e]
theorem agj(k:κ):∀kvs:List (κ×V),(kvs.any fun kv=>decide (kv.1=k))=(QE kvs k).isSome
 | []=>rfl
 | p::r=>by
  rw[List.any_cons];by_cases e:p.1=k
  ·simp only[acF e,decide_eq_true e,Bool.true_or,Option.isSome_some]
  ·rw[acG e,decide_eq_false e,Bool.false_or];exact agj k r
theorem abG(kvs:List (κ×V))(k:κ)(v:V):(putK kvs k v).length<=kvs.length+1:=by
 unfold putK;split
 ·rw[List.length_map];omega
 ·rw[List.length_append,List.length_cons,List.length_nil];omega
theorem QX.isSome_eq{o:Option V}{u:Option Value}(r:QX o u):o.isSome=u.isSome:=by
 cases o with
 | none=>cases u with
  |none=>rfl
  |some _=>exact(show False from r).elim
 | some _=>cases u with
  |none=>exact(show False from r).elim
  |some _=>rfl
theorem QX.getD{o:Option V}{u:Option Value}{d:V}{d':Value}(r:QX o u)(rd:jT d d'):jT (o.getD d) (u.getD d'):=by
 cases o with
 | none=>cases u with
  |none=>exact rd
  |some _=>exact(show False from r).elim
 | some _=>cases u with
  |none=>exact(show False from r).elim
  |some _=>exact r
theorem KV.val{kvs:List (κ×V)}{vs:List (κ×Value)}(r:KV kvs vs)(k:κ):QX (QE kvs k) (valueAt vs k):=by
 unfold KV at r
 induction r with
 |nil=>exact True.intro
 | @cons p q ps qs h t ih=>
  obtain⟨h1,h2⟩:=h;by_cases e:p.1=k
  ·have e':q.1=k:=h1.symm.trans e
   have b:valueAt (q::qs) k=some q.2:=by simp[valueAt,List.find?_cons,e']
   rw[acF e,b];exact h2
  ·have e':¬ q.1=k:=fun z=>e (h1.trans z)
   have b:valueAt (q::qs) k=valueAt qs k:=by simp[valueAt,List.find?_cons,e']
   rw[acG e,b];exact ih
theorem KV.any{kvs:List (κ×V)}{vs:List (κ×Value)}(r:KV kvs vs)(k:κ):(kvs.any fun kv=>decide (kv.1=k))=vs.any fun kv=>decide (kv.1=k):=by
 unfold KV at r
 induction r with
 |nil=>rfl
 |cons h t ih=>rw[List.any_cons,List.any_cons,ih,h.1]
theorem KV.repl{kvs:List (κ×V)}{vs:List (κ×Value)}(r:KV kvs vs)(k:κ){y:V}{u:Value}(ry:jT y u):
  KV (kvs.map fun kv=>if kv.1=k then (kv.1,y) else kv) (vs.map fun kv=>if kv.1=k then (kv.1,u) else kv):=by
 unfold KV at r ⊢
 induction r with
 |nil=>exact .nil
 | @cons p q ps qs h t ih=>
  rw[List.map_cons,List.map_cons];refine .cons ?_ ih;obtain⟨h1,h2⟩:=h;by_cases e:p.1=k
  ·rw[if_pos e,if_pos (h1.symm.trans e)];exact⟨h1,ry⟩
  ·rw[if_neg e,if_neg (fun z=>e (h1.trans z))];exact⟨h1,h2⟩
theorem KV.put{kvs:List (κ×V)}{vs:List (κ×Value)}(r:KV kvs vs)(k:κ){y:V}{u:Value}(ry:jT y u):KV (putK kvs k y) (stored vs k u):=by
 unfold putK stored;rw[r.any k];by_cases e:(vs.any fun kv=>decide (kv.1=k))=true
 ·rw[if_pos e,if_pos e];exact r.repl k ry
 ·rw[if_neg e,if_neg e];exact Paired.snoc r ⟨rfl,ry⟩
theorem KV.drop{kvs:List (κ×V)}{vs:List (κ×Value)}(r:KV kvs vs)(k:κ):KV (apo kvs k) (without vs k):=by
 unfold KV at r ⊢;unfold apo without
 induction r with
 |nil=>exact .nil
 | @cons p q ps qs h t ih=>
  obtain⟨h1,h2⟩:=h;rw[List.filter_cons,List.filter_cons];by_cases e:p.1=k
  ·have a:¬ decide (p.1≠k)=true:=by simp[e]
   have b:¬ decide (q.1≠k)=true:=by simp[h1.symm.trans e]
   rw[if_neg a,if_neg b];exact ih
  ·have e':¬ q.1=k:=fun z=>e (h1.trans z)
   have a:decide (p.1≠k)=true:=by simp[e]
   have b:decide (q.1≠k)=true:=by simp[e']
   rw[if_pos a,if_pos b];exact .cons ⟨h1,h2⟩ ih
theorem KV.length{kvs:List (κ×V)}{vs:List (κ×Value)}(r:KV kvs vs):kvs.length=vs.length:=Paired.length r
end
theorem ai8{P:Program}{w:World}{k:Key}{u:Value}(r:jT (kV k) u):(ql P w).is k u=true:=by
 cases k with
 |inl i=>obtain⟨t,e⟩:=(show ∃t,u=Value.int i t from r);subst e;exact af8 P w i t
 |inr x=>obtain⟨t,e⟩:=(show ∃t,u=Value.str x t from r);subst e;exact af9 P w x t
theorem adZ{P:Program}{w:World}:∀{ks:List Key}{us:List Value},jG (ks.map kV) us->ItemsAre (ql P w) ks us
 | [],_,r=>by rw[List.map_nil]at r;cases r;exact .nil
 | k::ks,_,r=>by
  rw[List.map_cons]at r;cases r with
  |cons h t=>exact .cons (ai8 h) (adZ t)
noncomputable abbrev KT(H:Hp):List (List Key×V)->List (List Key×Addr×Value)->Prop:=Paired fun p q=>p.1=q.1/\H q.2.1=some (.tup (p.1.map kV))/\jT p.2 q.2.2
theorem KT.val{H:Hp}{kvs:List (List Key×V)}{xs:List (List Key×Addr×Value)}(r:KT H kvs xs)(k:List Key):QX (QE kvs k) ((atKey xs k).map (·.2)):=by
 induction r with
 |nil=>exact True.intro
 | @cons p q ps qs h t ih=>
  obtain⟨h1,_,h2⟩:=h;by_cases e:p.1=k
  ·have e':q.1=k:=h1.symm.trans e
   have b:atKey (q::qs) k=some q.2:=by simp[atKey,List.find?_cons,e']
   rw[acF e,b];exact h2
  ·have e':¬ q.1=k:=fun z=>e (h1.trans z)
   have b:atKey (q::qs) k=atKey qs k:=by simp[atKey,List.find?_cons,e']
   rw[acG e,b];exact ih
theorem KT.repl{H:Hp}{kvs:List (List Key×V)}{xs:List (List Key×Addr×Value)}(r:KT H kvs xs)(k:List Key){y:V}{u:Value}(ry:jT y u):
  KT H (kvs.map fun kv=>if kv.1=k then (kv.1,y) else kv) (xs.map (putAt k u)):=by
 induction r with
 |nil=>exact .nil
 | @cons p q ps qs h t ih=>
  rw[List.map_cons,List.map_cons];refine .cons ?_ ih;obtain⟨h1,h2,h3⟩:=h;unfold putAt;by_cases e:p.1=k
  ·rw[if_pos e,if_pos (h1.symm.trans e)];exact⟨h1,h2,ry⟩
  ·rw[if_neg e,if_neg (fun z=>e (h1.trans z))];exact⟨h1,h2,h3⟩
theorem KT.put{H:Hp}{kvs:List (List Key×V)}{xs:List (List Key×Addr×Value)}(r:KT H kvs xs)(k:List Key){b:Addr}{y:V}{u:Value}(hb:H b=some (.tup (k.map kV)))(ry:jT y u):
  KT H (putK kvs k y) (storedH xs k b u):=by
 have e:(kvs.any fun kv=>decide (kv.1=k))=(atKey xs k).isSome:=by
  rw[agj,(r.val k).isSome_eq,Option.isSome_map]
 unfold putK storedH;rw[e];by_cases q:(atKey xs k).isSome=true
 ·rw[if_pos q,if_pos q];exact r.repl k ry
 ·rw[if_neg q,if_neg q];exact Paired.snoc r ⟨rfl,hb,ry⟩
theorem KT.keeps{H H':Hp}{kvs:List (List Key×V)}{xs:List (List Key×Addr×Value)}(r:KT H kvs xs)(ht:∀b ys,H b=some (.tup ys)->H' b=some (.tup ys)):KT H' kvs xs:=
 Paired.mapP r fun _ _ z=>⟨z.1,ht _ _ z.2.1,z.2.2⟩
section
variable {P:Program}{w:World}{H:Hp}{h:Heap}{a:Addr}
theorem apq{u:HO}(ok:HOk P w H h)(e:Rd H a u):qt P w H h a u:=e.ok ok
theorem agk{kvs:List (Key×V)}(ok:HOk P w H h)(e:Rd H a (.dK kvs)):kvs.length<=sizeLine/\(a==sysModules)=false/\∃vs,KV kvs vs/\h.DictOf (ql P w) a vs:=
 show qt P w H h a (.dK kvs) from apq ok e
theorem arB{kvs:List (Key×V)}(ok:HOk P w H h)(e:H a=some (.dK kvs)):kvs.length<=sizeLine/\(a==sysModules)=false/\∃vs,KV kvs vs/\h.DictOf (ql P w) a vs:=agk ok (.inl e)
theorem aeP{ks:List Key}(ok:HOk P w H h)(e:H a=some (.tup (ks.map kV))):(tupleKind (ql P w)).is h ks a:=by
 obtain⟨_,its,r,o,h1,h2,n,h3⟩:=(show qt P w H h a (.tup (ks.map kV)) from ok a _ e);exact⟨o,its.toArray,n,h1,h2,h3,by simpa using adZ r⟩
theorem ai9{kvs:List (List Key×V)}(ok:HOk P w H h)(e:Rd H a (.dT kvs)):kvs.length<=sizeLine/\(a==sysModules)=false/\
  ∃xs,KT H kvs xs/\h.DictOfH (tupleKind (ql P w)) a xs:=by
 obtain⟨z,y,xs,r,o,es,ep,h1,h2,h3,h4,h5⟩:=(show qt P w H h a (.dT kvs) from apq ok e);refine⟨z,y,xs,r,o,es,ep,h1,h2,h3,h4,fun x hx=>?_,h5⟩
 have all:∀{l:List (List Key×V)} {m:List (List Key×Addr×Value)},KT H l m->∀x∈m,(tupleKind (ql P w)).is h x.1 x.2.1:=by
  intro l m q
  induction q with
  |nil=>intro x hx;exact nomatch hx
  | @cons p q ps qs hq t ih=>
   intro x hx;rcases List.mem_cons.mp hx with e | hx
   ·subst e
    exact aeP ok (by rw[←hq.1];exact hq.2.1)
   ·exact ih x hx
 exact all r x hx
theorem arC{kvs:List (List Key×V)}(ok:HOk P w H h)(e:H a=some (.dT kvs)):kvs.length<=sizeLine/\(a==sysModules)=false/\
  ∃xs,KT H kvs xs/\h.DictOfH (tupleKind (ql P w)) a xs:=ai9 ok (.inl e)
end
noncomputable def aa6(H:Hp)(a:Addr)(y:V)(r:Option V):Prop:=
 (∃kvs k,Rd H a (.dK kvs)/\y=kV k/\r=QE kvs k)∨∃kvs k b,Rd H a (.dT kvs)/\y= .ref b/\H b=some (.tup (k.map kV))/\r=QE kvs k
noncomputable def aj8(H:Hp)(a:Addr)(y v:V)(H':Hp):Prop:=
 (∃kvs k,H a=some (.dK kvs)/\y=kV k/\kvs.length<sizeLine/\H'=upd H a (.dK (putK kvs k v))) ∨
 ∃kvs k b,H a=some (.dT kvs)/\y= .ref b/\H b=some (.tup (k.map kV))/\kvs.length<sizeLine/\H'=upd H a (.dT (putK kvs k v))
theorem aa6.k{H:Hp}{a:Addr}{kvs:List (Key×V)}{k:Key}(e:H a=some (.dK kvs)):aa6 H a (kV k) (QE kvs k):= .inl ⟨kvs,k,.inl e,rfl,rfl⟩
theorem aa6.t{H:Hp}{a b:Addr}{kvs:List (List Key×V)}{k:List Key}(e:H a=some (.dT kvs))(eb:H b=some (.tup (k.map kV))):aa6 H a (.ref b) (QE kvs k):= .inr ⟨kvs,k,b,.inl e,rfl,eb,rfl⟩
theorem aj8.k{H:Hp}{a:Addr}{kvs:List (Key×V)}{k:Key}{v:V}(e:H a=some (.dK kvs))(hl:kvs.length<sizeLine):aj8 H a (kV k) v (upd H a (.dK (putK kvs k v))):= .inl ⟨kvs,k,e,rfl,hl,rfl⟩
theorem aj8.t{H:Hp}{a b:Addr}{kvs:List (List Key×V)}{k:List Key}{v:V}(e:H a=some (.dT kvs))(eb:H b=some (.tup (k.map kV)))(hl:kvs.length<sizeLine):
  aj8 H a (.ref b) v (upd H a (.dT (putK kvs k v))):= .inr ⟨kvs,k,b,e,rfl,eb,hl,rfl⟩
section
variable {X:Cx}{Kp:List (Addr×Obj)}{σ:St}{H:Hp}{s:Shared}{a:Addr}{y v:V}{u r:Value}{o:Option V}{A:Around}{E:Value->SP0}
theorem Inv.big(I:Inv X Kp σ H s):sysModules<s.heap.objs.size:=by
 have h:mainGlobals<s.heap.objs.size:=(I.mod.glob.keeps I.bk).lt;exact Nat.lt_trans (by decide) h
theorem aj9{Q:Value->SP0}(hu:A.units+1<cLine)(I:Inv X Kp σ H s)(g:aa6 H a y (some v))(ry:jT y u)(h:∀w' s',Inv X Kp σ H s'->jT v w'->Q w' s'):
  wpAny (model X.prog X.w) A (getItem (.ref a) u) Q E s:=by
 rcases g with ⟨kvs,k,e,ey,l⟩ | ⟨kvs,k,b,e,ey,eb,l⟩
 ·subst ey
  obtain⟨z,hd,vs,rel,dd⟩:=agk I.hok e;obtain⟨w',hw,rw'⟩:=QX.some_of (v:=v) (o:=valueAt vs k) (by rw[l];exact rel.val k);exact wpAny_getItem_of (ai8 ry) dd.mapOf hw (h w' _ (I.tok _) rw')
 ·subst ey
  cases (show u=Value.ref b from ry);obtain⟨z,hd,xs,rel,dd⟩:=ai9 I.hok e;obtain⟨w',hw,rw'⟩:=QX.some_of (v:=v) (o:=(atKey xs k).map (·.2)) (by rw[l];exact rel.val k);obtain⟨p,hp,hp2⟩:=Option.map_eq_some_iff.mp hw;refine wpAny_getItem_heap (tupleKind_room_in1 hu) (aeP I.hok eb) dd hp ?_;rw[hp2];exact h w' _ (I.tok _) rw'
theorem anU{Q:Value->SP0}(hu:A.units+1<cLine)(I:Inv X Kp σ H s)(g:aa6 H a y o)(ry:jT y u)(h:∀s',Inv X Kp σ H s'->Q (.bool (!o.isSome)) s'):
  wpAny (model X.prog X.w) A (compareOp .NotIn u (.ref a)) Q E s:=by
 rcases g with ⟨kvs,k,e,ey,l⟩ | ⟨kvs,k,b,e,ey,eb,l⟩
 ·subst ey
  obtain⟨z,hd,vs,rel,dd⟩:=agk I.hok e;refine wpAny_notIn_of (ai8 ry) hd dd.mapOf ?_;rw[←(rel.val k).isSome_eq,←l];exact h _ (I.tok _)
 ·subst ey
  cases (show u=Value.ref b from ry);obtain⟨z,hd,xs,rel,dd⟩:=ai9 I.hok e;refine wpAny_notIn_heap (tupleKind_room_in1 hu) (aeP I.hok eb) hd dd ?_;have q:=(rel.val k).isSome_eq;rw[Option.isSome_map]at q;rw[←q,←l];exact h _ (I.tok _)
theorem aja{h':Heap}{t':Nat}{ob:HO}(I:Inv X Kp σ H s)(mu:Mut (H a))(hs:Heap.SameBut a s.heap h')(he:∃q,h'.get? a=some q)(new:qt X.prog X.w (upd H a ob) h' a ob):
  Inv X Kp σ (upd H a ob) { s with heap:=h',toks:=t' }:=
 I.write (x:=a) (e:=a) mu (.inl rfl) (fun b q hb z=>(hs.2 b hb).trans z) he new
theorem aqd{P:Program}{w:World}{H':Hp}{h':Heap}{kvs:List (Key×V)}{vs:List (Key×Value)}(z:kvs.length<=sizeLine)(hd:(a==sysModules)=false)(rel:KV kvs vs)(dd:h'.DictOf (ql P w) a vs):
  qt P w H' h' a (.dK kvs):=⟨z,hd,vs,rel,dd⟩
theorem aka{H':Hp}{Q:Unit->SP0}(hu:A.units+1<cLine)(I:Inv X Kp σ H s)(g:aj8 H a y v H')(ry:jT y u)(rv:jT v r)(h:∀s',Inv X Kp σ H' s'->Q () s'):
  wpAny (model X.prog X.w) A (setItem (.ref a) u r) Q E s:=by
 rcases g with ⟨kvs,k,e,ey,l,eH⟩ | ⟨kvs,k,b,e,ey,eb,l,eH⟩
 ·subst ey eH
  obtain⟨z,hd,vs,rel,dd⟩:=arB I.hok e;have hz:vs.length<=sizeLine:=by rw[←rel.length];exact z
  have hl:(putK kvs k v).length<=sizeLine:=by have:=abG kvs k v;omega
  refine wpAny_setItem_pairs (hsz:=hz) (ai8 ry) dd fun h' dd' hs=>h _ ?_;have he:∃q,h'.get? a=some q:=let ⟨q,_,_,hq,_⟩:=dd';⟨q,hq⟩
  exact aja I (by rw[e];exact True.intro) hs he (aqd hl hd (rel.put k rv) dd')
 ·subst ey eH
  cases (show u=Value.ref b from ry);obtain⟨z,hd,xs,rel,dd⟩:=arC I.hok e;have hz:xs.length<=sizeLine:=by rw[←Paired.length rel];exact z
  have hl:(putK kvs k v).length<=sizeLine:=by have:=abG kvs k v;omega
  refine wpAny_setItem_heap (hsz:=hz) (tupleKind_room_in1 hu) (aeP I.hok eb) dd fun h' dd' hs=>h _ ?_;obtain⟨q,es,ep,hq,h2,h3,h4,_,h5⟩:=dd';refine aja I (by rw[e];exact True.intro) hs ⟨q,hq⟩ ⟨hl,hd,_,(rel.put k eb rv).keeps fun c ys ec=>?_,q,es,ep,hq,h2,h3,h4,h5⟩;rw[js (are ec e (fun z=>nomatch z))];exact ec
end
section
variable {X:Cx}{Kp:List (Addr×Obj)}{σ:St}{H:Hp}{s:Shared}{a:Addr}{kvs:List (Key×V)}{k:Key}{u:Value}{A:Around}{E:Value->SP0}
end
noncomputable def anV(i:Expr):Prop:=∀ov iv,subscripted i false ov iv=operate [ov,iv] (getItem ov iv)
theorem anW{prog:Program}{w:World}{A:Around}{E:Value->SP0}{s:Shared}{env:Env}{value slice:Expr}{pos:Pos}{T id:String}{Q:Value->SP0}
  (hl:typeLookup (.type T) "__getitem__"=pure (some (.builtin id))) (hs:anV slice)
  (h:wpAny (model prog w) A (eval value env) (fun o s₁=>wpAny (model prog w) A (eval slice env) (fun i s₂=>s₂.TypeIs o T/\wpAny (model prog w) A (getItem o i) Q E s₂) E s₁) E s):
  wpAny (model prog w) A (eval (.Subscript value slice pos) env) Q E s:=by
 refine Subscript_ (wpAny_mono h (fun o s₁ h₁=>wpAny_mono h₁ (fun i s₂ h₂=>?_) fun _ _ x=>x) fun _ _ x=>x);obtain⟨hT,h₂⟩:=h₂;unfold subscriptTail;refine wpAny_bind ?_;rw[getitemInPython_of_ne hT.not_modules];refine wpAny_bind (wpAny_specialOf hT hl ?_)
 have fin:wpAny (model prog w) A (subscripted slice false o i) (fun r s₃=>wpAny (model prog w) A (letTemporaryGo value o r >>= fun _=>pure r) Q E s₃) E s₂:=by
  rw[hs o i];exact wpAny_operating (wpAny_mono h₂ (fun r s₃ h₃=>wpAny_bind (wpAny_letTemporaryGo (wpAny_pure h₃))) fun _ _ x=>x)
 first
  |exact wpAny_pure (wpAny_bind fin)
  |exact wpAny_bind (wpAny_pure (wpAny_bind fin))
  |exact wpAny_bind fin
theorem agl{X:Cx}{Kp:List (Addr×Obj)}{σ:St}{H:Hp}{s:Shared}{a:Addr}{y:V}{o:Option V}(I:Inv X Kp σ H s)(g:aa6 H a y o):s.TypeIs (.ref a) "dict":=by
 rcases g with ⟨kvs,k,e,_,_⟩ | ⟨kvs,k,b,e,_,_,_⟩
 ·obtain⟨_,_,vs,_,dd⟩:=agk I.hok e
  exact dd.typeIs
 ·obtain⟨_,_,xs,_,dd⟩:=ai9 I.hok e
  exact dd.typeIs
noncomputable def arD(td ty:TE):TE:=fun σ H Q=>td σ H fun x H1=>ty σ H1 fun y H2=>∃a v,x= .ref a/\aa6 H2 a y (some v)/\Q v H2
noncomputable def anX(ty td:TE):TE:=fun σ H Q=>ty σ H fun y H1=>td σ H1 fun x H2=>∃a o,x= .ref a/\aa6 H2 a y o/\Q (.bl (!o.isSome)) H2
section
variable {X:Cx}{o i e value:Expr}{pos pos' tpos:Pos}{td ty tv:TE}
theorem ajb(hu:X.A.units+1<cLine)(ho:PE X o td)(hi:PE X i ty)(hs:anV i):PE X (.Subscript o i pos) (arD td ty):=by
 intro Kp s σ H Q I h;refine anW PySem.F.slot_dict_getitem.lookup hs (thn (ho Kp s σ H _ I h) fun u s1 ⟨x,H1,I1,rx,q1⟩=>thn (hi Kp s1 σ H1 _ I1 q1) fun iv s2 ⟨y,H2,I2,ry,a,v,ex,g,q2⟩=>?_);subst ex;obtain rfl:u=Value.ref a:=rx;exact⟨agl I2 g,aj9 hu I2 g ry fun w' s3 I3 rw'=>⟨v,H2,I3,rw',q2⟩⟩
theorem akb(hu:X.A.units+1<cLine)(hi:PE X i ty)(ho:PE X o td):PC X .NotIn i o (anX ty td):=by
 intro Kp s σ H Q I h;refine thn (hi Kp s σ H _ I h) fun iv s1 ⟨y,H1,I1,ry,q1⟩=>thn (ho Kp s1 σ H1 _ I1 q1) fun u s2 ⟨x,H2,I2,rx,a,ov,ex,g,q2⟩=>?_;subst ex;obtain rfl:u=Value.ref a:=rx;exact anU hu I2 g ry fun s3 I3=>⟨.bl (!ov.isSome),H2,I3,rfl,q2⟩
end
theorem alB{P:Program}{w:World}{H:Hp}(h:Heap)(hb:sysModules<h.objs.size):qt P w H (h.push { cls:= .type "dict",data:= .dict #[] }) h.objs.size (.dK []):=
 ⟨Nat.zero_le _,beq_eq_false_iff_ne.mpr (Ne.symm (Nat.ne_of_lt hb)),[],.nil,Heap.DictOf.new h⟩
noncomputable def aqe:TE:=fun _ H Q=>∀p,H p=none->Q (.ref p) (upd H p (.dK []))
section
variable {X:Cx}{pos:Pos}
theorem agm:PE X (.Dict [] [] pos) aqe:=fun Kp s σ H Q I h=>
 wpAny_Dict_empty ⟨.ref s.heap.objs.size,_,I.laid (a:=s.heap.objs.size) (o:= .dK []) (t':=s.toks) (fun _ _ q=>Heap.get?_push_of_some _ q) (Nat.le_refl _) (alB s.heap I.big),rfl,h _ (I.hok.fresh (Nat.le_refl _))⟩
end
structure M1(X:Cx)(o:Expr)(m:Str)(apos:Pos)(e:Expr)(cpos:Pos):Prop where
 base:attributeBase o m X.env (eval o X.env)=eval o X.env
 few:((backTo cpos (starEach [e] X.env)).all (fun x=>!x.1)&&(backToKw cpos (keywordEach [] X.env)).all (fun x=>x.1.isSome)
  && decide (([e]:List Expr).length+([]:List Keyword).length+(if ([]:List Keyword).isEmpty then 0 else 1)<30))=true
 line:(apos.endLine==cpos.line)=true
 trees:backTo cpos (starEach [e] X.env)=[(false,eval e X.env)]
structure M2(X:Cx)(o:Expr)(m:Str)(apos:Pos)(e f:Expr)(cpos:Pos):Prop where
 base:attributeBase o m X.env (eval o X.env)=eval o X.env
 few:((backTo cpos (starEach [e,f] X.env)).all (fun x=>!x.1)&&(backToKw cpos (keywordEach [] X.env)).all (fun x=>x.1.isSome)
  && decide (([e,f]:List Expr).length+([]:List Keyword).length+(if ([]:List Keyword).isEmpty then 0 else 1)<30))=true
 line:(apos.endLine==cpos.line)=true
 trees:backTo cpos (starEach [e,f] X.env)=[(false,eval e X.env),(false,eval f X.env)]
section
variable {X:Cx}{Kp:List (Addr×Obj)}{σ:St}{H:Hp}{s:Shared}{a:Addr}{y d:V}{u r:Value}{o:Option V}{A:Around}{E:Value->SP0}
end
section
variable {X:Cx}{o e f:Expr}{apos cpos:Pos}{td ty tx:TE}
end
section
variable {X:Cx}{Kp:List (Addr×Obj)}{σ:St}{H:Hp}{s:Shared}{a:Addr}{kvs:List (Key×V)}{A:Around}{E:Value->SP0}
end
section
variable {X:Cx}{Kp:List (Addr×Obj)}{σ:St}{H:Hp}{s:Shared}{a:Addr}{y:V}{u:Value}{A:Around}{E:Value->SP0}
end
section
variable {X:Cx}
end
section
variable {κ:Type}[DecidableEq κ]
end
end L2
end
section
namespace BX
open PySem PySem.Spec L2
open PyProof.Rows hiding St
noncomputable abbrev NoX:Value->SP0:=fun _ _=>False
noncomputable def ajc(ts:List Expr)(en:Env):Sem Bool:=
 forIn ts true fun c r=>if r=true then do let ok ←isTrue c en (eval c en);pure (ForInStep.yield ok) else pure (ForInStep.yield r)
section
variable {prog:Program}{w:World}{A:Around}{s:Shared}{R:Result->SP0}
theorem ad0{el tg src:Expr}{ts:List Expr}{sc:Scope}{ps:Pos}{it acc:Value}{en:Env}(J:Nat->SP0)
  (turn:∀n s,J n s->wpAny (model prog w) A (pyNext it) (fun r s1=>match r with
   | none=>R (.ok .next) s1
   | some v=>wpAny (model prog w) A (letOwnedTupleGo tg it v) (fun _ sg=>wpAny (model prog w) A (assign tg en v) (fun _ s2=>
     wpAny (model prog w) A (ajc ts en) (fun ok s3=>
      if ok=true then wpAny (model prog w) A (eval el en) (fun y s4=>
       wpAny (model prog w) A (call (.builtin "list.append") [acc,y]) (fun _ s5=>∃ m,m<n/\J m s5) NoX s4) NoX s3
      else ∃ m,m<n/\J m s3) NoX s2) NoX sg) NoX s1) NoX s)
  (n:Nat) (h:J n s):
  codeAny (model prog w) A (.compLoop (.ListComp el [⟨tg,src,ts,0⟩] sc ps) 0 it acc en) R s:=by
 refine codeAny_loop rfl J (fun n s hJ=>?_) n h
 show wpAny _ A
  ((compTurn (.ListComp el [⟨tg,src,ts,0⟩] sc ps) 0 it acc en).onRaise
   (fun x=>do noteFrame x en; theTreesLotGoes x)) _ _ s
 refine wpAny_noted ?_;rw[compTurn_list];have no:∀{E:Value->SP0} (e:Value) (s':Shared),NoX e s'->E e s':=fun _ _ z=>z.elim;refine wpAny_bind (wpAny_standAt (wpAny_bind (wpAny_mono (turn n s hJ) (fun r s1 h1=>?_) no)));cases r with
 |none=>exact wpAny_pure h1
 | some v=>
  refine wpAny_bind (wpAny_mono h1 (fun _ sg hg=>?_) no);refine wpAny_bind (wpAny_mono hg (fun _ s2 h2=>?_) no);refine wpAny_bind (wpAny_mono h2 (fun ok s3 h3=>?_) no);cases ok with
  |false=>exact wpAny_pure ⟨rfl,h3⟩
  | true=>
   refine wpAny_bind (wpAny_bind (wpAny_mono h3 (fun y s4 h4=>?_) no));exact wpAny_bind (wpAny_mono h4 (fun _ s5 h5=>wpAny_pure (wpAny_pure ⟨rfl,h5⟩)) no)
end
noncomputable def QW(en:Env):List (Str×NameKind)->List (Str×Addr)->List (Str×Addr)
 | [],cs=>cs
 | (n,k)::r,cs=>QW en r (if k == .free then (n,(en.cells.lookup n).getD 0)::cs else cs)
theorem ajd(sc:Scope)(en:Env)(h:∀x∈sc.names,x.2= .free->∃c,en.cells.lookup x.1=some c):closureFor sc en=pure (QW en sc.names []):=by
 have go:∀(l:List (Str×NameKind)) (cs:List (Str×Addr)),(∀x∈l,x.2= .free->∃c,en.cells.lookup x.1=some c)->
   (forIn l cs (fun (x:Str×NameKind) (r:List (Str×Addr))=>(do
    if x.2 == .free then do
     let c ←cellOf en x.1
     pure (ForInStep.yield ((x.1,c)::r))
    else pure (ForInStep.yield r):Sem (ForInStep (List (Str × Addr))))):Sem _)=pure (QW en l cs):=by
  intro l
  induction l with
  |nil=>intro cs _;rfl
  | cons x l ih=>
   intro cs hl;obtain⟨n,k⟩:=x;rw[List.forIn_cons];by_cases hk:(k==NameKind.free)=true
   ·obtain⟨c,e⟩:=hl (n,k) List.mem_cons_self (by simpa using hk)
    have e':en.cells.lookup n=some c:=e;simp only[hk,zzM,cellOf,e',pure_bind,QW,Option.getD_some];exact ih _ fun y hy=>hl y (List.mem_cons_of_mem _ hy)
   ·simp only[hk,pure_bind,QW,zzL,zzN]
    exact ih _ fun y hy=>hl y (List.mem_cons_of_mem _ hy)
 have:=go sc.names [] h;unfold closureFor;rw[←this]
 first
  | (simp only[bind_pure_comp,id_map',map_pure];done)
  | (simp only[bind_pure_comp,id_map',map_pure];exact bind_pure _)
theorem aa7(en:Env):∀(l:List (Str×NameKind)) (cs:List (Str×Addr)),(∀x∈l,x.2= .free->∃c,en.cells.lookup x.1=some c)->(∀p∈cs,en.cells.lookup p.1=some p.2)->
  ∀p∈QW en l cs,en.cells.lookup p.1=some p.2
 | [],_,_,h,p,hp=>h p hp
 | (n,k)::r,cs,hl,h,p,hp=>by
  refine aa7 en r _ (fun y hy=>hl y (List.mem_cons_of_mem _ hy)) (fun q hq=>?_) p hp;by_cases hk:(k==NameKind.free)=true
  ·rw[if_pos hk]at hq
   rcases List.mem_cons.mp hq with rfl | hq
   ·obtain⟨c,e⟩:=hl (n,k) List.mem_cons_self (by simpa using hk)
    have e':en.cells.lookup n=some c:=e;show en.cells.lookup n=some ((en.cells.lookup n).getD 0);rw[e'];rfl
   ·exact h q hq
  ·rw[if_neg hk]at hq
   exact h q hq
theorem abH(en:Env):∀(l:List (Str×NameKind)) (cs:List (Str×Addr)) (x:Str),(∃c,(x,c)∈cs)->∃c,(x,c)∈QW en l cs
 | [],_,_,h=>h
 | (n,k)::r,cs,x,⟨c,h⟩=>by
  refine abH en r _ x ?_;by_cases hk:(k==NameKind.free)=true
  ·rw[if_pos hk];exact⟨c,List.mem_cons_of_mem _ h⟩
  ·rw[if_neg hk];exact⟨c,h⟩
theorem Qm(en:Env):∀(l:List (Str×NameKind)) (cs:List (Str×Addr)) (x:Str),(x,NameKind.free)∈l->∃c,(x,c)∈QW en l cs
 | (n,k)::r,cs,x,h=>by
  rcases List.mem_cons.mp h with e | h
  ·obtain⟨e1,e2⟩:=Prod.mk.inj e
   subst e1;subst e2;exact abH en r _ _ ⟨_,by rw[if_pos (by rfl)];exact List.mem_cons_self⟩
  ·exact Qm en r _ x h
theorem zi{β:Type}:∀{l:List (Str×β)}{x:Str}{c:β},(x,c)∈l->∃d,l.lookup x=some d
 | (n,k)::r,x,c,h=>by
  by_cases e:x=n
  ·subst e;exact⟨k,by simp[List.lookup_cons]⟩
  ·have eb:(x==n)=false:=by simpa using e
   rcases List.mem_cons.mp h with z | h
   ·cases z;exact absurd rfl e
   ·obtain⟨d,hd⟩:=zi h
    exact⟨d,by simp only[List.lookup_cons,eb];exact hd⟩
theorem JT{sc:Scope}{en:Env}{x:Str}{k:NameKind}(h:(x,k)∈(relabel sc en).names)(hc:∀y∈sc.names,y.2 ≠ .cell)(hk:k= .cell∨k= .free):(x,NameKind.free)∈sc.names:=by
 obtain⟨⟨n,j⟩,hm,e⟩:=List.mem_map.mp h;by_cases q:(j==NameKind.free&&en.scope.kind == .function&&en.kindOf n==some .cell)=true
 ·have e1:(n,NameKind.cell)=(x,k):=by simpa only[q,zzM]using e
  cases e1
  have hj:j= .free:=by
   simp only[Bool.and_eq_true]at q;simpa using q.1.1
  rw[←hj];exact hm
 ·have e1:(n,j)=(x,k):=by simpa only[q,zzL,zzN]using e
  cases e1;rcases hk with rfl|rfl
  ·exact absurd rfl (hc _ hm)
  ·exact hm
theorem QF{en:Env}:∀{l:List (Str×NameKind)}{x:Str},l.lookup x=some .free->
  (l.map fun (n,k)=>if (k==NameKind.free&&en.scope.kind == .function&&en.kindOf n==some .cell) then (n,NameKind.cell) else (n,k)).lookup x=some .cell ∨
  (l.map fun (n,k)=>if (k==NameKind.free&&en.scope.kind == .function&&en.kindOf n==some .cell) then (n,NameKind.cell) else (n,k)).lookup x=some .free
 | (n,k)::r,x,h=>by
  rw[List.map_cons];cases hx:x==n with
  | true=>
   simp only[List.lookup_cons,hx]at h;cases h;by_cases q:(NameKind.free==NameKind.free&&en.scope.kind == .function&&en.kindOf n==some .cell)=true
   ·left;simp only[q,zzM,List.lookup_cons,hx]
   ·right;simp only[q,zzL,zzN,List.lookup_cons,hx]
  | false=>
   simp only[List.lookup_cons,hx]at h;rcases QF (en:=en) h with g | g
   ·left
    by_cases q:(k==NameKind.free&&en.scope.kind == .function&&en.kindOf n==some .cell)=true
    ·simp only[q,zzM,List.lookup_cons,hx];exact g
    ·simp only[q,zzL,zzN,List.lookup_cons,hx];exact g
   ·right
    by_cases q:(k==NameKind.free&&en.scope.kind == .function&&en.kindOf n==some .cell)=true
    ·simp only[q,zzM,List.lookup_cons,hx];exact g
    ·simp only[q,zzL,zzN,List.lookup_cons,hx];exact g
noncomputable def blk(X:Cx)(N':List Str)(sc:Scope)(cl:List (Str×Addr))(C:Addr)(s0:Shared)(H0:Hp)(fp:List Addr)(pn:List (Addr×Obj)):Cx:=
 { X with N:=N',s₀:=s0,H₀:=H0,env:=compEnvC sc cl C X.env,Ko:=X.stack,ex:=fp,fn:=fun _=>false,pn:=pn,xe:=NoX }
noncomputable def abT(cap:List (Option Nat))(σ:St):St:=cap.map fun o=>o.bind fun i=>(σ[i]?).join
noncomputable def PTs(X:Cx)(ts:List Expr)(t:TT):Prop:=
 ∀(Kp:List (Addr×Obj)) (s:Shared) (σ:St) (H:Hp) (Q:Bool->Hp->Prop),Inv X Kp σ H s->t σ H Q->wpAny (model X.prog X.w) X.A (ajc ts X.env) (TP X Kp σ Q) X.xe s
noncomputable def arE:TT:=fun _ H Q=>Q true H
theorem anY{X:Cx}:PTs X [] arE:=fun _ _ _ H _ I h=>wpAny_pure ⟨H,I,h⟩
theorem anZ{X:Cx}{c:Expr}{t:TT}(h:PT X c t):PTs X [c] t:=fun Kp s σ H Q I hq=>wpAny_tests_one (h Kp s σ H Q I hq)
structure CompOk(X:Cx)(sc:Scope)(N':List Str)(cap:List (Option Nat)):Prop where
 fr:∀x∈sc.names,x.2= .free->X.env.kindOf x.1=some .cell∨X.env.kindOf x.1=some .free
 nc:∀x∈sc.names,x.2 ≠ .cell
 kind:sc.kind= .function
 nm:∀x∈sc.names,x.2= .local->sc.names.lookup x.1=some .local
 len:cap.length=N'.length
 cp:∀(j i:Nat) (x:Str),N'[j]?=some x->cap[j]?=some (some i)->X.N[i]?=some x/\sc.names.lookup x=some .free
noncomputable def alC(wi:TI)(cap:List (Option Nat))(g:TG)(tt:TT)(te:TE):TE:=fun σ H Q=>wi σ H fun J H1=>
 ∃W:Nat->Nat->St->List V->Hp->Prop,(∃m,W 0 m (abT cap σ) [] H1)/\∀i m τ ys H,W i m τ ys H->ys.length<sizeLine/\
  ((J.stop i H/\∀l,H l=none->Q (.ref l) (upd H l (.lst ys))) ∨
   (J.go i H/\∀ x H',J.yld i H x H'->g x τ H' fun τ2 H2=>tt τ2 H2 fun b H3=>if b=true then te τ2 H3 fun y H4=>∃ m',m' < m/\W (i+1) m' τ2 (ys++[y]) H4 else ∃ m',m' < m/\W (i+1) m' τ2 ys H3))
theorem Inv.track{X:Cx}{Kp:List (Addr×Obj)}{σ:St}{H:Hp}{s:Shared}{D:Addr}{o:HO}(I:Inv X Kp σ H s)(hn:H D=none)(h1:X.s₀.heap.objs.size<=D)(h2:D≠X.env.locals)(h3:∀x c,X.env.cells.lookup x=some c->c≠D)
  (h4:∀p∈X.pn++Kp,p.1≠D) (new:qt X.prog X.w (upd H D o) s.heap D o):Inv X Kp σ (upd H D o) s:=by
 have nd:∀b u,H b=some u->b≠D:=fun b u e z=>by rw[z,hn]at e;cases e
 have hok:HOk X.prog X.w (upd H D o) s.heap:=fun b u e=>by
  by_cases hb:b=D
  ·subst hb;rw[jn]at e;cases e;exact new
  ·rw[js hb]at e
   exact(I.hok b u e).stay (fun _ _ _ q=>q) (fun c q=>by rw[js (nd c _ q)];exact q) fun c xs q=>by rw[js (nd c _ q)];exact q
 refine I.step (h':=s.heap) (g':=s.gens) (d':=s.drawn) (t':=s.toks) (ch:=[D]) (fun b hb=>?_) (fun b o _ _ _ e _=>e) (fun b o _ _ _ e _=>⟨o.slots,e⟩) (fun b o hc _ n=>?_) (fun b o _ e=>⟨o,e⟩) (fun b xs e=>by rw[js (nd b _ e)];exact e)
  (fun b ob u e=>by rw[js (nd b _ e)];exact e) (fun b ps e=>⟨#[],by rw[js (nd b _ e),e];simp⟩) (fun m hm=>hm) hok I.bare
 ·have e:b=D:=by simpa using hb
  subst e;exact⟨.inr h1,h2,h3,h4⟩
 ·have e:b≠D:=by simpa using hc
  rw[js e];exact n
theorem an0{X : Cx}{el tg src : Expr}{ts : List Expr}{sc : Scope}{ps : Pos}{wi : TI}{g : TG}{tt : TT}{te : TE}{N' : List Str}{cap : List (Option Nat)}(hc : X.calm = true)(hi : PI X tg src wi)(ok : CompOk X sc N' cap)
    (body : ∀cl C s0 H0 fp pn, PG (blk X N' sc cl C s0 H0 fp pn) tg g /\ PTs (blk X N' sc cl C s0 H0 fp pn) ts tt /\ PE (blk X N' sc cl C s0 H0 fp pn) el te)
    (hs : ∀x, foldedSetIterable src X.env x = pure x := by intro _;rfl) : PE X (.ListComp el [⟨tg, src, ts, 0⟩] sc ps) (alC wi cap g tt te) := by
  intro Kp s σ H Q I h;have hfr : ∀x∈sc.names, x.2 = .free -> ∃c, X.env.cells.lookup x.1 = some c := fun x hx e => I.ok.has x.1 (ok.fr x hx e);have hcl := ajd sc X.env hfr
  have clm : ∀x c, (QW X.env sc.names []).lookup x = some c -> X.env.cells.lookup x = some c := fun x c e =>
    aa7 X.env sc.names [] hfr (fun _ z => nomatch z) (x, c) (PySem.mem_of_lookup e)
  generalize hgl : QW X.env sc.names [] = cl at hcl clm;rw[eval_ListComp];refine wpAny_comprehension_free (use := none) rfl hs hcl ok.kind ok.nm ?_;refine thn (hi Kp s σ H _ I h) fun v s1 h1 => thn h1 fun itv s2 h2 => ?_;obtain⟨it, fp, tn, J, H2, e, I2, T, st2, f2, W, ⟨m0, w0⟩, turn⟩ := h2;subst e;refine wpAny_newObj_type (wpAny_newFunctionEnv ok.nc (by intro y hy;simp at hy) (fun h4 hns hsb => ?_) ok.kind);dsimp only at hns hsb ⊢;generalize hH3 : s2.heap.push { cls := .type "list", dict := none, data := .seq ([] : List Value).toArray } = h3 at hns hsb ⊢;have hC : h3.objs.size = s2.heap.objs.size + 1 := by rw[← hH3, Heap.size_push]
  generalize hCC : h3.objs.size = C at hns hsb hC ⊢;generalize hDD : s2.heap.objs.size = D at hC ⊢;have hDC : D≠C := by rw[hC];exact Nat.ne_of_lt (Nat.lt_succ_self _)
  have old : ∀b o, s2.heap.get? b = some o -> h4.get? b = some o := fun b o e => hsb.extBut b o (by have := Heap.lt_size e;rw[hDD]at this;rw[hC];exact Nat.ne_of_lt (Nat.lt_succ_of_lt this)) (Heap.get?_push_of_some _ (hH3▸Heap.get?_push_of_some _ e));have accO : h4.get? D = some { cls := .type "list", data := .seq ([] : List Value).toArray 0 } := hsb.extBut _ _ hDC (Heap.get?_push_of_some _ (by rw[← hH3, ← hDD];exact Heap.get?_push_size _ rfl));have H2D : H2 D = none := I2.hok.fresh (by rw[hDD];exact Nat.le_refl _);have H2C : H2 C = none := I2.hok.fresh (by rw[hDD, hC];exact Nat.le_succ _)
  have cellsLt : ∀x c, X.env.cells.lookup x = some c -> c<D := fun x c e => by
    obtain⟨v, q⟩ := I2.cell x c e;rw[← hDD];exact q.lt
  have pinLt : ∀p∈X.pn ++ Kp, p.1<D := fun p hp => by rw[← hDD];exact Heap.lt_size (I2.pin p hp).1
  have stkLt : ∀b∈frs X.stack, b<D := fun b hb => by
    obtain⟨_, o, ho, _⟩ := I2.stack.mem hb;rw[← hDD];exact Heap.lt_size ho
  have fpLt : ∀b∈fp, b<D := fun b hb => by
    obtain⟨o, ho, _⟩ := T.obj _ _ st2 b hb;rw[← hDD];exact Heap.lt_size ho
  have ltC : ∀{b : Addr}, b<D -> b≠C := fun hb => by rw[hC];exact Nat.ne_of_lt (Nat.lt_succ_of_lt hb)
  have locLt : X.env.locals<D := by rw[← hDD];exact I2.lt
  have hDge : s2.heap.objs.size <= D := by rw[hDD];exact Nat.le_refl _
  have hCge : s2.heap.objs.size <= C := by rw[hDD, hC];exact Nat.le_succ _
  have bok : (blk X N' sc cl C s2 H2 fp (X.pn ++ Kp)).Ok := by
    refine⟨I2.ok.mod, ok.kind, I2.ok.glob, I2.ok.blt, hCge, fun x y c e1 e2 => I2.ok.inj x y c (clm x c e1) (clm y c e2), fun x hx => ?_, fun x c z _ => ?_, I2.ok.hd, I2.ok.frames, .inl rfl, fun b hb => ?_, I2.bs, Nat.le_trans I2.ok.bsz I2.sz, fun b o e hb => ?_, fun b hb z => ?_, I2.stack, I2.stkFree⟩
    · have hx' : (relabel sc X.env).names.lookup x = some .cell∨(relabel sc X.env).names.lookup x = some .free := hx
      have hm : (x, NameKind.free)∈sc.names := by
        rcases hx' with z | z
        · exact JT (PySem.mem_of_lookup z) ok.nc (.inl rfl)
        · exact JT (PySem.mem_of_lookup z) ok.nc (.inr rfl)
      obtain⟨c, hc⟩ := Qm X.env sc.names [] x hm;rw[hgl]at hc;exact zi hc
    · exact absurd (show false = true from z) Bool.false_ne_true
    · exact⟨ltC (fpLt b hb), fun x c e => (f2 b hb).2.2.2.2.1 x c (clm x c e)⟩
    · rcases (f2 b hb).2.2.2.1 with z | z
      · exact I2.ok.noex b o e z
      · have := Heap.lt_size e
        exact absurd (Nat.lt_of_lt_of_le this (Nat.le_trans I2.ok.bsz z)) (Nat.lt_irrefl _)
    · rcases List.mem_cons.mp (I2.stkSub b z)with q | q
      · exact(f2 b hb).2.1 q
      · exact(f2 b hb).2.2.1 q
  have pinB : ∀p∈X.pn ++ Kp, p.1≠C /\ p.1∉frs X.stack := fun p hp => ⟨ltC (pinLt p hp), fun z => by
    rcases List.mem_cons.mp (I2.stkSub p.1 z) with q | q
    · exact (I2.pin p hp).2.2.1 q
    · exact (I2.pin p hp).2.2.2.1 q⟩
  have I4 : Inv (blk X N' sc cl C s2 H2 fp (X.pn ++ Kp)) [] (abT cap σ) H2 { s2 with heap := h4, toks := s2.toks + ([] : List (Str×Value)).length } := by
    refine⟨bok, rfl, I2.bare, Un.kept old, ⟨_, hns, fun j x v e1 e2 e3 => ?_⟩, fun x c e => ?_, H2C, fun x c e => I2.freeC x c (clm x c e), fun p hp => ?_, I2.hok.kept old, ?_⟩
    · unfold abT at e2
      rw[List.getElem?_map]at e2;cases e4 : cap[j]? with
      |none => rw[e4]at e2;cases e2
      | some o =>
        rw[e4]at e2;cases o with
        |none => cases e2
        | some i =>
          obtain⟨hNi, hf⟩ := ok.cp j i x e1 e4
          have e5 : (σ[i]?).join = some v := by
            have := Option.some.inj e2;simpa using this
          have e6 : σ[i]? = some (some v) := by
            cases e7 : σ[i]? with
            |none => rw[e7]at e5;cases e5
            | some z => rw[e7]at e5;cases z with
              |none => cases e5
              |some z => cases e5;rfl
          have hk := ok.fr (x, .free) (PySem.mem_of_lookup hf) rfl;obtain⟨m, hn, hl⟩ := I2.loc
          have hv : Vis X.env.scope x := by
            rcases hk with z | z
            · exact .inr (.inl z)
            · exact .inr (.inr z)
          obtain⟨u, r, lk⟩ := hl i x v hNi e6 hv
          have cellX : ∃c, X.env.cells.lookup x = some c /\ s2.heap.IsCell c (some u) := by
            rcases lk with ⟨k1, _⟩ | ⟨_, c, e, z⟩
            · rcases hk with z | z
              · have z' : X.env.kindOf x = some .cell := z
                rw[k1]at z';cases z'
              · have z' : X.env.kindOf x = some .free := z
                rw[k1]at z';cases z'
            · exact⟨c, e, z⟩
          obtain⟨c, hc1, ob, hc2, hc3⟩ := cellX;obtain⟨c', hc'⟩ := Qm X.env sc.names [] x (PySem.mem_of_lookup hf);rw[hgl]at hc';obtain⟨d, hd⟩ := zi hc'
          have ed : d = c := by
            have := clm x d hd;rw[hc1]at this;cases this;rfl
          subst ed;refine⟨u, r, .inr ⟨?_, d, hd, ob, old _ _ hc2, hc3⟩⟩;exact QF hf
    · obtain⟨v, ob, ho, hd⟩ := I2.cell x c (clm x c e)
      exact⟨v, ob, old _ _ ho, hd⟩
    · have hp' : p∈X.pn ++ Kp := by simpa[blk]using hp
      obtain⟨e1, e2, e3, e4, e5⟩ := I2.pin p hp';exact⟨old _ _ e1, e2, (pinB p hp').1, (pinB p hp').2, e5⟩
    · show(abT cap σ).length = N'.length
      unfold abT;rw[List.length_map];exact ok.len
  have fpB : ∀{H' : Hp} {pl : List (Addr×Obj)}, (∀b∈fp, H' b = none) -> (∀p∈pl, p.1∉fp) -> ∀b∈fp, aeH (blk X N' sc cl C s2 H2 fp (X.pn ++ Kp)) pl H' b := fun {H' pl} hn hpl b hb =>
    ⟨hn b hb, ltC (fpLt b hb), bok.exfs b hb, .inl hb, fun x c e => (f2 b hb).2.2.2.2.1 x c (clm x c e), fun p hp z => by
      rcases List.mem_append.mp (show p ∈ (X.pn ++ Kp) ++ pl from hp) with q | q
      · exact (f2 b hb).2.2.2.2.2 p q z
      · exact hpl p q (by rw [z]; exact hb)⟩
  have Dfp : ∀(o : Obj), ∀p∈[(D, o)], p.1∉fp := fun o p hp z => by
    have e : p = (D, o) := by simpa using hp
    subst e;exact Nat.lt_irrefl _ (fpLt D z)
  have Dfs : D∉frs X.stack := fun z => Nat.lt_irrefl _ (stkLt D z);obtain⟨bG, bT, bE⟩ := body cl C s2 H2 fp (X.pn ++ Kp)
  have loop : codeAny (model X.prog X.w) X.A (.compLoop (.ListComp el [⟨tg, src, ts, 0⟩] sc ps) 0 (.ref it) (.ref D) (compEnvC sc cl C X.env)) (compPost (model X.prog X.w) X.A X.xe none (EP X Kp σ Q) (.ref D) C)
      { s2 with heap := h4, toks := s2.toks + ([] : List (Str×Value)).length } := by
    refine ad0 (fun n s' => ∃i τ ys us k H', Inv (blk X N' sc cl C s2 H2 fp (X.pn ++ Kp)) [] τ H' s' /\ tn i s'.heap /\ (∀b∈fp, H' b = none) /\ jG ys us /\ s'.heap.get? D = some { cls := .type "list", data := .seq us.toArray k } /\ H' D = none /\ W i n τ ys H') ?_ m0
      ⟨0, _, [], [], 0, H2, I4, T.keep _ _ _ st2 (fun b _ o e => old b o e), fun b hb => (f2 b hb).1, .nil, accO, H2D, w0⟩
    rintro n s5 ⟨i, τ, ys, us, k, H5, I5, st5, fr5, rv5, ho5, hD5, w5⟩
    obtain⟨hsz, alt⟩ := turn i n τ ys H5 w5
    have I5p : Inv (blk X N' sc cl C s2 H2 fp (X.pn ++ Kp)) [(D, { cls := .type "list", data := .seq us.toArray k })] τ H5 s5 := I5.pins_of fun p hp => by
      have e : p = (D, { cls := .type "list", data := .seq us.toArray k }) := by simpa using hp
      subst e;exact⟨ho5, hD5, hDC, Dfs, fun v z => by cases z⟩
    rcases alt with ⟨stop, fin⟩ | ⟨go, step⟩
    · refine thn (T.done (blk X N' sc cl C s2 H2 fp (X.pn ++ Kp)) rfl rfl rfl hc i _ s5 τ H5 NoX I5p (fpB fr5 (Dfp _)) st5 stop) fun r s6 ⟨hr, I6⟩ => ?_
      subst hr;have ho6 := (I6.pin (D, _) (List.mem_append_right _ (List.mem_singleton.mpr rfl))).1;obtain⟨m6, hn6, _⟩ := I6.loc;refine⟨m6, hn6, fun h7 hs7 => ?_⟩;have J6 : Inv X Kp σ H5 s6 := I2.call' (ch := fp) I6.os I6.base I6.hok I6.bare fun b hb => ⟨(f2 b hb).2.2.2.1, (f2 b hb).2.1, (f2 b hb).2.2.2.2.1, (f2 b hb).2.2.2.2.2⟩;have H5C : H5 C = none := I6.free;have cne : ∀{b : Addr}, b<D -> b≠C := ltC;have J7 : Inv X Kp σ H5 { s6 with heap := h7, toks := s6.toks } := J6.turned (it := C) (fun b o hb e => hs7.extBut b o hb e) H5C (Ne.symm (ltC locLt)) (.inr (Nat.le_trans I2.sz hCge)) (fun x c e => ltC (cellsLt x c e)) (fun p hp => ltC (pinLt p hp));have ho7 : h7.get? D = some { cls := .type "list", data := .seq us.toArray k } := hs7.extBut D _ hDC ho6;refine⟨.ref D, upd H5 D (.lst ys), ?_, rfl, fin D hD5⟩;exact Inv.track J7 hD5 (Nat.le_trans I2.sz hDge) (Ne.symm (Nat.ne_of_lt locLt)) (fun x c e => Nat.ne_of_lt (cellsLt x c e)) (fun p hp => Nat.ne_of_lt (pinLt p hp)) ⟨Nat.le_of_lt hsz, us, k, rv5, ho7⟩
    · refine thn (T.item (blk X N' sc cl C s2 H2 fp (X.pn ++ Kp)) rfl rfl rfl hc i _ s5 τ H5 NoX I5p (fpB fr5 (Dfp _)) st5 go) fun r s6 ⟨u, hr, h6⟩ => ?_
      subst hr;refine thn h6 fun _ s7 ⟨x, H7, I7, r7, y7, st7, fr7⟩ => ?_;have I7p := I7.pinned (fpB fr7 (Dfp _)) (T.obj _ _ st7);refine thn (bG _ s7 τ H7 x u _ I7p r7 (step x H7 y7)) fun _ s8 ⟨τ8, H8, I8, q8⟩ => ?_
      have back : ∀{τ9 : St} {H9 : Hp} {s9 : Shared}, Inv (blk X N' sc cl C s2 H2 fp (X.pn ++ Kp)) ([(D, { cls := .type "list", data := .seq us.toArray k })] ++ aa2 fp s7.heap) τ9 H9 s9 ->
          tn (i + 1) s9.heap /\ (∀b∈fp, H9 b = none) /\ s9.heap.get? D = some { cls := .type "list", data := .seq us.toArray k } /\ H9 D = none := fun {τ9 H9 s9} I9 => by
        have pD := I9.pin (D, { cls := .type "list", data := .seq us.toArray k }) (List.mem_append_right _ (List.mem_append_left _ (List.mem_singleton.mpr rfl)));refine⟨T.keep _ _ _ st7 fun b hb o e => (I9.pin (b, o) (List.mem_append_right _ (List.mem_append_right _ (zN hb e)))).1, fun b hb => ?_, pD.1, pD.2.1⟩;obtain⟨o, e, _⟩ := T.obj _ _ st7 b hb;exact(I9.pin (b, o) (List.mem_append_right _ (List.mem_append_right _ (zN hb e)))).2.1
      have drop : ∀{τ9 : St} {H9 : Hp} {s9 : Shared} {pl : List (Addr×Obj)}, Inv (blk X N' sc cl C s2 H2 fp (X.pn ++ Kp)) pl τ9 H9 s9 -> Inv (blk X N' sc cl C s2 H2 fp (X.pn ++ Kp)) [] τ9 H9 s9 := fun I9 => I9.pins_of fun p hp => nomatch hp
      refine thn (bT _ s8 τ8 H8 _ I8 q8) fun b s9 ⟨H9, I9, q9⟩ => ?_;cases b with
      | false =>
        rw[if_neg Bool.false_ne_true]at q9 ⊢;obtain⟨m', hm, w9⟩ := q9;obtain⟨t9, f9, o9, d9⟩ := back I9;exact⟨m', hm, i + 1, τ8, ys, us, k, H9, drop I9, t9, f9, rv5, o9, d9, w9⟩
      | true =>
        rw[if_pos rfl]at q9 ⊢;refine thn (bE _ s9 τ8 H9 _ I9 q9) fun y s10 ⟨z, H10, I10, r10, q10⟩ => ?_;obtain⟨m', hm, w10⟩ := q10;obtain⟨t10, f10, o10, d10⟩ := back I10;have hl := rv5.length;refine append_at (hsz := by show us.toArray.size <= sizeLine;rw[List.size_toArray, ← hl];exact Nat.le_of_lt hsz) o10 fun h11 hs11 hD11 => ?_
        have I11 : Inv (blk X N' sc cl C s2 H2 fp (X.pn ++ Kp)) [] τ8 H10 { s10 with heap := h11, toks := s10.toks } := (drop I10).turned (it := D) (fun b o hb e => hs11.extBut b o hb e) d10 hDC (.inr hDge) (fun x c e => Nat.ne_of_lt (cellsLt x c (clm x c e)))
          (fun p hp => by have hp' : p∈X.pn ++ Kp := by simpa[blk]using hp
                          exact Nat.ne_of_lt (pinLt p hp'))
        refine⟨m', hm, i + 1, τ8, ys ++ [z], us ++ [y], k + 1, H10, I11, T.keep _ _ _ t10 (fun b hb o e => hs11.extBut b o (Nat.ne_of_lt (fpLt b hb)) e), f10, rv5.append (.cons r10 .nil), ?_, d10, w10⟩;rw[hD11];simp
  refine codeAny_compStart_list loop ?_;exact T.self _ 0 _ _ _ (T.keep _ _ _ st2 (fun b _ o e => old b o e)) loop
theorem jp.tup{K:Fg}{H H':Hp}{a:Addr}{xs:List V}(e:jp H H')(h:SqT K H a xs):SqT K H' a xs:=by
 rcases h with (h | ⟨o,h⟩) | h
 ·exact .inl (.inl (e _ _ h))
 ·exact .inl (.inr ⟨o,e _ _ h⟩)
 ·exact .inr h
noncomputable def scr(ns:List Int):PyData:= .dict (ns.map fun n=>(.int n,.none))
noncomputable def adG:Key->PyData
 |.inl i=> .int i
 |.inr t=> .str t
mutual
noncomputable def Rep(K:Fg)(H:Hp):PyData->V->Prop
 |.none,v=>v= .non
 |.bool b,v=>v= .bl b
 |.int i,v=>v= .int i
 |.str x,v=>v= .str x
 |.tuple ds,v=>∃a xs,v= .ref a/\SqT K H a xs/\Reps K H ds xs
 |.list ds,v=>∃a xs,v= .ref a/\H a=some (.lst xs)/\Reps K H ds xs
 |.dict kvs,v=>∃a,v= .ref a/\((∃ns:List Int,SqL K H a (List.map V.int ns)/\kvs=ns.map (fun n=>(PyData.int n,PyData.none)))∨(∃ks ob,H a=some (.frz ob (.dK ks))/\RepD K H kvs ks)∨(∃x:Str,kvs=[(.str x,.none)]/\PySem.W.nsIn K mainGlobals x=some (some (.ref a)))∨(∃(x:Str) (C:Addr) (oe:Obj),kvs=[(.str x,.bool true)]/\H a=some (.frz oe (.own a))/\PySem.W.nsIn K mainGlobals x=some (some (.ref C))/\oe.cls= .ref C/\oe.dict=none/\∃vs,oe.data= .fields vs)∨kvs=[(.bool true,.int (a:Int))])
noncomputable def Reps(K:Fg)(H:Hp):LP->List V->Prop
 | [],xs=>xs=[]
 |d::ds,xs=>∃x r,xs=x::r/\Rep K H d x/\Reps K H ds r
noncomputable def RepD(K:Fg)(H:Hp):List (PyData×PyData)->List (Key×V)->Prop
 | [],_=>False
 | (.none,_)::r,ks=>RepM K H r ks
 |_::_,_=>False
noncomputable def RepM(K:Fg)(H:Hp):List (PyData×PyData)->List (Key×V)->Prop
 | [],ks=>ks=[]
 | (k,d)::r,ks=>∃i x s,k=adG i/\ks=(i,x)::s/\Rep K H d x/\RepM K H r s
end
noncomputable def zK(kvs:List (PyData×PyData)):Bool:=kvs.all fun p=>match p with
 | (.int _,.none)=>true
 |_=>false
theorem ad3(ns:List Int):zK (ns.map fun n=>(PyData.int n,PyData.none))=true:=by
 simp[zK]
theorem RepD.out{K:Fg}{H:Hp}:∀{kvs:List (PyData×PyData)}{ks:List (Key×V)},RepD K H kvs ks->∃c r,kvs=(.none,c)::r/\RepM K H r ks
 | [],_,h=>h.elim
 | (.none,c)::r,ks,h=>⟨c,r,rfl,h⟩
 | (.bool _,_)::_,_,h=>h.elim
 | (.int _,_)::_,_,h=>h.elim
 | (.str _,_)::_,_,h=>h.elim
 | (.list _,_)::_,_,h=>h.elim
 | (.tuple _,_)::_,_,h=>h.elim
 | (.dict _,_)::_,_,h=>h.elim
theorem Rep.scrOut{K:Fg}{H:Hp}{kvs:List (PyData×PyData)}{v:V}(h:Rep K H (.dict kvs) v)(hs:zK kvs=true):∃a ns,v= .ref a/\SqL K H a (List.map V.int ns)/\kvs=ns.map (fun n=>(PyData.int n,PyData.none)):=by
 obtain⟨a,h1,h2 | ⟨ks,ob,h2,h3⟩ | ⟨x,h2,_⟩ | ⟨x,_,_,h2,_⟩ | h2⟩:=h
 ·obtain⟨ns,q1,q2⟩:=h2;exact⟨a,ns,h1,q1,q2⟩
 ·obtain⟨c,r,rfl,_⟩:=h3.out
  simp[zK]at hs
 ·subst h2;simp[zK]at hs
 ·subst h2;simp[zK]at hs
 ·subst h2;simp[zK]at hs
noncomputable def jV(a:Addr):PyData:= .dict [(.bool true,.int (a:Int))]
noncomputable def asJ(x:Str):PyData:= .dict [(.str x,.bool true)]
noncomputable def fnD(x:Str):PyData:= .dict [(.str x,.none)]
noncomputable def j5(H H':Hp):Prop:=∀b o,H b=some o->(∀φ,o ≠ .ext φ)->H' b=some o
theorem jp.e{H H':Hp}(s:jp H H'):j5 H H':=fun b o h _=>s b o h
theorem j5.refl(H:Hp):j5 H H:=fun _ _ h _=>h
theorem j5.trans{H H1 H2:Hp}(a:j5 H H1)(b:j5 H1 H2):j5 H H2:=fun c o h n=>b c o (a c o h n) n
theorem j5.tup{K:Fg}{H H':Hp}{a:Addr}{xs:List V}(e:j5 H H')(h:SqT K H a xs):SqT K H' a xs:=by
 rcases h with (h | ⟨o,h⟩) | h
 ·exact .inl (.inl (e _ _ h fun _ z=>nomatch z))
 ·exact .inl (.inr ⟨o,e _ _ h fun _ z=>nomatch z⟩)
 ·exact .inr h
theorem j5.sql{K:Fg}{H H':Hp}{a:Addr}{xs:List V}(e:j5 H H')(h:SqL K H a xs):SqL K H' a xs:=by
 rcases h with (h | ⟨o,h⟩) | h
 ·exact .inl (.inl (e _ _ h fun _ z=>nomatch z))
 ·exact .inl (.inr ⟨o,e _ _ h fun _ z=>nomatch z⟩)
 ·exact .inr h
section
variable {K:Fg}{H H':Hp}
mutual
theorem Rep.mono(e:jp H H'):∀(d:PyData) (v:V),Rep K H d v->Rep K H' d v
 |.none,v,h=>h
 |.bool _,v,h=>h
 |.int _,v,h=>h
 |.str _,v,h=>h
 |.tuple ds,v,⟨a,xs,h1,h2,h3⟩=>⟨a,xs,h1,jp.tup e h2,Reps.mono e ds xs h3⟩
 |.list ds,v,⟨a,xs,h1,h2,h3⟩=>⟨a,xs,h1,e _ _ h2,Reps.mono e ds xs h3⟩
 |.dict kvs,v,⟨a,h1,h2⟩=>⟨a,h1,h2.imp (fun⟨ns,q1,q2⟩=>⟨ns,e.seq q1,q2⟩) fun z=>z.imp (fun⟨ks,ob,q1,q2⟩=>⟨ks,ob,e _ _ q1,RepD.mono e kvs ks q2⟩) fun y=>y.imp id fun z=>z.imp (fun⟨x,C,oe,q1,q2,q3⟩=>⟨x,C,oe,q1,e _ _ q2,q3⟩) id⟩
theorem Reps.mono(e:jp H H'):∀(ds:LP) (xs:List V),Reps K H ds xs->Reps K H' ds xs
 | [],xs,h=>h
 |d::ds,xs,⟨x,r,h1,h2,h3⟩=>⟨x,r,h1,Rep.mono e d x h2,Reps.mono e ds r h3⟩
theorem RepD.mono(e:jp H H'):∀(kvs:List (PyData×PyData)) (ks:List (Key×V)),RepD K H kvs ks->RepD K H' kvs ks
 | [],_,h=>h
 | (.none,c)::r,ks,h=>RepM.mono e r ks h
 | (.bool _,_)::_,_,h=>h
 | (.int _,_)::_,_,h=>h
 | (.str _,_)::_,_,h=>h
 | (.list _,_)::_,_,h=>h
 | (.tuple _,_)::_,_,h=>h
 | (.dict _,_)::_,_,h=>h
theorem RepM.mono(e:jp H H'):∀(kvs:List (PyData×PyData)) (ks:List (Key×V)),RepM K H kvs ks->RepM K H' kvs ks
 | [],_,h=>h
 | (k,d)::r,ks,⟨i,x,s,h1,h2,h3,h4⟩=>⟨i,x,s,h1,h2,Rep.mono e d x h3,RepM.mono e r s h4⟩
end
mutual
theorem Rep.monoE(e:j5 H H'):∀(d:PyData) (v:V),Rep K H d v->Rep K H' d v
 |.none,v,h=>h
 |.bool _,v,h=>h
 |.int _,v,h=>h
 |.str _,v,h=>h
 |.tuple ds,v,⟨a,xs,h1,h2,h3⟩=>⟨a,xs,h1,j5.tup e h2,Reps.monoE e ds xs h3⟩
 |.list ds,v,⟨a,xs,h1,h2,h3⟩=>⟨a,xs,h1,e _ _ h2 (fun _ z=>nomatch z),Reps.monoE e ds xs h3⟩
 |.dict kvs,v,⟨a,h1,h2⟩=>⟨a,h1,h2.imp (fun⟨ns,q1,q2⟩=>⟨ns,j5.sql e q1,q2⟩) fun z=>z.imp (fun⟨ks,ob,q1,q2⟩=>⟨ks,ob,e _ _ q1 (fun _ z=>nomatch z),RepD.monoE e kvs ks q2⟩) fun y=>y.imp id fun z=>z.imp (fun⟨x,C,oe,q1,q2,q3⟩=>⟨x,C,oe,q1,e _ _ q2 (fun _ z=>nomatch z),q3⟩) id⟩
theorem Reps.monoE(e:j5 H H'):∀(ds:LP) (xs:List V),Reps K H ds xs->Reps K H' ds xs
 | [],xs,h=>h
 |d::ds,xs,⟨x,r,h1,h2,h3⟩=>⟨x,r,h1,Rep.monoE e d x h2,Reps.monoE e ds r h3⟩
theorem RepD.monoE(e:j5 H H'):∀(kvs:List (PyData×PyData)) (ks:List (Key×V)),RepD K H kvs ks->RepD K H' kvs ks
 | [],_,h=>h
 | (.none,c)::r,ks,h=>RepM.monoE e r ks h
 | (.bool _,_)::_,_,h=>h
 | (.int _,_)::_,_,h=>h
 | (.str _,_)::_,_,h=>h
 | (.list _,_)::_,_,h=>h
 | (.tuple _,_)::_,_,h=>h
 | (.dict _,_)::_,_,h=>h
theorem RepM.monoE(e:j5 H H'):∀(kvs:List (PyData×PyData)) (ks:List (Key×V)),RepM K H kvs ks->RepM K H' kvs ks
 | [],_,h=>h
 | (k,d)::r,ks,⟨i,x,s,h1,h2,h3,h4⟩=>⟨i,x,s,h1,h2,Rep.monoE e d x h3,RepM.monoE e r s h4⟩
end
end
noncomputable def alD:HO->Bool
 |.lst _=>true
 |.tup _=>true
 |.frz _ _=>true
 |_=>false
noncomputable def jy(H H':Hp):Prop:=∀b o,H b=some o->alD o=true->H' b=some o
section
variable {K:Fg}{H H':Hp}
theorem jy.tup{a:Addr}{xs:List V}(e:jy H H')(h:SqT K H a xs):SqT K H' a xs:=by
 rcases h with (h | ⟨o,h⟩) | h
 ·exact .inl (.inl (e _ _ h rfl))
 ·exact .inl (.inr ⟨o,e _ _ h rfl⟩)
 ·exact .inr h
theorem jy.sql{a:Addr}{xs:List V}(e:jy H H')(h:SqL K H a xs):SqL K H' a xs:=by
 rcases h with (h | ⟨o,h⟩) | h
 ·exact .inl (.inl (e _ _ h rfl))
 ·exact .inl (.inr ⟨o,e _ _ h rfl⟩)
 ·exact .inr h
mutual
theorem Rep.monoA(e:jy H H'):∀(d:PyData) (v:V),Rep K H d v->Rep K H' d v
 |.none,v,h=>h
 |.bool _,v,h=>h
 |.int _,v,h=>h
 |.str _,v,h=>h
 |.tuple ds,v,⟨a,xs,h1,h2,h3⟩=>⟨a,xs,h1,jy.tup e h2,Reps.monoA e ds xs h3⟩
 |.list ds,v,⟨a,xs,h1,h2,h3⟩=>⟨a,xs,h1,e _ _ h2 rfl,Reps.monoA e ds xs h3⟩
 |.dict kvs,v,⟨a,h1,h2⟩=>⟨a,h1,h2.imp (fun⟨ns,q1,q2⟩=>⟨ns,jy.sql e q1,q2⟩) fun z=>z.imp (fun⟨ks,ob,q1,q2⟩=>⟨ks,ob,e _ _ q1 rfl,RepD.monoA e kvs ks q2⟩) fun y=>y.imp id fun z=>z.imp (fun⟨x,C,oe,q1,q2,q3⟩=>⟨x,C,oe,q1,e _ _ q2 rfl,q3⟩) id⟩
theorem Reps.monoA(e:jy H H'):∀(ds:LP) (xs:List V),Reps K H ds xs->Reps K H' ds xs
 | [],xs,h=>h
 |d::ds,xs,⟨x,r,h1,h2,h3⟩=>⟨x,r,h1,Rep.monoA e d x h2,Reps.monoA e ds r h3⟩
theorem RepD.monoA(e:jy H H'):∀(kvs:List (PyData×PyData)) (ks:List (Key×V)),RepD K H kvs ks->RepD K H' kvs ks
 | [],_,h=>h
 | (.none,c)::r,ks,h=>RepM.monoA e r ks h
 | (.bool _,_)::_,_,h=>h
 | (.int _,_)::_,_,h=>h
 | (.str _,_)::_,_,h=>h
 | (.list _,_)::_,_,h=>h
 | (.tuple _,_)::_,_,h=>h
 | (.dict _,_)::_,_,h=>h
theorem RepM.monoA(e:jy H H'):∀(kvs:List (PyData×PyData)) (ks:List (Key×V)),RepM K H kvs ks->RepM K H' kvs ks
 | [],_,h=>h
 | (k,d)::r,ks,⟨i,x,s,h1,h2,h3,h4⟩=>⟨i,x,s,h1,h2,Rep.monoA e d x h3,RepM.monoA e r s h4⟩
end
end
theorem jp.a{H H':Hp}(s:jp H H'):jy H H':=fun b o h _=>s b o h
theorem j5.a{H H':Hp}(s:j5 H H'):jy H H':=fun b o h q=>s b o h fun φ z=>by subst z;cases q
theorem jy.refl(H:Hp):jy H H:=fun _ _ h _=>h
theorem jy.trans{H H1 H2:Hp}(a:jy H H1)(b:jy H1 H2):jy H H2:=fun c o h n=>b c o (a c o h n) n
section
variable {K:Fg}{H H':Hp}
theorem Rep.cel(a:Addr):Rep K H (jV a) (.ref a):=⟨a,rfl,.inr (.inr (.inr (.inr rfl)))⟩
theorem Rep.celOut{a:Addr}{v:V}(h:Rep K H (jV a) v):v= .ref a:=by
 obtain⟨b,h1,⟨ns,_,h2⟩ | ⟨ks,ob,h2,h3⟩ | ⟨x,h2,_⟩ | ⟨x,_,_,h2,_⟩ | h2⟩:=h
 ·cases ns with
  |nil=>cases h2
  |cons n ns=>simp at h2
 ·exact h3.elim
 ·simp at h2
 ·simp at h2
 ·have z:(a:Int)=(b:Int):=by simpa using h2
  rw[h1,Int.ofNat.inj z]
theorem Reps.length:∀{ds:LP}{xs:List V},Reps K H ds xs->xs.length=ds.length
 | [],xs,h=>by cases h;rfl
 |d::ds,xs,⟨x,r,h1,h2,h3⟩=>by subst h1;simp[Reps.length h3]
theorem Reps.get:∀{ds:LP}{xs:List V}{i:Nat}{d:PyData},Reps K H ds xs->ds[i]?=some d->∃x,xs[i]?=some x/\Rep K H d x
 | [],xs,i,d,h,e=>by simp at e
 |c::ds,xs,0,d,⟨x,r,h1,h2,h3⟩,e=>by subst h1;simp at e;subst e;exact⟨x,rfl,h2⟩
 | c::ds,xs,i+1,d,⟨x,r,h1,h2,h3⟩,e=>by
  subst h1;obtain⟨y,e1,e2⟩:=Reps.get (i:=i) h3 (by simpa using e);exact⟨y,by simpa using e1,e2⟩
theorem Reps.append:∀{ds es:LP}{xs ys:List V},Reps K H ds xs->Reps K H es ys->Reps K H (ds++es) (xs++ys)
 | [],es,xs,ys,h,g=>by cases h;exact g
 |d::ds,es,xs,ys,⟨x,r,h1,h2,h3⟩,g=>by subst h1;exact⟨x,r++ys,rfl,h2,Reps.append h3 g⟩
theorem Reps.take:∀{ds:LP}{xs:List V} (n:Nat),Reps K H ds xs->Reps K H (ds.take n) (xs.take n)
 |ds,xs,0,h=>by simp;rfl
 | [],xs,n+1,h=>by cases h;rfl
 |d::ds,xs,n+1,⟨x,r,h1,h2,h3⟩=>by subst h1;exact⟨x,_,rfl,h2,Reps.take n h3⟩
theorem Reps.drop:∀{ds:LP}{xs:List V} (n:Nat),Reps K H ds xs->Reps K H (ds.drop n) (xs.drop n)
 |ds,xs,0,h=>by simpa using h
 | [],xs,n+1,h=>by cases h;rfl
 |d::ds,xs,n+1,⟨x,r,h1,h2,h3⟩=>by subst h1;simpa using Reps.drop n h3
theorem Reps.ints:∀{ns:List Int}{xs:List V},Reps K H (ns.map PyData.int) xs->xs=ns.map V.int
 | [],xs,h=>h
 |n::ns,xs,⟨x,r,h1,h2,h3⟩=>by subst h1;cases (show x=V.int n from h2);rw[Reps.ints h3];rfl
end
section
variable {X:Cx}{Kp:List (Addr×Obj)}{σ:St}{H:Hp}{s:Shared}
mutual
theorem qI(I:Inv X Kp σ H s):∀(d:PyData) (v:V) (u:Value),Rep X.K H d v->jT v u->d.canLay0=true->∃as,Reads s.heap u d as
 |.none,v,u,h,r,_=>by cases h;cases r;exact⟨_,.none⟩
 |.bool b,v,u,h,r,_=>by cases h;cases r;exact⟨_,.bool b⟩
 |.int i,v,u,h,r,_=>by cases h;obtain⟨t,rfl⟩:=r;exact⟨_,.int i t⟩
 |.str x,v,u,h,r,_=>by cases h;obtain⟨t,rfl⟩:=r;exact⟨_,.str x t⟩
 | .tuple ds,v,u,⟨a,xs,h1,h2,h3⟩,r,hc=>by
  subst h1;cases r;obtain⟨its,rv,⟨o,e1,e2,n,e3⟩,_⟩:=I.tuple h2;obtain⟨as,ra⟩:=readsAll_of I ds xs its h3 rv (by simpa[PyData.canLay0]using hc);exact⟨as,.tuple e1 e2 e3 (by simpa using ra)⟩
 | .list ds,v,u,⟨a,xs,h1,h2,h3⟩,r,hc=>by
  subst h1;cases r;obtain⟨its,rv,⟨o,n,e1,e2,e3,e4⟩,_⟩:=I.list (SqL.of h2);obtain⟨as,ra⟩:=readsAll_of I ds xs its h3 rv (by simpa[PyData.canLay0]using hc);exact⟨a::as,.list e1 e2 e4 (by simpa using ra)⟩
 |.dict kvs,v,u,h,r,hc=>by simp[PyData.canLay0]at hc
theorem readsAll_of(I:Inv X Kp σ H s):∀(ds:LP) (xs:List V) (us:List Value),Reps X.K H ds xs->jG xs us->PyData.canLayAll0 ds=true->∃as,ReadsAll s.heap us ds as
 | [],xs,us,h,r,_=>by cases h;cases r;exact⟨_,.nil⟩
 | d::ds,xs,us,⟨x,q,h1,h2,h3⟩,r,hc=>by
  subst h1;cases r with
  | cons r1 r2=>
   have hc':d.canLay0=true/\PyData.canLayAll0 ds=true:=by simpa[PyData.canLayAll0]using hc
   obtain⟨as,ra⟩:=qI I d x _ h2 r1 hc'.1;obtain⟨bs,rb⟩:=readsAll_of I ds q _ h3 r2 hc'.2;exact⟨_,.cons ra rb⟩
end
end
noncomputable abbrev Rho:=List (OP)
abbrev RP:=Rho->OP
structure EnvR(K:Fg)(H:Hp)(ρ:Rho)(σ:St):Prop where
 len:ρ.length=σ.length
 at':∀(i:Nat) (d:PyData),ρ[i]?=some (some d)->∃v,σ[i]?=some (some v)/\Rep K H d v
theorem EnvR.mono{K:Fg}{H H':Hp}{ρ:Rho}{σ:St}(e:EnvR K H ρ σ)(h:jp H H'):EnvR K H' ρ σ:=
 ⟨e.len,fun i d q=>let ⟨v,e1,e2⟩:=e.at' i d q;⟨v,e1,Rep.mono h d v e2⟩⟩
theorem EnvR.set{K:Fg}{H:Hp}{ρ:Rho}{σ:St}(e:EnvR K H ρ σ){i:Nat}{d:PyData}{v:V}(r:Rep K H d v):EnvR K H (ρ.set i (some d)) (σ.set i (some v)):=by
 refine⟨by simp[e.len],fun j c q=>?_⟩;by_cases hj:i=j
 ·subst hj
  rw[List.getElem?_set]at q ⊢;simp only[zzM]at q ⊢;by_cases hl:i < ρ.length
  ·rw[if_pos hl]at q
   rw[if_pos (by rw[←e.len];exact hl)];cases q;exact⟨v,rfl,r⟩
  ·rw[if_neg hl]at q;cases q
 ·rw[List.getElem?_set_ne hj]at q ⊢
  exact e.at' j c q
noncomputable def lkp(i:Nat)(ρ:Rho):OP:=(ρ[i]?).join
theorem qJ{i:Nat}{ρ:Rho}{d:PyData}(h:lkp i ρ=some d):ρ[i]?=some (some d):=by
 unfold lkp at h;cases e:ρ[i]? with
 |none=>rw[e]at h;cases h
 | some o=>rw[e]at h;cases o with
  |none=>cases h
  |some c=>cases h;rfl
noncomputable def tD(K:Fg)(f:RP):TE:=fun σ H Q=>∃ρ d,EnvR K H ρ σ/\f ρ=some d/\∀v H',jp H H'->Rep K H' d v->Q v H'
@[irreducible] noncomputable def PD(X:Cx)(e:Expr)(f:RP):Prop:=PE X e (tD X.K f)
noncomputable def tDT(K:Fg)(f:Rho->Option Bool):TT:=fun σ H Q=>∃ρ b,EnvR K H ρ σ/\f ρ=some b/\∀H',jp H H'->Q b H'
@[irreducible] noncomputable def PTD(X:Cx)(e:Expr)(f:Rho->Option Bool):Prop:=PT X e (tDT X.K f)
noncomputable def tDA(K:Fg)(f:Rho->Option (LP)):TA:=fun σ H Q=>∃ρ ds,EnvR K H ρ σ/\f ρ=some ds/\∀vs H',jp H H'->Reps K H' ds vs->Q vs H'
@[irreducible] noncomputable def PAD(X:Cx)(es:List Expr)(f:Rho->Option (LP)):Prop:=PA X es (tDA X.K f)
inductive Out where
 |nx (ρ:Rho) | rt (d:PyData) | bk (ρ:Rho) | ct (ρ:Rho)
abbrev RO:=Rho->Option Out
noncomputable def agn(K:Fg)(D:Ends)(H:Hp):Out->Prop
 |.nx ρ=>∀σ H',jp H H'->EnvR K H' ρ σ->D.nx σ H'
 |.rt d=>∀v H',jp H H'->Rep K H' d v->D.rt v H'
 |.bk ρ=>∀σ H',jp H H'->EnvR K H' ρ σ->D.bk σ H'
 |.ct ρ=>∀σ H',jp H H'->EnvR K H' ρ σ->D.ct σ H'
theorem agn.mono{K:Fg}{D:Ends}{H H':Hp}{o:Out}(h:agn K D H o)(e:jp H H'):agn K D H' o:=by
 cases o with
 |nx ρ=>exact fun σ H2 e2 r=>h σ H2 (e.trans e2) r
 |rt d=>exact fun v H2 e2 r=>h v H2 (e.trans e2) r
 |bk ρ=>exact fun σ H2 e2 r=>h σ H2 (e.trans e2) r
 |ct ρ=>exact fun σ H2 e2 r=>h σ H2 (e.trans e2) r
noncomputable def tDS(K:Fg)(F:RO):TS:=fun D σ H=>∃ρ o,EnvR K H ρ σ/\F ρ=some o/\agn K D H o
@[irreducible] noncomputable def PSD(X:Cx)(st:Stmt)(F:RO):Prop:=PS X st (tDS X.K F)
@[irreducible] noncomputable def abU(X:Cx)(st:List Stmt)(F:RO):Prop:=PSs X st (tDS X.K F)
noncomputable def tDG(K:Fg)(ga:PyData->Rho->Option Rho):TG:=fun v σ H Q=>∃ρ d ρ',EnvR K H ρ σ/\Rep K H d v/\ga d ρ=some ρ'/\∀σ' H',jp H H'->EnvR K H' ρ' σ'->Q σ' H'
@[irreducible] noncomputable def PGD(X:Cx)(tg:Expr)(ga:PyData->Rho->Option Rho):Prop:=PG X tg (tDG X.K ga)
section
variable {X:Cx}{e a b c:Expr}{es:List Expr}{fa fb fc:RP}{pos:Pos}
theorem PE.imp{t t':TE}(h:PE X e t)(hi:∀σ H Q,t' σ H Q->t σ H Q):PE X e t':=fun Kp s σ H Q I q=>h Kp s σ H Q I (hi σ H Q q)
theorem PT.imp{t t':TT}(h:PT X e t)(hi:∀σ H Q,t' σ H Q->t σ H Q):PT X e t':=fun Kp s σ H Q I q=>h Kp s σ H Q I (hi σ H Q q)
theorem PA.imp{t t':TA}(h:PA X es t)(hi:∀σ H Q,t' σ H Q->t σ H Q):PA X es t':=fun pos Kp s σ H Q I q=>h pos Kp s σ H Q I (hi σ H Q q)
theorem PS.imp{st:Stmt}{t t':TS}(h:PS X st t)(hi:∀D σ H,t' D σ H->t D σ H):PS X st t':=fun Kp s σ H D I q=>h Kp s σ H D I (hi D σ H q)
theorem PSs.imp{st:List Stmt}{t t':TS}(h:PSs X st t)(hi:∀D σ H,t' D σ H->t D σ H):PSs X st t':=fun Kp s σ H D I q=>h Kp s σ H D I (hi D σ H q)
theorem PG.imp{t t':TG}(h:PG X e t)(hi:∀v σ H Q,t' v σ H Q->t v σ H Q):PG X e t':=fun Kp s σ H v u Q I r q=>h Kp s σ H v u Q I r (hi v σ H Q q)
theorem ja(i:Nat){x:Str}{pos:Pos}(hN:X.N[i]?=some x:=by rfl)(hv:Vis X.env.scope x:=by first|exact Or.inl rfl|exact Or.inr (Or.inl rfl)|exact Or.inr (Or.inr rfl))(hd:(x==("__debug__":Str))=false:=by decide)
  (hcd:(x==("__classdict__":Str))=false:=by decide):PD X (.Name x pos) (lkp i):=by
 with_unfolding_all exact(PE.imp (QC hN hv hd hcd) fun σ H Q ⟨ρ,d,e,h,k⟩=>let ⟨v,e1,e2⟩:=e.at' i d (qJ h);⟨v,e1,k v H (jp.refl H) e2⟩)
noncomputable def cst(d:PyData)(_:Rho):OP:=some d
theorem jg{i j pos}:PD X (.Constant (.int i) j pos) (cst (.int i)):=by
 with_unfolding_all exact(PE.imp ak8 fun σ H Q ⟨ρ,d,e,h,k⟩=>by cases h;exact k _ H (jp.refl H) rfl)
theorem zL{i j pos}:PD X (.Constant (.bool i) j pos) (cst (.bool i)):=by
 with_unfolding_all exact(PE.imp arf fun σ H Q ⟨ρ,d,e,h,k⟩=>by cases h;exact k _ H (jp.refl H) rfl)
theorem Q5{j pos}:PD X (.Constant .none j pos) (cst .none):=by
 with_unfolding_all exact(PE.imp ak9 fun σ H Q ⟨ρ,d,e,h,k⟩=>by cases h;exact k _ H (jp.refl H) rfl)
theorem Qg{i j pos}:PD X (.Constant (.str i) j pos) (cst (.str i)):=by
 with_unfolding_all exact(PE.imp ala fun σ H Q ⟨ρ,d,e,h,k⟩=>by cases h;exact k _ H (jp.refl H) rfl)
theorem an1{x:Str}{v:V}{u:Value}{d:PyData}(hg:Gl X x)(hm:X.mg x=some u)(r:jT v u)(hr:∀H,Rep X.K H d v)(hd:(x==("__debug__":Str))=false:=by decide):PD X (.Name x pos) (cst d):=by
 with_unfolding_all exact(PE.imp (aeC hg hm r hd) fun σ H Q ⟨ρ,d',e,h,k⟩=>by cases h;exact k _ H (jp.refl H) (hr H))
noncomputable def op2(g:PyData->PyData->OP)(fa fb:RP):RP:=fun ρ=>(fa ρ).bind fun x=>(fb ρ).bind fun y=>g x y
noncomputable def OpD(X:Cx)(f:Value->Value->Sem Value)(g:PyData->PyData->OP):Prop:=
 ∃r,OpR X f r/\∀p q d x y H Q,g p q=some d->Rep X.K H p x->Rep X.K H q y->(∀v H',jp H H'->Rep X.K H' d v->Q v H')->r x y H Q
theorem alE{g:PyData->PyData->OP}{K:Fg}{r:R2}(hr:∀p q d x y H Q,g p q=some d->Rep K H p x->Rep K H q y->(∀v H',jp H H'->Rep K H' d v->Q v H')->r x y H Q)
  {σ:St} {H:Hp} {Q:VK} (h:tD K (op2 g fa fb) σ H Q):tOp r (tD K fa) (tD K fb) σ H Q:=by
 obtain⟨ρ,d,e,h,k⟩:=h;unfold op2 at h;cases ha:fa ρ with
 |none=>rw[ha]at h;cases h
 | some p=>
  rw[ha]at h;cases hb:fb ρ with
  |none=>rw[hb]at h;cases h
  | some q=>
   rw[hb]at h;refine⟨ρ,p,e,ha,fun x H1 s1 r1=>⟨ρ,q,e.mono s1,hb,fun y H2 s2 r2=>?_⟩⟩;exact hr p q d x y H2 Q h (Rep.mono s2 p x r1) r2 fun v H' s3 r3=>k v H' (s1.trans (s2.trans s3)) r3
theorem jt{op:Operator}{g:PyData->PyData->OP}(ho:OpD X (binaryOp op) g)(ha:PD X a fa)(hb:PD X b fb):PD X (.BinOp a op b pos) (op2 g fa fb):=by
 with_unfolding_all
  obtain⟨r,h1,h2⟩:=ho;exact PE.imp (apj h1 ha hb) fun σ H Q h=>alE h2 h
theorem ahH{op:CmpOp}{g:PyData->PyData->OP}(ho:OpD X (compareOp op) g)(ha:PD X a fa)(hb:PD X b fb)(hm:behindInMarks op b=false:=by first|exact acz _ | with_unfolding_all rfl):PD X (.Compare a [op] [b] pos) (op2 g fa fb):=by
 with_unfolding_all
  obtain⟨r,h1,h2⟩:=ho;exact PE.imp (aiY h1 ha hb hm) fun σ H Q h=>alE h2 h
noncomputable def asB:PyData->Option Bool
 |.bool b=>some b
 |_=>none
noncomputable def tst(f:RP):Rho->Option Bool:=fun ρ=>(f ρ).bind asB
theorem JC{d:PyData}{b:Bool}(h:asB d=some b):d= .bool b:=by
 cases d<;>simp[asB]at h
 rw[h]
theorem j7{op:CmpOp}{g:PyData->PyData->OP}(ho:OpD X (compareOp op) g)(ha:PD X a fa)(hb:PD X b fb)(hm:behindInMarks op b=false:=by first|exact acz _ | with_unfolding_all rfl):PTD X (.Compare a [op] [b] pos) (tst (op2 g fa fb)):=by
 with_unfolding_all
  obtain⟨r,h1,h2⟩:=ho;refine PT.imp (aiZ h1 ha hb hm) fun σ H Q ⟨ρ,t,e,h,k⟩=>?_;cases hd:op2 g fa fb ρ with
  |none=>simp[tst,hd]at h
  | some d=>
   have ht:d= .bool t:=JC (by simpa[tst,hd]using h);subst ht;exact alE h2 ⟨ρ,_,e,hd,fun v H' s r=>⟨t,r,k H' s⟩⟩
theorem jZ(h:PD X e fa)(he:∀whole,isTrue e X.env whole=(do let v ←whole;standAt e.pos;holding [v] (truthy v)):=by intro _;rfl):PTD X e (tst fa):=by
 with_unfolding_all
  refine PT.imp (apQ h he) fun σ H Q ⟨ρ,t,e,h,k⟩=>?_;cases hd:fa ρ with
  |none=>simp[tst,hd]at h
  | some d=>
   have ht:d= .bool t:=JC (by simpa[tst,hd]using h);subst ht;exact⟨ρ,_,e,hd,fun v H' s r=>⟨t,r,k H' s⟩⟩
variable {ta tb:Rho->Option Bool}{j1:List Expr}
@[irreducible] noncomputable def PWD(X:Cx)(e:Expr)(f:Rho->Option Bool):Prop:=PW X e (tDT X.K f)
theorem PW.imp{t t':TT}(h:PW X e t)(hi:∀σ H Q,t' σ H Q->t σ H Q):PW X e t':=fun wh Kp s σ H Q I q=>h wh Kp s σ H Q I (hi σ H Q q)
noncomputable def asK(ta tb:Rho->Option Bool):Rho->Option Bool:=fun ρ=>(ta ρ).bind fun x=>if x=true then tb ρ else some false
noncomputable def orB(ta tb:Rho->Option Bool):Rho->Option Bool:=fun ρ=>(ta ρ).bind fun x=>if x=true then some true else tb ρ
noncomputable def zI(ta:Rho->Option Bool):Rho->Option Bool:=fun ρ=>(ta ρ).map (!·)
theorem zZ(ha:PTD X a ta):PWD X (.BoolOp .Or [a] pos) ta:=by
 with_unfolding_all exact(alc ha)
theorem Jm(ha:PTD X a ta)(hb:PWD X (.BoolOp .Or (b::j1) pos) tb):PWD X (.BoolOp .Or (a::b::j1) pos) (orB ta tb):=by
 with_unfolding_all
  refine PW.imp (aph ha hb) fun σ H Q ⟨ρ,t,e,h,k⟩=>?_;cases h1:ta ρ with
  |none=>simp[orB,h1]at h
  | some x=>
   refine⟨ρ,x,e,h1,fun H' s=>?_⟩;cases x with
   |false=>rw[if_neg Bool.false_ne_true];exact⟨ρ,t,e.mono s,by simpa[orB,h1]using h,fun H2 s2=>k H2 (s.trans s2)⟩
   | true=>
    rw[if_pos rfl];have:t=true:=by simpa[orB,h1]using h.symm
    subst this;exact k H' s
theorem zj{op:BoolOp}{l:List Expr}(h:PWD X (.BoolOp op l pos) ta):PTD X (.BoolOp op l pos) ta:=by
 with_unfolding_all exact(h.pt)
theorem jW(ha:PTD X a ta):PTD X (.UnaryOp .Not a pos) (zI ta):=by
 with_unfolding_all
  refine PT.imp (apS ha) fun σ H Q ⟨ρ,t,e,h,k⟩=>?_;cases h1:ta ρ with
  |none=>simp[zI,h1]at h
  | some x=>
   have:(!x)=t:=by simpa[zI,h1]using h
   subst this;exact⟨ρ,x,e,h1,fun H' s=>k H' s⟩
noncomputable def ifD(tc:Rho->Option Bool)(fa fb:RP):RP:=fun ρ=>(tc ρ).bind fun x=>if x=true then fa ρ else fb ρ
theorem arF{tc:Rho->Option Bool}(hc:PTD X c tc)(ha:PD X a fa)(hb:PD X b fb):PD X (.IfExp c a b pos) (ifD tc fa fb):=by
 with_unfolding_all
  refine PE.imp (ald hc ha hb) fun σ H Q ⟨ρ,d,e,h,k⟩=>?_;cases h1:tc ρ with
  |none=>simp[ifD,h1]at h
  | some x=>
   refine⟨ρ,x,e,h1,fun H' s=>?_⟩;cases x with
   |true=>rw[if_pos rfl];exact⟨ρ,d,e.mono s,by simpa[ifD,h1]using h,fun v H2 s2=>k v H2 (s.trans s2)⟩
   |false=>rw[if_neg Bool.false_ne_true];exact⟨ρ,d,e.mono s,by simpa[ifD,h1]using h,fun v H2 s2=>k v H2 (s.trans s2)⟩
noncomputable def jF(_:Rho):Option (LP):=some []
noncomputable def jr(fa:RP)(fr:Rho->Option (LP)):Rho->Option (LP):=fun ρ=>(fa ρ).bind fun x=>(fr ρ).map fun r=>x::r
theorem je:PAD X [] jF:=by
 with_unfolding_all exact(PA.imp Jk fun σ H Q ⟨ρ,d,e,h,k⟩=>by cases h;exact k [] H (jp.refl H) rfl)
theorem jb{fr:Rho->Option (LP)}(ha:PD X e fa)(hr:PAD X es fr)(hs:starEach (e::es) X.env=(false,eval e X.env)::starEach es X.env:=by rfl):PAD X (e::es) (jr fa fr):=by
 with_unfolding_all
  refine PA.imp (qG ha hr hs) fun σ H Q ⟨ρ,ds,en,h,k⟩=>?_;cases h1:fa ρ with
  |none=>simp[jr,h1]at h
  | some x=>
   cases h2:fr ρ with
   |none=>simp[jr,h1,h2]at h
   | some r=>
    have:x::r=ds:=by simpa[jr,h1,h2]using h
    subst this;exact⟨ρ,x,en,h1,fun v H1 s1 r1=>⟨ρ,r,en.mono s1,h2,fun vs H2 s2 r2=>k _ H2 (s1.trans s2) ⟨v,vs,rfl,Rep.mono s2 x v r1,r2⟩⟩⟩
noncomputable def few(ds:LP):Bool:=decide (ds.length<1000000)
theorem aa8{n:Nat}(h:n<1000000):n<=sizeLine:=Nat.le_of_lt (Nat.lt_of_lt_of_le h (by rw[sizeLine_eq];decide))
theorem jC{H:Hp}{p:Addr}{o:HO}(hp:H p=none):jp H (upd H p o):=fun b u h=>by rw[js (qF h hp)];exact h
noncomputable def aad(fr:Rho->Option (LP)):RP:=fun ρ=>(fr ρ).bind fun ds=>if few ds=true then some (.tuple ds) else none
noncomputable def QY(fr:Rho->Option (LP)):RP:=fun ρ=>(fr ρ).bind fun ds=>if few ds=true then some (.list ds) else none
theorem zf{x1}{fr:Rho->Option (LP)}(h:PAD X es fr):PD X (.Tuple es x1 pos) (aad fr):=by
 with_unfolding_all
  refine PE.imp (ahA h) fun σ H Q ⟨ρ,d,e,h,k⟩=>?_;cases h1:fr ρ with
  |none=>simp[aad,h1]at h
  | some ds=>
   by_cases hf:few ds=true
   ·have:PyData.tuple ds=d:=by simpa[aad,h1,hf]using h
    subst this;refine⟨ρ,ds,e,h1,fun vs H1 s1 r1=>⟨aa8 (by rw[r1.length];simpa[few]using hf),fun p hp=>k _ _ (s1.trans (jC hp)) ⟨p,vs,rfl,SqT.of jn,Reps.mono (jC hp) _ _ r1⟩⟩⟩
   ·simp[aad,h1,hf]at h
theorem acH{fr:Rho->Option (LP)}(h:PAD X es fr):PD X (.List es pos) (QY fr):=by
 with_unfolding_all
  refine PE.imp (ahB h) fun σ H Q ⟨ρ,d,e,h,k⟩=>?_;cases h1:fr ρ with
  |none=>simp[QY,h1]at h
  | some ds=>
   by_cases hf:few ds=true
   ·have:PyData.list ds=d:=by simpa[QY,h1,hf]using h
    subst this;refine⟨ρ,ds,e,h1,fun vs H1 s1 r1=>⟨aa8 (by rw[r1.length];simpa[few]using hf),fun p hp=>k _ _ (s1.trans (jC hp)) ⟨p,vs,rfl,jn,Reps.mono (jC hp) _ _ r1⟩⟩⟩
   ·simp[QY,h1,hf]at h
end
end BX
end
section
namespace BX
open PySem PySem.Spec L2
open PyProof.Rows hiding St
section
variable {X:Cx}{e a b c tg src:Expr}{es:List Expr}{st:Stmt}{sts j1:List Stmt}{fa fb fc:RP}{F G:RO}{pos:Pos}
noncomputable def qq(fa:RP):RO:=fun ρ=>(fa ρ).map Out.rt
theorem jw(h:PD X e fa):PSD X (.Return (some e) pos) (qq fa):=by
 with_unfolding_all
  refine PS.imp (aeF h) fun D σ H ⟨ρ,o,en,q,k⟩=>?_;cases h1:fa ρ with
  |none=>simp[qq,h1]at q
  | some d=>
   have:Out.rt d=o:=by simpa[qq,h1]using q
   subst this;exact⟨ρ,d,en,h1,k⟩
noncomputable def ifS(tc:Rho->Option Bool)(F G:RO):RO:=fun ρ=>(tc ρ).bind fun x=>if x=true then F ρ else G ρ
theorem qh{l r:List Stmt}{tc:Rho->Option Bool}(hc:PTD X c tc)(hl:abU X l F)(hr:abU X r G):PSD X (.If c l r pos) (ifS tc F G):=by
 with_unfolding_all
  refine PS.imp (api hc hl hr) fun D σ H ⟨ρ,o,en,q,k⟩=>?_;cases h1:tc ρ with
  |none=>simp[ifS,h1]at q
  | some x=>
   refine⟨ρ,x,en,h1,fun H1 s1=>?_⟩;cases x with
   |true=>rw[if_pos rfl];exact⟨ρ,o,en.mono s1,by simpa[ifS,h1]using q,k.mono s1⟩
   |false=>rw[if_neg Bool.false_ne_true];exact⟨ρ,o,en.mono s1,by simpa[ifS,h1]using q,k.mono s1⟩
noncomputable def qz:RO:=fun ρ=>some (.nx ρ)
noncomputable def jX(F G:RO):RO:=fun ρ=>(F ρ).bind fun o=>match o with
 |.nx ρ'=>G ρ'
 |o=>some o
theorem jh:abU X [] qz:=by
 with_unfolding_all
  refine PSs.imp aeD fun D σ H ⟨ρ,o,en,q,k⟩=>?_;cases q;exact k σ H (jp.refl H) en
theorem jd(h1 : PSD X st F)(h2 : abU X j1 G) : abU X (st :: j1) (jX F G) := by
  with_unfolding_all
   refine PSs.imp (Je h1 h2) fun D σ H ⟨ρ, o, en, q, k⟩ => ?_;cases hf : F ρ with
   |none => simp[jX, hf]at q
   | some p =>
     refine⟨ρ, p, en, hf, ?_⟩;cases p with
     |nx ρ' => exact fun σ' H' s' r' => ⟨ρ', o, r', by simpa[jX, hf]using q, k.mono s'⟩
     | rt d => have : Out.rt d = o := by simpa[jX, hf]using q
               subst this;exact k
     | bk d => have : Out.bk d = o := by simpa[jX, hf]using q
               subst this;exact k
     | ct d => have : Out.ct d = o := by simpa[jX, hf]using q
               subst this;exact k
noncomputable def aqf:RO:=fun _=>none
theorem akc:PSD X st aqf:=by
 with_unfolding_all exact(PS.imp alf fun D σ H ⟨ρ,o,en,q,k⟩=>by cases q)
theorem zO:abU X sts aqf:=by
 with_unfolding_all exact(PSs.imp ajY fun D σ H ⟨ρ,o,en,q,k⟩=>by cases q)
noncomputable def aeQ(fa:RP):RO:=fun ρ=>(fa ρ).map fun _=> .nx ρ
theorem qe(h:PD X e fa)(hs:swapsWith e none pos.line X.env=pure false:=by rfl):PSD X (.Expr e pos) (aeQ fa):=by
 with_unfolding_all
  refine PS.imp (abX h hs) fun D σ H ⟨ρ,o,en,q,k⟩=>?_;cases h1:fa ρ with
  |none=>simp[aeQ,h1]at q
  | some d=>
   have:Out.nx ρ=o:=by simpa[aeQ,h1]using q
   subst this;exact⟨ρ,d,en,h1,fun v H' s r=>k σ H' s (en.mono s)⟩
noncomputable def j9(i:Nat)(d:PyData)(ρ:Rho):Option Rho:=some (ρ.set i (some d))
theorem jK(i:Nat){x:Str}(hN:X.N.Nodup)(hi:X.N[i]?=some x:=by rfl)(hx:Loc X.env.scope x:=by first|exact Or.inl rfl|exact Or.inr rfl)
  (hf:X.fn x=true∨X.env.scope.names.lookup x=some .local:=by first|exact .inl rfl|exact .inr rfl|assumption):PGD X (.Name x pos) (j9 i):=by
 with_unfolding_all
  refine PG.imp (aeG hN hi hx hf) fun v σ H Q ⟨ρ,d,ρ',en,r,q,k⟩=>?_;cases q;exact k _ H (jp.refl H) (en.set r)
@[irreducible] noncomputable def an2(X:Cx)(ts:List Expr)(ga:LP->Rho->Option Rho):Prop:=PGs X ts fun vs σ H Q=>∃ρ ds ρ',EnvR X.K H ρ σ/\Reps X.K H ds vs/\ga ds ρ=some ρ'/\∀σ' H',jp H H'->EnvR X.K H' ρ' σ'->Q σ' H'
noncomputable def acI(ds:LP)(ρ:Rho):Option Rho:=match ds with
 | []=>some ρ
 |_=>none
noncomputable def zB(ga:PyData->Rho->Option Rho)(gr:LP->Rho->Option Rho)(ds:LP)(ρ:Rho):Option Rho:=match ds with
 |d::r=>(ga d ρ).bind fun ρ1=>gr r ρ1
 | []=>none
theorem PGs.imp{ts:List Expr}{t t':TGs}(h:PGs X ts t)(hi:∀v σ H Q,t' v σ H Q->t v σ H Q):PGs X ts t':=fun Kp s σ H v u Q I r q=>h Kp s σ H v u Q I r (hi v σ H Q q)
theorem aae:an2 X [] acI:=by
 with_unfolding_all
  refine PGs.imp anF fun vs σ H Q ⟨ρ,ds,ρ',en,r,q,k⟩=>?_;cases ds with
  |nil=>cases r;cases q;exact⟨rfl,k σ H (jp.refl H) en⟩
  |cons d ds=>cases q
theorem qA{ga:PyData->Rho->Option Rho}{gr:LP->Rho->Option Rho}(h1:PGD X e ga)(h2:an2 X es gr)
  (hs:(assignEach (e::es) X.env).map (·.2)=assign e X.env::(assignEach es X.env).map (·.2):=by rfl):an2 X (e::es) (zB ga gr):=by
 with_unfolding_all
  refine PGs.imp (alh h1 h2 hs) fun vs σ H Q ⟨ρ,ds,ρ',en,r,q,k⟩=>?_;cases ds with
  |nil=>cases q
  | cons d ds=>
   obtain⟨x,rr,e1,r1,r2⟩:=r;subst e1;cases h3:ga d ρ with
   |none=>simp[zB,h3]at q
   | some ρ1=>
    refine⟨x,rr,rfl,ρ,d,ρ1,en,r1,h3,fun σ1 H1 s1 e1=>⟨ρ1,ds,ρ',e1,Reps.mono s1 ds rr r2,by simpa[zB,h3]using q,fun σ2 H2 s2 e2=>k σ2 H2 (s1.trans s2) e2⟩⟩
noncomputable def ago(n:Nat)(gr:LP->Rho->Option Rho)(d:PyData)(ρ:Rho):Option Rho:=match d with
 |.tuple ds=>if ds.length=n then gr ds ρ else none
 |_=>none
theorem abY{k n:Nat}{gr:LP->Rho->Option Rho}(hc:X.calm=true)(h:an2 X es gr)(hn:(assignEach es X.env).length=n:=by rfl)(hst:(assignEach es X.env).findIdx? (·.1)=none:=by rfl):
  PGD X (.Tuple es k pos) (ago n gr):=by
 with_unfolding_all
  refine PG.imp (apW hc h hn hst) fun v σ H Q ⟨ρ,d,ρ',en,r,q,k⟩=>?_;cases d with
  | tuple ds=>
   obtain⟨a,xs,e1,e2,e3⟩:=r;by_cases hl:ds.length=n
   ·exact⟨a,xs,e1,e2,by rw[e3.length];exact hl,ρ,ds,ρ',en,e3,by simpa[ago,hl]using q,k⟩
   ·simp[ago,hl]at q
  |_=>simp[ago]at q
noncomputable def zk(fa:RP)(ga:PyData->Rho->Option Rho):RO:=fun ρ=>(fa ρ).bind fun d=>(ga d ρ).map Out.nx
theorem an3{ga:PyData->Rho->Option Rho}(he:PD X e fa)(hg:PGD X tg ga)(hs:swapsWithSole [tg] e pos.line X.env=pure false:=by rfl)(hw:swappedStores [tg] e X.env=pure none:=by rfl)
  (h1:(assignEach [tg] X.env).map (·.2)=[assign tg X.env]:=by rfl):PSD X (.Assign [tg] e pos) (zk fa ga):=by
 with_unfolding_all
  refine PS.imp (acx he hg hs hw h1) fun D σ H ⟨ρ,o,en,q,k⟩=>?_;cases h1:fa ρ with
  |none=>simp[zk,h1]at q
  | some d=>
   cases h2:ga d ρ with
   |none=>simp[zk,h1,h2]at q
   | some ρ'=>
    have:Out.nx ρ'=o:=by simpa[zk,h1,h2]using q
    subst this;exact⟨ρ,d,en,h1,fun v H1 s1 r1=>⟨ρ,d,ρ',en.mono s1,r1,h2,fun σ' H' s' e'=>k σ' H' (s1.trans s') e'⟩⟩
theorem jR(i:Nat){x:Str}{pos':Pos}(hN:X.N.Nodup)(he:PD X e fa)(hi:X.N[i]?=some x:=by rfl)(hx:Loc X.env.scope x:=by first|exact Or.inl rfl|exact Or.inr rfl)(hs:swapsWith e (some (.Name x pos')) pos.line X.env=pure false:=by rfl)
  (hf:X.fn x=true∨X.env.scope.names.lookup x=some .local:=by first|exact .inl rfl|exact .inr rfl|assumption):PSD X (.Assign [.Name x pos'] e pos) (zk fa (j9 i)):=by
 with_unfolding_all
  refine PS.imp (aa0 hN hi hx he hs hf) fun D σ H ⟨ρ,o,en,q,k⟩=>?_;cases h1:fa ρ with
  |none=>simp[zk,h1]at q
  | some d=>
   have:Out.nx (ρ.set i (some d))=o:=by simpa[zk,h1,j9]using q
   subst this;exact⟨ρ,d,en,h1,fun v H1 s1 r1=>k _ H1 s1 ((en.mono s1).set r1)⟩
noncomputable def ahI(K:Fg)(J:It)(ds:LP)(H0:Hp):Prop:=∀i H,jy H0 H->(i<ds.length->J.go i H)/\(ds.length<=i->J.stop i H)/\∀x H',J.yld i H x H'->jp H H'/\∀d,ds[i]?=some d->Rep K H' d x
noncomputable def tDI(K:Fg)(fi:Rho->Option (LP)):TI:=fun σ H R=>∃ρ ds,EnvR K H ρ σ/\fi ρ=some ds/\∀J H',jp H H'->ahI K J ds H'->R J H'
@[irreducible] noncomputable def PID(X:Cx)(tg src:Expr)(fi:Rho->Option (LP)):Prop:=PI X tg src (tDI X.K fi)
theorem PI.imp{t t':TI}(h:PI X tg src t)(hi:∀σ H R,t' σ H R->t σ H R):PI X tg src t':=fun Kp s σ H R I q=>h Kp s σ H R I (hi σ H R q)
noncomputable def Q6:PyData->Option (LP)
 |.list ds=>some ds
 |_=>none
noncomputable def aa9:PyData->Option (LP)
 |.tuple ds=>some ds
 |_=>none
noncomputable def itL(fa:RP):Rho->Option (LP):=fun ρ=>(fa ρ).bind Q6
noncomputable def itT(fa:RP):Rho->Option (LP):=fun ρ=>(fa ρ).bind aa9
theorem aaf(h:PD X e fa):PID X tg e (itL fa):=by
 with_unfolding_all
  refine PI.imp (aiX h) fun σ H R ⟨ρ,ds,en,q,k⟩=>?_;cases h1:fa ρ with
  |none=>simp[itL,h1]at q
  | some d=>
   cases d with
   | list es=>
    have:es=ds:=by simpa[itL,h1,Q6]using q
    subst this;refine⟨ρ,_,en,h1,fun v H1 s1 r1=>?_⟩;obtain⟨a,xs,e1,e2,e3⟩:=r1;refine⟨a,e1,⟨xs,SqL.of e2⟩,k _ H1 s1 fun i H2 s2=>⟨fun hi=>?_,fun hi=>?_,fun x H' y=>?_⟩⟩
    ·exact⟨xs,xs[i]'(by rw[e3.length];exact hi),SqL.of (s2 _ _ e2 rfl),by simp[e3.length,hi]⟩
    ·exact⟨xs,SqL.of (s2 _ _ e2 rfl),by rw[e3.length];exact hi⟩
    ·obtain⟨z1,z2⟩:=y
     subst z1;refine⟨jp.refl _,fun d hd=>?_⟩;obtain⟨y,e4,e5⟩:=(Reps.monoA s2 _ _ e3).get hd;have:=z2 xs (SqL.of (s2 _ _ e2 rfl));rw[e4]at this;cases this;exact e5
   |_=>simp[itL,h1,Q6]at q
theorem aeR(h:PD X e fa):PID X tg e (itT fa):=by
 with_unfolding_all
  refine PI.imp (apZ h) fun σ H R ⟨ρ,ds,en,q,k⟩=>?_;cases h1:fa ρ with
  |none=>simp[itT,h1]at q
  | some d=>
   cases d with
   | tuple es=>
    have:es=ds:=by simpa[itT,h1,aa9]using q
    subst this;refine⟨ρ,_,en,h1,fun v H1 s1 r1=>?_⟩;obtain⟨a,xs,e1,e2,e3⟩:=r1;refine⟨a,e1,⟨xs,e2⟩,k _ H1 s1 fun i H2 s2=>⟨fun hi=>?_,fun hi=>?_,fun x H' y=>?_⟩⟩
    ·exact⟨xs,xs[i]'(by rw[e3.length];exact hi),jy.tup s2 e2,by simp[e3.length,hi]⟩
    ·exact⟨xs,jy.tup s2 e2,by rw[e3.length];exact hi⟩
    ·obtain⟨z1,z2⟩:=y
     subst z1;refine⟨jp.refl _,fun d hd=>?_⟩;obtain⟨y,e4,e5⟩:=(Reps.monoA s2 _ _ e3).get hd;have:=z2 xs (jy.tup s2 e2);rw[e4]at this;cases this;exact e5
   |_=>simp[itT,h1,aa9]at q
noncomputable def zl(lo:Int)(n:Nat):LP:=(List.range n).map fun (k:Nat)=>PyData.int (lo+(k:Int))
noncomputable def ZV(ds:LP):Option (LP):=match ds with
 | [.int j]=>if -(2 ^ 62)<=j/\j<2 ^ 62 then some (zl 0 j.toNat) else none
 |_=>none
theorem aeS{K:Fg}{H:Hp}(lo:Int)(n:Nat):ahI K (Itr lo n) (zl lo n) H:=fun i H2 s2=>by
 have hl:(zl lo n).length=n:=by simp[zl]
 refine⟨fun hi=>by rw[hl]at hi;exact hi,fun hi=>by rw[hl]at hi;exact hi,fun x H' y=>?_⟩;obtain⟨z1,z2⟩:=y;subst z1;refine⟨jp.refl _,fun d hd=>?_⟩
 have hi:i<n:=by
  have:=(List.getElem?_eq_some_iff.mp hd).1;rw[hl]at this;exact this
 have:d= .int (lo+i):=by
  simp[zl,hi]at hd;exact hd.symm
 subst this;exact z2
theorem zP{p pos:Pos}{fr:Rho->Option (LP)}(hg:Gl X "range")(hm:X.mg "range"=none)(ha:PAD X [a] fr)(hs:starEach [a] X.env=[(false,eval a X.env)]:=by rfl):PID X tg (.Call (.Name "range" p) [a] [] pos) (fun ρ=>(fr ρ).bind ZV):=by
 with_unfolding_all
  refine PI.imp (aa1 hg hm ha hs) fun σ H R ⟨ρ,ds,en,q,k⟩=>?_;cases h1:fr ρ with
  |none=>simp[h1]at q
  | some as=>
   have q':ZV as=some ds:=by simpa[h1]using q
   refine⟨ρ,as,en,h1,fun vs H1 s1 r1=>?_⟩;unfold ZV at q';split at q'
   ·rename_i j
    split at q'
    ·rename_i hj
     cases q';obtain⟨x,r,e1,e2,e3⟩:=r1;cases (show x=V.int j from e2);cases (show r=[] from e3);exact⟨j,e1,hj.1,hj.2,k _ H1 s1 (aeS 0 j.toNat)⟩
    ·cases q'
   ·cases q'
noncomputable def qK(ga:PyData->Rho->Option Rho)(F:RO):LP->RO
 | [],ρ=>some (.nx ρ)
 | d::r,ρ=>(ga d ρ).bind fun ρ1=>(F ρ1).bind fun o=>match o with
  |.nx ρ2=>qK ga F r ρ2
  |.ct ρ2=>qK ga F r ρ2
  |.bk ρ2=>some (.nx ρ2)
  |.rt d=>some (.rt d)
noncomputable def agp(fi:Rho->Option (LP))(ga:PyData->Rho->Option Rho)(F:RO):RO:=fun ρ=>(fi ρ).bind fun ds=>qK ga F ds ρ
theorem QG{body:List Stmt}{fi:Rho->Option (LP)}{ga:PyData->Rho->Option Rho}(hp:PassesOwn (model X.prog X.w) X.A X.env X.xe)(hc:X.calm=true)(hi:PID X tg src fi)(hg:PGD X tg ga)(hb:abU X body F)
  (hs:∀x,foldedSetIterable src X.env x=pure x:=by intro _;rfl):PSD X (.For tg src body [] pos) (agp fi ga F):=by
 with_unfolding_all
  refine PS.imp (acy hp hc hi hg hb hs) fun D σ H ⟨ρ,o,en,q,k⟩=>?_;cases h1:fi ρ with
  |none=>simp[agp,h1]at q
  | some ds=>
   have q':qK ga F ds ρ=some o:=by simpa[agp,h1]using q
   refine⟨ρ,ds,en,h1,fun J H1 s1 Y=>?_⟩;refine⟨fun i m σ H2=>m=ds.length-i/\i<=ds.length/\jp H1 H2/\∃ρ2,EnvR X.K H2 ρ2 σ/\qK ga F (ds.drop i) ρ2=some o,⟨ds.length,by simp,Nat.zero_le _,jp.refl _,ρ,en.mono s1,by simpa using q'⟩,?_⟩
   rintro i m σ2 H2 ⟨rfl,hi,s2,ρ2,en2,q2⟩
   obtain⟨g1,g2,g3⟩:=Y i H2 (jp.a s2);by_cases hlt:i<ds.length
   ·right
    have hd:ds.drop i=ds[i]::ds.drop (i+1):=List.drop_eq_getElem_cons hlt;rw[hd]at q2;refine⟨g1 hlt,fun σ3 H3=>jp H1 H3/\∃ρ3,EnvR X.K H3 ρ3 σ3/\qK ga F (ds.drop (i+1)) ρ3=some o,fun σ3 H3 ⟨a1,ρ3,a2,a3⟩=>⟨ds.length-(i+1),by omega,rfl,hlt,a1,ρ3,a2,a3⟩,fun x H3 y=>?_⟩;obtain⟨s3,r3⟩:=g3 x H3 y;have r3':=r3 ds[i] (by simp[hlt]);cases h4:ga ds[i] ρ2 with
    |none=>simp[qK,h4]at q2
    | some ρ4=>
     refine⟨ρ2,ds[i],ρ4,en2.mono s3,r3',h4,fun σ5 H5 s5 en5=>?_⟩;cases h5:F ρ4 with
     |none=>simp[qK,h4,h5]at q2
     | some p=>
      refine⟨ρ4,p,en5,h5,?_⟩;have s15:=s2.trans (s3.trans s5);cases p with
      |nx ρ6=>exact fun σ6 H6 s6 en6=>⟨s15.trans s6,ρ6,en6,by simpa[qK,h4,h5]using q2⟩
      |ct ρ6=>exact fun σ6 H6 s6 en6=>⟨s15.trans s6,ρ6,en6,by simpa[qK,h4,h5]using q2⟩
      | bk ρ6=>
       have:Out.nx ρ6=o:=by simpa[qK,h4,h5]using q2
       subst this;exact fun σ6 H6 s6 en6=>k σ6 H6 (s1.trans (s15.trans s6)) en6
      | rt d=>
       have:Out.rt d=o:=by simpa[qK,h4,h5]using q2
       subst this;exact fun v H6 s6 r6=>k v H6 (s1.trans (s15.trans s6)) r6
   ·left
    have he:i=ds.length:=by omega
    have hn:ds.drop i=[]:=by rw[he];simp
    rw[hn]at q2;have:Out.nx ρ2=o:=by simpa[qK]using q2
    subst this;exact⟨g2 (by omega),k σ2 H2 (s1.trans s2) en2⟩
noncomputable def ZL(cap:List (Option Nat))(ρ:Rho):Rho:=cap.map fun o=>o.bind fun i=>(ρ[i]?).join
theorem EnvR.cap{K:Fg}{H:Hp}{ρ:Rho}{σ:St}(e:EnvR K H ρ σ)(cap:List (Option Nat)):EnvR K H (ZL cap ρ) (abT cap σ):=by
 refine⟨by simp[ZL,abT],fun j d q=>?_⟩;unfold ZL at q;unfold abT;rw[List.getElem?_map]at q ⊢;cases h1:cap[j]? with
 |none=>rw[h1]at q;cases q
 | some o=>
  rw[h1]at q;cases o with
  |none=>cases q
  | some i=>
   have q':lkp i ρ=some d:=by simpa[lkp]using q
   obtain⟨v,e1,e2⟩:=e.at' i d (qJ q');exact⟨v,by simp[e1],e2⟩
noncomputable def qp(ga:PyData->Rho->Option Rho)(ft:Rho->Option Bool)(fe:RP):LP->Rho->Option (LP)
 | [],_=>some []
 |d::r,τ=>(ga d τ).bind fun τ2=>(ft τ2).bind fun b=>if b=true then (fe τ2).bind fun y=>(qp ga ft fe r τ2).map fun ys=>y::ys else qp ga ft fe r τ2
noncomputable def ze(fi:Rho->Option (LP))(cap:List (Option Nat))(ga:PyData->Rho->Option Rho)(ft:Rho->Option Bool)(fe:RP):RP:=fun ρ=>(fi ρ).bind fun ds=>
 if few ds=true then (qp ga ft fe ds (ZL cap ρ)).map PyData.list else none
@[irreducible] noncomputable def an4(X:Cx)(ts:List Expr)(f:Rho->Option Bool):Prop:=PTs X ts (tDT X.K f)
noncomputable def aqg(_:Rho):Option Bool:=some true
theorem JD:an4 X [] aqg:=by
 with_unfolding_all exact(fun Kp s σ H Q I ⟨ρ,b,en,q,k⟩=>by cases q;exact anY Kp s σ H Q I (k H (jp.refl H)))
theorem acJ{ft:Rho->Option Bool}(h:PTD X c ft):an4 X [c] ft:=by
 with_unfolding_all exact(anZ h)
theorem JU{el:Expr}{ts:List Expr}{sc:Scope}{ps:Pos}{fi:Rho->Option (LP)}{ga:PyData->Rho->Option Rho}{ft:Rho->Option Bool}{fe:RP}(N':List Str)(cap:List (Option Nat))(hc:X.calm=true)(hi:PID X tg src fi)(ok:CompOk X sc N' cap)
  (body:∀cl C s0 H0 fp pn,PGD (blk X N' sc cl C s0 H0 fp pn) tg ga/\an4 (blk X N' sc cl C s0 H0 fp pn) ts ft/\PD (blk X N' sc cl C s0 H0 fp pn) el fe)
  (hs:∀x,foldedSetIterable src X.env x=pure x:=by intro _;rfl):PD X (.ListComp el [⟨tg,src,ts,0⟩] sc ps) (ze fi cap ga ft fe):=by
 with_unfolding_all
  refine PE.imp (an0 (g:=tDG X.K ga) (tt:=tDT X.K ft) (te:=tD X.K fe) hc hi ok (fun cl C s0 H0 fp pn=>body cl C s0 H0 fp pn) hs) fun σ H Q ⟨ρ,d,en,q,k⟩=>?_;cases h1:fi ρ with
  |none=>simp[ze,h1]at q
  | some ds=>
   by_cases hf:few ds=true
   ·cases h2:qp ga ft fe ds (ZL cap ρ)with
    |none=>simp[ze,h1,hf,h2]at q
    | some ys=>
     have:PyData.list ys=d:=by simpa[ze,h1,hf,h2]using q
     subst this;refine⟨ρ,ds,en,h1,fun J H1 s1 Y=>?_⟩
     refine⟨fun i m τ us H2=>m=ds.length-i/\i<=ds.length/\jp H1 H2/\us.length<=i/\∃ρ2 zs ws,EnvR X.K H2 ρ2 τ/\Reps X.K H2 zs us/\qp ga ft fe (ds.drop i) ρ2=some ws/\ys=zs++ws,
      ⟨ds.length,by simp,Nat.zero_le _,jp.refl _,Nat.le_refl _,ZL cap ρ,[],ys,(en.mono s1).cap cap,rfl,by simpa using h2,rfl⟩,?_⟩
     rintro i m τ us H2 ⟨rfl,hi',s2,hu,ρ2,zs,ws,en2,r2,q2,ey⟩
     have hsm:us.length<sizeLine:=Nat.lt_of_le_of_lt (Nat.le_trans hu hi') (Nat.lt_of_lt_of_le (by simpa[few]using hf) (by rw[sizeLine_eq];decide:1000000<=sizeLine));obtain⟨g1,g2,g3⟩:=Y i H2 (jp.a s2);refine⟨hsm,?_⟩;by_cases hlt:i<ds.length
     ·right
      have hd:ds.drop i=ds[i]::ds.drop (i+1):=List.drop_eq_getElem_cons hlt;rw[hd]at q2;refine⟨g1 hlt,fun x H3 y=>?_⟩;obtain⟨s3,r3⟩:=g3 x H3 y;have r3':=r3 ds[i] (by simp[hlt]);cases h4:ga ds[i] ρ2 with
      |none=>simp[qp,h4]at q2
      | some ρ4=>
       refine⟨ρ2,ds[i],ρ4,en2.mono s3,r3',h4,fun σ5 H5 s5 en5=>?_⟩;cases h5:ft ρ4 with
       |none=>simp[qp,h4,h5]at q2
       | some b=>
        refine⟨ρ4,b,en5,h5,fun H6 s6=>?_⟩;have s26:=s3.trans (s5.trans s6);cases b with
        | false=>
         refine arz ?_;exact⟨ds.length-(i+1),by omega,rfl,hlt,s2.trans s26,by omega,ρ4,zs,ws,en5.mono s6,Reps.mono s26 _ _ r2,by simpa[qp,h4,h5]using q2,ey⟩
        | true=>
         refine arA ?_;cases h6:fe ρ4 with
         |none=>simp[qp,h4,h5,h6]at q2
         | some y=>
          cases h7:qp ga ft fe (ds.drop (i+1)) ρ4 with
          |none=>simp[qp,h4,h5,h6,h7]at q2
          | some ws'=>
           have hw:y::ws'=ws:=by simpa[qp,h4,h5,h6,h7]using q2
           refine⟨ρ4,y,en5.mono s6,h6,fun v H7 s7 r7=>?_⟩;refine⟨ds.length-(i+1),by omega,rfl,hlt,s2.trans (s26.trans s7),by rw[List.length_append];simp;omega,ρ4,zs++[y],ws',(en5.mono s6).mono s7,(Reps.mono (s26.trans s7) _ _ r2).append ⟨v,[],rfl,r7,rfl⟩,h7,?_⟩;rw[ey,←hw];simp
     ·left
      have he:i=ds.length:=by omega
      have hn:ds.drop i=[]:=by rw[he];simp
      rw[hn]at q2;have hw:[]=ws:=by simpa[qp]using q2
      subst hw;have ey':ys=zs:=by simpa using ey
      subst ey';exact⟨g2 (by omega),fun l hl=>k _ _ (s1.trans (s2.trans (jC hl))) ⟨l,us,rfl,jn,Reps.mono (jC hl) _ _ r2⟩⟩
   ·simp[ze,h1,hf]at q
noncomputable def Pur(K:Fg)(n:Nat)(g:LP->OP):Sp:=fun vs H Q _=>∃ds d,ds.length=n/\Reps K H ds vs/\g ds=some d/\∀v H',jp H H'->Rep K H' d v->Q v H'
noncomputable def jL(g:LP->OP)(fr:Rho->Option (LP)):RP:=fun ρ=>(fr ρ).bind g
theorem an5{k n:Nat}{f:Addr}{fd:FuncData}{ps:List Str}{g:LP->OP}{x:Str}{p:Pos}{fr:Rho->Option (LP)}(FO:FnOk X.prog X.w X.K X.mg X.base CX0 k f fd ps (Pur X.K n g))(hr:Room k X.A)(hm:X.mg x=some (.ref f))(hk:PySem.W.keepIn X.K (.ref f)=true)
  (hb:JS X.K fd ps []) (hn:(e::es).length=n) (ha:PAD X (e::es) fr) (hl:∀ρ ds,fr ρ=some ds->ds.length=(e::es).length) (hg:Gl X x:=by rfl) (hdb:(x==("__debug__":Str))=false:=by decide) (he:starEach (e::es) X.env=(false,eval e X.env)::starEach es X.env:=by rfl)
  (hpl:(backTo pos (starEach es X.env)).any (·.1)=false:=by rfl):PD X (.Call (.Name x p) (e::es) [] pos) (jL g fr):=by
 with_unfolding_all
  refine PE.imp (ai1 FO hr hg hm hk hb .nil ai7 ha hdb he hpl) fun σ H Q ⟨ρ,d,en,q,k⟩=>?_;cases h1:fr ρ with
  |none=>simp[jL,h1]at q
  | some ds=>
   refine⟨ρ,ds,en,h1,fun vs H1 s1 r1=>?_⟩;refine⟨ds,d,by rw[hl ρ ds h1,hn],by rw[List.append_nil];exact r1,by simpa[jL,h1]using q,fun v H' s r=>k v H' (s1.trans s) r⟩
noncomputable def Qn(X:Cx)(f:Value)(g:LP->OP):Prop:=∃r,zh X f r/\∀ds d xs H Q,g ds=some d->Reps X.K H ds xs->(∀v H',jp H H'->Rep X.K H' d v->Q v H')->r xs H Q
theorem jI{id:String}{g:LP->OP}{x:Str}{p:Pos}{fr:Rho->Option (LP)}(hc:Qn X (.builtin id) g)(hm:X.mg x=none)(hv:bootBuiltins x=some (.builtin id))(ha:PAD X (e::es) fr)(hg:Gl X x:=by rfl)(hn:x≠"__name__":=by decide)(hdb:(x==("__debug__":Str))=false:=by decide)
  (he:starEach (e::es) X.env=(false,eval e X.env)::starEach es X.env:=by rfl) (hpl:(backTo pos (starEach es X.env)).any (·.1)=false:=by rfl):PD X (.Call (.Name x p) (e::es) [] pos) (jL g fr):=by
 with_unfolding_all
  obtain⟨r,h1,h2⟩:=hc;refine PE.imp (aac h1 hg hm hv ha hn hdb he hpl) fun σ H Q ⟨ρ,d,en,q,k⟩=>?_;cases h3:fr ρ with
  |none=>simp[jL,h3]at q
  |some ds=>exact⟨ρ,ds,en,h3,fun vs H1 s1 r1=>h2 ds d vs H1 Q (by simpa[jL,h3]using q) r1 fun v H' s r=>k v H' (s1.trans s) r⟩
theorem aba{T:String}{g:LP->OP}{x:Str}{p:Pos}{fr:Rho->Option (LP)}(hc:Qn X (.type T) g)(hm:X.mg x=none)(hv:bootBuiltins x=some (.type T))(ha:PAD X (e::es) fr)(hg:Gl X x:=by rfl)(hn:x≠"__name__":=by decide)(hdb:(x==("__debug__":Str))=false:=by decide)
  (he:starEach (e::es) X.env=(false,eval e X.env)::starEach es X.env:=by rfl) (hpl:(backTo pos (starEach es X.env)).any (·.1)=false:=by rfl):PD X (.Call (.Name x p) (e::es) [] pos) (jL g fr):=by
 with_unfolding_all
  obtain⟨r,h1,h2⟩:=hc;refine PE.imp (aa5 h1 hg hm hv ha hn hdb he hpl) fun σ H Q ⟨ρ,d,en,q,k⟩=>?_;cases h3:fr ρ with
  |none=>simp[jL,h3]at q
  |some ds=>exact⟨ρ,ds,en,h3,fun vs H1 s1 r1=>h2 ds d vs H1 Q (by simpa[jL,h3]using q) r1 fun v H' s r=>k v H' (s1.trans s) r⟩
end
noncomputable def jM(N:List Str)(ds:LP):Rho:=ds.map some++List.replicate (N.length-ds.length) none
theorem Zm{K:Fg}{H:Hp}{N:List Str}{ds:LP}{vs:List V}(r:Reps K H ds vs):EnvR K H (jM N ds) (L2.JB N vs):=by
 have hl:=r.length;refine⟨by simp[jM,L2.JB,hl],fun i d q=>?_⟩;unfold jM at q;by_cases hi:i<ds.length
 ·rw[List.getElem?_append_left (by simpa using hi),List.getElem?_map]at q
  cases e:ds[i]? with
  |none=>rw[e]at q;cases q
  | some c=>
   rw[e]at q;cases q;obtain⟨x,e1,e2⟩:=r.get e;refine⟨x,?_,e2⟩;unfold L2.JB;rw[List.getElem?_append_left (by simp;omega),List.getElem?_map,e1];rfl
 ·rw[List.getElem?_append_right (by simpa using hi),List.getElem?_replicate]at q
  split at q<;>cases q
noncomputable def jE(N:List Str)(n:Nat)(B:RO)(ds:LP):OP:=if ds.length=n then match B (jM N ds)with
 |some (.rt d)=>some d
 |some (.nx _)=>some .none
 |_=>none else none
section
variable {P:Program}{w:World}{K:Fg}{mg:SV}{base:Heap}
theorem jJ{x qual:Str}{st:Stmt}{f:Addr}{fd:FuncData}{N ps:List Str}{k:Nat}{B:RO}(F:Fun K x qual st f fd)(S:FnScope N ps (jf st))
  (body:∀(Kc:Value) (A:Around) (Ko:List Env) (s:Shared) (H:Hp) (E:XK),Room k (A.deeper (envOfC qual (jf st) s.heap.objs.size f Kc))->
   abU (Jl CX0 P w K mg base N qual (jf st) f Kc A Ko s H E).nox (jQ st) B):FnOk P w K mg base CX0 (k+1) f fd ps (Pur K ps.length (jE N ps.length B)):=by
 with_unfolding_all
  refine F.ok S (fun vs H Q E h=>?_) (fun Kc A Ko s H vs Q E hr h=>?_)
  ·obtain⟨ds,d,h1,h2,_⟩:=h
   rw[h2.length];exact h1
  ·obtain⟨ds,d,h1,h2,h3,h4⟩:=h
   refine⟨_,body Kc A Ko s H E hr,?_⟩;unfold jE at h3;rw[if_pos h1]at h3;cases hB:B (jM N ds)with
   |none=>rw[hB]at h3;cases h3
   | some o=>
    refine⟨jM N ds,o,Zm h2,hB,?_⟩;rw[hB]at h3;cases o with
    |rt c=>cases h3;exact fun v H' s r=>h4 v H' s r
    |nx ρ=>cases h3;exact fun σ H' s r=>h4 .non H' s rfl
    |bk ρ=>cases h3
    |ct ρ=>cases h3
theorem arG{k n:Nat}{f:Addr}{fd:FuncData}{ps:List Str}{g g':LP->OP}(F:FnOk P w K mg base CX0 k f fd ps (Pur K n g))(h:∀ds d,ds.length=n->g' ds=some d->g ds=some d):FnOk P w K mg base CX0 k f fd ps (Pur K n g'):=
 F.imp fun vs H Q E ⟨ds,d,h1,h2,h3,h4⟩=>⟨ds,d,h1,h2,h ds d h1 h3,h4⟩
end
section
variable {X:Cx}
noncomputable def arH(K:Fg):R2:=fun x y H Q=>∃a b ys,x= .ref a/\y= .ref b/\SqT K H a []/\SqT K H b ys/\Q (.ref b) H
theorem an6:OpR X (binaryOp .Add) (arH X.K):=by
 intro Kp s σ H x y v u Q I rx ry h;obtain⟨a,b,ys,rfl,rfl,ha,hb,q⟩:=h;cases rx;cases ry;obtain⟨its,r1,p1,_⟩:=I.tuple ha;obtain⟨its2,r2,p2,_⟩:=I.tuple hb;cases r1;obtain⟨⟨c1,d1,t1,l1⟩,ho,hc,n,hd⟩:=id p1;obtain⟨⟨c2,d2,t2,l2⟩,ho2,hc2,n2,hd2⟩:=id p2;simp only at hc hd hc2 hd2;subst hc hd hc2 hd2
 exact concat_meets ⟨_,ho,rfl⟩ ⟨_,ho2,rfl⟩ noFill_tuple_add seq_tuple_add PySem.F.slot_tuple_add PySem.F.entry_tuple_add (PySem.F.args_tuple_add_2 _ _)
  (tuple_addW0 a b _ _ n n2 d1 d2 l1 l2 (by simp)) ⟨ho,ho2,⟨.ref b,H,I,rfl,q⟩⟩
noncomputable def qS:PyData->PyData->OP
 |.int i,.int j=>some (.int (i+j))
 |.list xs,.list ys=>if few (xs++ys)=true then some (.list (xs++ys)) else none
 |.tuple [],.tuple ys=>some (.tuple ys)
 |.tuple (x::xs),.tuple ys=>if few ((x::xs)++ys)=true then some (.tuple ((x::xs)++ys)) else none
 |_,_=>none
theorem jz:OpD X (binaryOp .Add) qS:=by
 refine⟨_,ap1.or (aqa.or (an6.or anP)),fun p q d x y H Q h rx ry k=>?_⟩;unfold qS at h;split at h
 ·cases h
  cases (show x=_ from rx);cases (show y=_ from ry);exact .inl ⟨_,_,rfl,rfl,k _ H (jp.refl H) rfl⟩
 ·rename_i xs ys
  split at h
  ·rename_i hf
   cases h;obtain⟨a,us,e1,e2,e3⟩:=rx;obtain⟨b,ws,e4,e5,e6⟩:=ry
   have hl:us.length+ws.length<1000000:=by
    rw[e3.length,e6.length];simp[few]at hf
    try simp only[List.length_cons]
    omega
   exact .inr (.inl ⟨a,b,us,ws,e1,e4,e2,e5,aa8 hl,fun p hp=>k _ _ (jC hp) ⟨p,_,rfl,jn,Reps.mono (jC hp) _ _ (e3.append e6)⟩⟩)
  ·cases h
 ·rename_i ys
  cases h;obtain⟨a,us,e1,e2,e3⟩:=rx;cases (show us=[] from e3);obtain⟨b,ws,e4,e5,e6⟩:=ry;exact .inr (.inr (.inl ⟨a,b,ws,e1,e4,e2,e5,k _ H (jp.refl H) ⟨b,ws,rfl,e5,e6⟩⟩))
 ·rename_i z xs ys
  split at h
  ·rename_i hf
   cases h;obtain⟨a,us,e1,e2,e3⟩:=rx;obtain⟨b,ws,e4,e5,e6⟩:=ry
   have hl:us.length+ws.length<1000000:=by
    rw[e3.length,e6.length];simp[few]at hf
    try simp only[List.length_cons]
    omega
   refine .inr (.inr (.inr ⟨a,b,us,ws,e1,e4,e2,e5,fun z=>?_,aa8 hl,fun z=>?_,fun _ p hp=>?_⟩))
   ·have:=e3.length;rw[z]at this;simp at this
   ·subst z
    have:=e6.length;have hy:ys=[]:=List.length_eq_zero_iff.mp (by simpa using this.symm);subst hy;exact k _ H (jp.refl H) ⟨a,us,rfl,e2,by simpa using e3⟩
   ·exact k _ _ (jC hp) ⟨p,_,rfl,SqT.of jn,Reps.mono (jC hp) _ _ (e3.append e6)⟩
  ·cases h
 ·cases h
noncomputable def ahJ:PyData->PyData->OP
 |.int i,.int j=>some (.int (i-j))
 |_,_=>none
theorem QH:OpD X (binaryOp .Sub) ahJ:=by
 refine⟨_,ap2,fun p q d x y H Q h rx ry k=>?_⟩;unfold ahJ at h;split at h
 ·cases h;cases (show x=_ from rx);cases (show y=_ from ry);exact⟨_,_,rfl,rfl,k _ H (jp.refl H) rfl⟩
 ·cases h
theorem Reps.rep{K:Fg}{H:Hp}{ds:LP}{xs:List V}(h:Reps K H ds xs):∀(n:Nat),Reps K H (List.replicate n ds).flatten (List.replicate n xs).flatten
 |0=>rfl
 |n+1=>by rw[List.replicate_succ,List.replicate_succ,List.flatten_cons,List.flatten_cons];exact h.append (Reps.rep h n)
noncomputable def Qo:PyData->PyData->OP
 |.int i,.int j=>if (-(2 ^ 64)<i/\i<2 ^ 64)∨(-(2 ^ 64)<j/\j<2 ^ 64) then some (.int (i*j)) else none
 |.list xs,.int k=>if k<1000/\xs.length<1000/\-1000<k then some (.list (List.replicate k.toNat xs).flatten) else none
 |_,_=>none
theorem qQ:OpD X (binaryOp .Mult) Qo:=by
 refine⟨_,ap3.or aqb,fun p q d x y H Q h rx ry k=>?_⟩;unfold Qo at h;split at h
 ·split at h
  ·rename_i hc
   cases h;cases (show x=_ from rx);cases (show y=_ from ry);exact .inl ⟨_,_,rfl,rfl,hc,k _ H (jp.refl H) rfl⟩
  ·cases h
 ·rename_i xs n
  split at h
  ·rename_i hc
   cases h;obtain⟨a,us,e1,e2,e3⟩:=rx;cases (show y=_ from ry);have hl:=e3.length
   have hs:us.length*n.toNat<=sizeLine:=by
    rw[sizeLine_eq];have h1:us.length<=1000:=by omega
    have h2:n.toNat<=1000:=by omega
    exact Nat.le_trans (Nat.mul_le_mul h1 h2) (by decide)
   exact .inr ⟨a,n,us,e1,rfl,e2,by omega,by omega,hs,fun p hp=>k _ _ (jC hp) ⟨p,_,rfl,jn,Reps.mono (jC hp) _ _ (Reps.rep e3 n.toNat)⟩⟩
  ·cases h
 ·cases h
noncomputable def acK:PyData->PyData->OP
 |.int i,.int j=>if 0<j/\j<1073741824 then some (.int (i / j)) else none
 |_,_=>none
theorem Qp:OpD X (binaryOp .FloorDiv) acK:=by
 refine⟨_,anI,fun p q d x y H Q h rx ry k=>?_⟩;unfold acK at h;split at h
 ·split at h
  ·rename_i hc
   cases h;cases (show x=_ from rx);cases (show y=_ from ry);exact⟨_,_,rfl,rfl,hc,k _ H (jp.refl H) rfl⟩
  ·cases h
 ·cases h
noncomputable def ahK:PyData->PyData->OP
 |.int i,.int j=>if 0<j then some (.int (i % j)) else none
 |_,_=>none
theorem JV:OpD X (binaryOp .Mod) ahK:=by
 refine⟨_,ap4,fun p q d x y H Q h rx ry k=>?_⟩;unfold ahK at h;split at h
 ·split at h
  ·rename_i hc
   cases h;cases (show x=_ from rx);cases (show y=_ from ry);exact⟨_,_,rfl,rfl,hc,k _ H (jp.refl H) rfl⟩
  ·cases h
 ·cases h
noncomputable def okD(d:PyData):Bool:=d.canLay0&&decide (d.depth<30)
noncomputable def arI(K:Fg)(neg:Bool):R2:=fun x y H Q=>∃p q,Rep K H p x/\Rep K H q y/\okD p=true/\okD q=true/\Q (.bl (if neg then !PyData.eqv p q else PyData.eqv p q)) H
theorem qm{d:PyData}(h:okD d=true):d.canLay0=true:=by simp[okD]at h;exact h.1
theorem abZ{d:PyData}(h:okD d=true):d.depth<30:=by simp[okD]at h;exact h.2
theorem aqh(hu:X.A.units+64<cLine):OpR X (compareOp .Eq) (arI X.K false):=by
 intro Kp s σ H x y v u Q I rx ry ⟨p,q,h1,h2,h3,h4,k⟩;obtain⟨as,ra⟩:=qI I p x v h1 rx (qm h3);obtain⟨bs,rb⟩:=qI I q y u h2 ry (qm h4);have d1:=abZ h3;exact SeqAt.compareEq_reads ra rb (qm h3) (qm h4) (by omega) ⟨.bl _,H,I,rfl,k⟩
theorem aqi(hu:X.A.units+64<cLine):OpR X (compareOp .NotEq) (arI X.K true):=by
 intro Kp s σ H x y v u Q I rx ry ⟨p,q,h1,h2,h3,h4,k⟩;obtain⟨as,ra⟩:=qI I p x v h1 rx (qm h3);obtain⟨bs,rb⟩:=qI I q y u h2 ry (qm h4);have d1:=abZ h3;exact SeqAt.compareNe_reads ra rb (qm h3) (qm h4) (by omega) ⟨.bl _,H,I,rfl,k⟩
noncomputable def arJ(K:Fg):R2:=fun x y H Q=>∃a b ns,x= .ref a/\y= .ref b/\SqL K H a (List.map V.int ns)/\H b=some (.lst [])/\Q (.bl ns.isEmpty) H
theorem ZN(h:Heap):∀(ns:List Int) (us:List Value),jG (List.map V.int ns) us->∃as,ReadsAll h us (ns.map PyData.int) as
 | [],us,r=>by cases r;exact⟨_,.nil⟩
 | n::ns,us,r=>by
  cases r with
  | cons r1 r2=>
   obtain⟨t,rfl⟩:=r1;obtain⟨as,ra⟩:=ZN h ns _ r2;exact⟨_,.cons (.int n t) ra⟩
theorem agq:∀ns:List Int,PyData.canLayAll0 (ns.map PyData.int)=true
 | []=>rfl
 |n::ns=>by simp[PyData.canLayAll0,PyData.canLay0,agq ns]
theorem an7(hu:X.A.units+64<cLine):OpR X (compareOp .Eq) (arJ X.K):=by
 intro Kp s σ H x y v u Q I rx ry ⟨a,b,ns,e1,e2,h1,h2,k⟩;subst e1;subst e2;cases rx;cases ry;obtain⟨its,rv,⟨o,n,g1,g2,g3,g4⟩,_⟩:=I.list h1;obtain⟨as,ra⟩:=ZN s.heap ns its rv;obtain⟨bs,rb⟩:=qI I (.list []) (.ref b) (.ref b) ⟨b,[],rfl,h2,rfl⟩ rfl rfl;have ra':Reads s.heap (.ref a) (.list (ns.map PyData.int)) (a::as):= .list g1 g2 g4 (by simpa using ra);refine SeqAt.compareEq_reads ra' rb (by simpa[PyData.canLay0]using agq ns) rfl ?_ ⟨.bl _,H,I,rfl,?_⟩
 ·have:(PyData.list []).depth=1:=rfl
  rw[this];omega
 ·have:PyData.eqv (.list (ns.map PyData.int)) (.list [])=ns.isEmpty:=by cases ns<;>simp[PyData.eqv,PyData.eqvAll]
  rw[this];exact k
noncomputable def dEq:PyData->PyData->OP
 |.dict kvs,.list []=>if zK kvs=true then some (.bool kvs.isEmpty) else none
 |p,q=>if okD p=true/\okD q=true then some (.bool (PyData.eqv p q)) else none
theorem Q7(hu:X.A.units+64<cLine):OpD X (compareOp .Eq) dEq:=by
 refine⟨_,(an7 hu).or (aqh hu),fun p q d x y H Q h rx ry k=>?_⟩;unfold dEq at h;split at h
 ·split at h
  ·rename_i hs
   cases h;obtain⟨a,ns,e1,e2,e3⟩:=rx.scrOut hs;obtain⟨b,ws,e4,e5,e6⟩:=ry;cases (show ws=[] from e6);refine .inl ⟨a,b,ns,e1,e4,e2,e5,?_⟩;have:ns.isEmpty=(ns.map fun n=>(PyData.int n,PyData.none)).isEmpty:=by simp
   subst e3;rw[this];exact k _ H (jp.refl H) rfl
  ·cases h
 ·split at h
  ·rename_i hc
   cases h;exact .inr ⟨p,q,rx,ry,hc.1,hc.2,k _ H (jp.refl H) rfl⟩
  ·cases h
noncomputable def dNe:PyData->PyData->OP:=fun p q=>if okD p=true/\okD q=true then some (.bool (!PyData.eqv p q)) else none
theorem zq(hu:X.A.units+64<cLine):OpD X (compareOp .NotEq) dNe:=by
 refine⟨_,aqi hu,fun p q d x y H Q h rx ry k=>?_⟩;unfold dNe at h;split at h
 ·rename_i hc
  cases h;exact⟨p,q,rx,ry,hc.1,hc.2,k _ H (jp.refl H) rfl⟩
 ·cases h
noncomputable def aqj(K:Fg)(neg:Bool):R2:=fun x y H Q=>∃p ds,Rep K H p x/\(Rep K H (.list ds) y∨Rep K H (.tuple ds) y)/\okD p=true/\okD (.list ds)=true/\Q (.bl (if neg then !(ds.any fun z=>PyData.eqv z p) else ds.any fun z=>PyData.eqv z p)) H
theorem aqk(hu:X.A.units+64<cLine):OpR X (compareOp .In) (aqj X.K false):=by
 intro Kp s σ H x y v u Q I rx ry ⟨p,ds,h1,h2,h3,h4,k⟩;obtain⟨as,ra⟩:=qI I p x v h1 rx (qm h3);have d1:=abZ h3;have hc:PyData.canLayAll0 ds=true:=by simpa[PyData.canLay0]using qm h4
 rcases h2 with h2 | h2
 ·obtain⟨bs,rb⟩:=qI I (.list ds) y u h2 ry (qm h4)
  exact SeqAt.in_list_reads rb ra hc (qm h3) (by omega) ⟨.bl _,H,I,rfl,k⟩
 ·obtain⟨bs,rb⟩:=qI I (.tuple ds) y u h2 ry (by simpa[PyData.canLay0]using hc)
  exact SeqAt.in_tuple_reads rb ra hc (qm h3) (by omega) ⟨.bl _,H,I,rfl,k⟩
theorem akd(hu:X.A.units+64<cLine):OpR X (compareOp .NotIn) (aqj X.K true):=by
 intro Kp s σ H x y v u Q I rx ry ⟨p,ds,h1,h2,h3,h4,k⟩;obtain⟨as,ra⟩:=qI I p x v h1 rx (qm h3);have d1:=abZ h3;have hc:PyData.canLayAll0 ds=true:=by simpa[PyData.canLay0]using qm h4
 rcases h2 with h2 | h2
 ·obtain⟨bs,rb⟩:=qI I (.list ds) y u h2 ry (qm h4)
  exact SeqAt.notIn_list_reads rb ra hc (qm h3) (by omega) ⟨.bl _,H,I,rfl,k⟩
 ·obtain⟨bs,rb⟩:=qI I (.tuple ds) y u h2 ry (by simpa[PyData.canLay0]using hc)
  exact SeqAt.notIn_tuple_reads rb ra hc (qm h3) (by omega) ⟨.bl _,H,I,rfl,k⟩
noncomputable def dIn(neg:Bool):PyData->PyData->OP:=fun p q=>match q with
 |.list ds=>if okD p=true/\okD (.list ds)=true then some (.bool (if neg then !(ds.any fun z=>PyData.eqv z p) else ds.any fun z=>PyData.eqv z p)) else none
 |.tuple ds=>if okD p=true/\okD (.list ds)=true then some (.bool (if neg then !(ds.any fun z=>PyData.eqv z p) else ds.any fun z=>PyData.eqv z p)) else none
 |_=>none
theorem apr{neg:Bool}{p q d:PyData}{x y:V}{H:Hp}{Q:VK}{K:Fg}(h:dIn neg p q=some d)(rx:Rep K H p x)(ry:Rep K H q y)(k:∀v H',jp H H'->Rep K H' d v->Q v H'):aqj K neg x y H Q:=by
 unfold dIn at h;split at h
 ·split at h
  ·rename_i ds hc
   cases h;exact⟨p,ds,rx,.inl ry,hc.1,hc.2,k _ H (jp.refl H) rfl⟩
  ·cases h
 ·split at h
  ·rename_i ds hc
   cases h;exact⟨p,ds,rx,.inr ry,hc.1,hc.2,k _ H (jp.refl H) rfl⟩
  ·cases h
 ·cases h
theorem aql(hu:X.A.units+64<cLine):OpD X (compareOp .In) (dIn false):=⟨_,aqk hu,fun p q d x y H Q h rx ry k=>apr h rx ry k⟩
theorem abb(hu:X.A.units+64<cLine):OpD X (compareOp .NotIn) (dIn true):=⟨_,akd hu,fun p q d x y H Q h rx ry k=>apr h rx ry k⟩
noncomputable def zJ(f:Int->Int->Bool):PyData->PyData->OP
 |.int i,.int j=>some (.bool (f i j))
 |_,_=>none
theorem aeT{f:Int->Int->Bool}{p q d:PyData}{x y:V}{H:Hp}{Q:VK}{K:Fg}(h:zJ f p q=some d)(rx:Rep K H p x)(ry:Rep K H q y)(k:∀v H',jp H H'->Rep K H' d v->Q v H'):rI0 (fun i j=> .bl (f i j)) x y H Q:=by
 unfold zJ at h;split at h
 ·cases h;cases (show x=_ from rx);cases (show y=_ from ry);exact⟨_,_,rfl,rfl,k _ H (jp.refl H) rfl⟩
 ·cases h
theorem ahL:OpD X (compareOp .Lt) (zJ fun i j=>decide (i<j)):=⟨_,aro,fun p q d x y H Q h rx ry k=>aeT h rx ry k⟩
theorem QI:OpD X (compareOp .LtE) (zJ fun i j=>decide (i<=j)):=⟨_,arp,fun p q d x y H Q h rx ry k=>aeT h rx ry k⟩
theorem ahM:OpD X (compareOp .Gt) (zJ fun i j=>decide (j<i)):=⟨_,arq,fun p q d x y H Q h rx ry k=>aeT h rx ry k⟩
theorem alF:OpD X (compareOp .GtE) (zJ fun i j=>decide (j<=i)):=⟨_,arr,fun p q d x y H Q h rx ry k=>aeT h rx ry k⟩
noncomputable def chn(g g':PyData->PyData->OP)(fa fb fc:RP):RP:=fun ρ=>(fa ρ).bind fun x=>(fb ρ).bind fun y=>(g x y).bind fun z=>(asB z).bind fun t=>if t=true then (fc ρ).bind fun w=>g' y w else some (.bool false)
variable {a b c e:Expr}{fa fb fc:RP}{pos:Pos}
theorem aps{g g':PyData->PyData->OP}{K:Fg}{r r':R2}(hr:∀p q d x y H Q,g p q=some d->Rep K H p x->Rep K H q y->(∀v H',jp H H'->Rep K H' d v->Q v H')->r x y H Q)
  (hr':∀p q d x y H Q,g' p q=some d->Rep K H p x->Rep K H q y->(∀v H',jp H H'->Rep K H' d v->Q v H')->r' x y H Q) {σ:St} {H:Hp} {Q:VK} (h:tD K (chn g g' fa fb fc) σ H Q):ahu r r' (tD K fa) (tD K fb) (tD K fc) σ H Q:=by
 obtain⟨ρ,d,en,h,k⟩:=h;unfold chn at h;cases ha:fa ρ with
 |none=>rw[ha]at h;cases h
 | some p=>
  cases hb:fb ρ with
  |none=>rw[ha,hb]at h;cases h
  | some q=>
   rw[ha,hb]at h;cases hg:g p q with
   |none=>simp[hg]at h
   | some z=>
    cases ht:asB z with
    |none=>simp[hg,ht]at h
    | some t=>
     have hz:=JC ht;subst hz;refine⟨ρ,p,en,ha,fun x H1 s1 r1=>⟨ρ,q,en.mono s1,hb,fun y H2 s2 r2=>?_⟩⟩;refine hr p q _ x y H2 _ hg (Rep.mono s2 p x r1) r2 fun v H3 s3 r3=>⟨t,r3,?_⟩;have s13:=s1.trans (s2.trans s3);cases t with
     | false=>
      rw[if_neg Bool.false_ne_true];have hd:PyData.bool false=d:=by simpa[hg,asB]using h
      subst hd;exact k _ H3 s13 rfl
     | true=>
      rw[if_pos rfl];cases hc:fc ρ with
      |none=>simp[hg,asB,hc]at h
      | some w=>
       refine⟨ρ,w,en.mono s13,hc,fun z H4 s4 r4=>?_⟩;exact hr' q w d y z H4 Q (by simpa[hg,asB,hc]using h) (Rep.mono (s3.trans s4) q y r2) r4 fun v H5 s5 r5=>k v H5 (s13.trans (s4.trans s5)) r5
theorem agr{op op':CmpOp}{g g':PyData->PyData->OP}(ho:OpD X (compareOp op) g)(ho':OpD X (compareOp op') g')(ha:PD X a fa)(hb:PD X b fb)(hc:PD X c fc)
  (hm:lastMarks [op,op'] [b,c]=false:=by with_unfolding_all rfl):PD X (.Compare a [op,op'] [b,c] pos) (chn g g' fa fb fc):=by
 with_unfolding_all
  obtain⟨r,h1,h2⟩:=ho;obtain⟨r',h3,h4⟩:=ho';exact PE.imp (aln h1 h3 ha hb hc hm) fun σ H Q h=>aps h2 h4 h
theorem Zn{op op':CmpOp}{g g':PyData->PyData->OP}(ho:OpD X (compareOp op) g)(ho':OpD X (compareOp op') g')(ha:PD X a fa)(hb:PD X b fb)(hc:PD X c fc)
  (hm:lastMarks [op,op'] [b,c]=false:=by with_unfolding_all rfl):PTD X (.Compare a [op,op'] [b,c] pos) (tst (chn g g' fa fb fc)):=by
 with_unfolding_all
  obtain⟨r,h1,h2⟩:=ho;obtain⟨r',h3,h4⟩:=ho';refine PT.imp (alo h1 h3 ha hb hc hm) fun σ H Q ⟨ρ,t,en,h,k⟩=>?_;cases hd:chn g g' fa fb fc ρ with
  |none=>simp[tst,hd]at h
  | some d=>
   have ht:d= .bool t:=JC (by simpa[tst,hd]using h);subst ht;exact aps h2 h4 ⟨ρ,_,en,hd,fun v H' s r=>⟨t,r,k H' s⟩⟩
noncomputable def dIx:PyData->PyData->OP
 |.list ds,.int i=>if ds.length<1000000 then atI ds i else none
 |.tuple ds,.int i=>if ds.length<1000000 then atI ds i else none
 |.dict kvs,.int i=>if kvs.length<1000000/\zK kvs=true then (atI kvs i).map (·.1) else none
 |_,_=>none
theorem aje{K:Fg}{H:Hp}{ds:LP}{xs:List V}{i:Int}{d:PyData}(r:Reps K H ds xs)(h:atI ds i=some d):∃x,atI xs i=some x/\Rep K H d x:=by
 have hl:=r.length;unfold atI at h ⊢;rw[hl];cases e:ixN ds.length i with
 |none=>rw[e]at h;cases h
 | some j=>
  rw[e]at h;obtain⟨x,e1,e2⟩:=r.get (show ds[j]?=some d from h);exact⟨x,e1,e2⟩
noncomputable def IxD(X:Cx)(g:PyData->PyData->OP):Prop:=∃r,IxR X r/\∀p q d x y H Q,g p q=some d->Rep X.K H p x->Rep X.K H q y->(∀v H',jp H H'->Rep X.K H' d v->Q v H')->r x y H Q
theorem ixd:IxD X dIx:=by
 refine⟨_,anQ.or ap8,fun p q d x y H Q h rx ry k=>?_⟩;unfold dIx at h;split at h
 ·split at h
  ·obtain⟨a,us,e1,e2,e3⟩:=rx
   cases (show y=_ from ry);obtain⟨z,g1,g2⟩:=aje e3 h;exact .inl ⟨a,us,_,z,e1,rfl,SqL.of e2,g1,k z H (jp.refl H) g2⟩
  ·cases h
 ·split at h
  ·obtain⟨a,us,e1,e2,e3⟩:=rx
   cases (show y=_ from ry);obtain⟨z,g1,g2⟩:=aje e3 h;exact .inr ⟨a,us,_,z,e1,rfl,e2,g1,k z H (jp.refl H) g2⟩
  ·cases h
 ·split at h
  ·rename_i hs
   obtain⟨a,ns,e1,e2,e3⟩:=rx.scrOut hs.2;cases (show y=_ from ry);subst e3;rename_i i;unfold atI at h;rw[List.length_map]at h;cases e:ixN ns.length i with
   |none=>rw[e]at h;cases h
   | some j=>
    rw[e]at h;have h':((ns.map fun n=>(PyData.int n,PyData.none))[j]?).map (·.1)=some d:=h;rw[List.getElem?_map]at h';cases e4:ns[j]? with
    |none=>rw[e4]at h';cases h'
    | some n=>
     rw[e4]at h';cases h';refine .inl ⟨a,List.map V.int ns,i,.int n,e1,rfl,e2,?_,k _ H (jp.refl H) rfl⟩;unfold atI;rw[List.length_map,e];show(List.map V.int ns)[j]?=_;rw[List.getElem?_map,e4];rfl
  ·cases h
 ·cases h
theorem jN(ha:PD X a fa)(hb:PD X b fb)(hs:aeL b:=by intro _ _;rfl):PD X (.Subscript a b pos) (op2 dIx fa fb):=by
 with_unfolding_all
  obtain⟨r,h1,h2⟩:=ixd (X:=X);exact PE.imp (apm h1 ha hb hs) fun σ H Q h=>alE h2 h
noncomputable def JE(ds:LP):OP:=match ds with
 | [.list xs]=>some (.int xs.length)
 | [.tuple xs]=>some (.int xs.length)
 | [.dict xs]=>if zK xs=true then some (.int xs.length) else none
 |_=>none
theorem qT:Qn X (.builtin "len") JE:=by
 refine⟨_,aeM,fun ds d xs H Q h r k=>?_⟩;unfold JE at h;split at h
 ·cases h
  obtain⟨x,q,e1,e2,e3⟩:=r;cases (show q=[] from e3);obtain⟨a,us,g1,g2,g3⟩:=e2;subst g1;exact⟨a,us,e1,.inl (SqL.of g2),k _ H (jp.refl H) (by show _=_;rw[g3.length])⟩
 ·cases h
  obtain⟨x,q,e1,e2,e3⟩:=r;cases (show q=[] from e3);obtain⟨a,us,g1,g2,g3⟩:=e2;subst g1;exact⟨a,us,e1,.inr g2,k _ H (jp.refl H) (by show _=_;rw[g3.length])⟩
 ·split at h
  ·rename_i hs
   cases h;obtain⟨x,q,e1,e2,e3⟩:=r;cases (show q=[] from e3);obtain⟨a,ns,g1,g2,g3⟩:=e2.scrOut hs;subst g1;subst g3;exact⟨a,_,e1,.inl g2,k _ H (jp.refl H) (by show _=_;simp)⟩
  ·cases h
 ·cases h
noncomputable def alG(ds:LP):OP:=match ds with
 | [.int i,.int j]=>some (.int (if j>i then j else i))
 |_=>none
noncomputable def ajf(ds:LP):OP:=match ds with
 | [.int i,.int j]=>some (.int (if j<i then j else i))
 |_=>none
theorem an8(hc:X.calm=true):Qn X (.builtin "max") alG:=by
 refine⟨_,aj1 hc,fun ds d xs H Q h r k=>?_⟩;unfold alG at h;split at h
 ·cases h
  obtain⟨x,q,e1,e2,y,q',e3,e4,e5⟩:=r;cases (show x=_ from e2);cases (show y=_ from e4);cases (show q'=[] from e5);subst e3;exact⟨_,_,e1,k _ H (jp.refl H) rfl⟩
 ·cases h
theorem ajg(hc:X.calm=true):Qn X (.builtin "min") ajf:=by
 refine⟨_,aj2 hc,fun ds d xs H Q h r k=>?_⟩;unfold ajf at h;split at h
 ·cases h
  obtain⟨x,q,e1,e2,y,q',e3,e4,e5⟩:=r;cases (show x=_ from e2);cases (show y=_ from e4);cases (show q'=[] from e5);subst e3;exact⟨_,_,e1,k _ H (jp.refl H) rfl⟩
 ·cases h
end
section
variable {X:Cx}{Kp:List (Addr×Obj)}{σ:St}{H:Hp}{s:Shared}
theorem ad4{prog:Program}{w:World}{A:Around}{E:Value->SP0}{l:Addr}{its:Array Value}{Q:Value->SP0}(hl:s.heap.IsList l its)
  (h:∀(h2:Heap) (it:Addr),(h2.IsListIter it l 0/\h2.IsList l its)->(∀b∈[it,l],b<h2.objs.size)->l≠it->(∀b o,s.heap.get? b=some o->h2.get? b=some o)->s.heap.get? it=none->Q (.ref it) { s with heap:=h2 }):
  wpAny (model prog w) A (pyIter (.ref l)) Q E s:=by
 have hlt:l<s.heap.objs.size:=by
  obtain⟨_,e,_⟩:=hl;exact Heap.lt_size e
 refine wpAny_pyIter_list hl (h _ _ ⟨⟨_,Heap.get?_push_size _ rfl,rfl,rfl⟩,hl.push _⟩ (fun b hb=>?_) (Nat.ne_of_lt hlt) (fun b o e=>Heap.get?_push_of_some _ e) (Heap.get?_none_of_le (Nat.le_refl _)));rw[Heap.size_push];rcases List.mem_cons.mp hb with e | hb
 ·rw[e];exact Nat.lt_succ_self _
 ·have e:b=l:=by simpa using hb
  rw[e];exact Nat.lt_succ_of_lt hlt
theorem ake{prog:Program}{w:World}{A:Around}{E:Value->SP0}{l:Addr}{its:Array Value}{Q:Value->SP0}(hl:s.heap.IsTuple l its)
  (h:∀(h2:Heap) (it:Addr),(h2.IsTupleIter it l 0/\h2.IsTuple l its)->(∀b∈[it,l],b<h2.objs.size)->l≠it->(∀b o,s.heap.get? b=some o->h2.get? b=some o)->s.heap.get? it=none->Q (.ref it) { s with heap:=h2 }):
  wpAny (model prog w) A (pyIter (.ref l)) Q E s:=by
 have hlt:l<s.heap.objs.size:=by
  obtain⟨_,e,_⟩:=hl;exact Heap.lt_size e
 have hl2:∀o,(s.heap.push o).IsTuple l its:=fun o=>by
  obtain⟨ob,e,r⟩:=hl;exact⟨ob,Heap.get?_push_of_some _ e,r⟩
 refine wpAny_pyIter_tuple hl (h _ _ ⟨⟨_,Heap.get?_push_size _ rfl,rfl,rfl⟩,hl2 _⟩ (fun b hb=>?_) (Nat.ne_of_lt hlt) (fun b o e=>Heap.get?_push_of_some _ e) (Heap.get?_none_of_le (Nat.le_refl _)));rw[Heap.size_push];rcases List.mem_cons.mp hb with e | hb
 ·rw[e];exact Nat.lt_succ_self _
 ·have e:b=l:=by simpa using hb
  rw[e];exact Nat.lt_succ_of_lt hlt
theorem aeU{h h2 h3 : Heap}{it : Addr}(k1 : ∀b o, h.get? b = some o -> h2.get? b = some o)(hn : h.get? it = none)(k2 : ∀b o, b∉[it] -> h2.get? b = some o -> h3.get? b = some o) : ∀b o, h.get? b = some o -> h3.get? b = some o := fun b o e =>
  k2 b o (fun z => by have e1 : b = it := by simpa using z
                      rw [e1, hn] at e; cases e) (k1 b o e)
theorem ajh:∀{bs:List Bool}{us:List Value},jG (bs.map V.bl) us->us=bs.map Value.bool
 | [],us,r=>by cases r;rfl
 | b::bs,us,r=>by
  cases r with
  |cons r1 r2=>cases (show _=_ from r1);rw[ajh r2];rfl
theorem akf(bs:List Bool):(List.range bs.length).all (fun i=>bs.getD i false)=bs.all id:=by
 have:bs=(List.range bs.length).map (fun i=>bs.getD i false):=by
  apply List.ext_getElem?;intro i;rw[List.getElem?_map];by_cases h:i<bs.length
  ·rw[List.getElem?_range h];simp[List.getD,h]
  ·simp[h]
 conv=>rhs;rw[this]
 rw[List.all_map];rfl
noncomputable def asL(K:Fg):List V->Hp->VK->Prop:=fun xs H Q=>∃a bs,xs=[.ref a]/\SqL K H a (List.map V.bl bs)/\Q (.bl (bs.all id)) H
theorem akg(hc:X.calm=true):zh X (.builtin "all") (asL X.K):=by
 intro Kp s σ H xs us Q I r ⟨a,bs,e,hq,q⟩;subst e;obtain⟨u,rfl,rx⟩:=QV r;cases rx;obtain⟨its,rv,pl,hz⟩:=I.list hq;have ei:=ajh rv;have hh:=I.ok.hd hc;refine call_all_walk (ad4 pl.isList fun h2 it st hlt hne k1 hn=>?_);refine⟨it,[it,a],[it],its.toArray.size,(fun i v=>its.toArray[i]?=some v),_,fun i=>bs.getD i false,rfl,Walks.list (A:=X.A.in1) hh it a hne its.toArray,st,?_,fun h3 tk k2=>?_⟩
 ·intro i v s' Q' E' hP hq'
  have:v= .bool (bs.getD i false):=by
   have hP':its[i]?=some v:=by simpa using hP
   rw[ei,List.getElem?_map]at hP';cases hb:bs[i]? with
   |none=>rw[hb]at hP';cases hP'
   |some b=>rw[hb]at hP';cases hP';simp[List.getD,hb]
  subst this;exact wpAny_truthy_bool hq'
 ·have I3:=I.kept (t':=tk) (aeU k1 hn k2)
  have hl:its.toArray.size=bs.length:=by rw[ei];simp
  refine⟨.bl (bs.all id),H,I3,?_,q⟩;show _=_;rw[hl,akf]
noncomputable def bls:LP->Option (List Bool)
 | []=>some []
 |d::r=>(asB d).bind fun b=>(bls r).map fun q=>b::q
theorem Reps.bls{K:Fg}{H:Hp}:∀{ds:LP}{bs:List Bool}{xs:List V},BX.bls ds=some bs->Reps K H ds xs->xs=bs.map V.bl
 | [],bs,xs,h,r=>by simp[BX.bls]at h;subst h;exact r
 | d::ds,bs,xs,h,⟨x,q,e1,e2,e3⟩=>by
  subst e1;cases h1:asB d with
  |none=>simp[BX.bls,h1]at h
  | some b=>
   cases h2:BX.bls ds with
   |none=>simp[BX.bls,h1,h2]at h
   | some r=>
    have:b::r=bs:=by simpa[BX.bls,h1,h2]using h
    subst this;have hd:=JC h1;subst hd;cases (show x=_ from e2);rw[Reps.bls h2 e3];rfl
noncomputable def alH(ds:LP):OP:=match ds with
 | [.list xs]=>(bls xs).map fun bs=> .bool (bs.all id)
 |_=>none
theorem ahN(hc:X.calm=true):Qn X (.builtin "all") alH:=by
 refine⟨_,akg hc,fun ds d xs H Q h r k=>?_⟩;unfold alH at h;split at h
 ·rename_i ys
  cases hb:bls ys with
  |none=>simp[hb]at h
  | some bs=>
   have:PyData.bool (bs.all id)=d:=by simpa[hb]using h
   subst this;obtain⟨x,q,e1,e2,e3⟩:=r;cases (show q=[] from e3);obtain⟨a,us,g1,g2,g3⟩:=e2;subst g1;have:=Reps.bls hb g3;subst this;exact⟨a,bs,e1,SqL.of g2,k _ H (jp.refl H) rfl⟩
 ·cases h
noncomputable def QZ:PyData->Option Int
 |.int i=>some i
 |_=>none
noncomputable def JF:LP->Option (List Int)
 | []=>some []
 |d::r=>(QZ d).bind fun b=>(JF r).map fun q=>b::q
theorem Zo:∀{ds:LP}{ns:List Int},JF ds=some ns->ds=ns.map PyData.int
 | [],ns,h=>by simp[JF]at h;subst h;rfl
 | d::ds,ns,h=>by
  cases d with
  | int i=>
   cases h2:JF ds with
   |none=>simp[JF,QZ,h2]at h
   | some r=>
    have:i::r=ns:=by simpa[JF,QZ,h2]using h
    subst this;rw[Zo h2];rfl
  |_=>simp[JF,QZ]at h
theorem abI{ns:List Int}{us:List Value}{i:Nat}{v:Value}(r:jG (ns.map V.int) us)(h:us.toArray[i]?=some v):∃t,v= .int (ns.getD i 0) t:=by
 have h':us[i]?=some v:=by simpa using h
 have hi:i<us.length:=(List.getElem?_eq_some_iff.mp h').1;have hl:=r.length;rw[List.length_map]at hl
 obtain⟨u,e1,e2⟩:=r.get (show(ns.map V.int)[i]?=some (V.int (ns.getD i 0)) by
  rw [List.getElem?_map];have:i<ns.length:=by omega
  simp [List.getD,this])
 rw[h']at e1;cases e1;exact e2
theorem abJ(ns:List Int):preSum (fun i=>ns.getD i 0) ns.length=ns.sum:=by
 have go:∀k,k<=ns.length->preSum (fun i=>ns.getD i 0) k=(ns.take k).sum:=by
  intro k
  induction k with
  |zero=>intro _;simp[preSum]
  | succ k ih=>
   intro hk;have hlt:k<ns.length:=by omega
   have h1:ns.take (k+1)=ns.take k++[ns[k]]:=by rw[List.take_succ];simp[hlt]
   rw[h1];simp only[preSum,ih (by omega),List.sum_append,List.sum_cons,List.sum_nil,Int.add_zero];simp[List.getD,hlt]
 have:=go ns.length (Nat.le_refl _);simpa using this
noncomputable def asM(K:Fg):List V->Hp->VK->Prop:=fun xs H Q=>∃a ns,xs=[.ref a]/\(SqL K H a (List.map V.int ns)∨SqT K H a (List.map V.int ns))/\Q (.int ns.sum) H
theorem akh(hc:X.calm=true):zh X (.builtin "sum") (asM X.K):=by
 intro Kp s σ H xs us Q I r ⟨a,ns,e,hq,q⟩;subst e;obtain⟨u,rfl,rx⟩:=QV r;cases rx;have hh:=I.ok.hd hc;rcases hq with hq | hq
 ·obtain⟨its,rv,pl,hz⟩:=I.list hq
  have hl:its.toArray.size=ns.length:=by have:=rv.length;simp at this ⊢;omega
  refine call_sum_walkG (ad4 pl.isList fun h2 it st hlt hne k1 hn=>?_);refine⟨it,[it,a],[it],its.toArray.size,(fun i v=>its.toArray[i]?=some v),_,fun i=>ns.getD i 0,rfl,Walks.list (A:=X.A.in1) hh it a hne its.toArray,st,hlt,fun i v hP=>abI rv hP,fun h3 tk t' k2=>?_⟩;exact⟨.int ns.sum,H,I.kept (t':=tk) (aeU k1 hn k2),⟨t',by rw[hl,abJ]⟩,q⟩
 ·obtain⟨its,rv,pl,hz⟩:=I.tuple hq
  have hl:its.toArray.size=ns.length:=by have:=rv.length;simp at this ⊢;omega
  refine call_sum_walkG (ake (show s.heap.IsTuple a its.toArray from pl) fun h2 it st hlt hne k1 hn=>?_);refine⟨it,[it,a],[it],its.toArray.size,(fun i v=>its.toArray[i]?=some v),_,fun i=>ns.getD i 0,rfl,Walks.tuple (A:=X.A.in1) hh it a hne its.toArray,st,hlt,fun i v hP=>abI rv hP,fun h3 tk t' k2=>?_⟩;exact⟨.int ns.sum,H,I.kept (t':=tk) (aeU k1 hn k2),⟨t',by rw[hl,abJ]⟩,q⟩
noncomputable def alI(ds:LP):OP:=match ds with
 | [.list xs]=>(JF xs).map fun ns=> .int ns.sum
 | [.tuple xs]=>(JF xs).map fun ns=> .int ns.sum
 |_=>none
theorem aqm(hc:X.calm=true):Qn X (.builtin "sum") alI:=by
 refine⟨_,akh hc,fun ds d xs H Q h r k=>?_⟩;unfold alI at h;split at h
 ·rename_i ys
  cases hb:JF ys with
  |none=>simp[hb]at h
  | some ns=>
   have:PyData.int ns.sum=d:=by simpa[hb]using h
   subst this;obtain⟨x,q,e1,e2,e3⟩:=r;cases (show q=[] from e3);obtain⟨a,us,g1,g2,g3⟩:=e2;subst g1;rw[Zo hb]at g3;have:=Reps.ints g3;subst this;exact⟨a,ns,e1,.inl (SqL.of g2),k _ H (jp.refl H) rfl⟩
 ·rename_i ys
  cases hb:JF ys with
  |none=>simp[hb]at h
  | some ns=>
   have:PyData.int ns.sum=d:=by simpa[hb]using h
   subst this;obtain⟨x,q,e1,e2,e3⟩:=r;cases (show q=[] from e3);obtain⟨a,us,g1,g2,g3⟩:=e2;subst g1;rw[Zo hb]at g3;have:=Reps.ints g3;subst this;exact⟨a,ns,e1,.inr g2,k _ H (jp.refl H) rfl⟩
 ·cases h
end
section
variable {prog:Program}{w:World}{A:Around}{E:Value->SP0}{s:Shared}
theorem ZW{it t:Addr}{i:Nat}{ys:Array Value}{x:Value}{Q:Value->SP0}(hit:s.heap.IsTupleIter it t i)(ht:s.heap.IsTuple t ys)(hx:ys[i]?=some x)
  (hQ:∀h',h'.IsTupleIter it t (i+1)->Heap.SameBut it s.heap h'->Q x { s with heap:=h' }):wpAny (model prog w) A (Builtin.SmallTypes.nextOf (.ref it)) Q E s:=by
 obtain⟨o,ho,hc,hd⟩:=id hit;obtain⟨ot,hot,_,nt,hdt⟩:=ht;unfold Builtin.SmallTypes.nextOf
 refine wpAny_bind (wpAny_callSpecial?_slot (name:=Str.ofString "__next__") hit.typeIs F.slot_tuple_iterator_next
  (wpAny_call_entry F.slot_tuple_iterator_next hit.typeIs F.entry_tuple_iterator_next ?_
   (F.args_tuple_iterator_next_1 _)))
 refine wpAny_bind (m:=field (.ref it) 0) (wpAny_field ho hd (x:= .ref t) rfl ?_);have no:¬ ((Value.ref t==Value.none)=true):=Bool.false_ne_true
 show wpAny _ _ (if (Value.ref t==Value.none)=true then _ else
  _) _ _ s
 rw[if_neg no];refine wpAny_bind (m:=field (.ref it) 1) (wpAny_field ho hd (x:= .int i 0) rfl ?_);refine wpAny_bind (m:=seqItems? (.ref t)) (wpAny_seqItems hot hdt ?_);simp only[Int.toNat_natCast,hx];refine wpAny_bind (wpAny_setField ho hd (by simp) (wpAny_pure ⟨x,rfl,wpAny_pure (hQ _ ?_ (Heap.SameBut.update ..))⟩));refine⟨_,Heap.get?_update_self _ ho (Obj.isFreed_of_fields (Obj.data_mapFields hd _)),(Obj.cls_mapFields ..).trans hc,?_⟩;rw[Obj.data_mapFields hd];simp[rawInt]
theorem aki{it t:Addr}{i:Nat}{ys:Array Value}{Q:Value->SP0}(hh:A.handled=none)(hit:s.heap.IsTupleIter it t i)(ht:s.heap.IsTuple t ys)(hx:ys[i]?=none)
  (hE:∀h' e,Heap.ExtBut it s.heap h'->(∃o,h'.get? e=some o/\o.cls= .type "StopIteration")->E (.ref e) { s with heap:=h' }):wpAny (model prog w) A (Builtin.SmallTypes.nextOf (.ref it)) Q E s:=by
 obtain⟨o,ho,hc,hd⟩:=id hit;obtain⟨ot,hot,_,nt,hdt⟩:=ht;unfold Builtin.SmallTypes.nextOf
 refine wpAny_bind (wpAny_callSpecial?_slot (name:=Str.ofString "__next__") hit.typeIs F.slot_tuple_iterator_next
  (wpAny_call_entry F.slot_tuple_iterator_next hit.typeIs F.entry_tuple_iterator_next ?_
   (F.args_tuple_iterator_next_1 _)))
 refine wpAny_bind (m:=field (.ref it) 0) (wpAny_field ho hd (x:= .ref t) rfl ?_);have no:¬ ((Value.ref t==Value.none)=true):=Bool.false_ne_true
 show wpAny _ _ (if (Value.ref t==Value.none)=true then _ else
  _) _ _ s
 rw[if_neg no];refine wpAny_bind (m:=field (.ref it) 1) (wpAny_field ho hd (x:= .int i 0) rfl ?_);refine wpAny_bind (m:=seqItems? (.ref t)) (wpAny_seqItems hot hdt ?_);simp only[Int.toNat_natCast,hx];refine wpAny_bind (wpAny_rule (wpAny_bind (wpAny_setField ho hd (by simp) ?_)));refine wpAny_bind (m:=newExc (.type "StopIteration") []) ?_;simp only[newExc,newTuple];refine wpAny_bind (wpAny_newObj_type ?_ (by size_fits))
 refine wpAny_bind (m:=firstArgMember _ _) (wpAny_of_eq (a:=Value.none)
  (by first | rfl | (simp only [firstArgMember]; rfl)) ?_)
 refine wpAny_newObj_type ?_ (by size_fits);simp only[raiseNew];refine wpAny_bind (wpAny_handled ?_);rw[show A.in1.handled=none from hh];refine wpAny_bind (wpAny_pure (wpAny_throw ?_));exact hE _ _ (((Heap.SameBut.update ..).extBut.push _).push _) ⟨_,Heap.get?_push_size _ rfl,rfl⟩
noncomputable abbrev aag(h:Heap)(T:Addr)(a b c:Value):Prop:=h.get? T=some { cls:= .type "tuple",data:= .seq #[a,b,c] }
theorem acL{T:Addr}{a b c x:Value}{k:Nat}{Q:Unit->SP0}(hT:aag s.heap T a b c)
  (h:∀h',h'.get? T=some { cls:= .type "tuple",data:= .seq ((#[a,b,c]:Array Value).setIfInBounds k x) }->Heap.SameBut T s.heap h'->Q () { s with heap:=h' }):
  wpAny (model prog w) A (updateSeq T (·.setIfInBounds k x)) Q E s:=by
 refine wpAny_updateSeq hT rfl (h _ ?_ (Heap.SameBut.update ..));rw[Heap.get?_update_self _ hT rfl];simp[Obj.mapSeq]
structure Apart3(z TI TO i1 i2 i3 t1 t2 t3:Addr):Prop where
 nd:[z,TO,i1,i2,i3].Nodup
 ti:TI∉[z,TO,i1,i2,i3]
 s1:t1∉[z,TO,i1,i2,i3]
 s2:t2∉[z,TO,i1,i2,i3]
 s3:t3∉[z,TO,i1,i2,i3]
structure Zip3(h:Heap)(z TI TO i1 i2 i3 t1 t2 t3:Addr)(xs ys zs:Array Value)(f0:Value)(k:Nat):Prop where
 hz:IsZip h z TI TO f0
 hTI:aag h TI (.ref i1) (.ref i2) (.ref i3)
 hTO:∃a b c,aag h TO a b c
 g1:h.IsTupleIter i1 t1 k
 g2:h.IsTupleIter i2 t2 k
 g3:h.IsTupleIter i3 t3 k
 a1:h.IsTuple t1 xs
 a2:h.IsTuple t2 ys
 a3:h.IsTuple t3 zs
theorem Zip3.keep{h h':Heap}{z TI TO i1 i2 i3 t1 t2 t3:Addr}{xs ys zs:Array Value}{f0:Value}{k:Nat}(S:Zip3 h z TI TO i1 i2 i3 t1 t2 t3 xs ys zs f0 k)
  (kp:∀b∈[z,TI,TO,i1,i2,i3,t1,t2,t3],∀o,h.get? b=some o->h'.get? b=some o):Zip3 h' z TI TO i1 i2 i3 t1 t2 t3 xs ys zs f0 k:=by
 obtain⟨hz,hTI,⟨a,b,c,hTO⟩,⟨o1,e1,r1⟩,⟨o2,e2,r2⟩,⟨o3,e3,r3⟩,⟨p1,f1,q1⟩,⟨p2,f2,q2⟩,⟨p3,f3,q3⟩⟩:=S;exact⟨kp z (by simp) _ hz,kp TI (by simp) _ hTI,⟨a,b,c,kp TO (by simp) _ hTO⟩,⟨o1,kp i1 (by simp) _ e1,r1⟩,⟨o2,kp i2 (by simp) _ e2,r2⟩,⟨o3,kp i3 (by simp) _ e3,r3⟩,⟨p1,kp t1 (by simp) _ f1,q1⟩,⟨p2,kp t2 (by simp) _ f2,q2⟩,⟨p3,kp t3 (by simp) _ f3,q3⟩⟩
noncomputable def But(l:List Addr)(h h':Heap):Prop:=∀b o,b∉l->h.get? b=some o->h'.get? b=some o
theorem But.of{b:Addr}{l:List Addr}{h h':Heap}(x:Heap.ExtBut b h h')(hb:b∈l):But l h h':=fun c o hc e=>x c o (fun z=>hc (by rw[z];exact hb)) e
theorem But.trans{l:List Addr}{h h1 h2:Heap}(a:But l h h1)(b:But l h1 h2):But l h h2:=fun c o hc e=>b c o hc (a c o hc e)
theorem akj{z TI TO i1 i2 i3 t1 t2 t3:Addr}{xs ys zs:Array Value}{k:Nat}{x y v:Value}{Q:Value->SP0}(D:Apart3 z TI TO i1 i2 i3 t1 t2 t3)(S:Zip3 s.heap z TI TO i1 i2 i3 t1 t2 t3 xs ys zs .none k)
  (hx:xs[k]?=some x) (hy:ys[k]?=some y) (hv:zs[k]?=some v)
  (hQ:∀h',Zip3 h' z TI TO i1 i2 i3 t1 t2 t3 xs ys zs (rawInt s.heap.objs.size) (k+1)->aag h' s.heap.objs.size x y v->But [z,TO,i1,i2,i3] s.heap h'->Q (.ref s.heap.objs.size) { s with heap:=h' }):
  wpAny (model prog w) A (Builtin.«zip.__next__» ⟨[.ref z],[]⟩) (fun fin s'=>∃v,fin= .done (.ret v)/\Q v s') E s:=by
 obtain⟨hz,hTI,⟨a,b,c,hTO⟩,g1,g2,g3,a1,a2,a3⟩:=S;obtain⟨nd,ti,s1,s2,s3⟩:=D;simp only[List.nodup_cons,List.mem_cons,List.not_mem_nil,or_false,not_or]at nd ti s1 s2 s3;obtain⟨⟨n1,n2,n3,n4⟩,⟨n5,n6,n7⟩,⟨n8,n9⟩,n10,_⟩:=nd;obtain⟨t1z,t1o,t11,t12,t13⟩:=s1;obtain⟨t2z,t2o,t21,t22,t23⟩:=s2;obtain⟨t3z,t3o,t31,t32,t33⟩:=s3;obtain⟨tiz,tio,ti1,ti2,ti3⟩:=ti;refine wpAny_bind (m:=field (.ref z) 2) (wpAny_field hz rfl (x:= .bool false) rfl ?_);refine wpAny_bind (m:=field (.ref z) 3) (wpAny_field hz rfl (x:= .ref TI) rfl ?_);refine wpAny_bind (wpAny_seqItems hTI rfl ?_);refine wpAny_bind (m:=Builtin.SmallTypes.ownedTupleIsFree (.ref z)) ?_;unfold Builtin.SmallTypes.ownedTupleIsFree;refine wpAny_bind (wpAny_field hz rfl (x:= .none) rfl (wpAny_pure ?_));simp only[zzM];refine wpAny_bind (wpAny_rule ?_);refine wpAny_bind (wpAny_field hz rfl (x:= .ref TO) rfl ?_);refine wpAny_bind (wpAny_setField_rec hz (by simp) fun h1 hz1 b1=>?_)
 replace hz1:IsZip h1 z TI TO .ellipsis:=hz1
 refine wpAny_bind ?_;simp only[List.zipIdx_cons,List.zipIdx_nil,List.forIn_cons,List.forIn_nil];refine wpAny_bind (wpAny_bind (wpAny_onRaise ?_));refine wpAny_bind (m:=Builtin.SmallTypes.nextOf (.ref i1)) ?_;refine ZW (g1.extBut b1.extBut (Ne.symm n2)) (a1.extBut b1.extBut t1z) hx fun h2 g1' b2=>wpAny_pure ?_;have o2:aag h2 TO a b c:=b2.extBut _ _ n5 (b1.extBut _ _ (Ne.symm n1) hTO);refine wpAny_bind (wpAny_seqItems o2 rfl ?_);refine wpAny_bind (acL o2 fun h3 o3 b3=>?_)
 replace o3:aag h3 TO x b c:=o3
 refine wpAny_bind (wpAny_letGo (wpAny_pure ?_));refine wpAny_bind (wpAny_bind (wpAny_onRaise ?_));refine wpAny_bind (m:=Builtin.SmallTypes.nextOf (.ref i2)) ?_;refine ZW (((g2.extBut b1.extBut (Ne.symm n3)).extBut b2.extBut (Ne.symm n8)).extBut b3.extBut (Ne.symm n6)) (((a2.extBut b1.extBut t2z).extBut b2.extBut t21).extBut b3.extBut t2o) hy fun h4 g2' b4=>wpAny_pure ?_;have o4:aag h4 TO x b c:=b4.extBut _ _ n6 o3;refine wpAny_bind (wpAny_seqItems o4 rfl ?_);refine wpAny_bind (acL o4 fun h5 o5 b5=>?_)
 replace o5:aag h5 TO x y c:=o5
 refine wpAny_bind (wpAny_letGo (wpAny_pure ?_));refine wpAny_bind (wpAny_bind (wpAny_onRaise ?_));refine wpAny_bind (m:=Builtin.SmallTypes.nextOf (.ref i3)) ?_
 refine ZW (((((g3.extBut b1.extBut (Ne.symm n4)).extBut b2.extBut (Ne.symm n9)).extBut b3.extBut (Ne.symm n7)).extBut b4.extBut (Ne.symm n10)).extBut b5.extBut (Ne.symm n7))
  (((((a3.extBut b1.extBut t3z).extBut b2.extBut t31).extBut b3.extBut t3o).extBut b4.extBut t32).extBut b5.extBut t3o) hv fun h6 g3' b6=>wpAny_pure ?_
 have o6:aag h6 TO x y c:=b6.extBut _ _ n7 o5;refine wpAny_bind (wpAny_seqItems o6 rfl ?_);refine wpAny_bind (acL o6 fun h7 o7 b7=>?_)
 replace o7:aag h7 TO x y v:=o7
 refine wpAny_bind (wpAny_letGo (wpAny_pure (wpAny_pure ?_)));refine wpAny_bind (wpAny_seqItems o7 rfl ?_);refine wpAny_bind (wpAny_newTuple ?_);have sz:h7.objs.size=s.heap.objs.size:=by rw[b7.1,b6.1,b5.1,b4.1,b3.1,b2.1,b1.1]
 have B:But [z,TO,i1,i2,i3] s.heap h7:=
  ((((((But.of b1.extBut (by simp)).trans (But.of b2.extBut (by simp))).trans (But.of b3.extBut (by simp))).trans (But.of b4.extBut (by simp))).trans (But.of b5.extBut (by simp))).trans (But.of b6.extBut (by simp))).trans (But.of b7.extBut (by simp))
 have z7:IsZip h7 z TI TO .ellipsis:=b7.extBut _ _ n1 (b6.extBut _ _ n4 (b5.extBut _ _ n1 (b4.extBut _ _ n3 (b3.extBut _ _ n1 (b2.extBut _ _ n2 hz1)))));have i17:h7.IsTupleIter i1 t1 (k+1):=((((g1'.extBut b3.extBut (Ne.symm n5)).extBut b4.extBut n8).extBut b5.extBut (Ne.symm n5)).extBut b6.extBut n9).extBut b7.extBut (Ne.symm n5);have i27:h7.IsTupleIter i2 t2 (k+1):=((g2'.extBut b5.extBut (Ne.symm n6)).extBut b6.extBut n10).extBut b7.extBut (Ne.symm n6);have i37:h7.IsTupleIter i3 t3 (k+1):=g3'.extBut b7.extBut (Ne.symm n7);refine wpAny_bind (m:=Builtin.SmallTypes.ownedTupleHandOut (.ref z) (.ref h7.objs.size)) ?_;unfold Builtin.SmallTypes.ownedTupleHandOut;have z8:IsZip (h7.push { cls:= .type "tuple",data:= .seq #[x,y,v] }) z TI TO .ellipsis:=Heap.get?_push_of_some _ z7;refine wpAny_bind (wpAny_setField_rec z8 (by simp) fun h9 z9 b9=>?_)
 replace z9:IsZip h9 z TI TO (rawInt h7.objs.size):=z9
 refine wpAny_setField_rec z9 (by simp) fun h10 z10 b10=>?_
 replace z10:IsZip h10 z TI TO (rawInt h7.objs.size):=z10
 have up:∀c o,c≠z->h7.get? c=some o->h10.get? c=some o:=fun c o c1 e=>b10.extBut _ _ c1 (b9.extBut _ _ c1 (Heap.get?_push_of_some _ e));have zlt:z<h7.objs.size:=Heap.lt_size z7;have T10:aag h10 h7.objs.size x y v:=b10.extBut _ _ (Nat.ne_of_gt zlt) (b9.extBut _ _ (Nat.ne_of_gt zlt) (Heap.get?_push_size _ rfl));rw[sz]at z10 T10;refine wpAny_pure ⟨_,rfl,?_⟩;show Q (.ref h7.objs.size) _;rw[sz];have itk:∀{i t:Addr} {m:Nat},i≠z->h7.IsTupleIter i t m->h10.IsTupleIter i t m:=fun ne ⟨o,e,r⟩=>⟨o,up _ o ne e,r⟩;have tuk:∀{t:Addr} {us:Array Value},t∉[z,TO,i1,i2,i3]->s.heap.IsTuple t us->h10.IsTuple t us:=fun ne ⟨o,e,r⟩=>⟨o,up _ o (fun q=>ne (by simp[q])) (B _ o ne e),r⟩
 refine hQ h10 ⟨z10,up _ _ tiz (B _ _ (by simp[tiz,tio,ti1,ti2,ti3]) hTI),⟨x,y,v,up _ _ (Ne.symm n1) o7⟩,itk (Ne.symm n2) i17,itk (Ne.symm n3) i27,itk (Ne.symm n4) i37,
  tuk (by simp [t1z,t1o,t11,t12,t13]) a1,tuk (by simp [t2z,t2o,t21,t22,t23]) a2,tuk (by simp [t3z,t3o,t31,t32,t33]) a3⟩ T10 fun c o hc e=>up c o (fun q=>hc (by simp [q])) (B c o hc e)
theorem alJ{z TI TO i1 i2 i3 t1 t2 t3:Addr}{xs ys zs:Array Value}{k:Nat}{Q:Fin->SP0}(hh:A.handled=none)(D:Apart3 z TI TO i1 i2 i3 t1 t2 t3)(S:Zip3 s.heap z TI TO i1 i2 i3 t1 t2 t3 xs ys zs .none k)(hx:xs[k]?=none)
  (hE:∀h' e,But [z,TO,i1,i2,i3] s.heap h'->(∃o,h'.get? e=some o/\o.cls= .type "StopIteration")->E (.ref e) { s with heap:=h' }):
  wpAny (model prog w) A (Builtin.«zip.__next__» ⟨[.ref z],[]⟩) Q E s:=by
 obtain⟨hz,hTI,⟨a,b,c,hTO⟩,g1,g2,g3,a1,a2,a3⟩:=S;obtain⟨nd,ti,s1,s2,s3⟩:=D;simp only[List.nodup_cons,List.mem_cons,List.not_mem_nil,or_false,not_or]at nd ti s1 s2 s3;obtain⟨⟨n1,n2,n3,n4⟩,⟨n5,n6,n7⟩,⟨n8,n9⟩,n10,_⟩:=nd;refine wpAny_bind (m:=field (.ref z) 2) (wpAny_field hz rfl (x:= .bool false) rfl ?_);refine wpAny_bind (m:=field (.ref z) 3) (wpAny_field hz rfl (x:= .ref TI) rfl ?_);refine wpAny_bind (wpAny_seqItems hTI rfl ?_);refine wpAny_bind (m:=Builtin.SmallTypes.ownedTupleIsFree (.ref z)) ?_;unfold Builtin.SmallTypes.ownedTupleIsFree;refine wpAny_bind (wpAny_field hz rfl (x:= .none) rfl (wpAny_pure ?_));simp only[zzM];refine wpAny_bind (wpAny_rule ?_);refine wpAny_bind (wpAny_field hz rfl (x:= .ref TO) rfl ?_);refine wpAny_bind (wpAny_setField_rec hz (by simp) fun h1 hz1 b1=>?_)
 replace hz1:IsZip h1 z TI TO .ellipsis:=hz1
 refine wpAny_bind ?_;simp only[List.zipIdx_cons,List.zipIdx_nil,List.forIn_cons,List.forIn_nil];refine wpAny_bind (wpAny_bind (wpAny_onRaise ?_));refine wpAny_bind (m:=Builtin.SmallTypes.nextOf (.ref i1)) ?_;refine aki hh (g1.extBut b1.extBut (Ne.symm n2)) (a1.extBut b1.extBut s1.1) hx fun h2 e b2 he=>?_;obtain⟨oe,ho,hc⟩:=he;have z2:IsZip h2 z TI TO .ellipsis:=b2 _ _ n2 hz1;have ez:e≠z:=fun q=>by subst q;rw[z2]at ho;cases ho;simp at hc
 refine wpAny_setField_rec z2 (by simp) fun h3 _ b3=>?_;exact hE h3 e (((But.of b1.extBut (by simp)).trans (But.of b2 (by simp))).trans (But.of b3.extBut (by simp))) ⟨oe,b3.extBut _ _ ez ho,hc⟩
end
structure ZipC(h:Heap)(z TI TO i1 i2 i3 t1 t2 t3:Addr)(f0:Value)(k:Nat):Prop where
 hz:IsZip h z TI TO f0
 hTI:aag h TI (.ref i1) (.ref i2) (.ref i3)
 hTO:∃a b c,aag h TO a b c
 g1:h.IsTupleIter i1 t1 k
 g2:h.IsTupleIter i2 t2 k
 g3:h.IsTupleIter i3 t3 k
theorem ZipC.all{h:Heap}{z TI TO i1 i2 i3 t1 t2 t3:Addr}{f0:Value}{k:Nat}(S:ZipC h z TI TO i1 i2 i3 t1 t2 t3 f0 k){xs ys zs:Array Value}(a1:h.IsTuple t1 xs)(a2:h.IsTuple t2 ys)(a3:h.IsTuple t3 zs):
  Zip3 h z TI TO i1 i2 i3 t1 t2 t3 xs ys zs f0 k:=⟨S.hz,S.hTI,S.hTO,S.g1,S.g2,S.g3,a1,a2,a3⟩
theorem Zip3.c{h:Heap}{z TI TO i1 i2 i3 t1 t2 t3:Addr}{xs ys zs:Array Value}{f0:Value}{k:Nat}(S:Zip3 h z TI TO i1 i2 i3 t1 t2 t3 xs ys zs f0 k):ZipC h z TI TO i1 i2 i3 t1 t2 t3 f0 k:=⟨S.hz,S.hTI,S.hTO,S.g1,S.g2,S.g3⟩
theorem ZipC.keep{h h':Heap}{z TI TO i1 i2 i3 t1 t2 t3:Addr}{f0:Value}{k:Nat}(S:ZipC h z TI TO i1 i2 i3 t1 t2 t3 f0 k)(kp:∀b∈[z,TI,TO,i1,i2,i3],∀o,h.get? b=some o->h'.get? b=some o):
  ZipC h' z TI TO i1 i2 i3 t1 t2 t3 f0 k:=by
 obtain⟨hz,hTI,⟨a,b,c,hTO⟩,⟨o1,e1,r1⟩,⟨o2,e2,r2⟩,⟨o3,e3,r3⟩⟩:=S;exact⟨kp z (by simp) _ hz,kp TI (by simp) _ hTI,⟨a,b,c,kp TO (by simp) _ hTO⟩,⟨o1,kp i1 (by simp) _ e1,r1⟩,⟨o2,kp i2 (by simp) _ e2,r2⟩,⟨o3,kp i3 (by simp) _ e3,r3⟩⟩
noncomputable def Itz(K:Fg)(t1 t2 t3:Addr):It:=
 ⟨fun i H=>∃xs ys zs x y v,SqT K H t1 xs/\SqT K H t2 ys/\SqT K H t3 zs/\xs[i]?=some x/\ys[i]?=some y/\zs[i]?=some v,
  fun i H u H'=>∃ p x y v,u= .ref p/\H p=none/\H'=upd H p (.tup [x,y,v])/\∀ xs ys zs,SqT K H t1 xs->SqT K H t2 ys->SqT K H t3 zs->xs[i]?=some x/\ys[i]?=some y/\zs[i]?=some v,
  fun i H=>∃ xs ys zs,SqT K H t1 xs/\SqT K H t2 ys/\SqT K H t3 zs/\xs.length<=i⟩
theorem alK{P:Program}{w:World}{K:Fg}{elts:List Expr}{x1:Nat}{pos:Pos}{z TI TO i1 i2 i3 t1 t2 t3:Addr}(nd:[z,TO,i1,i2,i3].Nodup)(ti:TI∉[z,TO,i1,i2,i3]):
  Turn P w K (.Tuple elts x1 pos) (Itz K t1 t2 t3) [z,TI,TO,i1,i2,i3] z (fun i h=>ZipC h z TI TO i1 i2 i3 t1 t2 t3 .none i) where
 mem:=by simp
 obj:=fun i h st b hb=>by
  obtain⟨hz,hTI,⟨a,b',c,hTO⟩,⟨o1,e1,_,d1⟩,⟨o2,e2,_,d2⟩,⟨o3,e3,_,d3⟩⟩:=st;simp only[List.mem_cons,List.not_mem_nil,or_false]at hb;rcases hb with rfl|rfl|rfl|rfl|rfl|rfl
  ·exact⟨_,hz,fun v q=>by cases q⟩
  ·exact⟨_,hTI,fun v q=>by cases q⟩
  ·exact⟨_,hTO,fun v q=>by cases q⟩
  ·exact⟨o1,e1,fun v q=>by rw[d1]at q;cases q⟩
  ·exact⟨o2,e2,fun v q=>by rw[d2]at q;cases q⟩
  ·exact⟨o3,e3,fun v q=>by rw[d3]at q;cases q⟩
 keep:=fun i h h' st k=>st.keep k
 item:=by
  intro X hP hw hK hc i Kp s σ H E I hf st hg;subst hP hw hK;obtain⟨xs,ys,zs,x,y,v,q1,q2,q3,ex,ey,ev⟩:=hg;obtain⟨us1,r1,p1,z1⟩:=I.tuple q1;obtain⟨us2,r2,p2,z2⟩:=I.tuple q2;obtain⟨us3,r3,p3,z3⟩:=I.tuple q3;obtain⟨u1,m1,l1⟩:=r1.get ex;obtain⟨u2,m2,l2⟩:=r2.get ey;obtain⟨u3,m3,l3⟩:=r3.get ev
  have trk:∀{t:Addr} {ws:List V},SqT X.K H t ws->t∉[z,TO,i1,i2,i3]:=fun {t ws} hq hb=>by
   have hb':t∈[z,TI,TO,i1,i2,i3]:=by
    simp only[List.mem_cons,List.not_mem_nil,or_false]at hb ⊢;rcases hb with e | e | e | e | e<;>simp[e]
   rcases hq with (e | ⟨o,e⟩) | ⟨o,its,n,hk,hcl,hs,_,_⟩
   ·have:=(hf t hb').1;rw[e]at this;cases this
   ·have:=(hf t hb').1;rw[e]at this;cases this
   ·-- an object of the module is no iterator of ours
    obtain⟨f0,f1,f2,f3,f4,f5⟩:=hf t hb';have hbase:=I.mod.kin t o hk;rcases f3 with q | q
    ·exact I.ok.noex t o hbase q
    ·exact absurd (Nat.lt_of_lt_of_le (Heap.lt_size hbase) (Nat.le_trans I.ok.bsz q)) (Nat.lt_irrefl _)
  have D:Apart3 z TI TO i1 i2 i3 t1 t2 t3:=⟨nd,ti,trk q1,trk q2,trk q3⟩;have S:=st.all (xs:=us1.toArray) (ys:=us2.toArray) (zs:=us3.toArray) p1 p2 p3;have hT:s.TypeIs (.ref z) "zip":=⟨_,st.hz,rfl⟩;unfold pyNext
  refine wpAny_bind (wpAny_attempt (wpAny_callSpecial?_slot (name:=Str.ofString "__next__") hT F.slot_zip_next
   (wpAny_call_entry F.slot_zip_next hT F.entry_zip_next (akj D S (by simpa using m1) (by simpa using m2) (by simpa using m3) fun h1 S1 T1 B1=>wpAny_pure ?_)
    (F.args_zip_next_1 _))))
  refine⟨_,rfl,?_⟩;refine wpAny_letOwnedTupleGo_zip (s:={ s with heap:=h1 }) S1.hz fun h2 z2' b2=>?_;have nT:H s.heap.objs.size=none:=I.hok.fresh (Nat.le_refl _);have zlt:z<s.heap.objs.size:=Heap.lt_size st.hz;have T2:aag h2 s.heap.objs.size u1 u2 u3:=b2.extBut _ _ (Nat.ne_of_gt zlt) T1;have B2:But [z,TO,i1,i2,i3] s.heap h2:=B1.trans (But.of b2.extBut (by simp))
  have inF:∀b∈[z,TO,i1,i2,i3],b∈[z,TI,TO,i1,i2,i3]:=fun b hb=>by
   simp only[List.mem_cons,List.not_mem_nil,or_false]at hb ⊢;rcases hb with e | e | e | e | e<;>simp[e]
  have ntr:∀b u,H b=some u->b∉[z,TO,i1,i2,i3]:=fun b u e hb=>by
   have:=(hf b (inF b hb)).1;rw[e]at this;cases this
  have neT:∀b u,H b=some u->b≠s.heap.objs.size:=fun b u e q=>by rw[q,nT]at e;cases e
  have hok2:HOk X.prog X.w (upd H s.heap.objs.size (.tup [x,y,v])) h2:=fun b u e=>by
   by_cases hb:b=s.heap.objs.size
   ·subst hb
    rw[jn]at e;cases e;exact⟨by show 3<=sizeLine;rw[sizeLine_eq];decide,[u1,u2,u3],.cons l1 (.cons l2 (.cons l3 .nil)),⟨_,T2,rfl,_,rfl⟩⟩
   ·rw[js hb]at e
    refine(I.hok b u e).stay (fun c o hc' q=>B2 c o ?_ q) (fun c q=>by rw[js (neT c _ q)];exact q) fun c ws q=>by rw[js (neT c _ q)];exact q
    rcases hc' with q' | q'
    ·rw[q'];exact ntr b u e
    ·exact ntr c _ q'
  have I2:Inv X Kp σ (upd H s.heap.objs.size (.tup [x,y,v])) { s with heap:=h2,toks:=s.toks }:=by
   refine I.step (g':=s.gens) (d':=s.drawn) (ch:=[z,TO,i1,i2,i3]) (fun b hb=>?_) (fun b o _ _ hb e _=>B2 b o hb e) (fun b o _ _ hb e _=>⟨o.slots,B2 b o hb e⟩) (fun b o hb e n=>?_) (fun b o hb e=>⟨o,B2 b o hb e⟩)
    (fun b ws e=>by rw[js (neT b _ e)];exact e) (fun b ob ws e=>by rw[js (neT b _ e)];exact e) (fun b ps e=>⟨#[],by rw[js (neT b _ e),e];simp⟩) (fun m hm=>?_) hok2 I.bare
   ·obtain⟨f0,f1,f2,f3,f4,f5⟩:=hf b (inF b hb)
    exact⟨f3,f1,f4,f5⟩
   ·rw[js (Nat.ne_of_lt (Heap.lt_size e))];exact n
   ·obtain⟨o,es,ep,ho,r⟩:=hm
    refine⟨o,es,ep,B2 _ o (fun hb=>?_) ho,r⟩;exact(hf _ (inF _ hb)).2.1 rfl
  refine⟨.ref s.heap.objs.size,_,I2,rfl,⟨_,x,y,v,rfl,nT,rfl,fun as bs cs g1 g2 g3=>?_⟩,?_,fun b hb=>?_⟩
  ·rw[I.tuple_inj g1 q1,I.tuple_inj g2 q2,I.tuple_inj g3 q3]
   exact⟨ex,ey,ev⟩
  ·have c1:=S1.c
   obtain⟨_,hTI,⟨a,b,c,hTO⟩,⟨o1,e1,w1⟩,⟨o2,e2,w2⟩,⟨o3,e3,w3⟩⟩:=c1;simp only[List.nodup_cons,List.mem_cons,List.not_mem_nil,or_false,not_or]at nd ti;obtain⟨⟨n1,n2,n3,n4⟩,_⟩:=nd;exact⟨z2',b2.extBut _ _ ti.1 hTI,⟨a,b,c,b2.extBut _ _ (Ne.symm n1) hTO⟩,⟨o1,b2.extBut _ _ (Ne.symm n2) e1,w1⟩,⟨o2,b2.extBut _ _ (Ne.symm n3) e2,w2⟩,⟨o3,b2.extBut _ _ (Ne.symm n4) e3,w3⟩⟩
  ·obtain⟨o,ho,_⟩:∃o,s.heap.get? b=some o/\True:=by
    obtain⟨hz,hTI,⟨a,b',c,hTO⟩,⟨o1,e1,_⟩,⟨o2,e2,_⟩,⟨o3,e3,_⟩⟩:=st;simp only[List.mem_cons,List.not_mem_nil,or_false]at hb;rcases hb with rfl|rfl|rfl|rfl|rfl|rfl
    ·exact⟨_,hz,trivial⟩
    ·exact⟨_,hTI,trivial⟩
    ·exact⟨_,hTO,trivial⟩
    ·exact⟨_,e1,trivial⟩
    ·exact⟨_,e2,trivial⟩
    ·exact⟨_,e3,trivial⟩
   rw[js (Nat.ne_of_lt (Heap.lt_size ho))];exact(hf b hb).1
 done:=by
  intro X hP hw hK hc i Kp s σ H E I hf st hg;subst hP hw hK;obtain⟨xs,ys,zs,q1,q2,q3,hl⟩:=hg;obtain⟨us1,r1,p1,z1⟩:=I.tuple q1;obtain⟨us2,r2,p2,z2⟩:=I.tuple q2;obtain⟨us3,r3,p3,z3⟩:=I.tuple q3
  have trk:∀{t:Addr} {ws:List V},SqT X.K H t ws->t∉[z,TO,i1,i2,i3]:=fun {t ws} hq hb=>by
   have hb':t∈[z,TI,TO,i1,i2,i3]:=by
    simp only[List.mem_cons,List.not_mem_nil,or_false]at hb ⊢;rcases hb with e | e | e | e | e<;>simp[e]
   rcases hq with (e | ⟨o,e⟩) | ⟨o,its,n,hk,hcl,hs,_,_⟩
   ·have:=(hf t hb').1;rw[e]at this;cases this
   ·have:=(hf t hb').1;rw[e]at this;cases this
   ·obtain⟨f0,f1,f2,f3,f4,f5⟩:=hf t hb'
    have hbase:=I.mod.kin t o hk;rcases f3 with q | q
    ·exact I.ok.noex t o hbase q
    ·exact absurd (Nat.lt_of_lt_of_le (Heap.lt_size hbase) (Nat.le_trans I.ok.bsz q)) (Nat.lt_irrefl _)
  have D:Apart3 z TI TO i1 i2 i3 t1 t2 t3:=⟨nd,ti,trk q1,trk q2,trk q3⟩;have S:=st.all (xs:=us1.toArray) (ys:=us2.toArray) (zs:=us3.toArray) p1 p2 p3;have hT:s.TypeIs (.ref z) "zip":=⟨_,st.hz,rfl⟩;have hlen:=r1.length;unfold pyNext
  refine wpAny_bind (wpAny_attempt (wpAny_callSpecial?_slot (name:=Str.ofString "__next__") hT F.slot_zip_next
   (wpAny_call_entry F.slot_zip_next hT F.entry_zip_next (alJ (I.ok.hd hc) D S (by simp; omega) fun h1 e B1 he=>?_)
    (F.args_zip_next_1 _))))
  obtain⟨o,ho,hcl⟩:=he;refine wpAny_bind (wpAny_isInstance (T:="StopIteration") (b:=true) ⟨o,ho,hcl⟩ isSubtype_stop ?_);refine wpAny_pure ⟨rfl,?_⟩
  have inF:∀b∈[z,TO,i1,i2,i3],b∈[z,TI,TO,i1,i2,i3]:=fun b hb=>by
   simp only[List.mem_cons,List.not_mem_nil,or_false]at hb ⊢;rcases hb with e | e | e | e | e<;>simp[e]
  have ntr:∀b u,H b=some u->b∉[z,TO,i1,i2,i3]:=fun b u e hb=>by
   have:=(hf b (inF b hb)).1;rw[e]at this;cases this
  refine I.step (t':=s.toks) (g':=s.gens) (d':=s.drawn) (ch:=[z,TO,i1,i2,i3]) (fun b hb=>?_) (fun b o _ _ hb e _=>B1 b o hb e) (fun b o _ _ hb e _=>⟨o.slots,B1 b o hb e⟩) (fun b o hb e n=>n) (fun b o hb e=>⟨o,B1 b o hb e⟩)
   (fun b ws e=>e) (fun b ob ws e=>e) (fun b ps e=>⟨#[],by rw[e];simp⟩) (fun m hm=>?_) (fun b u e=>?_) I.bare
  ·obtain⟨f0,f1,f2,f3,f4,f5⟩:=hf b (inF b hb)
   exact⟨f3,f1,f4,f5⟩
  ·obtain⟨o,es,ep,ho,r⟩:=hm
   refine⟨o,es,ep,B1 _ o (fun hb=>?_) ho,r⟩;exact(hf _ (inF _ hb)).2.1 rfl
  ·refine(I.hok b u e).stay (fun c o hc' q=>B1 c o ?_ q) (fun c q=>q) fun c ws q=>q
   rcases hc' with q' | q'
   ·rw[q'];exact ntr b u e
   ·exact ntr c _ q'
 self:=fun _ _ _ _ _ st h=>wpAny_pyIter_zip st.hz h
theorem adH(a b c:Value):checkTypeCall "zip" ⟨[a,b,c],[]⟩=pure ():=by kernel_rfl
theorem aeV(a b c:Value):checkBuiltinCall "zip.__new__" ⟨[.type "zip",a,b,c],[]⟩=pure ():=by kernel_rfl
theorem ahO(a b c d:Value):argsOk "object.__init__" ⟨[a,b,c,d],[]⟩:=by
 unfold argsOk
 rw[signature?_of (id:="object.__init__") (n:=['_','_','t','i','n','i','_','_'])
  (o:=['t','c','e','j','b','o']) (by kernel_rfl) F.owner_object]
 kernel_rfl
noncomputable abbrev aqn(t:Addr):Obj:={ cls:= .type "tuple_iterator",data:= .fields #[.ref t,.int 0 0] }
noncomputable abbrev zh1(h:Heap)(a:Addr):Heap:=h.push (aqn a)
noncomputable abbrev zh2(h:Heap)(a b:Addr):Heap:=(zh1 h a).push (aqn b)
noncomputable abbrev zh3(h:Heap)(a b c:Addr):Heap:=(zh2 h a b).push (aqn c)
noncomputable abbrev zh4(h:Heap)(a b c:Addr):Heap:=(zh3 h a b c).push { cls:= .type "tuple",data:= .seq #[.ref h.objs.size,.ref (zh1 h a).objs.size,.ref (zh2 h a b).objs.size] }
noncomputable abbrev zh5(h:Heap)(a b c:Addr):Heap:=(zh4 h a b c).push { cls:= .type "tuple",data:= .seq #[.none,.none,.none] }
noncomputable abbrev zh6(h:Heap)(a b c:Addr):Heap:=(zh5 h a b c).push { cls:= .type "zip",data:= .fields #[.none,.bool false,.bool false,.ref (zh3 h a b c).objs.size,.ref (zh4 h a b c).objs.size] }
theorem alL(a b c:Addr)(xs ys zs:Array Value):
  Meets (Builtin.«zip.__new__» ⟨[.type "zip",.ref a,.ref b,.ref c],[]⟩) (fun _ R s=>s.heap.IsTuple a xs/\s.heap.IsTuple b ys/\s.heap.IsTuple c zs/\
   R (.ok (.ret (.ref (zh5 s.heap a b c).objs.size))) { s with heap:=zh6 s.heap a b c }):=
 .of_wp fun prog w A R s h=>by
  obtain⟨hp,g,d,tk,os⟩:=s;obtain⟨h1,h2,h3,h⟩:=h;have hsub:=sub_zip;have k1:Heap.IsTuple (Shared.heap ⟨hp,g,d,tk,os⟩) a xs:=h1;have k2:Heap.IsTuple (Shared.heap ⟨zh1 hp a,g,d,tk,os⟩) b ys:=Heap.IsTuple.push h2 _;have k3:Heap.IsTuple (Shared.heap ⟨zh2 hp a b,g,d,tk,os⟩) c zs:=Heap.IsTuple.push (Heap.IsTuple.push h3 _) _
  wp_walk using wpAny_pyIter_tuple k1,wpAny_pyIter_tuple k2,wpAny_pyIter_tuple k3
  exact⟨_,rfl,h⟩
section
variable {X:Cx}
noncomputable def arK(K:Fg)(ta:TA):TI:=fun σ H R=>ta σ H fun vs H1=>∃a b c xs ys zs,vs=[.ref a,.ref b,.ref c]/\SqT K H1 a xs/\SqT K H1 b ys/\SqT K H1 c zs/\R (Itz K a b c) H1
theorem an9{ea eb ec:Expr}{elts:List Expr}{x1:Nat}{tp:Pos}{ta:TA}{p pos:Pos}(hg:Gl X "zip")(hm:X.mg "zip"=none)(ha:PA X [ea,eb,ec] ta)
  (hs:starEach [ea,eb,ec] X.env=[(false,eval ea X.env),(false,eval eb X.env),(false,eval ec X.env)]:=by rfl) (hs2:starEach [eb,ec] X.env=[(false,eval eb X.env),(false,eval ec X.env)]:=by rfl):
  PI X (.Tuple elts x1 tp) (.Call (.Name "zip" p) [ea,eb,ec] [] pos) (arK X.K ta):=by
 intro Kp s σ H R I h;refine Call_ (aaZ I hg hm boot_zip (PyProof.Rows.callWith_type1 (thn (ha pos Kp s σ H _ I h) fun us s1 ⟨vs,H1,I1,r1,q1⟩=>?_) (by rw[hs,hs2]) (by rw[hs2];rfl)));obtain⟨a,b,c,xs,ys,zs,e,q1,q2,q3,q⟩:=q1;subst e;cases r1 with
 | cons r1 rr=>
  cases rr with
  | cons r2 rr=>
   cases rr with
   | cons r3 rr=>
    cases rr;cases r1;cases r2;cases r3;obtain⟨us1,v1,p1,z1⟩:=I1.tuple q1;obtain⟨us2,v2,p2,z2⟩:=I1.tuple q2;obtain⟨us3,v3,p3,z3⟩:=I1.tuple q3
    refine callType_new F.called_zip (by decide) (adH _ _ _) (aeV _ _ _) (fun obj=>ahO obj _ _ _) F.entry_zip_new
     (alL a b c us1.toArray us2.toArray us3.toArray) ⟨p1,p2,p3,?_⟩
    have n1:(zh1 s1.heap a).objs.size=s1.heap.objs.size+1:=Heap.size_push ..;have n2:(zh2 s1.heap a b).objs.size=s1.heap.objs.size+2:=by rw[Heap.size_push,n1]
    have n3:(zh3 s1.heap a b c).objs.size=s1.heap.objs.size+3:=by rw[Heap.size_push,n2]
    have n4:(zh4 s1.heap a b c).objs.size=s1.heap.objs.size+4:=by rw[Heap.size_push,n3]
    have n5:(zh5 s1.heap a b c).objs.size=s1.heap.objs.size+5:=by rw[Heap.size_push,n4]
    have g6:(zh6 s1.heap a b c).get? (zh5 s1.heap a b c).objs.size=some _:=Heap.get?_push_size _ rfl;have g5:(zh6 s1.heap a b c).get? (zh4 s1.heap a b c).objs.size=some _:=Heap.get?_push_of_some _ (Heap.get?_push_size _ rfl);have g4:(zh6 s1.heap a b c).get? (zh3 s1.heap a b c).objs.size=some _:=Heap.get?_push_of_some _ (Heap.get?_push_of_some _ (Heap.get?_push_size _ rfl));have up3:∀x o,(zh3 s1.heap a b c).get? x=some o->(zh6 s1.heap a b c).get? x=some o:=fun x o e=>Heap.get?_push_of_some _ (Heap.get?_push_of_some _ (Heap.get?_push_of_some _ e));have g3:(zh6 s1.heap a b c).get? (zh2 s1.heap a b).objs.size=some _:=up3 _ _ (Heap.get?_push_size _ rfl);have g2:(zh6 s1.heap a b c).get? (zh1 s1.heap a).objs.size=some _:=up3 _ _ (Heap.get?_push_of_some _ (Heap.get?_push_size _ rfl));have g1:(zh6 s1.heap a b c).get? s1.heap.objs.size=some _:=up3 _ _ (Heap.get?_push_of_some _ (Heap.get?_push_of_some _ (Heap.get?_push_size _ rfl)));have kp:∀x o,s1.heap.get? x=some o->(zh6 s1.heap a b c).get? x=some o:=fun x o e=>up3 _ _ (Heap.get?_push_of_some _ (Heap.get?_push_of_some _ (Heap.get?_push_of_some _ e)));show _/\_;refine⟨⟨_,g6,rfl⟩,?_⟩;refine wpAny_pyIter_zip g6 ?_;have I2:Inv X Kp σ H1 { s1 with heap:=zh6 s1.heap a b c }:=I1.kept (t':=s1.toks) kp
    refine⟨_,[(zh5 s1.heap a b c).objs.size,(zh3 s1.heap a b c).objs.size,(zh4 s1.heap a b c).objs.size,s1.heap.objs.size,(zh1 s1.heap a).objs.size,(zh2 s1.heap a b).objs.size],
     _,_,H1,rfl,I2,alK (z:=(zh5 s1.heap a b c).objs.size) (TI:=(zh3 s1.heap a b c).objs.size) (TO:=(zh4 s1.heap a b c).objs.size) (i1:=s1.heap.objs.size) (i2:=(zh1 s1.heap a).objs.size) (i3:=(zh2 s1.heap a b).objs.size) (t1:=a) (t2:=b) (t3:=c) ?_ ?_,
     ⟨g6,g4,⟨_,_,_,g5⟩,⟨_,g1,rfl,rfl⟩,⟨_,g2,rfl,rfl⟩,⟨_,g3,rfl,rfl⟩⟩,fun x hx=>?_,q⟩
    ·rw[n5,n4,n1,n2]
     simp[List.nodup_cons]
    ·rw[n3,n5,n4,n1,n2]
     simp
    ·have hle:s1.heap.objs.size<=x:=by
      rw[n5,n3,n4,n1,n2]at hx;simp only[List.mem_cons,List.not_mem_nil,or_false]at hx;rcases hx with e | e | e | e | e | e<;>rw[e]<;>first|exact Nat.le_refl _|exact Nat.le_add_right _ _
     exact I1.fpOk hle (I1.hok.fresh hle)
noncomputable def Q8:LP->LP->LP->LP
 |x::xs,y::ys,z::zs=> .tuple [x,y,z]::Q8 xs ys zs
 |_,_,_=>[]
noncomputable def aji(ds:LP):Option (LP):=match ds with
 | [.tuple xs,.tuple ys,.tuple zs]=>if xs.length=ys.length/\ys.length=zs.length then some (Q8 xs ys zs) else none
 |_=>none
theorem ad5:∀(xs ys zs:LP),xs.length=ys.length->ys.length=zs.length->(Q8 xs ys zs).length=xs.length
 | [],_,_,_,_=>by simp[Q8]
 |x::xs,[],_,h,_=>by simp at h
 |x::xs,y::ys,[],_,h=>by simp at h
 |x::xs,y::ys,z::zs,h,g=>by simp[Q8,ad5 xs ys zs (by simpa using h) (by simpa using g)]
theorem ad6:∀(xs ys zs:LP) (i:Nat) (d:PyData),(Q8 xs ys zs)[i]?=some d->∃x y z,xs[i]?=some x/\ys[i]?=some y/\zs[i]?=some z/\d= .tuple [x,y,z]
 | [],_,_,i,d,h=>by simp[Q8]at h
 |x::xs,[],_,i,d,h=>by simp[Q8]at h
 |x::xs,y::ys,[],i,d,h=>by simp[Q8]at h
 |x::xs,y::ys,z::zs,0,d,h=>by simp[Q8]at h;exact⟨x,y,z,rfl,rfl,rfl,h.symm⟩
 | x::xs,y::ys,z::zs,i+1,d,h=>by
  obtain⟨a,b,c,e1,e2,e3,e4⟩:=ad6 xs ys zs i d (by simpa[Q8]using h);exact⟨a,b,c,by simpa using e1,by simpa using e2,by simpa using e3,e4⟩
theorem alM{ea eb ec:Expr}{elts:List Expr}{x1:Nat}{tp:Pos}{p pos:Pos}{fr:Rho->Option (LP)}(hm:X.mg "zip"=none)(ha:PAD X [ea,eb,ec] fr)(hg:Gl X "zip":=by rfl)
  (hs:starEach [ea,eb,ec] X.env=[(false,eval ea X.env),(false,eval eb X.env),(false,eval ec X.env)]:=by rfl) (hs2:starEach [eb,ec] X.env=[(false,eval eb X.env),(false,eval ec X.env)]:=by rfl):
  PID X (.Tuple elts x1 tp) (.Call (.Name "zip" p) [ea,eb,ec] [] pos) (fun ρ=>(fr ρ).bind aji):=by
 with_unfolding_all
  refine PI.imp (an9 hg hm ha hs hs2) fun σ H R ⟨ρ,ds,en,q,k⟩=>?_;cases h1:fr ρ with
  |none=>simp[h1]at q
  | some as=>
   have q':aji as=some ds:=by simpa[h1]using q
   refine⟨ρ,as,en,h1,fun vs H1 s1 r1=>?_⟩;unfold aji at q';split at q'
   ·rename_i xs ys zs
    split at q'
    ·rename_i hl
     cases q';obtain⟨v1,w1,e1,⟨a,us1,ea',qa,ra⟩,v2,w2,e2,⟨b,us2,eb',qb,rb⟩,v3,w3,e3,⟨c,us3,ec',qc,rc⟩,e4⟩:=r1;cases (show w3=[] from e4);subst ea';subst eb';subst ec';subst e3;subst e2;have l1:=ra.length;have l2:=rb.length;have l3:=rc.length;have lz:=ad5 xs ys zs hl.1 hl.2;refine⟨a,b,c,us1,us2,us3,e1,qa,qb,qc,k _ H1 s1 fun i H2 s2=>⟨fun hi=>?_,fun hi=>?_,fun u H3 y=>?_⟩⟩
     ·rw[lz]at hi
      exact⟨us1,us2,us3,us1[i]'(by omega),us2[i]'(by omega),us3[i]'(by omega),jy.tup s2 qa,jy.tup s2 qb,jy.tup s2 qc,by simp<;>omega,by simp<;>omega,by simp<;>omega⟩
     ·rw[lz]at hi
      exact⟨us1,us2,us3,jy.tup s2 qa,jy.tup s2 qb,jy.tup s2 qc,by omega⟩
     ·obtain⟨pp,x,y,v,e5,e6,e7,e8⟩:=y
      subst e5;subst e7;refine⟨jC e6,fun d hd=>?_⟩;obtain⟨dx,dy,dz,g1,g2,g3,g4⟩:=ad6 xs ys zs i d hd;subst g4;obtain⟨f1,f2,f3⟩:=e8 us1 us2 us3 (jy.tup s2 qa) (jy.tup s2 qb) (jy.tup s2 qc);have m:=s2.trans (jp.a (jC (o:= .tup [x,y,v]) e6));obtain⟨x',a1,a2⟩:=(Reps.monoA m _ _ ra).get g1;obtain⟨y',b1,b2⟩:=(Reps.monoA m _ _ rb).get g2;obtain⟨z',c1,c2⟩:=(Reps.monoA m _ _ rc).get g3;rw[f1]at a1;cases a1;rw[f2]at b1;cases b1;rw[f3]at c1;cases c1;exact⟨pp,[x,y,v],rfl,SqT.of jn,x,_,rfl,a2,y,_,rfl,b2,v,_,rfl,c2,rfl⟩
    ·cases q'
   ·cases q'
noncomputable def tyn:PyData->String
 |.none=>"NoneType"
 |.bool _=>"bool"
 |.int _=>"int"
 |.str _=>"str"
 |.tuple _=>"tuple"
 |.list _=>"list"
 |.dict kvs=>if zK kvs then "list" else "dict"
noncomputable def isFn:PyData->Bool
 |.dict [(.str _,_)]=>true
 |.dict [(.bool _,_)]=>true
 |_=>false
noncomputable def Q0(T:String)(d:PyData):OP:=if isFn d=true then none else some (.bool (tyn d==T||(T=="int" && tyn d=="bool")))
theorem alN{Kp:List (Addr×Obj)}{σ:St}{H:Hp}{s:Shared}{E:Value->SP0}{Q:Value->SP0}{d:PyData}{v:V}{u c:Value}{b:Bool}(I:Inv X Kp σ H s)(r:Rep X.K H d v)(hF:isFn d=false)(rv:jT v u)
  (e:PySem.W.kitOne X.K (.type (tyn d)) c=some b) (h:∀tk,Q (.bool b) { s with toks:=tk }):wpAny (model X.prog X.w) X.A (call (.builtin "isinstance") [u,c]) Q E s:=by
 cases d with
 |none=>cases r;cases rv;exact PySem.W.kia_one PySem.W.kitx_none I.kIn True.intro e (fun z=>nomatch z) h
 |bool y=>cases r;cases rv;exact PySem.W.kia_one PySem.W.kitx_bool I.kIn True.intro e (fun z=>nomatch z) h
 |int i=>cases r;obtain⟨t,rfl⟩:=rv;exact PySem.W.kia_one PySem.W.kitx_int I.kIn True.intro e (fun z=>nomatch z) h
 |str y=>cases r;obtain⟨t,rfl⟩:=rv;exact PySem.W.kia_one PySem.W.kitx_str I.kIn True.intro e (fun z=>nomatch z) h
 | tuple ds=>
  obtain⟨a,xs,e1,e2,e3⟩:=r;subst e1;cases rv;obtain⟨its,_,⟨o,h1,h2,_⟩,_⟩:=I.tuple e2;exact PySem.W.kia_one PySem.W.kitx_tuple I.kIn ⟨o,h1,h2⟩ e (fun z=>nomatch z) h
 | list ds=>
  obtain⟨a,xs,e1,e2,e3⟩:=r;subst e1;cases rv;obtain⟨its,_,⟨o,n,h1,h2,_⟩,_⟩:=I.list (SqL.of e2);exact PySem.W.kia_one PySem.W.kitx_list I.kIn ⟨o,h1,h2⟩ e (fun z=>nomatch z) h
 | dict ds=>
  obtain⟨a,e1,⟨ns,e2,e3⟩ | ⟨ks,ob,e2,e3⟩ | ⟨x,e2,_⟩ | ⟨x,_,_,e2,_⟩ | e2⟩:=r
  ·subst e1;cases rv
   subst e3;have e:PySem.W.kitOne X.K (.type "list") c=some b:=by simpa[tyn,ad3]using e
   obtain⟨its,_,⟨o,n,h1,h2,_⟩,_⟩:=I.list e2;exact PySem.W.kia_one PySem.W.kitx_list I.kIn ⟨o,h1,h2⟩ e (fun z=>nomatch z) h
  ·subst e1;cases rv
   obtain⟨cc,rr,rfl,e4⟩:=e3.out;have e:PySem.W.kitOne X.K (.type "dict") c=some b:=by simpa[tyn,zK]using e
   obtain⟨_,_,vs,_,dd⟩:=agk I.hok (.inr ⟨ob,e2⟩);obtain⟨o,es,ep,h1,h2,_⟩:=dd;exact PySem.W.kia_one PySem.W.kitx_dict I.kIn ⟨o,h1,h2.1⟩ e (fun z=>nomatch z) h
  ·subst e2;simp[isFn]at hF
  ·subst e2;simp[isFn]at hF
  ·subst e2;simp[isFn]at hF
noncomputable def asN(K:Fg)(T:String):List V->Hp->VK->Prop:=fun xs H Q=>∃x d b,xs=[x,.ty T]/\Rep K H d x/\isFn d=false/\PySem.W.kitOne K (.type (tyn d)) (.type T)=some b/\Q (.bl b) H
theorem ags{T:String}:zh X (.builtin "isinstance") (asN X.K T):=by
 intro Kp s σ H xs us Q I r ⟨x,d,b,e,h1,hF,h2,q⟩;subst e;obtain⟨u,w',rfl,r1,r2⟩:=ai0 r;cases (show w'=_ from r2);exact alN I h1 hF r1 h2 fun tk=>⟨.bl b,H,I.tok tk,rfl,q⟩
noncomputable def JG(T:String)(d:PyData):Bool:=tyn d==T||(T=="int" && tyn d=="bool")
@[simp] theorem arb(T:String):Q0 T .none=some (.bool (JG T .none)):=rfl
@[simp] theorem arc(T:String)(b:Bool):Q0 T (.bool b)=some (.bool (JG T (.bool b))):=rfl
@[simp] theorem arL(T:String)(i:Int):Q0 T (.int i)=some (.bool (JG T (.int i))):=rfl
@[simp] theorem arM(T:String)(x:Str):Q0 T (.str x)=some (.bool (JG T (.str x))):=rfl
@[simp] theorem aqo(T:String)(ds:LP):Q0 T (.tuple ds)=some (.bool (JG T (.tuple ds))):=rfl
@[simp] theorem ard(T:String)(ds:LP):Q0 T (.list ds)=some (.bool (JG T (.list ds))):=rfl
theorem agt{T:String}{d e:PyData}(h:Q0 T d=some e):isFn d=false/\e= .bool (JG T d):=by
 unfold Q0 at h;split at h
 ·cases h
 ·rename_i hf;cases h;exact⟨by simpa using hf,rfl⟩
theorem aoa{K:Fg}{T:String}(hT:T="bool" ∨ T="int" ∨ T="tuple")(d:PyData):PySem.W.kitOne K (.type (tyn d)) (.type T)=some (JG T d):=by
 rcases hT with rfl|rfl|rfl<;>cases d<;>first|rfl | (rename_i kvs;by_cases h:zK kvs=true<;>simp only[tyn,JG,h]<;>rfl)
theorem Qh{a:Expr}{fa:RP}{T:Str}{Tn:String}{p p2 pos:Pos}(hT:Tn="bool" ∨ Tn="int" ∨ Tn="tuple")(hm1:X.mg "isinstance"=none)(hm2:X.mg T=none)(hv:bootBuiltins T=some (.type Tn))(ha:PD X a fa)
  (hg1:Gl X "isinstance":=by rfl) (hg2:Gl X T:=by rfl) (hn:T≠"__name__":=by decide) (hd:(T==("__debug__":Str))=false:=by decide)
  (he:starEach [a,.Name T p2] X.env=[(false,eval a X.env),(false,eval (.Name T p2) X.env)]:=by rfl) (he2:starEach [.Name T p2] X.env=[(false,eval (.Name T p2) X.env)]:=by rfl) (hpl:(backTo pos (starEach [.Name T p2] X.env)).any (·.1)=false:=by rfl):
  PD X (.Call (.Name "isinstance" p) [a,.Name T p2] [] pos) (fun ρ=>(fa ρ).bind fun d=>Q0 Tn d):=by
 with_unfolding_all
  have hT2:PE X (.Name T p2) (tC (.ty Tn)):=aiV hg2 hm2 hv rfl hn hd;refine PE.imp (aac (ags (T:=Tn)) hg1 hm1 (by decide +kernel) (qG ha (qG hT2 Jk (by rw[he2];rfl)) (by rw[he,he2])) (by decide) (by decide) (by rw[he,he2]) hpl) fun σ H Q ⟨ρ,d,en,q,k⟩=>?_;cases h1:fa ρ with
  |none=>simp[h1]at q
  | some c=>
   obtain⟨hF,rfl⟩:=agt (show Q0 Tn c=some d by simpa[h1]using q);exact⟨ρ,c,en,h1,fun v H1 s1 r1=>⟨v,c,_,rfl,r1,hF,aoa hT c,k _ H1 s1 rfl⟩⟩
end
noncomputable def Jf(H H':Hp):Prop:=∀b o,H b=some o->(∀xs,o ≠ .lst xs)->H' b=some o
theorem jp.n{H H':Hp}(e:jp H H'):Jf H H':=fun b o h _=>e b o h
theorem Jf.refl(H:Hp):Jf H H:=fun _ _ h _=>h
theorem Jf.trans{H H1 H2:Hp}(a:Jf H H1)(b:Jf H1 H2):Jf H H2:=fun c o h n=>b c o (a c o h n) n
theorem Jf.upd{H:Hp}{p:Addr}{xs ys:List V}(hp:H p=some (.lst xs)):Jf H (upd H p (.lst ys)):=fun b o h n=>by
 have:b≠p:=fun e=>by subst e;rw[hp]at h;cases h;exact n _ rfl
 rw[js this];exact h
mutual
noncomputable def noL:PyData->Bool
 |.none=>true
 |.bool _=>true
 |.int _=>true
 |.str _=>true
 |.tuple ds=>noLs ds
 |.list _=>false
 |.dict _=>false
noncomputable def noLs:LP->Bool
 | []=>true
 |d::ds=>noL d&&noLs ds
end
section
variable {K:Fg}{H H':Hp}
theorem Jf.tup{a:Addr}{xs:List V}(e:Jf H H')(h:SqT K H a xs):SqT K H' a xs:=by
 rcases h with (h | ⟨o,h⟩) | h
 ·exact .inl (.inl (e _ _ h fun _ z=>nomatch z))
 ·exact .inl (.inr ⟨o,e _ _ h fun _ z=>nomatch z⟩)
 ·exact .inr h
mutual
theorem Rep.monoN(e:Jf H H'):∀(d:PyData) (v:V),noL d=true->Rep K H d v->Rep K H' d v
 |.none,v,_,h=>h
 |.bool _,v,_,h=>h
 |.int _,v,_,h=>h
 |.str _,v,_,h=>h
 |.tuple ds,v,n,⟨a,xs,h1,h2,h3⟩=>⟨a,xs,h1,Jf.tup e h2,Reps.monoN e ds xs (by simpa[noL]using n) h3⟩
 |.list ds,v,n,h=>by simp[noL]at n
 |.dict ds,v,n,h=>by simp[noL]at n
theorem Reps.monoN(e:Jf H H'):∀(ds:LP) (xs:List V),noLs ds=true->Reps K H ds xs->Reps K H' ds xs
 | [],xs,_,h=>h
 | d::ds,xs,n,⟨x,r,h1,h2,h3⟩=>by
  have n':noL d=true/\noLs ds=true:=by simpa[noLs]using n
  exact⟨x,r,h1,Rep.monoN e d x n'.1 h2,Reps.monoN e ds r n'.2 h3⟩
end
theorem Q9:∀(ds es:LP),noLs (ds++es)=(noLs ds&&noLs es)
 | [],es=>by simp[noLs]
 |d::ds,es=>by simp[noLs,Q9 ds es,Bool.and_assoc]
theorem agu:∀{ds:LP},(∀d∈ds,noL d=true)->noLs ds=true
 | [],_=>rfl
 |d::ds,h=>by simp[noLs,h d List.mem_cons_self,agu fun x hx=>h x (List.mem_cons_of_mem _ hx)]
end
end BX
end
section
namespace BX
open PySem PySem.Spec L2
open PyProof.Rows hiding St
noncomputable def jj(P:Program)(w:World)(K:Fg)(mg:SV)(base:Heap)(x:Str)(ps:List Str)(k n:Nat)(g:LP->OP):Prop:=
 ∃(f:Addr) (fd:FuncData),FnOk P w K mg base CX0 k f fd ps (Pur K n g)/\mg x=some (.ref f)/\PySem.W.keepIn K (.ref f)=true/\JS K fd ps []
theorem jm:∀(ρ:Rho) (ds:LP),jF ρ=some ds->ds.length=0:=fun ρ ds h=>by cases h;rfl
theorem jc{fa:RP}{fr:Rho->Option (LP)}{n:Nat}(h:∀(ρ:Rho) (ds:LP),fr ρ=some ds->ds.length=n):∀(ρ:Rho) (ds:LP),jr fa fr ρ=some ds->ds.length=n+1:=fun ρ ds q=>by
 cases h1:fa ρ with
 |none=>simp[jr,h1]at q
 | some x=>
  cases h2:fr ρ with
  |none=>simp[jr,h1,h2]at q
  | some r=>
   have:x::r=ds:=by simpa[jr,h1,h2]using q
   subst this;simp[h ρ r h2]
section
variable {X:Cx}{e:Expr}{es:List Expr}{pos:Pos}
theorem jl{k j n:Nat}{ps:List Str}{g:LP->OP}{x:Str}{p:Pos}{fr:Rho->Option (LP)}(c:jj X.prog X.w X.K X.mg X.base x ps k n g)(hr:Room j X.A)(hkj:k<=j)(ha:PAD X (e::es) fr)
  (hl:∀(ρ:Rho) (ds:LP),fr ρ=some ds->ds.length=n) (hn:(e::es).length=n:=by rfl) (hg:Gl X x:=by rfl) (hdb:(x==("__debug__":Str))=false:=by decide) (he:starEach (e::es) X.env=(false,eval e X.env)::starEach es X.env:=by rfl)
  (hpl:(backTo pos (starEach es X.env)).any (·.1)=false:=by rfl):PD X (.Call (.Name x p) (e::es) [] pos) (jL g fr):=by
 with_unfolding_all
  obtain⟨f,fd,h1,h2,h3,h4⟩:=c;exact an5 h1 (hr.mono hkj) h2 h3 h4 hn ha (fun ρ ds q=>by rw[hl ρ ds q,hn]) hg hdb he hpl
end
theorem aah{ft:Rho->Option Bool}{fe:RP}{i:Nat}(p:PyData->Bool)(h:PyData->PyData):∀(ds:LP) (τ:Rho),(∀d∈ds,ft (τ.set i (some d))=some (p d))->(∀d∈ds,p d=true->fe (τ.set i (some d))=some (h d))->
  qp (j9 i) ft fe ds τ=some ((ds.filter p).map h)
 | [],τ,_,_=>rfl
 | d::ds,τ,h1,h2=>by
  have ih:=aah p h ds (τ.set i (some d)) (fun c hc=>by rw[List.set_set];exact h1 c (List.mem_cons_of_mem _ hc)) (fun c hc hp=>by rw[List.set_set];exact h2 c (List.mem_cons_of_mem _ hc) hp);simp only[qp,j9,zzD,h1 d List.mem_cons_self];by_cases hp:p d=true
  ·simp[hp,h2 d List.mem_cons_self hp,ih,List.filter_cons]
  ·simp[hp,ih,List.filter_cons]
theorem Jw{fe:RP}{i:Nat}(h:PyData->PyData)(ds:LP)(τ:Rho)(h2:∀d∈ds,fe (τ.set i (some d))=some (h d)):qp (j9 i) aqg fe ds τ=some (ds.map h):=by
 rw[aah (fun _=>true) h ds τ (fun _ _=>rfl) (fun d hd _=>h2 d hd),List.filter_eq_self.mpr (fun _ _=>rfl)]
noncomputable def ajj(st:Scope)(N:List Str)(sc:Scope)(N':List Str)(cap:List (Option Nat)):Bool:=
 sc.names.all (fun x=>!decide (x.2= .free)||decide (st.names.lookup x.1=some .cell)||decide (st.names.lookup x.1=some .free))&&sc.names.all (fun x=>!decide (x.2= .cell))&&decide (sc.kind= .function) &&
 sc.names.all (fun x=>!decide (x.2= .local)||decide (sc.names.lookup x.1=some .local))&&decide (cap.length=N'.length) &&
 (List.range N'.length).all (fun j=>match N'[j]?,cap[j]? with
  | some x,some (some i)=>decide (N[i]?=some x) && decide (sc.names.lookup x=some .free)
  | _,_=>true)
theorem Ja{X:Cx}{sc:Scope}{N':List Str}{cap:List (Option Nat)}(st:Scope)(N:List Str)(h:ajj st N sc N' cap=true)(hst:X.env.scope=st:=by rfl)(hN:X.N=N:=by rfl):CompOk X sc N' cap:=by
 simp only[ajj,Bool.and_eq_true,List.all_eq_true,Bool.or_eq_true,Bool.not_eq_true',decide_eq_true_eq,decide_eq_false_iff_not]at h;obtain⟨⟨⟨⟨⟨h1,h2⟩,h3⟩,h4⟩,h5⟩,h6⟩:=h;subst hst;subst hN;refine⟨fun x hx e=>?_,h2,h3,fun x hx e=>?_,h5,fun j i x e1 e2=>?_⟩
 ·rcases h1 x hx with (z | z) | z
  ·exact absurd e z
  ·exact .inl z
  ·exact .inr z
 ·rcases h4 x hx with z | z
  ·exact absurd e z
  ·exact z
 ·have hj:j<N'.length:=(List.getElem?_eq_some_iff.mp e1).1
  have:=h6 j (List.mem_range.mpr hj);rw[e1,e2]at this;simpa using this
noncomputable def Cx.inB(X:Cx):Cx:={ X with A:=X.A.in1,xe:=NoX }
theorem Cx.Ok.inB{X:Cx}(ok:X.Ok):(Cx.inB X).Ok:=
 ⟨ok.mod,ok.kind,ok.glob,ok.blt,ok.above,ok.inj,ok.has,ok.cab,fun h=>ok.hd h,ok.frames,ok.stk,ok.exf,ok.bs,ok.bsz,ok.noex,ok.exfs,ok.funs,ok.frf⟩
theorem Cx.Ok.outB{X:Cx}(ok:(Cx.inB X).Ok):X.Ok:=
 ⟨ok.mod,ok.kind,ok.glob,ok.blt,ok.above,ok.inj,ok.has,ok.cab,fun h=>ok.hd h,ok.frames,ok.stk,ok.exf,ok.bs,ok.bsz,ok.noex,ok.exfs,ok.funs,ok.frf⟩
section
variable {X:Cx}{Kp:List (Addr×Obj)}{σ:St}{H:Hp}{s:Shared}
theorem Inv.inB(I:Inv X Kp σ H s):Inv (Cx.inB X) Kp σ H s:=⟨Cx.Ok.inB I.ok,I.os,I.bare,I.base,I.loc,I.cell,I.free,I.freeC,I.pin,I.hok,I.len⟩
theorem Inv.outB(I:Inv (Cx.inB X) Kp σ H s):Inv X Kp σ H s:=⟨Cx.Ok.outB I.ok,I.os,I.bare,I.base,I.loc,I.cell,I.free,I.freeC,I.pin,I.hok,I.len⟩
end
theorem arN{prog:Program}{w:World}{A:Around}{E:Value->SP0}{s:Shared}{a b:Int}{t u:Tok}{Q:Value->SP0}(h:Q (.bool (decide (a<b))) s):wpAny (model prog w) A (richCompare .Lt (.int a t) (.int b u)) Q E s:=
 CmpOf.ints_lt (prog:=prog) (w:=w) (A:=A) (P:=fun (i:Nat) v=>∃t,v= .int (if i=0 then a else b) t) (fun i=>if i=0 then a else b) (fun _ _ q=>q) 0 1 _ _ _ _ _ ⟨t,rfl⟩ ⟨u,rfl⟩ h
noncomputable def Qq(kf:PyData->Int):PyData->LP->PyData
 |b,[]=>b
 |b,d::r=>if kf d<kf b then Qq kf d r else Qq kf b r
noncomputable def acM(kf:PyData->Int):OP->LP->PyData
 |none,[]=> .none
 |none,d::r=>Qq kf d r
 |some b,r=>Qq kf b r
noncomputable def lob(us:Array Value)(c:Nat):Obj:={ cls:= .type "list",data:= .seq us c }
structure Own1(X:Cx)(Kp:List (Addr×Obj))(b:Addr):Prop where
 h1:b≠X.env.locals
 h2:b∉X.fs
 h3:X.s₀.heap.objs.size<=b
 h4:∀x c,X.env.cells.lookup x=some c->c≠b
 h5:∀p∈X.pn++Kp,p.1≠b
noncomputable def alO(K:Fg)(H:Hp)(h:Heap)(S:Addr)(kf:PyData->Int):OP->Prop
 |none=>∃c,h.get? S=some (lob #[] c)
 |some b=>∃x u t c,Rep K H b x/\jT x u/\h.get? S=some (lob #[u,.int (kf b) t] c)
theorem ab0{h:Heap}{S:Addr}{us ws:Array Value}{c:Nat}(ho:h.get? S=some (lob us c)):∃c2,(h.update S (Obj.mapSeq fun _=>ws)).get? S=some (lob ws c2):=by
 have e:=Heap.get?_update_self (Obj.mapSeq fun _=>ws) ho rfl;exact⟨_,e⟩
theorem aai:(toString "min"++toString ".loop":String)="min.loop":=by decide
theorem akk{X:Cx}{k:Nat}{f:Addr}{fd:FuncData}{ps:List Str}{g:LP->OP}{kf:PyData->Int}{ds:LP}{xs:List V}{l it S:Addr}{Kp:List (Addr×Obj)}{σ:St}{R:Result->SP0}(hc:X.calm=true)
  (FO:FnOk X.prog X.w X.K X.mg X.base CX0 k f fd ps (Pur X.K 1 g)) (hr:Room (k+1) X.A) (hb:JS X.K fd ps []) (hk:∀d∈ds,g [d]=some (.int (kf d))) (oI:Own1 X Kp it) (oS:Own1 X Kp S) (nIS:it≠S) (nlI:l≠it) (nlS:l≠S):
  ∀(r:LP) (i:Nat) (bo:OP) (s:Shared) (H:Hp),ds.drop i=r->Inv (Cx.inB X) Kp σ H s->H l=some (.lst xs)->Reps X.K H ds xs->H it=none->H S=none->s.heap.IsListIter it l i->alO X.K H s.heap S kf bo->
   (∀v u s' H',Inv (Cx.inB X) Kp σ H' s'->jp H H'->jT v u->Rep X.K H' (acM kf bo r) v->R (.ok (.ret u)) s')->
   codeAny (model X.prog X.w) X.A (.builtin "min.loop" ⟨[.ref it,.ref f,.ref S],[("default",.none)]⟩) R s:=by
 have fpo:∀{b:Addr} {H:Hp} {pl:List (Addr×Obj)},Own1 X Kp b->H b=none->(∀p∈pl,p.1≠b)->aeH (Cx.inB X) (Kp++pl) H b:=fun {b H pl} o hn hp=>⟨hn,o.h1,o.h2,.inr o.h3,o.h4,fun p hq z=>by
  rcases List.mem_append.mp (show p ∈ X.pn++(Kp++pl) from hq) with q | q
  ·exact o.h5 p (List.mem_append_left _ q) z
  ·rcases List.mem_append.mp q with q | q
   ·exact o.h5 p (List.mem_append_right _ q) z
   ·exact hp p q z⟩
 intro r
 induction r with
 | nil=>
  intro i bo s H hd I hl hR hI hS st hB fin;obtain⟨its,rv,p,hz⟩:=I.list (SqL.of (K:=X.K) hl)
  have hle:ds.length<=i:=by
   have:=congrArg List.length hd;simp at this;omega
  have hlen:=hR.length;have hvl:=rv.length;have f0:=fpo (pl:=[]) oI hI (fun _ z=>nomatch z);obtain⟨q0,q1,q2,q3,q4,q5⟩:=f0;refine codeAny_builtin PySem.F.entry_min_loop ?_;rw[Around.under_plainId PySem.F.plain_min_loop _];cases bo with
  | none=>
   obtain⟨c,hSo⟩:=hB;refine wpAny_bind (m:=seqItems? (.ref S)) (wpAny_seqItems hSo rfl ?_);refine wpAny_bind (m:=tryCatch (pyNext (.ref it)) _) (wpAny_tryCatch (wpAny_pyNext_list_end (I.ok.hd hc) st p.isList (by simp;omega) fun h' eb=>?_));have I1:Inv (Cx.inB X) Kp σ H { s with heap:=h' }:=I.turned (t':=s.toks) (it:=it) (fun b o hb e=>eb b o hb e) hI oI.h1 (.inr oI.h3) oI.h4 oI.h5;refine wpAny_bind (m:=rule _) (wpAny_rule ?_);exact wpAny_pure (fin .non _ _ H I1 (jp.refl H) rfl rfl)
  | some b=>
   obtain⟨x,u,t,c,rx,ru,hSo⟩:=hB;refine wpAny_bind (m:=seqItems? (.ref S)) (wpAny_seqItems hSo rfl ?_);refine wpAny_bind (m:=tryCatch (pyNext (.ref it)) _) (wpAny_tryCatch (wpAny_pyNext_list_end (I.ok.hd hc) st p.isList (by simp;omega) fun h' eb=>?_));have I1:Inv (Cx.inB X) Kp σ H { s with heap:=h' }:=I.turned (t':=s.toks) (it:=it) (fun b o hb e=>eb b o hb e) hI oI.h1 (.inr oI.h3) oI.h4 oI.h5;have hS1:h'.get? S=some (lob #[u,.int (kf b) t] c):=eb S _ (Ne.symm nIS) hSo;refine wpAny_bind (m:=updateSeq S fun _=>#[]) ?_;refine wpAny_updateSeq hS1 rfl (wpAny_bind (wpAny_letGo (wpAny_pure ?_)));have I2:Inv (Cx.inB X) Kp σ H { s with heap:=h'.update S (Obj.mapSeq fun _=>(#[]:Array Value)) }:=Inv.turned (s:={ s with heap:=h' }) I1 (t':=s.toks) (it:=S) (fun b o hb e=>((Heap.SameBut.update h' S _).2 b hb).trans e) hS oS.h1 (.inr oS.h3) oS.h4 oS.h5;exact fin x u _ H I2 (jp.refl H) ru rx
 | cons d r ih=>
  intro i bo s H hd I hl hR hI hS st hB fin;obtain⟨its,rv,p,hz⟩:=I.list (SqL.of (K:=X.K) hl)
  have hi:ds[i]?=some d:=by
   have:(ds.drop i)[0]?=some d:=by rw[hd];rfl
   simpa using this
  have hd':ds.drop (i+1)=r:=by
   have:(ds.drop i).drop 1=r:=by rw[hd];rfl
   simpa[List.drop_drop,Nat.add_comm]using this
  have hmem:d∈ds:=List.mem_of_getElem? hi;obtain⟨x,hx,rx⟩:=hR.get hi;obtain⟨u,hu,ru⟩:=rv.get hx;refine codeAny_builtin PySem.F.entry_min_loop ?_;rw[Around.under_plainId PySem.F.plain_min_loop _]
  obtain⟨olds,hSo⟩:∃olds:Obj,s.heap.get? S=some olds/\(∀v,olds.data ≠ .cell v):=by
   cases bo with
   |none=>obtain⟨c,e⟩:=hB;exact⟨_,e,fun v z=>by cases z⟩
   |some b=>obtain⟨_,_,_,c,_,_,e⟩:=hB;exact⟨_,e,fun v z=>by cases z⟩
  obtain⟨hSo,hSc⟩:=hSo
  have nxt:∀{Q2:Option Value->SP0} {E2:Value->SP0},(∀h' oi,Inv (Cx.inB X) (Kp++[(S,olds),(it,oi)]) σ H { s with heap:=h' }->(oi.cls= .type "list_iterator"/\oi.data= .fields #[.ref l,.int ((i+1:Nat):Int) 0])->Q2 (some u) { s with heap:=h' })->
    wpAny (model X.prog X.w) X.A.in1 (pyNext (.ref it)) Q2 E2 s:=by
   intro Q2 E2 go;refine wpAny_pyNext_list_item st p.isList (x:=u) (by simpa using hu) fun h' st' sb=>?_;have I1:Inv (Cx.inB X) Kp σ H { s with heap:=h' }:=I.turned (t':=s.toks) (it:=it) (fun b o hb e=>(sb.2 b hb).trans e) hI oI.h1 (.inr oI.h3) oI.h4 oI.h5;have hS1:h'.get? S=some olds:=(sb.2 S (Ne.symm nIS)).trans hSo;obtain⟨oi,hoi,hci,hdi⟩:=id st';refine go h' oi (I1.pins_of fun q hq=>?_) ⟨hci,hdi⟩;rcases List.mem_append.mp hq with z | z
   ·exact I1.pin q (List.mem_append_right _ z)
   ·rcases List.mem_cons.mp z with e | z
    ·subst e;exact⟨hS1,hS,oS.h1,oS.h2,hSc⟩
    ·have e:q=(it,oi):=by simpa using z
     subst e;exact⟨hoi,hI,oI.h1,oI.h2,fun v z=>by rw[hdi]at z;cases z⟩
  have key:∀{Q3:Value->SP0} {E3:Value->SP0} {h':Heap} {oi:Obj},Inv (Cx.inB X) (Kp++[(S,olds),(it,oi)]) σ H { s with heap:=h' }->(oi.cls= .type "list_iterator"/\oi.data= .fields #[.ref l,.int ((i+1:Nat):Int) 0])->
    (∀t s2 H2,Inv (Cx.inB X) Kp σ H2 s2->jp H H2->H2 it=none->H2 S=none->s2.heap.IsListIter it l (i+1)->s2.heap.get? S=some olds->Q3 (.int (kf d) t) s2)->wpAny (model X.prog X.w) X.A.in1 (call (.ref f) [u]) Q3 E3 { s with heap:=h' }:=by
   intro Q3 E3 h' oi I1p ho go;have kk:(Pur X.K 1 g) [x] H (fun v H2=>v= .int (kf d)/\jp H H2) E0:=⟨[d],.int (kf d),rfl,⟨x,[],rfl,rx,rfl⟩,hk d hmem,fun v H2 s2 r2=>⟨r2,s2⟩⟩;refine wpAny_mono (ahD (X:=Cx.inB X) (dvs:=[]) (ds:=[]) (E:=E0) FO (Room.in1 hr) hb .nil ai7 I1p (.cons ru .nil) (by simpa using kk)) (fun kv s2 h2=>?_) fun _ _ z=>z.elim;obtain⟨v2,H2,I2,r2,e2,s2'⟩:=h2;subst e2;obtain⟨t,rfl⟩:=r2;have pS:=I2.pin (S,olds) (List.mem_append_right _ (List.mem_append_right _ (by simp)));have pI:=I2.pin (it,oi) (List.mem_append_right _ (List.mem_append_right _ (by simp)));have I2d:Inv (Cx.inB X) Kp σ H2 s2:=I2.pins_of fun q hq=>I2.pin q (List.mem_append_right _ (List.mem_append_left _ hq));exact go t s2 H2 I2d s2' pI.2.1 pS.2.1 ⟨oi,pI.1,ho.1,ho.2⟩ pS.1
  have back:∀{b2:PyData} {s2:Shared} {H2:Hp},Inv (Cx.inB X) Kp σ H2 s2->jp H H2->H2 it=none->H2 S=none->s2.heap.IsListIter it l (i+1)->alO X.K H2 s2.heap S kf (some b2)->acM kf bo (d::r)=acM kf (some b2) r->
    codeAny (model X.prog X.w) X.A (.builtin "min.loop" ⟨[.ref it,.ref f,.ref S],[("default",.none)]⟩) R s2:=fun {b2 s2 H2} I2 s12 hI2 hS2 st2 hB2 em=>
   ih (i+1) (some b2) s2 H2 hd' I2 (s12 _ _ hl) (Reps.mono s12 _ _ hR) hI2 hS2 st2 hB2 fun v u s' H' I' s' r' q'=>fin v u _ H' I' (s12.trans s') r' (by rw[em];exact q')
  cases bo with
  | none=>
   obtain⟨c,hSn⟩:=hB;rw[hSn]at hSo;cases hSo;refine wpAny_bind (m:=seqItems? (.ref S)) (wpAny_seqItems hSn rfl ?_);refine wpAny_bind (m:=tryCatch (pyNext (.ref it)) _) (wpAny_tryCatch (nxt fun h' oi I1p ho=>?_));refine wpAny_bind (m:=tryCatch (holding [u] (call (.ref f) [u])) _) (wpAny_tryCatch (wpAny_holding (key I1p ho fun t s2 H2 I2 s12 hI2 hS2 st2 hS2o=>?_)));refine wpAny_bind (m:=updateSeq S fun _=>#[u,.int (kf d) t]) ?_;refine wpAny_updateSeq hS2o rfl ?_;obtain⟨c2,hc2⟩:=ab0 (ws:=#[u,.int (kf d) t]) hS2o;have sb:=Heap.SameBut.update s2.heap S (Obj.mapSeq fun _=>#[u,.int (kf d) t]);have I3:Inv (Cx.inB X) Kp σ H2 { s2 with heap:=s2.heap.update S (Obj.mapSeq fun _=>#[u,.int (kf d) t]) }:=I2.turned (t':=s2.toks) (it:=S) (fun b o hb e=>(sb.2 b hb).trans e) hS2 oS.h1 (.inr oS.h3) oS.h4 oS.h5;obtain⟨oi,e1,e2⟩:=st2;rw[aai];exact wpAny_pure ⟨plainId_quiet PySem.F.plain_min_loop _,back (b2:=d) I3 s12 hI2 hS2 ⟨oi,(sb.2 it nIS).trans e1,e2⟩ ⟨x,u,t,c2,Rep.mono s12 _ _ rx,ru,hc2⟩ rfl⟩
  | some b=>
   obtain⟨xb,ub,tb,c,rb,rub,hSn⟩:=hB;rw[hSn]at hSo;cases hSo;refine wpAny_bind (m:=seqItems? (.ref S)) (wpAny_seqItems hSn rfl ?_);refine wpAny_bind (m:=tryCatch (pyNext (.ref it)) _) (wpAny_tryCatch (nxt fun h' oi I1p ho=>?_));refine wpAny_bind (m:=tryCatch (holding [u] (call (.ref f) [u])) _) (wpAny_tryCatch (wpAny_holding (key I1p ho fun t s2 H2 I2 s12 hI2 hS2 st2 hS2o=>?_)));refine wpAny_bind (m:=tryCatch (holding [u,.int (kf d) t] (richCompare .Lt (.int (kf d) t) (.int (kf b) tb) >>= _)) _) (wpAny_tryCatch (wpAny_holding (wpAny_bind (arN ?_))));refine wpAny_bind (wpAny_holding (wpAny_truthy_bool ?_));refine wpAny_bind (wpAny_letGo (wpAny_pure ?_));by_cases hlt:kf d<kf b
   ·simp only[hlt,decide_true,zzM]
    refine wpAny_bind (m:=updateSeq S fun _=>#[u,.int (kf d) t]) ?_;refine wpAny_updateSeq hS2o rfl (wpAny_bind (wpAny_letGo ?_));obtain⟨c2,hc2⟩:=ab0 (ws:=#[u,.int (kf d) t]) hS2o;have sb:=Heap.SameBut.update s2.heap S (Obj.mapSeq fun _=>#[u,.int (kf d) t]);have I3:Inv (Cx.inB X) Kp σ H2 { s2 with heap:=s2.heap.update S (Obj.mapSeq fun _=>#[u,.int (kf d) t]) }:=I2.turned (t':=s2.toks) (it:=S) (fun b o hb e=>(sb.2 b hb).trans e) hS2 oS.h1 (.inr oS.h3) oS.h4 oS.h5;obtain⟨oi,e1,e2⟩:=st2;rw[aai];exact wpAny_pure ⟨plainId_quiet PySem.F.plain_min_loop _,back (b2:=d) I3 s12 hI2 hS2 ⟨oi,(sb.2 it nIS).trans e1,e2⟩ ⟨x,u,t,c2,Rep.mono s12 _ _ rx,ru,hc2⟩ (by simp[acM,Qq,hlt])⟩
   ·simp only[hlt,decide_false,zzL,zzN]
    refine wpAny_bind (wpAny_letGo ?_);rw[aai];exact wpAny_pure ⟨plainId_quiet PySem.F.plain_min_loop _,back (b2:=b) I2 s12 hI2 hS2 st2 ⟨xb,ub,tb,c,Rep.mono s12 _ _ rb,rub,hS2o⟩ (by simp[acM,Qq,hlt])⟩
theorem ahP(a v d:Value):argsOk "min" ⟨[a],[("key",v),("default",d)]⟩:=by unfold argsOk;kernel_rfl
theorem agv{X:Cx}{Kp:List (Addr×Obj)}{σ:St}{H:Hp}{s:Shared}(I:Inv X Kp σ H s){b:Addr}(hb:s.heap.objs.size<=b):Own1 X Kp b:=by
 obtain⟨_,h1,h2,h3,h4,h5⟩:=I.fpOk (H':=fun _=>none) hb rfl;exact⟨h1,h2,Nat.le_trans I.sz hb,h4,h5⟩
theorem ahQ{X:Cx}{k:Nat}{f:Addr}{fd:FuncData}{ps:List Str}{g:LP->OP}{kf:PyData->Int}{ds:LP}{xs:List V}{l:Addr}{Kp:List (Addr×Obj)}{σ:St}{H:Hp}{s:Shared}{Q:VK}(hc:X.calm=true)
  (FO:FnOk X.prog X.w X.K X.mg X.base CX0 k f fd ps (Pur X.K 1 g)) (hr:Room (k+1) X.A) (hb:JS X.K fd ps []) (hk:∀d∈ds,g [d]=some (.int (kf d))) (I:Inv X Kp σ H s) (hl:H l=some (.lst xs)) (hR:Reps X.K H ds xs)
  (q:∀v H',jp H H'->Rep X.K H' (acM kf none ds) v->Q v H'):
  wpAny (model X.prog X.w) X.A (call (.builtin "min") [.ref l] [("key",.ref f),("default",.none)]) (EP X Kp σ Q) X.xe s:=by
 obtain⟨its,rv,p,hz⟩:=I.list (SqL.of (K:=X.K) hl);have hlt:l<s.heap.objs.size:=I.hok.lt hl;refine PyProof.Rows.kmk_tree PySem.F.kind_min PySem.F.plain_min PySem.F.entry_min (ahP _ _ _) ?_
 refine wpAny_bind (m:=Builtin.Builtins.bindParams "min" ["key","default"] 0 ⟨[],[("key",.ref f),("default",.none)]⟩)
  (wpAny_of_eq (show _=pure [some (.ref f),some .none] from rfl) ?_)
 refine wpAny_bind (wpAny_pure ?_);refine wpAny_bind (wpAny_pyIter_list p.isList ?_);refine wpAny_bind (wpAny_newList ?_ (Nat.zero_le _));rw[aai];refine wpAny_pure ⟨plainId_quiet PySem.F.plain_min_loop _,?_⟩;generalize hh1:s.heap.push { cls:= .type "list_iterator",data:= .fields #[.ref l,.int 0 0] }=h1;have n1:h1.objs.size=s.heap.objs.size+1:=by rw[←hh1];exact Heap.size_push ..
 have k2:∀b o,s.heap.get? b=some o->(h1.push { cls:= .type "list",data:= .seq ([]:List Value).toArray }).get? b=some o:=fun b o e=>Heap.get?_push_of_some _ (by rw[←hh1];exact Heap.get?_push_of_some _ e);have I2:Inv X Kp σ H { s with heap:=h1.push { cls:= .type "list",data:= .seq ([]:List Value).toArray } }:=I.kept (t':=s.toks) k2
 refine akk (kf:=kf) hc FO hr hb hk (agv I (Nat.le_refl _)) (agv I (b:=h1.objs.size) (by rw[n1];exact Nat.le_succ _)) (by rw[n1];exact Nat.ne_of_lt (Nat.lt_succ_self _)) (Nat.ne_of_lt hlt) (by rw[n1];exact Nat.ne_of_lt (Nat.lt_succ_of_lt hlt))
  ds 0 none _ H rfl (Inv.inB I2) hl hR (I.hok.fresh (Nat.le_refl _)) (I.hok.fresh (by rw[n1];exact Nat.le_succ _)) ⟨_,Heap.get?_push_of_some _ (by rw[←hh1];exact Heap.get?_push_size _ rfl),rfl,rfl⟩ ⟨0,Heap.get?_push_size _ rfl⟩ fun v u s' H' I' s1 r' q'=>?_
 exact⟨v,H',Inv.outB I',r',q v H' s1 q'⟩
noncomputable def ZX(g:LP->OP)(ds:LP):Bool:=ds.all fun d=>((g [d]).bind QZ).isSome
noncomputable def Qr(g:LP->OP)(d:PyData):Int:=((g [d]).bind QZ).getD 0
noncomputable def ZY(g:LP->OP):PyData->OP
 |.list ds=>if ZX g ds=true then some (acM (Qr g) none ds) else none
 |_=>none
theorem akl{d:PyData}{i:Int}(h:QZ d=some i):d= .int i:=by
 cases d<;>simp[QZ]at h
 rw[h]
theorem alP{g:LP->OP}{ds:LP}(h:ZX g ds=true):∀d∈ds,g [d]=some (.int (Qr g d)):=fun d hd=>by
 have:=List.all_eq_true.mp h d hd;cases e:g [d]with
 |none=>simp[e]at this
 | some c=>
  cases e2:QZ c with
  |none=>simp[e,e2]at this
  | some i=>
   have:=akl e2;subst this;simp[Qr,e,QZ]
theorem aeW:bootBuiltins "min"=some (.builtin "min"):=by decide +kernel
theorem alQ:bootBuiltins "max"=some (.builtin "max"):=by decide +kernel
section
variable {X:Cx}{a:Expr}{fa:RP}{pos p p2 p3 kp kp2:Pos}{j3:Nat}
theorem alR{k j:Nat}{ps:List Str}{g:LP->OP}{x:Str}(hc:X.calm=true)(c:jj X.prog X.w X.K X.mg X.base x ps k 1 g)(hr:Room j X.A)(hkj:k+1<=j)(hm:X.mg "min"=none)(ha:PD X a fa)(hg:Gl X "min":=by rfl)(hgx:Gl X x:=by rfl)
  (hdb:(x==("__debug__":Str))=false:=by decide) (hs:starEach [a] X.env=[(false,eval a X.env)]:=by rfl):
  PD X (.Call (.Name "min" p) [a] [⟨some "key",.Name x p2,kp⟩,⟨some "default",.Constant .none j3 p3,kp2⟩] pos) (fun ρ=>(fa ρ).bind (ZY g)):=by
 with_unfolding_all
  obtain⟨f,fd,FO,hmx,hkp,hb⟩:=c;intro Kp s σ H Q I h;obtain⟨ρ,d,en,q,kq⟩:=h;cases h1:fa ρ with
  |none=>simp[h1]at q
  | some y=>
   have q':ZY g y=some d:=by simpa[h1]using q
   refine wpAny_Call_Name_kw (aaZ I hg hm aeW ?_);have hA:PA X [a] (agf (tD X.K fa) anN):=qG ha Jk (by rw[hs];rfl);have hK:PK X [⟨some "key",.Name x p2,kp⟩,⟨some "default",.Constant .none j3 p3,kp2⟩] (agf (tC (.ref f)) (agf (tC .non) anN)):=ai2 (aeC hgx hmx rfl hdb) (ai2 ak9 ap6);refine callWith_kw (thn (hA pos Kp s σ H (fun vs H1=>∃v,vs=[v]/\jp H H1/\Rep X.K H1 y v) I ⟨ρ,y,en,h1,fun v H1 s1 r1=>⟨v,rfl,s1,r1⟩⟩) fun us s1 ⟨vs,H1,I1,r1,v,e1,s1',rv⟩=>?_) (by rw[hs];rfl) (by rw[hs];rfl);subst e1;obtain⟨u,rfl,ru⟩:=QV r1;refine thn (hK pos Kp s1 σ H1 (fun zs H2=>zs=[.ref f,.non]/\H2=H1) I1 ⟨rfl,rfl⟩) fun ws s2 ⟨zs,H2,I2,r2,e2,e3⟩=>?_;subst e2;subst e3;obtain⟨w1,w2,rfl,a1,a2⟩:=ai0 r2;cases (show w1=_ from a1);cases (show w2=_ from a2);cases y with
   | list ds=>
    by_cases hko:ZX g ds=true
    ·have:acM (Qr g) none ds=d:=by simpa[ZY,hko]using q'
     subst this;obtain⟨l,xs,e4,e5,e6⟩:=rv;subst e4;cases (show u=_ from ru);exact ahQ (kf:=Qr g) hc FO (hr.mono hkj) hb (alP hko) I2 e5 e6 fun v H' s' r'=>kq v H' (s1'.trans s') r'
    ·simp[ZY,hko]at q'
   |_=>simp[ZY]at q'
end
noncomputable def ajk:Int->List Int->Int
 |b,[]=>b
 |b,d::r=>if d>b then ajk d r else ajk b r
noncomputable def aqp:Option Int->List Int->PyData
 |none,[]=> .none
 |none,d::r=> .int (ajk d r)
 |some b,r=> .int (ajk b r)
section
variable {X:Cx}{a:Expr}{fa:RP}{pos p p3 kp2:Pos}{j3:Nat}
end
end BX
end
section
namespace BX.Srt
open PySem PySem.W
open PyProof.Rows (mirror bubble mirror_size mirror_perm bubble_size bubble_perm getElem?_mirror_all getElem?_bubble)
section
variable (rk:Nat->Int)(n:Nat)
noncomputable def val(p:Array Nat)(k:Nat):Int:=rk (p.getD k 0)
noncomputable def QJ(p:Array Nat)(m:Nat):Prop:=∀i j,i<=j->j<m->val rk p i<=val rk p j
noncomputable def acN(p:Array Nat)(m:Nat):Prop:=∀i j,i<=j->j<m->val rk p j<=val rk p i
noncomputable def agw(p:Array Nat)(m q:Nat):Prop:=∀i,m-(q+1)<=i->i<m->val rk p i=val rk p (m-1)
noncomputable def OKp(p:Array Nat):Prop:=p.Perm (List.range n).toArray
end
section
variable {rk:Nat->Int}{n:Nat}{p p':Array Nat}
theorem OKp.size(h:OKp n p):p.size=n:=by
 have:=h.size_eq;simpa using this
theorem OKp.lt(h:OKp n p){k:Nat}(hk:k<n):p.getD k 0<n:=by
 have hs:=h.size;have e:p.getD k 0=p[k]'(by omega):=by simp[Array.getD,hs,hk]
 have:p[k]'(by omega)∈(List.range n).toArray:=h.mem_iff.mp (Array.getElem_mem _);rw[e];simpa using this
theorem QK(p:Array Nat)(k:Nat):p.getD k 0=(p[k]?).getD 0:=by simp[Array.getD_eq_getD_getElem?]
theorem ab1{i j k:Nat}(hj:j<=p.size):val rk (kas_rev p i j) k=if i<=k/\k<j then val rk p (i+j-1-k) else val rk p k:=by
 unfold val kas_rev;rw[QK,getElem?_mirror_all hj];by_cases h:i<=k/\k<j
 ·rw[if_pos h,if_pos h,←QK]
 ·rw[if_neg h,if_neg h,←QK]
theorem ajl{src d k:Nat}(hs:src<p.size)(hd:d<=src):val rk (bubble p src d) k=if k=src-d then val rk p src else if src-d<k/\k<=src then val rk p (k-1) else val rk p k:=by
 unfold val;rw[QK,getElem?_bubble hs d hd k];by_cases h:k=src-d
 ·rw[if_pos h,if_pos h,←QK]
 ·rw[if_neg h,if_neg h]
  by_cases h2:src-d<k/\k<=src
  ·rw[if_pos h2,if_pos h2,←QK]
  ·rw[if_neg h2,if_neg h2,←QK]
theorem OKp.rev(h:OKp n p)(i j:Nat):OKp n (kas_rev p i j):=(mirror_perm p i j _).trans h
theorem OKp.bub(h:OKp n p)(i j:Nat):OKp n (bubble p i j):=(bubble_perm p i j).trans h
theorem ZZ{m q k:Nat}(hm:m<=p.size)(hq:q+1<=m)(h:agw rk p m q):val rk (kas_rev p (m-(q+1)) m) k=val rk p k:=by
 rw[ab1 hm];split
 ·rename_i hk
  rw[h _ (by omega) (by omega),h k hk.1 hk.2]
 ·rfl
end
variable {rk:Nat->Int}{n:Nat}{cmp:Nat->Nat->(Bool->SP0)->SP0}
section
variable {s:Shared}(hc:∀i j (C:Bool->SP0),i<n->j<n->C (decide (rk i<rk j)) s->cmp i j C s)
include hc
theorem acO{α:Type}{p:Array Nat}{a b:Nat}{k:Bool->KasT α}{Q:α->SP0}(h:OKp n p)(ha:a<n)(hb:b<n)(h1:val rk p a<val rk p b->(k true).kasWp cmp Q s)(h2:val rk p b<=val rk p a->(k false).kasWp cmp Q s):
  (KasT.ask (p.getD a 0) (p.getD b 0) k).kasWp cmp Q s:=by
 refine hc _ _ _ (h.lt ha) (h.lt hb) ?_;by_cases hl:rk (p.getD a 0)<rk (p.getD b 0)
 ·simp only[hl,decide_true];exact h1 hl
 ·simp only[hl,decide_false];exact h2 (Int.not_lt.mp hl)
theorem ahR{p:Array Nat}(h:OKp n p):∀(f m:Nat) (Q:Nat->SP0),1<=m->m+f<=n->QJ rk p m->
  (∀m',m<=m'->m'<=m+f->QJ rk p m'->(m'=m+f∨val rk p m' < val rk p (m'-1))->Q m' s)->(kas_asc p f m).kasWp cmp Q s
 |0,m,Q,_,_,hs,k=>k m (Nat.le_refl _) (Nat.le_refl _) hs (.inl rfl)
 | f+1,m,Q,h1,h2,hs,k=>by
  refine acO hc h (by omega) (by omega) (fun hl=>?_) (fun hl=>?_)
  ·show(if true=true then KasT.ret m else kas_asc p f (m+1)).kasWp cmp Q s
   rw[if_pos rfl];exact k m (Nat.le_refl _) (by omega) hs (.inr hl)
  ·show(if false=true then KasT.ret m else kas_asc p f (m+1)).kasWp cmp Q s
   rw[if_neg Bool.false_ne_true];refine ahR h f (m+1) Q (by omega) (by omega) (fun i j hij hj=>?_) fun m' a1 a2 a3 a4=>k m' (by omega) (by omega) a3 (a4.elim (fun e=> .inl (by omega)) .inr);by_cases hjm:j<m
   ·exact hs i j hij hjm
   ·have ej:j=m:=by omega
    subst ej;by_cases him:i<j
    ·exact Int.le_trans (hs i (j-1) (by omega) (by omega)) hl
    ·have ei:i=j:=by omega
     subst ei;exact Int.le_refl _
theorem ab2:∀(f:Nat) (p:Array Nat) (m q:Nat) (Q:Array Nat×Nat×Nat->SP0),OKp n p->q+1<=m->m+f<=n->acN rk p m->agw rk p m q->
  (∀p' m' q',OKp n p'->q'+1<=m'->m'<=m+f->acN rk p' m'->agw rk p' m' q'->Q (p',m',q') s)->(kas_desc f p m q).kasWp cmp Q s
 |0,p,m,q,Q,h,h1,h2,hn,he,k=>k p m q h h1 (Nat.le_refl _) hn he
 | f+1,p,m,q,Q,h,h1,h2,hn,he,k=>by
  have hsz:=h.size
  have grow:∀{p':Array Nat},(∀i,val rk p' i=val rk p i)->val rk p m<=val rk p (m-1)->acN rk p' (m+1):=fun {p'} hv hl i j hij hj=>by
   rw[hv,hv];by_cases hjm:j<m
   ·exact hn i j hij hjm
   ·have ej:j=m:=by omega
    subst ej;by_cases him:i<j
    ·exact Int.le_trans hl (hn i (j-1) (by omega) (by omega))
    ·have ei:i=j:=by omega
     subst ei;exact Int.le_refl _
  refine acO hc h (by omega) (by omega) (fun hl=>?_) (fun hl=>?_)
  ·show(if true=true then (if q>0 then kas_desc f (kas_rev p (m-(q+1)) m) (m+1) 0 else kas_desc f p (m+1) 0) else _).kasWp cmp Q s
   rw[if_pos rfl]
   have er:∀{p':Array Nat},agw rk p' (m+1) 0:=fun {p'} i h3 h4=>by
    have e:i=m+1-1:=by omega
    rw[e]
   by_cases hq:q>0
   ·rw[if_pos hq]
    exact ab2 f _ (m+1) 0 Q (h.rev _ _) (by omega) (by omega) (grow (fun i=>ZZ (by omega) h1 he) (Int.le_of_lt hl)) er fun p' m' q' a1 a2 a3 a4 a5=>k p' m' q' a1 a2 (by omega) a4 a5
   ·rw[if_neg hq]
    exact ab2 f p (m+1) 0 Q h (by omega) (by omega) (grow (fun _=>rfl) (Int.le_of_lt hl)) er fun p' m' q' a1 a2 a3 a4 a5=>k p' m' q' a1 a2 (by omega) a4 a5
  ·show(if false=true then _ else KasT.ask (p.getD (m-1) 0) (p.getD m 0) fun d=>if d=true then .ret (p,m,q) else kas_desc f p (m+1) (q+1)).kasWp cmp Q s
   rw[if_neg Bool.false_ne_true];refine acO hc h (by omega) (by omega) (fun hl2=>?_) (fun hl2=>?_)
   ·show(if true=true then KasT.ret (p,m,q) else kas_desc f p (m+1) (q+1)).kasWp cmp Q s
    rw[if_pos rfl];exact k p m q h h1 (by omega) hn he
   ·show(if false=true then KasT.ret (p,m,q) else kas_desc f p (m+1) (q+1)).kasWp cmp Q s
    rw[if_neg Bool.false_ne_true];have eq:val rk p m=val rk p (m-1):=Int.le_antisymm hl2 hl;refine ab2 f p (m+1) (q+1) Q h (by omega) (by omega) (grow (fun _=>rfl) hl2) (fun i h3 h4=>?_) fun p' m' q' a1 a2 a3 a4 a5=>k p' m' q' a1 a2 (by omega) a4 a5;have e1:m+1-1=m:=by omega
    rw[e1];by_cases him:i<m
    ·rw[he i (by omega) him,eq]
    ·have ei:i=m:=by omega
     rw[ei]
theorem ajm{p:Array Nat}{m:Nat}{Q:Nat×Array Nat->SP0}(h:OKp n p)(h1:1<=m)(h2:m<=n)(hn:acN rk p m)(k:∀m' p',OKp n p'->1<=m'->m'<=n->QJ rk p' m'->Q (m',p') s):(kas_tail3 m n p).kasWp cmp Q s:=by
 have hsz:=h.size;unfold kas_tail3;rw[KasT.kasWp_bind];refine ahR hc (h.rev 0 m) (n-m) m _ h1 (by omega) (fun i j hij hj=>?_) fun m' a1 a2 a3 _=>k m' _ (h.rev 0 m) (by omega) (by omega) a3;rw[ab1 (by omega),ab1 (by omega),if_pos ⟨Nat.zero_le _,by omega⟩,if_pos ⟨Nat.zero_le _,hj⟩];exact hn _ _ (by omega) (by omega)
theorem abK{p:Array Nat}{m:Nat}{Q:Nat×Array Nat->SP0}(h:OKp n p)(h2:m+1<=n)(hn:acN rk p (m+1))(k:∀m' p',OKp n p'->1<=m'->m'<=n->QJ rk p' m'->Q (m',p') s):
  (kas_descPart m n p).kasWp cmp Q s:=by
 unfold kas_descPart;rw[KasT.kasWp_bind]
 have er:agw rk p (m+1) 0:=fun i h3 h4=>by
  have e:i=m+1-1:=by omega
  rw[e]
 refine ab2 hc (n-(m+1)) p (m+1) 0 _ h (by omega) (by omega) hn er fun p' m' q' a1 a2 a3 a4 a5=>?_;have hsz:=a1.size;show(if q'>0 then kas_tail3 m' n (kas_rev p' (m'-(q'+1)) m') else kas_tail3 m' n p').kasWp cmp Q s;by_cases hq:q'>0
 ·rw[if_pos hq]
  refine ajm hc (a1.rev _ _) (by omega) (by omega) (fun i j hij hj=>?_) k;rw[ZZ (by omega) a2 a5,ZZ (by omega) a2 a5];exact a4 i j hij hj
 ·rw[if_neg hq]
  exact ajm hc a1 (by omega) (by omega) a4 k
theorem alS{p:Array Nat}{Q:Nat×Array Nat->SP0}(h:OKp n p)(hn1:1<=n)(k:∀m' p',OKp n p'->1<=m'->m'<=n->QJ rk p' m'->Q (m',p') s):(kas_count n p).kasWp cmp Q s:=by
 have hsz:=h.size;unfold kas_count;rw[KasT.kasWp_bind]
 refine ahR hc h (n-1) 1 _ (Nat.le_refl _) (by omega) (fun i j hij hj=>by
  have e1:i=0:=by omega
  have e2:j=0:=by omega
  rw [e1,e2]; exact Int.le_refl _) fun m a1 a2 a3 a4=>?_
 by_cases hm:(m==n)=true
 ·rw[if_pos hm]
  exact k m p h a1 (by omega) a3
 ·rw[if_neg hm]
  have hmn:m≠n:=by simpa using hm
  have hlast:val rk p m<val rk p (m-1):=a4.resolve_left (by omega);by_cases hm1:m>1
  ·rw[if_pos hm1]
   refine acO hc h (by omega) (by omega) (fun hl=>?_) (fun hl=>?_)
   ·show(if true=true then KasT.ret (m,p) else _).kasWp cmp Q s
    rw[if_pos rfl];exact k m p h a1 (by omega) a3
   ·show(if false=true then KasT.ret (m,p) else kas_descPart m n (kas_rev p 0 m)).kasWp cmp Q s
    rw[if_neg Bool.false_ne_true]
    have alleq:∀i,i<m->val rk p i=val rk p (m-1):=fun i hi=>by
     have b1:=a3 i (m-1) (by omega) (by omega);have b2:=a3 0 i (Nat.zero_le _) hi;omega
    have hv:∀i,val rk (kas_rev p 0 m) i=val rk p i:=fun i=>by
     rw[ab1 (by omega)];split
     ·rename_i hi
      rw[alleq _ (by omega),alleq i hi.2]
     ·rfl
    refine abK hc (h.rev _ _) (by omega) (fun i j hij hj=>?_) k;rw[hv,hv];by_cases hjm:j<m
    ·rw[alleq j hjm,alleq i (by omega)];exact Int.le_refl _
    ·have ej:j=m:=by omega
     subst ej;by_cases him:i<j
     ·rw[alleq i him];exact Int.le_of_lt hlast
     ·have ei:i=j:=by omega
      rw[ei];exact Int.le_refl _
  ·rw[if_neg hm1]
   have em:m=1:=by omega
   subst em;refine abK hc h (by omega) (fun i j hij hj=>?_) k;by_cases hj0:j=0
   ·have:i=0:=by omega
    rw[this,hj0];exact Int.le_refl _
   ·have ej:j=1:=by omega
    subst ej;by_cases hi0:i=0
    ·rw[hi0];exact Int.le_of_lt hlast
    ·have ei:i=1:=by omega
     rw[ei];exact Int.le_refl _
theorem acP{p:Array Nat}{k:Nat}(h:OKp n p)(hk:k<n)(hs:QJ rk p k):∀(f l r:Nat) (Q:Nat->SP0),l<=r->r<=k->r-l<=f->(∀i,i<l->val rk p i<=val rk p k)->(∀i,r<=i->i<k->val rk p k<val rk p i)->
  (∀l',l'<=k->(∀i,i<l'->val rk p i<=val rk p k)->(∀i,l'<=i->i<k->val rk p k<val rk p i)->Q l' s)->(kas_place p k f l r).kasWp cmp Q s
 | 0,l,r,Q,h1,h2,h3,a,b,q=>by
  have e:l=r:=by omega
  subst e;exact q l h2 a b
 | f+1,l,r,Q,h1,h2,h3,a,b,q=>by
  show(if l >= r then KasT.ret l else .ask (p.getD k 0) (p.getD ((l+r) / 2) 0) fun c=>if c=true then kas_place p k f l ((l+r) / 2) else kas_place p k f ((l+r) / 2+1) r).kasWp cmp Q s;by_cases hlr:l >= r
  ·rw[if_pos hlr]
   have e:l=r:=by omega
   subst e;exact q l h2 a b
  ·rw[if_neg hlr]
   refine acO hc h hk (by omega) (fun hl=>?_) (fun hl=>?_)
   ·show(if true=true then kas_place p k f l ((l+r) / 2) else kas_place p k f ((l+r) / 2+1) r).kasWp cmp Q s
    rw[if_pos rfl];refine acP h hk hs f l ((l+r) / 2) Q (by omega) (by omega) (by omega) a (fun i h4 h5=>?_) q;exact Int.lt_of_lt_of_le hl (hs _ i h4 h5)
   ·show(if false=true then kas_place p k f l ((l+r) / 2) else kas_place p k f ((l+r) / 2+1) r).kasWp cmp Q s
    rw[if_neg Bool.false_ne_true];refine acP h hk hs f ((l+r) / 2+1) r Q (by omega) h2 (by omega) (fun i h4=>?_) b q;exact Int.le_trans (hs i ((l+r) / 2) (by omega) (by omega)) hl
theorem alT:∀(f:Nat) (p:Array Nat) (k:Nat) (Q:Array Nat->SP0),OKp n p->k+f=n->QJ rk p k->(∀p',OKp n p'->QJ rk p' n->Q p' s)->(kas_bin f p k).kasWp cmp Q s
 | 0,p,k,Q,h,hk,hs,q=>by
  have e:k=n:=by omega
  exact q p h (by rw[←e];exact hs)
 | f+1,p,k,Q,h,hk,hs,q=>by
  have hsz:=h.size;show((kas_place p k k 0 k).bind fun l=>kas_bin f (bubble p k (k-l)) (k+1)).kasWp cmp Q s;rw[KasT.kasWp_bind];refine acP hc h (by omega) hs k 0 k _ (Nat.zero_le _) (Nat.le_refl _) (by omega) (fun i hi=>absurd hi (Nat.not_lt_zero _)) (fun i h1 h2=>absurd h2 (by omega)) fun l hl a b=>?_;refine alT f _ (k+1) Q (h.bub _ _) (by omega) (fun i j hij hj=>?_) q;have hb:k-(k-l)=l:=by omega
  rw[ajl (by omega) (by omega),ajl (by omega) (by omega),hb];by_cases hi1:i=l
  ·rw[if_pos hi1]
   by_cases hj1:j=l
   ·rw[if_pos hj1];exact Int.le_refl _
   ·rw[if_neg hj1,if_pos ⟨by omega,by omega⟩]
    exact Int.le_of_lt (b _ (by omega) (by omega))
  ·rw[if_neg hi1]
   by_cases hi2:l<i/\i<=k
   ·rw[if_pos hi2,if_neg (by omega),if_pos ⟨by omega,by omega⟩]
    exact hs _ _ (by omega) (by omega)
   ·rw[if_neg hi2]
    by_cases hj1:j=l
    ·rw[if_pos hj1];exact a i (by omega)
    ·rw[if_neg hj1]
     by_cases hj2:l<j/\j<=k
     ·rw[if_pos hj2]
      exact hs _ _ (by omega) (by omega)
     ·rw[if_neg hj2]
      exact hs _ _ hij (by omega)
theorem sort_ok{Q:Array Nat->SP0}(hn1:1<=n)(q:∀p',OKp n p'->QJ rk p' n->Q p' s):(kas_sort n).kasWp cmp Q s:=by
 unfold kas_sort;rw[KasT.kasWp_bind];refine alS hc (p:=(List.range n).toArray) (Array.Perm.refl _) hn1 fun m p h h1 h2 hs=>?_;show(if m<n then kas_bin (n-max m 1) p (max m 1) else KasT.ret p).kasWp cmp Q s;have em:max m 1=m:=by omega
 by_cases hm:m<n
 ·rw[if_pos hm,em]
  exact alT hc (n-m) p m Q h (by omega) hs q
 ·rw[if_neg hm]
  have e:m=n:=by omega
  exact q p h (by rw[←e];exact hs)
end
end BX.Srt
end
section
namespace BX
open PySem PySem.Spec L2
open PyProof.Rows hiding St
theorem aob(vs:List Value):(vs.toArray.zip vs.toArray).map (·.2)=vs.toArray:=by
 apply Array.toList_inj.mp;simp[List.map_snd_zip]
theorem ajn(vs:List Value):(arrOf (SortSt.mk' general' (vs.toArray.zip vs.toArray) #[] 7 none)).map (·.2)=vs.toArray:=aob vs
section
variable {prog:Program}{w:World}{A:Around}{E:Value->SP0}{s:Shared}
theorem ahS{l:Addr}{vs:List Value}{Q:Value->SP0}(hl:s.heap.IsList l vs.toArray)(h2:vs.length<2)
  (h:∀h' D c,(∀b o,s.heap.get? b=some o->h'.get? b=some o)->h'.get? D=some (lob vs.toArray c)->s.heap.objs.size<=D->Q (.ref D) { s with heap:=h' }):
  wpAny (model prog w) A (call (.builtin "sorted") [.ref l]) Q E s:=by
 have small:vs.length<=sizeLine:=by rw[sizeLine_eq];omega
 refine Calls.call_function_entry kind_sorted plain_sorted entry_sorted (args_sorted1 _) ?_;unfold Builtin.«sorted»;refine wpAny_bind (m:=checkCount "sorted" 1 1 _) (wpAny_pure ?_);refine wpAny_bind (collect_list hl ?_ small);refine wpAny_bind (wpAny_newList ?_ small);generalize hh1:(s.heap.push (seqObj "list" #[] 0)).update s.heap.objs.size (Obj.mapSeq (·++vs.toArray))=h1;have n1:h1.objs.size=s.heap.objs.size+1:=by rw[←hh1,Heap.size_update,size_push']
 have k1:∀b o,s.heap.get? b=some o->h1.get? b=some o:=fun b o q=>by
  have hlt:b<s.heap.objs.size:=Heap.lt_size q;rw[←hh1,Heap.get?_update_ne _ _ _ _ (Nat.ne_of_lt hlt),Heap.get?_push_ne _ _ _ (Nat.ne_of_lt hlt)];exact q
 have hD:(h1.push (seqObj "list" vs.toArray 0)).get? h1.objs.size=some (seqObj "list" vs.toArray 0):=Heap.get?_push_size _ rfl;refine wpAny_bind (wpAny_holding (wpAny_call_entry (s:={ s with heap:=h1.push (seqObj "list" vs.toArray 0) }) slot_list_sort ⟨_,hD,rfl⟩ entry_list_sort ?body (args_list_sort _)))
 case body=>
  rw[list_sort_plain];refine wpAny_bind (listItems_at hD rfl ?_);refine wpAny_bind (listUpdate_at hD rfl ?_ (by rw[List.size_toArray];exact small) (Nat.zero_le _));obtain⟨e1,ho1⟩:∃e1,((h1.push (seqObj "list" vs.toArray 0)).update h1.objs.size (Obj.mapSeq fun _=>(#[]:Array Value))).get? h1.objs.size=some (seqObj "list" #[] e1):=⟨_,get?_update_seq hD fun _=>#[]⟩;refine wpAny_bind (seqEpoch_at ho1 rfl ?_);refine wpAny_bind (wpAny_newTuple ?_ small);refine wpAny_bind (wpAny_newList ?_ (Nat.zero_le _));refine wpAny_holding ?_;dsimp only;have hlt:vs.toArray.size<2:=by rw[List.size_toArray];exact h2
  rw[if_pos hlt,if_pos hlt];refine wpAny_bind (wpAny_pure ?_);rw[StateT.run_pure];refine wpAny_bind (wpAny_pure ?_);dsimp only;have ho3:((((h1.push (seqObj "list" vs.toArray 0)).update h1.objs.size (Obj.mapSeq fun _=>(#[]:Array Value))).push (seqObj "tuple" vs.toArray 0)).push (seqObj "list" #[] 0)).get? h1.objs.size=some (seqObj "list" #[] e1):=Heap.get?_push_of_some _ (Heap.get?_push_of_some _ ho1);refine wpAny_bind (seqEpoch_at ho3 rfl ?_);rw[ajn];refine wpAny_bind (listUpdate_at ho3 rfl ?_ (Nat.zero_le _) (by rw[List.size_toArray];exact Nat.le_succ_of_le small));obtain⟨c2,hc2⟩:=ab0 (ws:=vs.toArray) (show _=some (lob #[] e1) from ho3);simp only[bne_self_eq_false,zzL,zzN];refine wpAny_pure ⟨_,rfl,?_⟩;refine wpAny_pure ⟨_,rfl,?_⟩;refine h _ _ c2 (fun b o q=>?_) hc2 (by rw[n1];exact Nat.le_succ _);have q1:=k1 b o q;have lt1:b<h1.objs.size:=Heap.lt_size q1;have u1:=Heap.SameBut.update (h1.push (seqObj "list" vs.toArray 0)) h1.objs.size (Obj.mapSeq fun _=>(#[]:Array Value));have q2:=(u1.2 b (Nat.ne_of_lt lt1)).trans (Heap.get?_push_of_some _ q1);have q3:=Heap.get?_push_of_some { cls:= .type "list",data:= .seq (#[]:Array Value) } (Heap.get?_push_of_some { cls:= .type "tuple",data:= .seq vs.toArray } q2);exact((Heap.SameBut.update _ h1.objs.size (Obj.mapSeq fun _=>vs.toArray)).2 b (Nat.ne_of_lt lt1)).trans q3
end
theorem qt.there{P:Program}{w:World}{H:Hp}{h:Heap}{a:Addr}{o:HO}(x:qt P w H h a o):∃u,h.get? a=some u:=by
 cases o with
 |lst xs=>obtain⟨_,_,_,_,e⟩:=x;exact⟨_,e⟩
 |tup xs=>obtain⟨_,_,_,u,e,_⟩:=x;exact⟨_,e⟩
 |dK kvs=>obtain⟨_,_,_,_,o,_,_,e,_⟩:=x;exact⟨_,e⟩
 |dT kvs=>obtain⟨_,_,_,_,o,_,_,e,_⟩:=x;exact⟨_,e⟩
 |set S n=>obtain⟨o,_,_,_,e,_⟩:=x;exact⟨_,e⟩
 |ins C dx fs=>obtain⟨_,_,_,e,_⟩:=x;exact⟨_,e⟩
 |own y=>obtain⟨_,e⟩:=x;exact⟨_,e⟩
 |xd fs=>obtain⟨_,⟨_,_,_,e,_⟩,_⟩:=x;exact⟨_,e⟩
 |rng lo hi=>obtain⟨_,_,_,e⟩:=x;exact⟨_,e⟩
 |frz ob u=>obtain⟨e,_⟩:=x;exact⟨_,e⟩
 |tbl ps=>exact⟨_,(show h.get? a=some _ from x)⟩
 |met f y=>exact⟨_,(show h.get? a=some _ from x)⟩
 |ext φ=>obtain⟨_,⟨_,e⟩,_⟩:=x;exact⟨_,e⟩
theorem aqq{h:Heap}{L:Addr}{m m':SV}(a:h.Ns L m)(b:h.Ns L m'):m=m':=by
 obtain⟨o,es,ep,e1,d1,_,q1⟩:=a;obtain⟨o',es',ep',e2,d2,_,q2⟩:=b;rw[e1]at e2;cases e2;rw[d1]at d2;cases d2;funext x;rw[←q1 x,←q2 x]
theorem Inv.grownL{X:Cx}{Kp:List (Addr×Obj)}{σ:St}{H:Hp}{s:Shared}{h':Heap}{m:SV}{D:Addr}{ys:List V}{us:List Value}{c:Nat}(I:Inv X Kp σ H s)(hm:s.heap.Ns X.env.locals m)(hm':h'.Ns X.env.locals m)
  (kp:∀b o,b≠X.env.locals->s.heap.get? b=some o->h'.get? b=some o) (hD:s.heap.get? D=none) (ho:h'.get? D=some (lob us.toArray c)) (rv:jG ys us) (hz:ys.length<=sizeLine):Inv X Kp σ (upd H D (.lst ys)) { s with heap:=h' }:=by
 have nD:H D=none:=by
  cases e:H D with
  |none=>rfl
  |some o=>obtain⟨u,q⟩:=qt.there (I.hok D o e);rw[hD]at q;cases q
 have neD:∀b u,H b=some u->b≠D:=fun b u e z=>by rw[z,nD]at e;cases e
 have nL:∀b u,H b=some u->b≠X.env.locals:=fun b u e z=>by rw[z,I.free]at e;cases e
 refine I.step (t':=s.toks) (g':=s.gens) (d':=s.drawn) (ch:=[]) (fun b hb=>nomatch hb) (fun b o hL _ _ e _=>kp b o hL e) (fun b o hL _ _ e _=>⟨o.slots,kp b o hL e⟩) (fun b o _ e n=>?_) (fun b o _ e=>?_) (fun b ws e=>by rw[js (neD b _ e)];exact e)
  (fun b ob ws e=>by rw[js (neD b _ e)];exact e) (fun b ps e=>⟨#[],by rw[js (neD b _ e),e];simp⟩) (fun m2 h2=>by rw[←aqq hm h2];exact hm') (fun b u e=>?_) I.bare
 ·have:b≠D:=fun z=>by rw[z,hD]at e;cases e
  rw[js this];exact n
 ·by_cases hb:b=X.env.locals
  ·obtain⟨o',_,_,e',_⟩:=hm'
   exact⟨o',by rw[hb];exact e'⟩
  ·exact⟨o,kp b o hb e⟩
 ·by_cases hb:b=D
  ·subst hb
   rw[jn]at e;cases e;exact⟨hz,us,c,rv,ho⟩
  ·rw[js hb]at e
   refine(I.hok b u e).stay (fun c' o hc' q=>kp c' o ?_ q) (fun c' q=>by rw[js (neD c' _ q)];exact q) fun c' ws q=>by rw[js (neD c' _ q)];exact q
   rcases hc' with q' | q'
   ·rw[q'];exact nL b u e
   ·exact nL c' _ q'
noncomputable def Qs(p:Int×Int):PyData:= .tuple [.int p.1,.int p.2]
noncomputable def inB(p:Int×Int):Bool:=decide (0<=p.2)&&decide (p.2<1000000)
structure PairAt(h:Heap)(u:Value)(p:Int×Int):Prop where
 ex:∃a o k t t',u= .ref a/\h.get? a=some o/\o.cls= .type "tuple"/\o.data= .seq #[.int p.1 t,.int p.2 t'] k
theorem getD_some{α:Type}{l:List α}{i:Nat}{d x:α}(h:l[i]?=some x):l.getD i d=x:=by simp[List.getD,h]
theorem ad7{us:List Value}{xs:List V}(rv:jG xs us)(is:List Nat)(h:∀i∈is,i<us.length):jG (is.map fun i=>xs.getD i .non) (is.map fun i=>us.getD i Value.none):=by
 induction is with
 |nil=>exact .nil
 | cons i is ih=>
  have hi:=h i List.mem_cons_self;have hl:=rv.length;obtain⟨u,e1,e2⟩:=rv.get (show xs[i]?=some (xs[i]'(by omega)) by simp[hl,hi]);refine .cons ?_ (ih fun j hj=>h j (List.mem_cons_of_mem _ hj));show L2.jT (xs.getD i .non) (us.getD i Value.none);rw[getD_some e1,getD_some (show xs[i]?=some (xs[i]'(by omega)) by simp[hl,hi])];exact e2
theorem akm{K:Fg}{H:Hp}{ds:LP}{xs:List V}(r:Reps K H ds xs)(is:List Nat)(h:∀i∈is,i<ds.length):Reps K H (is.map fun i=>ds.getD i .none) (is.map fun i=>xs.getD i .non):=by
 induction is with
 |nil=>rfl
 | cons i is ih=>
  have hi:=h i List.mem_cons_self;obtain⟨x,e1,e2⟩:=r.get (show ds[i]?=some ds[i] by simp[hi]);refine⟨_,_,rfl,?_,ih fun j hj=>h j (List.mem_cons_of_mem _ hj)⟩;show Rep K H (ds.getD i .none) (xs.getD i .non);rw[getD_some e1,getD_some (show ds[i]?=some ds[i] by simp[hi])];exact e2
theorem aeX{α:Type}{R:α->α->Prop}:∀{l:List α},l.length<2->l.Pairwise R
 | [],_=> .nil
 | [p],_=>List.pairwise_singleton _ _
 |_::_::_,h=>by simp at h;omega
section
variable {X:Cx}
variable {a b:Expr}{fa fb:RP}{pos p2:Pos}
noncomputable def aqr:PyData->OP
 |.int i=>some (.int (-i))
 |_=>none
theorem ahT(h:PD X a fa):PD X (.UnaryOp .USub a pos) (fun ρ=>(fa ρ).bind aqr):=by
 with_unfolding_all
  refine PE.imp (apk alk h) fun σ H Q ⟨ρ,d,en,q,k⟩=>?_;cases h1:fa ρ with
  |none=>simp[h1]at q
  | some y=>
   refine⟨ρ,y,en,h1,fun v H1 s1 r1=>?_⟩;have q':aqr y=some d:=by simpa[h1]using q
   cases y with
   |int i=>cases q';cases (show v=_ from r1);exact⟨i,rfl,k _ H1 s1 rfl⟩
   |_=>cases q'
end
variable {X:Cx}
end BX
end
section
namespace BX
open PySem PySem.Spec L2
open PyProof.Rows hiding St
variable {X:Cx}
noncomputable def adI(f:Expr->OP):List Expr->Option (LP)
 | []=>some []
 |e::es=>(f e).bind fun d=>(adI f es).map fun ds=>d::ds
noncomputable def lit:Nat->Expr->OP
 |0,_=>none
 | n+1,e=>match e with
  |.Constant (.int i) _ _=>some (.int i)
  |.Constant (.bool b) _ _=>some (.bool b)
  |.Constant .none _ _=>some .none
  |.Constant (.str x) _ _=>some (.str x)
  |.Tuple es _ _=>(adI (lit n) es).bind fun ds=>if few ds=true then some (.tuple ds) else none
  |.List es _=>(adI (lit n) es).bind fun ds=>if few ds=true then some (.list ds) else none
  |_=>none
theorem PD.as{e:Expr}{F G:RP}(h:PD X e F)(hi:∀ρ d,G ρ=some d->F ρ=some d):PD X e G:=by
 with_unfolding_all exact(PE.imp h fun σ H Q ⟨ρ,d,en,q,k⟩=>⟨ρ,d,en,hi ρ d q,k⟩)
theorem PAD.as{es:List Expr}{F G:Rho->Option (LP)}(h:PAD X es F)(hi:∀ρ d,G ρ=some d->F ρ=some d):PAD X es G:=by
 with_unfolding_all exact(PA.imp h fun σ H Q ⟨ρ,d,en,q,k⟩=>⟨ρ,d,en,hi ρ d q,k⟩)
noncomputable def alU(e:Expr):Prop:=∀(es:List Expr) (env:Env),starEach (e::es) env=(false,eval e env)::starEach es env
theorem aeY{f:Expr->OP}(hf:∀e d,f e=some d->PD X e (cst d)/\alU e):∀(es:List Expr) (ds:LP),adI f es=some ds->PAD X es (fun _=>some ds)
 | [],ds,h=>by cases h;exact je
 | e::es,ds,h=>by
  cases h1:f e with
  |none=>simp[adI,h1]at h
  | some d=>
   cases h2:adI f es with
   |none=>simp[adI,h1,h2]at h
   | some r=>
    have:d::r=ds:=by with_unfolding_all simpa[adI,h1,h2]using h
    subst this;obtain⟨p,st⟩:=hf e d h1;exact(jb p (aeY hf es r h2) (st es X.env)).as fun ρ d' q=>by cases q;simp[jr,cst]
theorem ahU:∀(n:Nat) (e:Expr) (d:PyData),lit n e=some d->PD X e (cst d)/\alU e
 |0,e,d,h=>by cases h
 | n+1,e,d,h=>by
  unfold lit at h;split at h
  ·cases h;exact⟨jg,fun _ _=>rfl⟩
  ·cases h;exact⟨zL,fun _ _=>rfl⟩
  ·cases h;exact⟨Q5,fun _ _=>rfl⟩
  ·cases h;exact⟨Qg,fun _ _=>rfl⟩
  ·rename_i es x1 pos
   cases h1:adI (lit n) es with
   |none=>simp[h1]at h
   | some ds=>
    by_cases hf:few ds=true
    ·have:PyData.tuple ds=d:=by with_unfolding_all simpa[h1,hf]using h
     subst this;exact⟨(zf (aeY (ahU n) es ds h1)).as fun ρ d' q=>by cases q;simp[aad,hf],fun _ _=>rfl⟩
    ·simp[h1,hf]at h
  ·rename_i es pos
   cases h1:adI (lit n) es with
   |none=>simp[h1]at h
   | some ds=>
    by_cases hf:few ds=true
    ·have:PyData.list ds=d:=by simpa[h1,hf]using h
     subst this;exact⟨(acH (aeY (ahU n) es ds h1)).as fun ρ d' q=>by cases q;simp[QY,hf],fun _ _=>rfl⟩
    ·simp[h1,hf]at h
  ·cases h
theorem aeZ(n:Nat){e:Expr}(d:PyData)(h:lit n e=some d):PD X e (cst d):=by
 with_unfolding_all exact((ahU n e d h).1)
end BX
end
section
namespace BX
open PySem L2
open PyProof.Rows hiding St
noncomputable def j4(K:Fg)(x:Str)(st:Stmt):Prop:=
 ∃(f:Addr) (oc:Value) (od an:Option Addr) (kV doc pm Kc ct:Value) (osl:Array (Option Value)),PySem.W.nsIn K mainGlobals x=some (some (.ref f))/\
  K.lookup f=some ⟨oc,od,.func (PySem.W.fnOf x x (zY st) (jQ st) (jf st) .none kV doc pm an Kc ct),osl⟩/\PySem.W.codeIn K Kc x=true/\PySem.W.keepIn K (.ref f)=true
theorem alV{K:Fg}{x:Str}{st:Stmt}{f:Addr}{oc:Value}{od an:Option Addr}{kV doc pm Kc ct:Value}{osl:Array (Option Value)}(a:PySem.W.nsIn K mainGlobals x=some (some (.ref f)))
  (l:K.lookup f=some ⟨oc,od,.func (PySem.W.fnOf x x (zY st) (jQ st) (jf st) .none kV doc pm an Kc ct),osl⟩) (c:PySem.W.codeIn K Kc x=true) (k:PySem.W.keepIn K (.ref f)=true):j4 K x st:=
 ⟨f,oc,od,an,kV,doc,pm,Kc,ct,osl,a,l,c,k⟩
noncomputable abbrev ju(x:Str)(st:Stmt)(ps:List Str):Prop:=∀(kV doc pm:Value) (an:Option Addr) (Kc ct:Value) (us:List Value),us.length=ps.length->bindArgs (PySem.W.fnOf x x (zY st) (jQ st) (jf st) .none kV doc pm an Kc ct) ⟨us,[]⟩=pure (ps.zip us)
theorem j4.callee{P:Program}{w:World}{K:Fg}{mg:SV}{base h:Heap}{x:Str}{st:Stmt}{ps:List Str}{k n:Nat}{g:LP->OP}(T:j4 K x st)(X:K.In h)(G:h.Ns mainGlobals mg)
  (hb:ju x st ps) (F:∀(f:Addr) (fd:FuncData),Fun K x x st f fd->FnOk P w K mg base CX0 k f fd ps (Pur K n g)):jj P w K mg base x ps k n g:=by
 obtain⟨f,oc,od,an,kV,doc,pm,Kc,ct,osl,a,l,c,kp⟩:=T;have F1:=acE (st:=st) l c kp;exact⟨f,_,F f _ F1,PySem.W.mg_of X G a,kp,F1.binds hb⟩
theorem jj.as{P:Program}{w:World}{K:Fg}{mg:SV}{base:Heap}{x:Str}{ps:List Str}{k n:Nat}{g g':LP->OP}(C:jj P w K mg base x ps k n g)(h:∀ds d,g' ds=some d->g ds=some d):jj P w K mg base x ps k n g':=by
 obtain⟨f,fd,F,a,b,c⟩:=C;exact⟨f,fd,arG F fun ds d _ q=>h ds d q,a,b,c⟩
theorem agx{K:Fg}{mg:SV}{h:Heap}{x:Str}{a:Addr}{ob:Obj}{ds:LP}(X:K.In h)(G:h.Ns mainGlobals mg)(e:PySem.W.nsIn K mainGlobals x=some (some (.ref a)))(l:K.lookup a=some ob)
  (hc:ob.cls= .type "tuple") (hi:∃(its:Array Value) (n:Nat) (xs:List V),ob.data= .seq its n/\its.size<=sizeLine/\jG xs its.toList/\∀H,Reps K H ds xs):∃v u,mg x=some u/\jT v u/\∀H,Rep K H (.tuple ds) v:=by
 obtain⟨its,n,xs,h1,h2,h3,h4⟩:=hi;exact⟨.ref a,.ref a,PySem.W.mg_of X G e,rfl,fun H=>⟨a,xs,rfl,.inr ⟨ob,its,n,l,hc,h1,h2,h3⟩,h4 H⟩⟩
end BX
end
section
namespace BX
open PySem PySem.Spec L2
open PyProof.Rows hiding St
noncomputable def zm(a:Addr)(xs:List V):HO:= .ext fun h=>xs.length<=sizeLine/\∃(its:List Value) (n:Nat),jG xs its/\h.get? a=some { cls:= .type "list",data:= .seq its.toArray n }
noncomputable def zv(P:Program)(w:World)(a:Addr)(ob:Obj)(ks:List (Key×V)):HO:= .ext fun h=>h.get? a=some ob/\ks.length<=sizeLine/\(a==sysModules)=false/\∃vs,KV ks vs/\h.DictOf (ql P w) a vs
inductive Seal (P:Program) (w:World) (a:Addr):HO->HO->Prop where
 |l (xs:List V):Seal P w a (zm a xs) (.lst xs)
 |d (ob:Obj) (ks:List (Key×V)):Seal P w a (zv P w a ob ks) (.frz ob (.dK ks))
theorem Seal.ext{P:Program}{w:World}{a:Addr}{c o:HO}(S:Seal P w a c o):∃φ,c= .ext φ:=by cases S<;>exact⟨_,rfl⟩
section
variable {X:Cx}{Kp:List (Addr×Obj)}{σ:St}{H:Hp}{s:Shared}{a:Addr}{c o:HO}
theorem Inv.opened(I:Inv X Kp σ H s)(S:Seal X.prog X.w a c o)(e:H a=some c):Inv X Kp σ (upd H a o) s:=by
 have q:=I.hok a c e;have mu:Mut (H a):=by rw[e];obtain⟨φ,rfl⟩:=S.ext;trivial
 cases S with
 | l xs=>
  obtain⟨h1,h2,_⟩:=q;exact I.write (x:=a) (e:=a) (h':=s.heap) (t':=s.toks) mu (.inl rfl) (fun _ _ _ z=>z) h2 h1
 | d ob ks=>
  obtain⟨h1,h2,_⟩:=q;exact I.write (x:=a) (e:=a) (h':=s.heap) (t':=s.toks) mu (.inl rfl) (fun _ _ _ z=>z) h2 ⟨h1.1,h1.2⟩
theorem Inv.redesc{o1 o2:HO}(I:Inv X Kp σ H s)(h1:H a=some o1)(n1:∀y,o1 ≠ .own y)(n2:∀xs,o1 ≠ .tup xs)(n3:∀ps,o1 ≠ .tbl ps)(nf:∀ob u,X.H₀ a≠some (.frz ob u))(new:qt X.prog X.w (upd H a o2) s.heap a o2):Inv X Kp σ (upd H a o2) s:=by
 have na:∀b,H b=none->upd H a o2 b=none:=fun b z=>by
  have:b≠a:=fun q=>by subst q;rw[h1]at z;cases z
  rw[js this];exact z
 refine⟨I.ok,I.os,I.bare,⟨I.base.keep,I.base.slot,fun b u q n hx=>na b (I.base.free b u q n hx),I.base.there,fun b xs q=>?_,fun b ob u q=>?_,fun b ps q=>?_⟩,I.loc,I.cell,na _ I.free,fun x c' q=>na _ (I.freeC x c' q),fun p hp=>?_,fun b u q=>?_,I.len⟩
 ·have q':=I.base.tups b xs q
  have:b≠a:=fun z=>by subst z;rw[h1]at q';cases q';exact n2 _ rfl
  rw[js this];exact q'
 ·have:b≠a:=fun z=>by subst z;exact nf _ _ q
  rw[js this];exact I.base.frzs b ob u q
 ·obtain⟨more,q'⟩:=I.base.tbls b ps q
  have:b≠a:=fun z=>by subst z;rw[h1]at q';cases q';exact n3 _ rfl
  exact⟨more,by rw[js this];exact q'⟩
 ·obtain⟨g1,g2,g3⟩:=I.pin p hp
  exact⟨g1,na _ g2,g3⟩
 ·by_cases hb:b=a
  ·subst hb
   rw[jn]at q;cases q;exact new
  ·rw[js hb]at q
   refine(I.hok b u q).stay (fun c' v _ z=>z) (fun c' z=>?_) fun c' xs z=>?_
   ·have:c'≠a:=fun m=>by subst m;rw[h1]at z;cases z;exact n1 _ rfl
    rw[js this];exact z
   ·have:c'≠a:=fun m=>by subst m;rw[h1]at z;cases z;exact n2 _ rfl
    rw[js this];exact z
theorem Inv.nofrz{φ:Heap->Prop}(I:Inv X Kp σ H s)(e:H a=some (.ext φ)):∀ob u,X.H₀ a≠some (.frz ob u):=fun ob u z=>by
 have:=I.base.frzs _ _ _ z;rw[e]at this;cases this
theorem Inv.closed(I:Inv X Kp σ H s)(S:Seal X.prog X.w a c o)(e:H a=some o)(nf:∀ob u,X.H₀ a≠some (.frz ob u)):Inv X Kp σ (upd H a c) s:=by
 have q:=I.hok a o e;cases S with
 | l xs=>
  obtain⟨h1,its,n,h2,h3⟩:=q;refine I.write (x:=a) (e:=a) (h':=s.heap) (t':=s.toks) (by rw[e];trivial) (.inl rfl) (fun _ _ _ z=>z) ⟨_,h3⟩ ⟨⟨h1,its,n,h2,h3⟩,⟨_,h3⟩,?_⟩
  rintro g1 g2 ⟨z1,its,n,z2,z3⟩ k
  exact⟨z1,its,n,z2,k _ z3⟩
 | d ob ks=>
  obtain⟨h0,h1,h2,vs,h3,ob',es,ep,h4,h5⟩:=q;refine Inv.redesc I e (fun _ z=>nomatch z) (fun _ z=>nomatch z) (fun _ z=>nomatch z) nf ⟨⟨h0,h1,h2,vs,h3,ob',es,ep,h4,h5⟩,⟨_,h4⟩,?_⟩
  rintro g1 g2 ⟨z0,z1,z2,vs,z3,ob',es,ep,z4,z5⟩ k
  exact⟨k _ z0,z1,z2,vs,z3,ob',es,ep,k _ z4,z5⟩
theorem Inv.sealedD{ks:List (Key×V)}(I:Inv X Kp σ H s)(e:H a=some (.dK ks)):∃ob,Inv X Kp σ (upd H a (zv X.prog X.w a ob ks)) s:=by
 obtain⟨h1,h2,vs,h3,ob,es,ep,h4,h5⟩:=I.hok a _ e;refine⟨ob,I.write (x:=a) (e:=a) (h':=s.heap) (t':=s.toks) (by rw[e];trivial) (.inl rfl) (fun _ _ _ z=>z) ⟨_,h4⟩ ⟨⟨h4,h1,h2,vs,h3,ob,es,ep,h4,h5⟩,⟨_,h4⟩,?_⟩⟩
 rintro g1 g2 ⟨z0,z1,z2,vs,z3,ob',es,ep,z4,z5⟩ k
 exact⟨k _ z0,z1,z2,vs,z3,ob',es,ep,k _ z4,z5⟩
theorem Inv.openD{ob:Obj}{ks:List (Key×V)}(I:Inv X Kp σ H s)(e:H a=some (zv X.prog X.w a ob ks)):Inv X Kp σ (upd H a (.dK ks)) s:=by
 obtain⟨h1,h2,_⟩:=I.hok a _ e;exact I.write (x:=a) (e:=a) (h':=s.heap) (t':=s.toks) (by rw[e];trivial) (.inl rfl) (fun _ _ _ z=>z) h2 h1.2
end
mutual
noncomputable def noD:PyData->Bool
 |.tuple ds=>noDs ds
 |.list ds=>noDs ds
 |.dict _=>false
 |_=>true
noncomputable def noDs:LP->Bool
 | []=>true
 |d::ds=>noD d&&noDs ds
end
noncomputable def agy(H H':Hp):Prop:=∀b o,H b=some o->(∀ob ks,o ≠ .frz ob (.dK ks))->H' b=some o
section
variable {K:Fg}{H H':Hp}
theorem agy.tup{a:Addr}{xs:List V}(e:agy H H')(h:SqT K H a xs):SqT K H' a xs:=by
 rcases h with (h | ⟨o,h⟩) | h
 ·exact .inl (.inl (e _ _ h fun _ _ z=>nomatch z))
 ·exact .inl (.inr ⟨o,e _ _ h fun _ _ z=>nomatch z⟩)
 ·exact .inr h
mutual
theorem Rep.monoM(e:agy H H'):∀(d:PyData) (v:V),noD d=true->Rep K H d v->Rep K H' d v
 |.none,v,_,h=>h
 |.bool _,v,_,h=>h
 |.int _,v,_,h=>h
 |.str _,v,_,h=>h
 |.tuple ds,v,n,⟨a,xs,h1,h2,h3⟩=>⟨a,xs,h1,agy.tup e h2,Reps.monoM e ds xs (by simpa[noD]using n) h3⟩
 |.list ds,v,n,⟨a,xs,h1,h2,h3⟩=>⟨a,xs,h1,e _ _ h2 (fun _ _ z=>nomatch z),Reps.monoM e ds xs (by simpa[noD]using n) h3⟩
 |.dict ds,v,n,h=>by simp[noD]at n
theorem Reps.monoM(e:agy H H'):∀(ds:LP) (xs:List V),noDs ds=true->Reps K H ds xs->Reps K H' ds xs
 | [],xs,_,h=>h
 | d::ds,xs,n,⟨x,r,h1,h2,h3⟩=>by
  have n':noD d=true/\noDs ds=true:=by simpa[noDs]using n
  exact⟨x,r,h1,Rep.monoM e d x n'.1 h2,Reps.monoM e ds r n'.2 h3⟩
end
end
noncomputable def okB(c d:PyData):Bool:=match c with
 |.list _=>noL d
 |.dict _=>noD d
 |_=>false
noncomputable def aaj(P:Program)(w:World)(K:Fg)(H:Hp)(a:Addr):PyData->Prop
 |.list ds=>∃xs,H a=some (zm a xs)/\Reps K H ds xs
 |.dict kvs=>∃ks r ob,kvs=(.none,.none)::r/\H a=some (zv P w a ob ks)/\RepM K H r ks
 |_=>False
theorem aaj.out{P:Program}{w:World}{K:Fg}{H:Hp}{a:Addr}{d:PyData}(h:aaj P w K H a d):∃c o,Seal P w a c o/\H a=some c/\
  (∀H',j5 H H'->H' a=some o->Rep K H' d (.ref a))/\(∀H',j5 H H'->H' a=some c->aaj P w K H' a d)/\
  ∀x H3 v,okB d x=true->H3 a=some o->Rep K H3 x v->Rep K (upd H3 a c) x v:=by
 cases d with
 | list ds=>
  obtain⟨xs,h1,h2⟩:=h
  exact⟨_,_,.l xs,h1,fun H' e q=>⟨a,xs,rfl,q,Reps.monoE e _ _ h2⟩,fun H' e q=>⟨xs,q,Reps.monoE e _ _ h2⟩,fun x H3 v n q r=>Rep.monoN (fun b u hb m=>by
   have:b ≠ a:=fun z=>by subst z; rw [q] at hb; cases hb; exact m _ rfl
   rw [js this]; exact hb) x v n r⟩
 | dict kvs=>
  obtain⟨ks,r,ob,rfl,h1,h2⟩:=h
  exact⟨_,_,.d ob ks,h1,fun H' e q=>⟨a,rfl,.inr (.inl ⟨ks,ob,q,show RepM K H' r ks from RepM.monoE e _ _ h2⟩)⟩,fun H' e q=>⟨ks,r,ob,rfl,q,RepM.monoE e _ _ h2⟩,fun x H3 v n q r=>Rep.monoM (fun b u hb m=>by
   have:b ≠ a:=fun z=>by subst z; rw [q] at hb; cases hb; exact m _ _ rfl
   rw [js this]; exact hb) x v n r⟩
 |none=>exact h.elim
 |bool _=>exact h.elim
 |int _=>exact h.elim
 |str _=>exact h.elim
 |tuple _=>exact h.elim
theorem j5.upd{H:Hp}{a:Addr}{φ:Heap->Prop}{o:HO}(e:H a=some (.ext φ)):j5 H (upd H a o):=fun b u h n=>by
 have:b≠a:=fun z=>by subst z;rw[e]at h;cases h;exact n _ rfl
 rw[js this];exact h
structure EnvO(P:Program)(w:World)(K:Fg)(Hs H:Hp)(own:Option Nat)(ρ:Rho)(σ:St):Prop where
 len:ρ.length=σ.length
 sm:jp Hs H
 pl:∀i d,ρ[i]?=some (some d)->own≠some i->∃v,σ[i]?=some (some v)/\Rep K H d v
 ow:∀i,own=some i->∃d a,ρ[i]?=some (some d)/\σ[i]?=some (some (.ref a))/\Hs a=none/\aaj P w K H a d
noncomputable def hid(own:Option Nat)(ρ:Rho):Rho:=match own with
 |none=>ρ
 |some i=>ρ.set i none
section
variable {P:Program}{w:World}{K:Fg}{Hs H H':Hp}{own:Option Nat}{ρ:Rho}{σ:St}
theorem EnvO.of(e:EnvR K H ρ σ)(s:jp Hs H):EnvO P w K Hs H none ρ σ:=⟨e.len,s,fun i d h _=>e.at' i d h,fun i z=>nomatch z⟩
theorem EnvO.to(e:EnvO P w K Hs H none ρ σ):EnvR K H ρ σ:=⟨e.len,fun i d h=>e.pl i d h (fun z=>nomatch z)⟩
theorem EnvO.hid(e:EnvO P w K Hs H own ρ σ):EnvR K H (hid own ρ) σ:=by
 cases own with
 |none=>exact e.to
 | some i=>
  refine⟨by simp[BX.hid,e.len],fun j d h=>?_⟩;by_cases hj:i=j
  ·subst hj
   simp only[BX.hid]at h;rw[List.getElem?_set]at h;simp at h
  ·simp only[BX.hid]at h
   rw[List.getElem?_set_ne hj]at h;exact e.pl j d h (fun z=>hj (Option.some.inj z))
theorem aaj.mono{a:Addr}{d:PyData}(h:aaj P w K H a d)(s:jp H H'):aaj P w K H' a d:=by
 obtain⟨c,o,_,h1,_,h2,_⟩:=h.out;exact h2 H' (jp.e s) (s _ _ h1)
theorem EnvO.mono(e:EnvO P w K Hs H own ρ σ)(s:jp H H'):EnvO P w K Hs H' own ρ σ:=
 ⟨e.len,e.sm.trans s,fun i d h n=>let ⟨v,h1,h2⟩:=e.pl i d h n;⟨v,h1,Rep.mono s d v h2⟩,fun i n=>let ⟨d,a,h1,h2,h3,h4⟩:=e.ow i n;⟨d,a,h1,h2,h3,h4.mono s⟩⟩
theorem EnvO.opn{i:Nat}(e:EnvO P w K Hs H (some i) ρ σ):∃d a c o,ρ[i]?=some (some d)/\σ[i]?=some (some (.ref a))/\Hs a=none/\Seal P w a c o/\H a=some c/\EnvR K (upd H a o) ρ σ/\jp Hs (upd H a o)/\
  (∀H3,jp (upd H a o) H3->j5 H (upd H3 a c)/\EnvO P w K Hs (upd H3 a c) (some i) ρ σ)/\∀x H3 v,okB d x=true->H3 a=some o->Rep K H3 x v->Rep K (upd H3 a c) x v:=by
 obtain⟨d,a,h1,h2,h3,h4⟩:=e.ow i rfl;obtain⟨c,o,S,h5,h6,h7,h8⟩:=h4.out;obtain⟨φ,rfl⟩:=S.ext;have s1:j5 H (upd H a o):=j5.upd h5;have sH:∀{H2:Hp},(∀b u,b≠a->H b=some u->H2 b=some u)->jp Hs H2:=fun {H2} k b u q=>k b u (fun z=>by subst z;rw[h3]at q;cases q) (e.sm b u q);refine⟨d,a,_,o,h1,h2,h3,S,h5,⟨e.len,fun j x q=>?_⟩,sH fun b u n q=>by rw[js n];exact q,fun H3 s3=>⟨fun b u q m=>?_,e.len,sH fun b u n q=>by rw[js n];exact s3 b u (by rw[js n];exact q),fun j x q n=>?_,fun j n=>?_⟩,h8⟩
 ·by_cases hj:i=j
  ·subst hj
   rw[h1]at q;cases q;exact⟨.ref a,h2,h6 _ s1 jn⟩
  ·obtain⟨v,g1,g2⟩:=e.pl j x q (fun z=>hj (Option.some.inj z))
   exact⟨v,g1,Rep.monoE s1 _ _ g2⟩
 ·have:b≠a:=fun z=>by subst z;rw[h5]at q;cases q;exact m _ rfl
  rw[js this];exact s3 b u (by rw[js this];exact q)
 ·have s4:j5 H (upd H3 a (.ext φ)):=fun b u q m=>by
   have:b≠a:=fun z=>by subst z;rw[h5]at q;cases q;exact m _ rfl
   rw[js this];exact s3 b u (by rw[js this];exact q)
  obtain⟨v,g1,g2⟩:=e.pl j x q n;exact⟨v,g1,Rep.monoE s4 _ _ g2⟩
 ·cases n
  have s4:j5 H (upd H3 a (.ext φ)):=fun b u q m=>by
   have:b≠a:=fun z=>by subst z;rw[h5]at q;cases q;exact m _ rfl
   rw[js this];exact s3 b u (by rw[js this];exact q)
  exact⟨d,a,h1,h2,h3,h7 _ s4 jn⟩
end
end BX
end
section
namespace BX
open PySem PySem.Spec L2
open PyProof.Rows hiding St
noncomputable def brw(own:Option Nat)(f:RP):RP:=fun ρ=>match f (hid own ρ)with
 |some d=>some d
 | none=>match own with
  |none=>none
  | some i=>match f ρ,lkp i ρ with
   |some d,some c=>if okB c d=true then some d else none
   |_,_=>none
theorem aoc{own:Option Nat}{f:RP}{ρ:Rho}{d:PyData}(h:brw own f ρ=some d):f (hid own ρ)=some d∨∃i c,own=some i/\f ρ=some d/\ρ[i]?=some (some c)/\okB c d=true:=by
 unfold brw at h;cases h1:f (hid own ρ)with
 |some x=>rw[h1]at h;exact .inl h
 | none=>
  rw[h1]at h;cases own with
  |none=>cases h
  | some i=>
   simp only at h;cases h2:f ρ with
   |none=>rw[h2]at h;cases h
   | some x=>
    rw[h2]at h;cases h3:lkp i ρ with
    |none=>rw[h3]at h;cases h
    | some c=>
     rw[h3]at h;simp only at h;split at h
     ·rename_i ok
      cases h;exact .inr ⟨i,c,rfl,rfl,qJ h3,ok⟩
     ·cases h
section
variable {X:Cx}{e a b c tg src:Expr}{es:List Expr}{st:Stmt}{sts j1:List Stmt}{fa fb fc:RP}{F G:RO}{pos:Pos}{own:Option Nat}
noncomputable def tE(P:Program)(w:World)(K:Fg)(own:Option Nat)(f:RP):TE:=fun σ H Q=>∃Hs ρ d,EnvO P w K Hs H own ρ σ/\brw own f ρ=some d/\∀v H',j5 H H'->EnvO P w K Hs H' own ρ σ->Rep K H' d v->Q v H'
theorem ahV(h:PD X e fa):PE X e (tE X.prog X.w X.K own fa):=by
 with_unfolding_all
  intro Kp s σ H Q I ⟨Hs,ρ,d,E,hb,k⟩;rcases aoc hb with h1 | ⟨i,c,ho,h1,h2,ok⟩
  ·exact h Kp s σ H Q I ⟨hid own ρ,d,E.hid,h1,fun v H' s r=>k v H' (jp.e s) (E.mono s) r⟩
  ·subst ho
   obtain⟨d0,a,cl,o,g1,g2,g3,S,g4,env,sm,back,keep⟩:=E.opn;rw[h2]at g1;cases g1;refine thn (h Kp s σ (upd H a o) (fun v H3=>jp (upd H a o) H3/\Rep X.K H3 d v) (Inv.opened I S g4) ⟨ρ,d,env,h1,fun v H3 s3 r3=>⟨s3,r3⟩⟩) fun u s1 ⟨v,H3,I3,r,s3,r3⟩=>?_;have e3:H3 a=some o:=s3 _ _ jn;exact⟨v,upd H3 a cl,Inv.closed I3 S e3 (by obtain⟨φ,rfl⟩:=S.ext;exact Inv.nofrz I g4),r,k v _ (back H3 s3).1 (back H3 s3).2 (keep d H3 v ok e3 r3)⟩
noncomputable def tT(P:Program)(w:World)(K:Fg)(own:Option Nat)(f:Rho->Option Bool):TT:=fun σ H Q=>∃Hs ρ d,EnvO P w K Hs H own ρ σ/\f ρ=some d/\∀H',j5 H H'->EnvO P w K Hs H' own ρ σ->Q d H'
theorem aqs{tc:Rho->Option Bool}(h:PTD X e tc):PT X e (tT X.prog X.w X.K own tc):=by
 with_unfolding_all
  intro Kp s σ H Q I ⟨Hs,ρ,d,E,h1,k⟩;cases own with
  |none=>exact h Kp s σ H Q I ⟨ρ,d,E.to,h1,fun H' s=>k H' (jp.e s) (E.mono s)⟩
  | some i=>
   obtain⟨d0,a,cl,o,g1,g2,g3,S,g4,env,sm,back,keep⟩:=E.opn;refine thn (h Kp s σ (upd H a o) (fun b H3=>b=d/\jp (upd H a o) H3) (Inv.opened I S g4) ⟨ρ,d,env,h1,fun H3 s3=>⟨rfl,s3⟩⟩) fun b s1 ⟨H3,I3,hb,s3⟩=>?_;subst hb;exact⟨upd H3 a cl,Inv.closed I3 S (s3 _ _ jn) (by obtain⟨φ,rfl⟩:=S.ext;exact Inv.nofrz I g4),k _ (back H3 s3).1 (back H3 s3).2⟩
noncomputable def tF(P:Program)(w:World)(K:Fg)(own:Option Nat)(f:RP):TE:=fun σ H Q=>∃Hs ρ d,EnvO P w K Hs H own ρ σ/\f ρ=some d/\∀v H',jp Hs H'->Rep K H' d v->Q v H'
theorem aqt(h:PD X e fa):PE X e (tF X.prog X.w X.K own fa):=by
 with_unfolding_all
  intro Kp s σ H Q I ⟨Hs,ρ,d,E,h1,k⟩;cases own with
  |none=>exact h Kp s σ H Q I ⟨ρ,d,E.to,h1,fun v H' s r=>k v H' (E.sm.trans s) r⟩
  | some i=>
   obtain⟨d0,a,cl,o,g1,g2,g3,S,g4,env,sm,back,keep⟩:=E.opn;exact h Kp s σ (upd H a o) Q (Inv.opened I S g4) ⟨ρ,d,env,h1,fun v H3 s3 r3=>k v H3 (sm.trans s3) r3⟩
noncomputable def arO(P:Program)(w:World)(K:Fg)(Hs:Hp)(own:Option Nat)(D:Ends):Out->Prop
 |.nx ρ=>∀σ H,EnvO P w K Hs H own ρ σ->D.nx σ H
 |.rt d=>∀v H,jp Hs H->Rep K H d v->D.rt v H
 |.bk ρ=>∀σ H,EnvO P w K Hs H own ρ σ->D.bk σ H
 |.ct ρ=>∀σ H,EnvO P w K Hs H own ρ σ->D.ct σ H
noncomputable def tOS(P:Program)(w:World)(K:Fg)(own:Option Nat)(F:RO):TS:=fun D σ H=>∃Hs ρ o,EnvO P w K Hs H own ρ σ/\F ρ=some o/\arO P w K Hs own D o
@[irreducible] noncomputable def PSO(X:Cx)(own:Option Nat)(st:Stmt)(F:RO):Prop:=PS X st (tOS X.prog X.w X.K own F)
@[irreducible] noncomputable def ae0(X:Cx)(own:Option Nat)(sts:List Stmt)(F:RO):Prop:=PSs X sts (tOS X.prog X.w X.K own F)
theorem agz(h:ae0 X none sts F):abU X sts F:=by
 with_unfolding_all
  refine PSs.imp h fun D σ H ⟨ρ,o,en,q,k⟩=>⟨H,ρ,o,EnvO.of en (jp.refl H),q,?_⟩;cases o with
  |nx ρ'=>exact fun σ' H' E=>k σ' H' E.sm E.to
  |rt d=>exact fun v H' s r=>k v H' s r
  |bk ρ'=>exact fun σ' H' E=>k σ' H' E.sm E.to
  |ct ρ'=>exact fun σ' H' E=>k σ' H' E.sm E.to
theorem agA:ae0 X own [] qz:=by
 with_unfolding_all
  refine PSs.imp aeD fun D σ H ⟨Hs,ρ,o,E,q,k⟩=>?_;cases q;exact k σ H E
theorem Jx(h1 : PSO X own st F)(h2 : ae0 X own j1 G) : ae0 X own (st :: j1) (jX F G) := by
  with_unfolding_all
   refine PSs.imp (Je h1 h2) fun D σ H ⟨Hs, ρ, o, E, q, k⟩ => ?_;cases hf : F ρ with
   |none => simp[jX, hf]at q
   | some p =>
     refine⟨Hs, ρ, p, E, hf, ?_⟩;cases p with
     |nx ρ' => exact fun σ' H' E' => ⟨Hs, ρ', o, E', by simpa[jX, hf]using q, k⟩
     | rt d => have : Out.rt d = o := by simpa[jX, hf]using q
               subst this;exact k
     | bk d => have : Out.bk d = o := by simpa[jX, hf]using q
               subst this;exact k
     | ct d => have : Out.ct d = o := by simpa[jX, hf]using q
               subst this;exact k
theorem aod(h:PD X e fa):PSO X own (.Return (some e) pos) (qq fa):=by
 with_unfolding_all
  refine PS.imp (aeF (aqt (own:=own) h)) fun D σ H ⟨Hs,ρ,o,E,q,k⟩=>?_;cases h1:fa ρ with
  |none=>simp[qq,h1]at q
  | some d=>
   have:Out.rt d=o:=by simpa[qq,h1]using q
   subst this;exact⟨Hs,ρ,d,E,h1,k⟩
theorem EnvO.set{P:Program}{w:World}{K:Fg}{Hs H:Hp}{ρ:Rho}{σ:St}{i:Nat}{d:PyData}{v:V}(E:EnvO P w K Hs H own ρ σ)(hi:own≠some i)(r:Rep K H d v):EnvO P w K Hs H own (ρ.set i (some d)) (σ.set i (some v)):=by
 refine⟨by simp[E.len],E.sm,fun j x q n=>?_,fun j n=>?_⟩
 ·by_cases hj:i=j
  ·subst hj
   rw[List.getElem?_set]at q ⊢;simp only[zzM]at q ⊢;by_cases hl:i < ρ.length
   ·rw[if_pos hl]at q
    rw[if_pos (by rw[←E.len];exact hl)];cases q;exact⟨v,rfl,r⟩
   ·rw[if_neg hl]at q;cases q
  ·rw[List.getElem?_set_ne hj]at q ⊢
   exact E.pl j x q n
 ·have hj:i≠j:=fun z=>by subst z;exact hi n
  rw[List.getElem?_set_ne hj,List.getElem?_set_ne hj];exact E.ow j n
theorem ajo(i:Nat){x:Str}{pos':Pos}(hN:X.N.Nodup)(he:PD X e fa)(ho:own≠some i:=by decide)(hi:X.N[i]?=some x:=by rfl)(hx:Loc X.env.scope x:=by first|exact Or.inl rfl|exact Or.inr rfl)(hs:swapsWith e (some (.Name x pos')) pos.line X.env=pure false:=by rfl)
  (hf:X.fn x=true∨X.env.scope.names.lookup x=some .local:=by first|exact .inl rfl|exact .inr rfl|assumption):PSO X own (.Assign [.Name x pos'] e pos) (zk (brw own fa) (j9 i)):=by
 with_unfolding_all
  refine PS.imp (aa0 hN hi hx (ahV (own:=own) he) hs hf) fun D σ H ⟨Hs,ρ,o,E,q,k⟩=>?_;cases h1:brw own fa ρ with
  |none=>simp[zk,h1]at q
  | some d=>
   have:Out.nx (ρ.set i (some d))=o:=by simpa[zk,h1,j9]using q
   subst this;exact⟨Hs,ρ,d,E,h1,fun v H1 _ E1 r1=>k _ H1 (E1.set ho r1)⟩
end
section
variable {X:Cx}{e a b c tg src:Expr}{es:List Expr}{st:Stmt}{sts j1 body:List Stmt}{fa fb fc:RP}{F G:RO}{pos:Pos}{own:Option Nat}
noncomputable def zC(tc:Rho->Option Bool)(F:RO):Nat->RO
 |0,_=>none
 | n+1,ρ=>(tc ρ).bind fun x=>if x=true then (F ρ).bind fun o=>match o with
   |.nx ρ2=>zC tc F n ρ2
   |.ct ρ2=>zC tc F n ρ2
   |.bk ρ2=>some (.nx ρ2)
   |.rt d=>some (.rt d)
  else some (.nx ρ)
theorem akn(n:Nat){tc:Rho->Option Bool}(hp:PassesOwn (model X.prog X.w) X.A X.env X.xe)(hc:PTD X c tc)(hb:ae0 X own body F):PSO X own (.While c body [] pos) (zC tc F n):=by
 with_unfolding_all
  refine PS.imp (ali hp (aqs (own:=own) hc) hb) fun D σ H ⟨Hs,ρ,o,E,q,k⟩=>?_;refine⟨fun m σ H=>∃ρ,EnvO X.prog X.w X.K Hs H own ρ σ/\zC tc F m ρ=some o,⟨n,ρ,E,q⟩,?_⟩
  rintro m σ2 H2 ⟨ρ2,E2,q2⟩
  cases m with
  |zero=>cases q2
  | succ m=>
   cases h1:tc ρ2 with
   |none=>simp[zC,h1]at q2
   | some x=>
    refine⟨Hs,ρ2,x,E2,h1,fun H3 _ E3=>?_⟩;cases x with
    | false=>
     rw[if_neg Bool.false_ne_true];have:Out.nx ρ2=o:=by simpa[zC,h1]using q2
     subst this;exact k σ2 H3 E3
    | true=>
     rw[if_pos rfl];refine⟨fun σ4 H4=>∃ρ4,EnvO X.prog X.w X.K Hs H4 own ρ4 σ4/\zC tc F m ρ4=some o,fun σ4 H4 ⟨ρ4,a1,a2⟩=>⟨m,Nat.lt_succ_self m,ρ4,a1,a2⟩,?_⟩;cases h5:F ρ2 with
     |none=>simp[zC,h1,h5]at q2
     | some p=>
      refine⟨Hs,ρ2,p,E3,h5,?_⟩;cases p with
      |nx ρ6=>exact fun σ6 H6 en6=>⟨ρ6,en6,by simpa[zC,h1,h5]using q2⟩
      |ct ρ6=>exact fun σ6 H6 en6=>⟨ρ6,en6,by simpa[zC,h1,h5]using q2⟩
      | bk ρ6=>
       have:Out.nx ρ6=o:=by simpa[zC,h1,h5]using q2
       subst this;exact fun σ6 H6 en6=>k σ6 H6 en6
      | rt d=>
       have:Out.rt d=o:=by simpa[zC,h1,h5]using q2
       subst this;exact fun v H6 s6 r6=>k v H6 s6 r6
end
theorem qE{H:Hp}{a:Addr}{o o':HO}:upd (upd H a o) a o'=upd H a o':=by
 funext b;by_cases h:b=a
 ·subst h;rw[jn,jn]
 ·rw[js h,js h,js h]
section
variable {P:Program}{w:World}{K:Fg}{Hs H:Hp}{ρ:Rho}{σ:St}{i:Nat}
theorem EnvO.put{a:Addr}{d d':PyData}{φ:Heap->Prop}{H3:Hp}{c:HO}(E:EnvO P w K Hs H (some i) ρ σ)(h0:ρ[i]?=some (some d))(h2:σ[i]?=some (some (.ref a)))(h3:Hs a=none)(h5:H a=some (.ext φ))
  (s3:∀b u,b≠a->H b=some u->H3 b=some u) (ow:aaj P w K (upd H3 a c) a d'):EnvO P w K Hs (upd H3 a c) (some i) (ρ.set i (some d')) σ:=by
 have hi:i < ρ.length:=(List.getElem?_eq_some_iff.mp h0).1
 have s4:j5 H (upd H3 a c):=fun b u q m=>by
  have:b≠a:=fun z=>by subst z;rw[h5]at q;cases q;exact m _ rfl
  rw[js this];exact s3 b u this q
 refine⟨by simp[E.len],fun b u q=>?_,fun j x q n=>?_,fun j n=>?_⟩
 ·have:b≠a:=fun z=>by subst z;rw[h3]at q;cases q
  rw[js this];exact s3 b u this (E.sm b u q)
 ·have hj:i≠j:=fun z=>n (by rw[z])
  rw[List.getElem?_set_ne hj]at q;obtain⟨v,g1,g2⟩:=E.pl j x q n;exact⟨v,g1,Rep.monoE s4 _ _ g2⟩
 ·cases n
  exact⟨d',a,by rw[List.getElem?_set_self hi],h2,h3,ow⟩
theorem EnvO.opnL{ds:LP}(E:EnvO P w K Hs H (some i) ρ σ)(h:ρ[i]?=some (some (.list ds))):∃a xs,σ[i]?=some (some (.ref a))/\Hs a=none/\H a=some (zm a xs)/\Reps K H ds xs/\EnvR K (upd H a (.lst xs)) ρ σ:=by
 obtain⟨d,a,h1,h2,h3,h4⟩:=E.ow i rfl;rw[h]at h1;cases h1;obtain⟨xs,h5,h6⟩:=h4;have s1:j5 H (upd H a (.lst xs)):=j5.upd h5;refine⟨a,xs,h2,h3,h5,h6,E.len,fun j x q=>?_⟩;by_cases hj:i=j
 ·subst hj
  rw[h]at q;cases q;exact⟨.ref a,h2,a,xs,rfl,jn,Reps.monoE s1 _ _ h6⟩
 ·obtain⟨v,g1,g2⟩:=E.pl j x q (fun z=>hj (Option.some.inj z))
  exact⟨v,g1,Rep.monoE s1 _ _ g2⟩
end
section
variable {X:Cx}{e a b c tg src:Expr}{es:List Expr}{st:Stmt}{sts j1 body:List Stmt}{fa fb fc:RP}{F G:RO}{pos:Pos}
noncomputable def arP(P:Program)(w:World)(K:Fg)(i:Nat)(g:RP):TE:=fun σ H Q=>∃Hs ρ d',EnvO P w K Hs H (some i) ρ σ/\g ρ=some d'/\∀H',EnvO P w K Hs H' (some i) (ρ.set i (some d')) σ->Q .non H'
noncomputable def aoe(i:Nat)(g:RP):RO:=fun ρ=>(g ρ).map fun d=> .nx (ρ.set i (some d))
theorem aof{i:Nat}{g:RP}(h:PE X e (arP X.prog X.w X.K i g))(hs:swapsWith e none pos.line X.env=pure false:=by rfl):PSO X (some i) (.Expr e pos) (aoe i g):=by
 with_unfolding_all
  refine PS.imp (abX h hs) fun D σ H ⟨Hs,ρ,o,E,q,k⟩=>?_;cases h1:g ρ with
  |none=>simp[aoe,h1]at q
  | some d=>
   have:Out.nx (ρ.set i (some d))=o:=by simpa[aoe,h1]using q
   subst this;exact⟨Hs,ρ,d,E,h1,fun H' E'=>k σ H' E'⟩
theorem QL{n:Nat}(h:n<1000000):n<sizeLine:=Nat.lt_of_lt_of_le h (by rw[sizeLine_eq];decide)
end
section
variable {X:Cx}{e a b c tg src:Expr}{es:List Expr}{st:Stmt}{sts j1 body:List Stmt}{fa fb fc:RP}{F G:RO}{pos:Pos}
@[irreducible] noncomputable def PN(X:Cx)(e:Expr)(f:RP):Prop:=
 PE X e fun σ H Q=>∃ρ d,EnvR X.K H ρ σ/\f ρ=some d/\∀a H',jp H H'->H a=none->aaj X.prog X.w X.K H' a d->Q (.ref a) H'
theorem ae1{fr:Rho->Option (LP)}(h:PAD X es fr):PN X (.List es pos) (QY fr):=by
 with_unfolding_all
  intro Kp s σ H Q I ⟨ρ,d,en,hf,k⟩;cases h1:fr ρ with
  |none=>simp[QY,h1]at hf
  | some ds=>
   by_cases hfew:few ds=true
   ·have:PyData.list ds=d:=by simpa[QY,h1,hfew]using hf
    subst this;refine thn (ahB h Kp s σ H (fun v H2=>∃a xs H1,v= .ref a/\H1 a=none/\jp H H1/\H2=upd H1 a (.lst xs)/\Reps X.K H1 ds xs) I ⟨ρ,ds,en,h1,fun vs H1 s1 r1=>⟨by rw[r1.length];exact aa8 (by simpa[few]using hfew),fun l hl=>⟨l,vs,H1,rfl,hl,s1,rfl,r1⟩⟩⟩) fun u s1 ⟨v,H2,I2,r,a,xs,H1,e1,e2,s1',e3,r1⟩=>?_;subst e1;have e4:H2 a=some (.lst xs):=by rw[e3];exact jn
    have e5:upd H2 a (zm a xs)=upd H1 a (zm a xs):=by rw[e3,qE]
    have s2:jp H1 (upd H2 a (zm a xs)):=by rw[e5];exact jC e2
    exact⟨.ref a,_,Inv.closed I2 (.l xs) e4 (fun ob u z=>by have:=I.base.frzs _ _ _ z;rw[s1'.free e2]at this;cases this),r,k a _ (s1'.trans s2) (s1'.free e2) ⟨xs,jn,Reps.mono s2 _ _ r1⟩⟩
   ·simp[QY,h1,hfew]at hf
noncomputable def abV(i:Nat)(f:RP)(G:RO):RO:=fun ρ=>(f ρ).bind fun d=>if i < ρ.length then (G (ρ.set i (some d))).bind fun o=>match o with
  |.rt c=>some (.rt c)
  |_=>none
 else none
theorem agB(i:Nat){x:Str}{pos':Pos}(hN:X.N.Nodup)(he:PN X e fa)(h:ae0 X (some i) j1 G)(hi:X.N[i]?=some x:=by rfl)(hx:Loc X.env.scope x:=by first|exact Or.inl rfl|exact Or.inr rfl)(hs:swapsWith e (some (.Name x pos')) pos.line X.env=pure false:=by rfl)
  (hf:X.fn x=true∨X.env.scope.names.lookup x=some .local:=by first|exact .inl rfl|exact .inr rfl|assumption):ae0 X none (.Assign [.Name x pos'] e pos::j1) (abV i fa G):=by
 with_unfolding_all
  refine PSs.imp (Je (aa0 hN hi hx he hs hf) h) fun D σ H ⟨Hs,ρ,o,E,q,k⟩=>?_;cases h1:fa ρ with
  |none=>simp[abV,h1]at q
  | some d=>
   by_cases hl:i < ρ.length
   ·cases h2:G (ρ.set i (some d))with
    |none=>simp[abV,h1,h2]at q
    | some p=>
     cases p with
     | rt c=>
      have:Out.rt c=o:=by simpa[abV,h1,h2,hl]using q
      subst this;refine⟨ρ,d,E.to,h1,fun a H' s hn ow=>⟨Hs,ρ.set i (some d),.rt c,⟨by simp[E.len],E.sm.trans s,fun j y q n=>?_,fun j n=>?_⟩,h2,k⟩⟩
      ·have hj:i≠j:=fun z=>n (by rw[z])
       rw[List.getElem?_set_ne hj]at q ⊢;obtain⟨v,g1,g2⟩:=E.pl j y q (fun z=>nomatch z);exact⟨v,g1,Rep.mono s _ _ g2⟩
      ·cases n
       refine⟨d,a,by rw[List.getElem?_set_self hl],by rw[List.getElem?_set_self (by rw[←E.len];exact hl)],E.sm.free hn,ow⟩
     |nx _=>simp[abV,h1,h2,hl]at q
     |bk _=>simp[abV,h1,h2,hl]at q
     |ct _=>simp[abV,h1,h2,hl]at q
   ·simp[abV,h1,hl]at q
noncomputable def isI(n:Int):PyData->Bool
 |.int m=>decide (m=n)
 |_=>false
noncomputable def isS(t:Str):PyData->Bool
 |.str m=>decide (m=t)
 |_=>false
noncomputable def acQ(κ:Key)(d:PyData):Bool:=match κ with
 |.inl n=>isI n d
 |.inr t=>isS t d
theorem Qt(κ κ':Key):acQ κ (adG κ')=decide (κ'=κ):=by
 cases κ<;>cases κ'<;>simp[acQ,isI,isS,adG]
noncomputable def zw(r:List (PyData×PyData))(κ:Key):OP:=(r.find? fun p=>acQ κ p.1).map (·.2)
noncomputable def acR(r:List (PyData×PyData))(κ:Key)(d:PyData):List (PyData×PyData):=if r.any (fun p=>acQ κ p.1)=true then r.map (fun p=>if acQ κ p.1=true then (p.1,d) else p) else r++[(adG κ,d)]
noncomputable def asO(r:List (PyData×PyData))(n:Int)(d:PyData):List (PyData×PyData):=if r.any (fun p=>isI n p.1)=true then r.map (fun p=>if isI n p.1=true then (p.1,d) else p) else r++[(.int n,d)]
theorem Zp{K:Fg}{H:Hp}(n:Key):∀{r:List (PyData×PyData)}{ks:List (Key×V)},RepM K H r ks->(zw r n=none/\QE ks n=none)∨∃d x,zw r n=some d/\QE ks n=some x/\Rep K H d x
 | [],ks,h=>by cases (show ks=[] from h);exact .inl ⟨rfl,rfl⟩
 | (k,d)::r,ks,⟨i,x,s,h1,h2,h3,h4⟩=>by
  subst h1;subst h2;by_cases hn:i=n
  ·subst hn
   exact .inr ⟨d,x,by simp[zw,Qt],by simp[QE],h3⟩
  ·have e1:zw ((adG i,d)::r) n=zw r n:=by simp[zw,Qt,hn,List.find?_cons]
   have e2:QE ((i,x)::s) n=QE s n:=by simp[QE,List.find?_cons,hn]
   rw[e1,e2];exact Zp n h4
theorem RepM.anyK{K:Fg}{H:Hp}(n:Key):∀{r:List (PyData×PyData)}{ks:List (Key×V)},RepM K H r ks->r.any (fun p=>acQ n p.1)=ks.any fun kv=>decide (kv.1=n)
 | [],ks,h=>by cases (show ks=[] from h);rfl
 | (k,d)::r,ks,⟨i,x,s,h1,h2,h3,h4⟩=>by
  subst h1;subst h2;rw[List.any_cons,List.any_cons,RepM.anyK n h4,Qt]
theorem RepM.any{K:Fg}{H:Hp}(n:Int){r:List (PyData×PyData)}{ks:List (Key×V)}(h:RepM K H r ks):r.any (fun p=>isI n p.1)=ks.any fun kv=>decide (kv.1=(Sum.inl n:Key)):=RepM.anyK (.inl n) h
theorem RepM.replK{K:Fg}{H:Hp}(n:Key){d':PyData}{x':V}(hr:Rep K H d' x'):∀{r:List (PyData×PyData)}{ks:List (Key×V)},RepM K H r ks->
  RepM K H (r.map fun p=>if acQ n p.1=true then (p.1,d') else p) (ks.map fun kv=>if kv.1=n then (kv.1,x') else kv)
 | [],ks,h=>by cases (show ks=[] from h);exact rfl
 | (k,d)::r,ks,⟨i,x,s,h1,h2,h3,h4⟩=>by
  subst h1;subst h2;by_cases hn:i=n
  ·subst hn
   have c1:acQ i ((adG i,d):PyData×PyData).1=true:=by simp[Qt]
   rw[List.map_cons,List.map_cons,if_pos c1,if_pos rfl];exact⟨i,x',_,rfl,rfl,hr,RepM.replK i hr h4⟩
  ·have c1:¬ acQ n ((adG i,d):PyData×PyData).1=true:=by simp[Qt,hn]
   rw[List.map_cons,List.map_cons,if_neg c1,if_neg hn];exact⟨i,x,_,rfl,rfl,h3,RepM.replK n hr h4⟩
theorem RepM.snocK{K:Fg}{H:Hp}(n:Key){d':PyData}{x':V}(hr:Rep K H d' x'):∀{r:List (PyData×PyData)}{ks:List (Key×V)},RepM K H r ks->RepM K H (r++[(adG n,d')]) (ks++[(n,x')])
 | [],ks,h=>by cases (show ks=[] from h);exact⟨n,x',[],rfl,rfl,hr,rfl⟩
 | (k,d)::r,ks,⟨i,x,s,h1,h2,h3,h4⟩=>by
  subst h2;exact⟨i,x,_,h1,rfl,h3,RepM.snocK n hr h4⟩
theorem RepM.putK{K:Fg}{H:Hp}(n:Key){d':PyData}{x':V}(hr:Rep K H d' x'){r:List (PyData×PyData)}{ks:List (Key×V)}(h:RepM K H r ks):RepM K H (acR r n d') (_root_.L2.putK ks n x'):=by
 unfold acR _root_.L2.putK;rw[h.anyK n];by_cases c:(ks.any fun kv=>decide (kv.1=n))=true
 ·rw[if_pos c,if_pos c];exact h.replK n hr
 ·rw[if_neg c,if_neg c];exact h.snocK n hr
theorem RepM.put{K:Fg}{H:Hp}(n:Int){d':PyData}{x':V}(hr:Rep K H d' x'){r:List (PyData×PyData)}{ks:List (Key×V)}(h:RepM K H r ks):RepM K H (asO r n d') (_root_.L2.putK ks (Sum.inl n) x'):=RepM.putK (.inl n) hr h
theorem RepM.length{K:Fg}{H:Hp}:∀{r:List (PyData×PyData)}{ks:List (Key×V)},RepM K H r ks->ks.length=r.length
 | [],ks,h=>by cases (show ks=[] from h);rfl
 | (k,d)::r,ks,⟨i,x,s,h1,h2,h3,h4⟩=>by subst h2;simp[RepM.length h4]
end
noncomputable def QM:PyData->Option (List (PyData×PyData))
 |.dict ((.none,_)::r)=>some r
 |_=>none
theorem Jg{K:Fg}{H:Hp}{d:PyData}{r:List (PyData×PyData)}{v:V}(h:QM d=some r)(q:Rep K H d v):∃a ks ob,v= .ref a/\H a=some (.frz ob (.dK ks))/\RepM K H r ks:=by
 unfold QM at h;split at h
 ·cases h
  obtain⟨a,h1,⟨ns,h2,h3⟩ | ⟨ks,ob,h2,h3⟩ | ⟨x,h2,_⟩ | ⟨x,_,_,h2,_⟩ | h2⟩:=q
  ·cases ns with
   |nil=>cases h3
   |cons n ns=>cases h3
  ·exact⟨a,ks,ob,h1,h2,h3⟩
  ·cases h2
  ·cases h2
  ·cases h2
 ·cases h
section
variable {X:Cx}{e a b c tg src:Expr}{es:List Expr}{fa fb fc:RP}{pos:Pos}
end
section
variable {X:Cx}{e a b c tg src:Expr}{es:List Expr}{fa fb fc:RP}{pos:Pos}
end
end BX
end
section
namespace BX
open PySem PySem.Spec L2
section
open PyProof.Rows hiding St
variable {X:Cx}{e a b c tg src:Expr}{es:List Expr}{fa fb fc:RP}{pos:Pos}{j1:List Expr}
end
end BX
end
section
namespace BX
open PySem PySem.Spec L2
open PyProof.Rows hiding St
section
variable {X:Cx}{e a b c tg src:Expr}{es:List Expr}{fa fb fc:RP}{pos:Pos}{j1:List Expr}
noncomputable def ae2(fa fb:RP):RP:=fun ρ=>(fa ρ).bind fun x=>(asB x).bind fun t=>if t=true then fb ρ else some (.bool false)
theorem alW{op:BoolOp}(ha:PD X a fa):PD X (.BoolOp op [a] pos) fa:=by
 with_unfolding_all exact(apT ha)
theorem alX(ha:PD X a fa)(hb:PD X (.BoolOp .And (b::j1) pos) fb):PD X (.BoolOp .And (a::b::j1) pos) (ae2 fa fb):=by
 with_unfolding_all
  refine PE.imp (apU ha hb) fun σ H Q ⟨ρ,d,en,h,k⟩=>?_;cases h1:fa ρ with
  |none=>simp[ae2,h1]at h
  | some x=>
   cases h2:asB x with
   |none=>simp[ae2,h1,h2]at h
   | some t=>
    have hx:=JC h2;subst hx;refine⟨ρ,_,en,h1,fun v H1 s1 r1=>⟨t,r1,?_⟩⟩;cases t with
    |true=>rw[if_pos rfl];exact⟨ρ,d,en.mono s1,by simpa[ae2,h1,h2]using h,fun v H2 s2 r2=>k v H2 (s1.trans s2) r2⟩
    | false=>
     rw[if_neg Bool.false_ne_true];have:PyData.bool false=d:=by simpa[ae2,h1,h2]using h
     subst this;exact k _ H1 s1 rfl
noncomputable def aog:PyData->Bool
 |.none=>true
 |_=>false
theorem alY{K:Fg}{H:Hp}{p:PyData}{x:V}(r:Rep K H p x):decide (x= .non)=aog p:=by
 cases p with
 |none=>cases (show x= .non from r);rfl
 |bool b=>cases (show x=_ from r);rfl
 |int b=>cases (show x=_ from r);rfl
 |str b=>cases (show x=_ from r);rfl
 |tuple ds=>obtain⟨a,xs,h,_⟩:=r;subst h;rfl
 |list ds=>obtain⟨a,xs,h,_⟩:=r;subst h;rfl
 |dict ds=>obtain⟨a,h,_⟩:=r;subst h;rfl
noncomputable def agC(p q:PyData):OP:=match q with
 |.none=>some (.bool (!aog p))
 |_=>none
theorem agD:OpD X (compareOp .IsNot) agC:=by
 refine⟨_,anJ,fun p q d x y H Q h rx ry k=>?_⟩;unfold agC at h;split at h
 ·cases h
  exact⟨ry,by rw[alY rx];exact k _ H (jp.refl H) rfl⟩
 ·cases h
end
section
variable {X:Cx}{e a b c tg src:Expr}{es:List Expr}{fa fb fc:RP}{pos:Pos}
noncomputable def arQ:V->List V->Hp->VK->Prop:=fun x vs H Q=>∃l xs y,x= .ref l/\vs=[.int 0,y]/\H l=some (.lst xs)/\xs.length<sizeLine/\Q .non (upd H l (.lst (y::xs)))
theorem ahW:MtM X "list.insert" arQ:=by
 intro Kp s σ H x vs v us Q I rx rv h;obtain⟨l,xs,y,rfl,rfl,hH,hz,q⟩:=h;cases rx;cases rv with
 | cons r0 rv=>
  obtain⟨t,rfl⟩:=r0;obtain⟨u,rfl,ru⟩:=jG.one rv;obtain⟨z,its,n,r,hl,e⟩:=I.lstM hH;refine call_meets F.slot_list_insert ⟨_,e,rfl⟩ F.entry_list_insert (F.args_list_insert_3 _ _ _) (AutoSeq1.list_insert_list_int_val_1 l its.toArray n 0 t u (by decide) (by rw[List.size_toArray];omega)) ⟨e,?_⟩;refine⟨.non,_,I.lset (its':=u::its) (t':=s.toks) hH e ?_ (.cons ru r) ?_,rfl,q⟩
  ·simp
  ·rw[List.length_cons];omega
noncomputable def aoh(c z d:OP):OP:=match c,z,d with
 |some (.list ds),some (.int 0),some d=>if noL d=true/\ds.length<1000000 then some (.list (d::ds)) else none
 |_,_,_=>none
noncomputable def arR(i:Nat)(fz fa:RP):RP:=fun ρ=>aoh (lkp i ρ) (fz ρ) (fa ρ)
theorem alZ{c z d:OP}{r:PyData}(h:aoh c z d=some r):∃ds x,c=some (.list ds)/\z=some (.int 0)/\d=some x/\noL x=true/\ds.length<1000000/\r= .list (x::ds):=by
 unfold aoh at h;split at h
 ·split at h
  ·rename_i hc
   cases h;exact⟨_,_,rfl,rfl,rfl,hc.1,hc.2,rfl⟩
  ·cases h
 ·cases h
theorem ahX(i:Nat){x:Str}{p1 apos cpos:Pos}{fz:RP}(hz:PD X b fz)(h:PD X e fa)(hN:X.N[i]?=some x:=by rfl)(hv:Vis X.env.scope x:=by first|exact Or.inl rfl|exact Or.inr (Or.inl rfl)|exact Or.inr (Or.inr rfl))(hd:(x==("__debug__":Str))=false:=by decide)
  (hcd:(x==("__classdict__":Str))=false:=by decide) (hbase:attributeBase (.Name x p1) "insert" X.env (eval (.Name x p1) X.env)=eval (.Name x p1) X.env:=by rfl)
  (hfew:((backTo cpos (starEach [b,e] X.env)).all (fun x=>!x.1)&&(backToKw cpos (keywordEach [] X.env)).all (fun x=>x.1.isSome)&&decide ([b,e].length+([]:List Keyword).length+(if ([]:List Keyword).isEmpty then 0 else 1)<30))=true:=by rfl)
  (hline:(apos.endLine==cpos.line)=true:=by rfl) (hs:starEach [b,e] X.env=(false,eval b X.env)::starEach [e] X.env:=by rfl) (hs2:starEach [e] X.env=(false,eval e X.env)::starEach [] X.env:=by rfl) (hplain:(backTo cpos (starEach [e] X.env)).any (·.1)=false:=by rfl):
  PE X (.Call (.Attribute (.Name x p1) "insert" apos) [b,e] [] cpos) (arP X.prog X.w X.K i (arR i fz fa)):=by
 with_unfolding_all
  intro Kp s σ H Q I ⟨Hs,ρ,d',E,hg,k⟩;obtain⟨ds,d,q1,q0,q2,hn,hl,rfl⟩:=alZ hg;obtain⟨a,xs,g2,g3,g4,g5,env⟩:=E.opnL (qJ q1);have hlen:=g5.length;have W:=apn (X:=X) (cpos:=cpos) (apos:=apos) PySem.F.plainAttrs_list PySem.F.slot_list_insert PySem.F.type_list_insert ahW (QC hN hv hd hcd) (qG hz (qG h Jk hs2) hs) hbase hfew hline hs hplain
  refine thn (W Kp s σ (upd H a (.lst xs)) (fun v H4=>∃H3 y,v= .non/\H4=upd H3 a (.lst (y::xs))/\jp (upd H a (.lst xs)) H3/\Rep X.K H3 d y) (Inv.opened I (.l xs) g4)
   ⟨.ref a,g2,.inl ⟨rfl,_,SqL.of jn⟩,ρ,.int 0,env,q0,fun y0 H2 s2 r2=>⟨ρ,d,env.mono s2,q2,fun y H3 s3 r3=>?_⟩⟩) fun u s1 ⟨v,H4,I4,r,H3,y,e1,e2,s3,r3⟩=>?_
  ·cases (show y0=V.int 0 from r2)
   exact⟨a,xs,y,rfl,rfl,s3 _ _ (s2 _ _ jn),by rw[hlen];exact QL hl,H3,y,rfl,rfl,s2.trans s3,r3⟩
  subst e1;have e4:H4 a=some (.lst (y::xs)):=by rw[e2];exact jn
  have sb:∀b u,b≠a->H b=some u->H4 b=some u:=fun b u n q=>by rw[e2,js n];exact s3 b u (by rw[js n];exact q)
  refine⟨.non,upd H4 a (zm a (y::xs)),Inv.closed I4 (.l _) e4 (Inv.nofrz I g4),r,k _ (E.put (qJ q1) g2 g3 g4 sb ⟨y::xs,jn,?_⟩)⟩
  have s5:j5 H (upd H4 a (zm a (y::xs))):=fun b u q m=>by
   have:b≠a:=fun z=>by subst z;rw[g4]at q;cases q;exact m _ rfl
   rw[js this];exact sb b u this q
  have s6:Jf H3 (upd H4 a (zm a (y::xs))):=fun b u q m=>by
   have e3:H3 a=some (.lst xs):=s3 _ _ jn;have:b≠a:=fun z=>by subst z;rw[e3]at q;cases q;exact m _ rfl
   rw[js this,e2,js this];exact q
  exact⟨y,xs,rfl,Rep.monoN s6 _ _ hn r3,Reps.monoE s5 _ _ g5⟩
end
section
variable {X:Cx}{e a b c tg src:Expr}{es:List Expr}{fa fb fc:RP}{pos:Pos}
noncomputable def arS:V->V->V->Hp->(Hp->Prop)->Prop:=fun o k v H Q=>∃a xs n j,o= .ref a/\k= .int n/\H a=some (zm a xs)/\ixN xs.length n=some j/\Q (upd H a (zm a (xs.set j v)))
theorem al0:anE X arS:=by
 intro Kp s σ H o k v ov iv u Q I ro rk rv ⟨a,xs,n,j,e1,e2,h1,h2,q⟩;subst e1;subst e2;refine thn (alw Kp s σ (upd H a (.lst xs)) (.ref a) (.int n) v ov iv u (fun H'=>H'=upd (upd H a (.lst xs)) a (.lst (xs.set j v))) (Inv.opened I (.l xs) h1) ro rk rv ⟨a,xs,n,j,rfl,rfl,jn,h2,rfl⟩) fun _ s1 ⟨H',I',e⟩=>?_;subst e;have I2:=Inv.closed I' (.l (xs.set j v)) jn (Inv.nofrz I h1);rw[qE,qE]at I2;exact⟨_,I2,q⟩
noncomputable def al1(c v k:OP):OP:=match c,v,k with
 |some (.list ds),some d,some (.int n)=>(ixN ds.length n).map fun j=> .list (ds.set j d)
 |_,_,_=>none
theorem al2{c v k:OP}{o:PyData}(h:al1 c v k=some o):∃ds d n j,c=some (.list ds)/\v=some d/\k=some (.int n)/\ixN ds.length n=some j/\o= .list (ds.set j d):=by
 unfold al1 at h;split at h
 ·rename_i ds d n
  cases q:ixN ds.length n with
  |none=>rw[q]at h;cases h
  |some j=>rw[q]at h;cases h;exact⟨_,_,_,_,rfl,rfl,rfl,q,rfl⟩
 ·cases h
theorem Reps.set{K:Fg}{H:Hp}{d:PyData}{v:V}(r:Rep K H d v):∀{ds:LP}{xs:List V} (j:Nat),Reps K H ds xs->Reps K H (ds.set j d) (xs.set j v)
 | [],xs,j,h=>by cases (show xs=[] from h);exact rfl
 |_::ds,xs,0,⟨x,q,h1,h2,h3⟩=>by subst h1;exact⟨v,q,rfl,r,h3⟩
 |_::ds,xs,j+1,⟨x,q,h1,h2,h3⟩=>by subst h1;exact⟨x,_,rfl,h2,Reps.set r j h3⟩
noncomputable def aoi(i:Nat)(fk fv:RP):RO:=fun ρ=>(al1 (lkp i ρ) (brw (some i) fv ρ) (brw (some i) fk ρ)).map fun d=> .nx (ρ.set i (some d))
theorem al3(i:Nat){x:Str}{p1 p2:Pos}{fk fv:RP}(hk:PD X b fk)(he:PD X e fv)(hN:X.N[i]?=some x:=by rfl)(hv:Vis X.env.scope x:=by first|exact Or.inl rfl|exact Or.inr (Or.inl rfl)|exact Or.inr (Or.inr rfl))
  (hd:(x==("__debug__":Str))=false:=by decide) (hcd:(x==("__classdict__":Str))=false:=by decide)
  (ha:∀v,assign (.Subscript (.Name x p1) b p2) X.env v=(do
   let ov ←holding [v] (eval (.Name x p1) X.env)
   let iv ←holding [v,ov] (eval b X.env)
   standAt p2
   holding [v,ov,iv] (setItem ov iv v)
   release [v,ov,iv] []):=by intro _; rfl)
  (hs:swapsWithSole [.Subscript (.Name x p1) b p2] e pos.line X.env=pure false:=by rfl) (hw:swappedStores [.Subscript (.Name x p1) b p2] e X.env=pure none:=by rfl)
  (h1:(assignEach [.Subscript (.Name x p1) b p2] X.env).map (·.2)=[assign (.Subscript (.Name x p1) b p2) X.env]:=by rfl):PSO X (some i) (.Assign [.Subscript (.Name x p1) b p2] e pos) (aoi i fk fv):=by
 with_unfolding_all
  refine PS.imp (acx (ahV (own:=some i) he) (ahr (QC hN hv hd hcd) (ahV (own:=some i) hk) al0 ha) hs hw h1) fun D σ H ⟨Hs,ρ,o,E,q,k⟩=>?_;cases hp:al1 (lkp i ρ) (brw (some i) fv ρ) (brw (some i) fk ρ)with
  |none=>simp[aoi,hp]at q
  | some nw=>
   have:Out.nx (ρ.set i (some nw))=o:=by simpa[aoi,hp]using q
   subst this;obtain⟨ds,d,n,j,q1,q2,q3,hl,rfl⟩:=al2 hp;refine⟨Hs,ρ,d,E,q2,fun v H1 s1 E1 r1=>?_⟩;obtain⟨d0,a,g1,g2,g3,g4⟩:=E1.ow i rfl;rw[qJ q1]at g1;cases g1;refine⟨.ref a,g2,Hs,ρ,.int n,E1,q3,fun kv H2 s2 E2 r2=>?_⟩;cases (show kv=V.int n from r2);obtain⟨d1,a1,f1,f2,f3,f4⟩:=E2.ow i rfl;rw[qJ q1]at f1;cases f1;rw[g2]at f2;cases f2;obtain⟨xs,e2,e3⟩:=f4;refine⟨a,xs,n,j,rfl,rfl,e2,by rw[e3.length];exact hl,k _ _ (E2.put (qJ q1) g2 f3 e2 (fun _ _ _ z=>z) ⟨_,jn,?_⟩)⟩;have s5:j5 H2 (upd H2 a (zm a (xs.set j v))):=j5.upd e2;exact Reps.set (Rep.monoE (s2.trans s5) _ _ r1) j (Reps.monoE s5 _ _ e3)
noncomputable def aak(ds:LP):OP:=match ds with
 | [.list xs]=>some (.list xs)
 | [.tuple xs]=>some (.list xs)
 |_=>none
noncomputable def ae3(ds:LP):OP:=match ds with
 | [.list xs]=>some (.tuple xs)
 | [.tuple xs]=>some (.tuple xs)
 |_=>none
theorem agE:Qn X (.type "tuple") ae3:=by
 refine⟨_,adF,fun ds d xs H Q h r k=>?_⟩;unfold ae3 at h;split at h
 ·cases h
  obtain⟨x,q,e1,e2,e3⟩:=r;cases (show q=[] from e3);obtain⟨a,us,g1,g2,g3⟩:=e2;subst g1;refine⟨a,us,e1,.inl ⟨SqL.of g2,fun l hl=>?_⟩⟩;have s1:=jC (o:= .tup us) hl;exact k _ _ s1 ⟨l,us,rfl,SqT.of jn,Reps.mono s1 _ _ g3⟩
 ·cases h
  obtain⟨x,q,e1,e2,e3⟩:=r;cases (show q=[] from e3);obtain⟨a,us,g1,g2,g3⟩:=e2;subst g1;exact⟨a,us,e1,.inr ⟨g2,k _ H (jp.refl H) ⟨a,us,rfl,g2,g3⟩⟩⟩
 ·cases h
theorem ako{p:Pos}{fr:Rho->Option (LP)}(hm:X.mg "list"=none)(hv:bootBuiltins "list"=some (.type "list"))(ha:PAD X [e] fr)(hg:Gl X "list":=by rfl)
  (he:starEach [e] X.env=(false,eval e X.env)::starEach [] X.env:=by rfl) (hpl:(backTo pos (starEach [] X.env)).any (·.1)=false:=by rfl):PN X (.Call (.Name "list" p) [e] [] pos) (jL aak fr):=by
 with_unfolding_all
  intro Kp s σ H Q I ⟨ρ,d,en,hf,k⟩;cases h1:fr ρ with
  |none=>simp[jL,h1]at hf
  | some as=>
   have q':aak as=some d:=by simpa[jL,h1]using hf
   have W:=aa5 (X:=X) (pos:=pos) (p:=p) aeO hg hm hv ha (by decide) (by decide) he hpl;refine thn (W Kp s σ H (fun v H2=>∃a ys H1 ds,v= .ref a/\H1 a=none/\jp H H1/\H2=upd H1 a (.lst ys)/\d= .list ds/\Reps X.K H1 ds ys) I ⟨ρ,as,en,h1,fun vs H1 s1 r1=>?_⟩) fun u s1 ⟨v,H2,I2,r,a,ys,H1,ds,e1,e2,s1',e3,e0,r1⟩=>?_
   ·unfold aak at q'
    split at q'
    ·cases q'
     obtain⟨x,q,z1,z2,z3⟩:=r1;cases (show q=[] from z3);obtain⟨a,us,g1,g2,g3⟩:=z2;subst g1;exact⟨a,us,z1,.inl (SqL.of g2),fun l hl=>⟨l,us,H1,_,rfl,hl,s1,rfl,rfl,g3⟩⟩
    ·cases q'
     obtain⟨x,q,z1,z2,z3⟩:=r1;cases (show q=[] from z3);obtain⟨a,us,g1,g2,g3⟩:=z2;subst g1;exact⟨a,us,z1,.inr g2,fun l hl=>⟨l,us,H1,_,rfl,hl,s1,rfl,rfl,g3⟩⟩
    ·cases q'
   ·subst e1;subst e0
    have e4:H2 a=some (.lst ys):=by rw[e3];exact jn
    have e5:upd H2 a (zm a ys)=upd H1 a (zm a ys):=by rw[e3,qE]
    have s2:jp H1 (upd H2 a (zm a ys)):=by rw[e5];exact jC e2
    exact⟨.ref a,_,Inv.closed I2 (.l ys) e4 (fun ob u z=>by have:=I.base.frzs _ _ _ z;rw[s1'.free e2]at this;cases this),r,k a _ (s1'.trans s2) (s1'.free e2) ⟨ys,jn,Reps.mono s2 _ _ r1⟩⟩
end
section
variable {X:Cx}{e a b c:Expr}{fa fb fc:RP}{pos p2:Pos}
noncomputable def ae4(ds:LP)(lo hi:Option Int):LP:=(ds.drop (HT.sIx ds.length 0 lo)).take (HT.sIx ds.length ds.length hi-HT.sIx ds.length 0 lo)
noncomputable def inI:PyData->Option Int
 |.int i=>some i
 |_=>none
theorem agF{d:PyData}{i:Int}(h:inI d=some i):d= .int i:=by cases d<;>simp[inI]at h;rw[h]
end
section
variable {prog:Program}{w:World}{A:Around}{E:Value->SP0}{s:Shared}
noncomputable def ItA(g:Bool)(h:Heap)(i t:Addr)(k:Nat):Prop:=match g with
 |true=>h.IsListIter i t k
 |false=>h.IsTupleIter i t k
noncomputable def SrA(g:Bool)(h:Heap)(t:Addr)(xs:Array Value):Prop:=match g with
 |true=>h.IsList t xs
 |false=>h.IsTuple t xs
theorem ItA.to{g:Bool}{h h':Heap}{i t:Addr}{k:Nat}(x:ItA g h i t k)(kp:∀o,h.get? i=some o->h'.get? i=some o):ItA g h' i t k:=by
 cases g<;>exact(let ⟨o,e,r⟩:=x;⟨o,kp o e,r⟩)
theorem SrA.to{g:Bool}{h h':Heap}{t:Addr}{xs:Array Value}(x:SrA g h t xs)(kp:∀o,h.get? t=some o->h'.get? t=some o):SrA g h' t xs:=by
 cases g<;>exact(let ⟨o,e,r⟩:=x;⟨o,kp o e,r⟩)
theorem ItA.extBut{g:Bool}{h h':Heap}{i t b:Addr}{k:Nat}(x:ItA g h i t k)(e:Heap.ExtBut b h h')(n:i≠b):ItA g h' i t k:=x.to fun o q=>e i o n q
theorem SrA.extBut{g:Bool}{h h':Heap}{t b:Addr}{xs:Array Value}(x:SrA g h t xs)(e:Heap.ExtBut b h h')(n:t≠b):SrA g h' t xs:=x.to fun o q=>e t o n q
theorem ItA.obj{g:Bool}{h:Heap}{i t:Addr}{k:Nat}(x:ItA g h i t k):∃o vs,h.get? i=some o/\o.data= .fields vs:=by
 cases g<;>exact(let ⟨o,e,_,d⟩:=x;⟨o,_,e,d⟩)
structure Apart2(z TI TO i1 i2 t1 t2:Addr):Prop where
 nd:[z,TO,i1,i2].Nodup
 ti:TI∉[z,TO,i1,i2]
 s1:t1∉[z,TO,i1,i2]
 s2:t2∉[z,TO,i1,i2]
structure Zip2(ga gb:Bool)(h:Heap)(z TI TO i1 i2 t1 t2:Addr)(f0:Value)(k:Nat):Prop where
 hz:IsZip h z TI TO f0
 hTI:IsPair h TI (.ref i1) (.ref i2)
 hTO:∃a b,IsPair h TO a b
 g1:ItA ga h i1 t1 k
 g2:ItA gb h i2 t2 k
theorem Zip2.keep{ga gb:Bool}{h h':Heap}{z TI TO i1 i2 t1 t2:Addr}{f0:Value}{k:Nat}(S:Zip2 ga gb h z TI TO i1 i2 t1 t2 f0 k)(kp:∀b∈[z,TI,TO,i1,i2],∀o,h.get? b=some o->h'.get? b=some o):
  Zip2 ga gb h' z TI TO i1 i2 t1 t2 f0 k:=by
 obtain⟨hz,hTI,⟨a,b,hTO⟩,g1,g2⟩:=S;exact⟨kp z (by simp) _ hz,kp TI (by simp) _ hTI,⟨a,b,kp TO (by simp) _ hTO⟩,g1.to (kp i1 (by simp)),g2.to (kp i2 (by simp))⟩
end
noncomputable def Sq(g:Bool)(K:Fg)(H:Hp)(t:Addr)(xs:List V):Prop:=match g with
 |true=>SqL K H t xs
 |false=>SqT K H t xs
theorem Sq.inj{g:Bool}{X:Cx}{Kp:List (Addr×Obj)}{σ:St}{H:Hp}{s:Shared}{a:Addr}{xs ys:List V}(I:Inv X Kp σ H s)(q:Sq g X.K H a xs)(q':Sq g X.K H a ys):xs=ys:=by
 cases g with
 |true=>exact I.list_inj q q'
 |false=>exact I.tuple_inj q q'
theorem Sq.monoE{g:Bool}{K:Fg}{H H':Hp}{a:Addr}{xs:List V}(e:j5 H H')(h:Sq g K H a xs):Sq g K H' a xs:=by
 cases g with
 |true=>exact j5.sql e h
 |false=>exact j5.tup e h
theorem Sq.monoA{g:Bool}{K:Fg}{H H':Hp}{a:Addr}{xs:List V}(e:jy H H')(h:Sq g K H a xs):Sq g K H' a xs:=by
 cases g with
 |true=>exact jy.sql e h
 |false=>exact jy.tup e h
theorem Sq.at{g:Bool}{K:Fg}{H:Hp}{a:Addr}{xs:List V}(h:Sq g K H a xs):(∃u,H a=some u)∨∃o,K.lookup a=some o:=by
 cases g with
 |true=>rcases h with (e | ⟨o,e⟩) | ⟨o,its,n,hk,_⟩<;>first|exact .inl ⟨_,e⟩|exact .inr ⟨_,hk⟩
 |false=>rcases h with (e | ⟨o,e⟩) | ⟨o,its,n,hk,_⟩<;>first|exact .inl ⟨_,e⟩|exact .inr ⟨_,hk⟩
section
variable {X:Cx}
end
section
variable {X:Cx}{e a b c:Expr}{fa fb fc:RP}{pos p2:Pos}
theorem Zl:∀{is:List Int}{us:List Value},jG (is.map V.int) us->∀(j:Nat) (i:Int),is[j]?=some i->∃t,us[j]?=some (.int i t)
 | [],us,r,j,i,h=>by simp at h
 | i0::is,u::us,.cons r rr,j,i,h=>by
  cases j with
  |zero=>cases h;obtain⟨t,rfl⟩:=r;exact⟨t,rfl⟩
  |succ j=>exact Zl rr j i (by simpa using h)
end
structure OneCell(sc:Scope)(y0:Str)(pre post:List (Str×NameKind)):Prop where
 split:sc.names=pre++(y0,.cell)::post
 pre:∀x∈pre,x.2 ≠ .cell
 post:∀x∈post,x.2 ≠ .cell
structure CompOk1(X:Cx)(sc:Scope)(N':List Str)(cap:List (Option Nat))(y0:Str):Prop where
 fr:∀x∈sc.names,x.2= .free->X.env.kindOf x.1=some .cell∨X.env.kindOf x.1=some .free
 one:∃pre post,OneCell sc y0 pre post
 lk:sc.names.lookup y0=some .cell
 kind:sc.kind= .function
 nm:∀x∈sc.names,x.2= .local->sc.names.lookup x.1=some .local
 len:cap.length=N'.length
 cp:∀(j i:Nat) (x:Str),N'[j]?=some x->cap[j]?=some (some i)->X.N[i]?=some x/\sc.names.lookup x=some .free
section
variable {X:Cx}{e:Expr}{fa:RP}
end
theorem aoj{X : Cx}{i0 : Nat}{x0 : Str}{pos0 pos1 : Pos}{el tg src : Expr}{ts : List Expr}{sc : Scope}{ps : Pos}{wi : TI}{g : TG}{tt : TT}{te : TE}{N' : List Str}{cap : List (Option Nat)}(hc : X.calm = true)(hi : PI X tg src wi)(ok : CompOk X sc N' cap)
    (body : ∀cl C s0 H0 fp pn, PG (blk X N' sc cl C s0 H0 fp pn) tg g /\ PTs (blk X N' sc cl C s0 H0 fp pn) ts tt /\ PE (blk X N' sc cl C s0 H0 fp pn) el te)
    (hN : X.N.Nodup) (hi0 : X.N[i0]? = some x0) (hx0 : Loc X.env.scope x0) (hsw : swapsWith (.ListComp el [⟨tg, src, ts, 0⟩] sc ps) (some (.Name x0 pos0)) pos1.line X.env = pure true)
    (hf0 : X.fn x0 = true∨X.env.scope.names.lookup x0 = some .local)
    (hs : ∀x, foldedSetIterable src X.env x = pure x := by intro _;rfl) : PS X (.Assign [.Name x0 pos0] (.ListComp el [⟨tg, src, ts, 0⟩] sc ps) pos1) (apX (alC wi cap g tt te) (alg i0)) := by
  intro Kp s σ H Dn I h;have hfr : ∀x∈sc.names, x.2 = .free -> ∃c, X.env.cells.lookup x.1 = some c := fun x hx e => I.ok.has x.1 (ok.fr x hx e);have hcl := ajd sc X.env hfr
  have clm : ∀x c, (QW X.env sc.names []).lookup x = some c -> X.env.cells.lookup x = some c := fun x c e =>
    aa7 X.env sc.names [] hfr (fun _ z => nomatch z) (x, c) (PySem.mem_of_lookup e)
  generalize hgl : QW X.env sc.names [] = cl at hcl clm;rw[exec_Assign_Name_used _ _ _ _ hsw];refine wpAny_bind (wpAny_standAt (wpAny_bind ?_));show wpAny _ X.A (do let _ ← comprehension (.ListComp el [⟨tg, src, ts, 0⟩] sc ps) sc X.env _ (newList []) false (eval src X.env) (some (assign (.Name x0 pos0) X.env))) _ _ s;refine wpAny_bind (wpAny_mono (wpAny_comprehension_free (use := some (assign (.Name x0 pos0) X.env)) (Q := fun _ s' => SP X Kp Dn .next s') rfl hs hcl ok.kind ok.nm ?_) (fun _ s' hq => wpAny_pure (wpAny_pure hq)) fun _ _ e => e);refine thn (hi Kp s σ H _ I h) fun v s1 h1 => thn h1 fun itv s2 h2 => ?_;obtain⟨it, fp, tn, J, H2, e, I2, T, st2, f2, W, ⟨m0, w0⟩, turn⟩ := h2;subst e;refine wpAny_newObj_type (wpAny_newFunctionEnv ok.nc (by intro y hy;simp at hy) (fun h4 hns hsb => ?_) ok.kind);dsimp only at hns hsb ⊢;generalize hH3 : s2.heap.push { cls := .type "list", dict := none, data := .seq ([] : List Value).toArray } = h3 at hns hsb ⊢;have hC : h3.objs.size = s2.heap.objs.size + 1 := by rw[← hH3, Heap.size_push]
  generalize hCC : h3.objs.size = C at hns hsb hC ⊢;generalize hDD : s2.heap.objs.size = D at hC ⊢;have hDC : D≠C := by rw[hC];exact Nat.ne_of_lt (Nat.lt_succ_self _)
  have old : ∀b o, s2.heap.get? b = some o -> h4.get? b = some o := fun b o e => hsb.extBut b o (by have := Heap.lt_size e;rw[hDD]at this;rw[hC];exact Nat.ne_of_lt (Nat.lt_succ_of_lt this)) (Heap.get?_push_of_some _ (hH3▸Heap.get?_push_of_some _ e));have accO : h4.get? D = some { cls := .type "list", data := .seq ([] : List Value).toArray 0 } := hsb.extBut _ _ hDC (Heap.get?_push_of_some _ (by rw[← hH3, ← hDD];exact Heap.get?_push_size _ rfl));have H2D : H2 D = none := I2.hok.fresh (by rw[hDD];exact Nat.le_refl _);have H2C : H2 C = none := I2.hok.fresh (by rw[hDD, hC];exact Nat.le_succ _)
  have cellsLt : ∀x c, X.env.cells.lookup x = some c -> c<D := fun x c e => by
    obtain⟨v, q⟩ := I2.cell x c e;rw[← hDD];exact q.lt
  have pinLt : ∀p∈X.pn ++ Kp, p.1<D := fun p hp => by rw[← hDD];exact Heap.lt_size (I2.pin p hp).1
  have stkLt : ∀b∈frs X.stack, b<D := fun b hb => by
    obtain⟨_, o, ho, _⟩ := I2.stack.mem hb;rw[← hDD];exact Heap.lt_size ho
  have fpLt : ∀b∈fp, b<D := fun b hb => by
    obtain⟨o, ho, _⟩ := T.obj _ _ st2 b hb;rw[← hDD];exact Heap.lt_size ho
  have ltC : ∀{b : Addr}, b<D -> b≠C := fun hb => by rw[hC];exact Nat.ne_of_lt (Nat.lt_succ_of_lt hb)
  have locLt : X.env.locals<D := by rw[← hDD];exact I2.lt
  have hDge : s2.heap.objs.size <= D := by rw[hDD];exact Nat.le_refl _
  have hCge : s2.heap.objs.size <= C := by rw[hDD, hC];exact Nat.le_succ _
  have bok : (blk X N' sc cl C s2 H2 fp (X.pn ++ Kp)).Ok := by
    refine⟨I2.ok.mod, ok.kind, I2.ok.glob, I2.ok.blt, hCge, fun x y c e1 e2 => I2.ok.inj x y c (clm x c e1) (clm y c e2), fun x hx => ?_, fun x c z _ => ?_, I2.ok.hd, I2.ok.frames, .inl rfl, fun b hb => ?_, I2.bs, Nat.le_trans I2.ok.bsz I2.sz, fun b o e hb => ?_, fun b hb z => ?_, I2.stack, I2.stkFree⟩
    · have hx' : (relabel sc X.env).names.lookup x = some .cell∨(relabel sc X.env).names.lookup x = some .free := hx
      have hm : (x, NameKind.free)∈sc.names := by
        rcases hx' with z | z
        · exact JT (PySem.mem_of_lookup z) ok.nc (.inl rfl)
        · exact JT (PySem.mem_of_lookup z) ok.nc (.inr rfl)
      obtain⟨c, hc⟩ := Qm X.env sc.names [] x hm;rw[hgl]at hc;exact zi hc
    · exact absurd (show false = true from z) Bool.false_ne_true
    · exact⟨ltC (fpLt b hb), fun x c e => (f2 b hb).2.2.2.2.1 x c (clm x c e)⟩
    · rcases (f2 b hb).2.2.2.1 with z | z
      · exact I2.ok.noex b o e z
      · have := Heap.lt_size e
        exact absurd (Nat.lt_of_lt_of_le this (Nat.le_trans I2.ok.bsz z)) (Nat.lt_irrefl _)
    · rcases List.mem_cons.mp (I2.stkSub b z)with q | q
      · exact(f2 b hb).2.1 q
      · exact(f2 b hb).2.2.1 q
  have pinB : ∀p∈X.pn ++ Kp, p.1≠C /\ p.1∉frs X.stack := fun p hp => ⟨ltC (pinLt p hp), fun z => by
    rcases List.mem_cons.mp (I2.stkSub p.1 z) with q | q
    · exact (I2.pin p hp).2.2.1 q
    · exact (I2.pin p hp).2.2.2.1 q⟩
  have I4 : Inv (blk X N' sc cl C s2 H2 fp (X.pn ++ Kp)) [] (abT cap σ) H2 { s2 with heap := h4, toks := s2.toks + ([] : List (Str×Value)).length } := by
    refine⟨bok, rfl, I2.bare, Un.kept old, ⟨_, hns, fun j x v e1 e2 e3 => ?_⟩, fun x c e => ?_, H2C, fun x c e => I2.freeC x c (clm x c e), fun p hp => ?_, I2.hok.kept old, ?_⟩
    · unfold abT at e2
      rw[List.getElem?_map]at e2;cases e4 : cap[j]? with
      |none => rw[e4]at e2;cases e2
      | some o =>
        rw[e4]at e2;cases o with
        |none => cases e2
        | some i =>
          obtain⟨hNi, hf⟩ := ok.cp j i x e1 e4
          have e5 : (σ[i]?).join = some v := by
            have := Option.some.inj e2;simpa using this
          have e6 : σ[i]? = some (some v) := by
            cases e7 : σ[i]? with
            |none => rw[e7]at e5;cases e5
            | some z => rw[e7]at e5;cases z with
              |none => cases e5
              |some z => cases e5;rfl
          have hk := ok.fr (x, .free) (PySem.mem_of_lookup hf) rfl;obtain⟨m, hn, hl⟩ := I2.loc
          have hv : Vis X.env.scope x := by
            rcases hk with z | z
            · exact .inr (.inl z)
            · exact .inr (.inr z)
          obtain⟨u, r, lk⟩ := hl i x v hNi e6 hv
          have cellX : ∃c, X.env.cells.lookup x = some c /\ s2.heap.IsCell c (some u) := by
            rcases lk with ⟨k1, _⟩ | ⟨_, c, e, z⟩
            · rcases hk with z | z
              · have z' : X.env.kindOf x = some .cell := z
                rw[k1]at z';cases z'
              · have z' : X.env.kindOf x = some .free := z
                rw[k1]at z';cases z'
            · exact⟨c, e, z⟩
          obtain⟨c, hc1, ob, hc2, hc3⟩ := cellX;obtain⟨c', hc'⟩ := Qm X.env sc.names [] x (PySem.mem_of_lookup hf);rw[hgl]at hc';obtain⟨d, hd⟩ := zi hc'
          have ed : d = c := by
            have := clm x d hd;rw[hc1]at this;cases this;rfl
          subst ed;refine⟨u, r, .inr ⟨?_, d, hd, ob, old _ _ hc2, hc3⟩⟩;exact QF hf
    · obtain⟨v, ob, ho, hd⟩ := I2.cell x c (clm x c e)
      exact⟨v, ob, old _ _ ho, hd⟩
    · have hp' : p∈X.pn ++ Kp := by simpa[blk]using hp
      obtain⟨e1, e2, e3, e4, e5⟩ := I2.pin p hp';exact⟨old _ _ e1, e2, (pinB p hp').1, (pinB p hp').2, e5⟩
    · show(abT cap σ).length = N'.length
      unfold abT;rw[List.length_map];exact ok.len
  have fpB : ∀{H' : Hp} {pl : List (Addr×Obj)}, (∀b∈fp, H' b = none) -> (∀p∈pl, p.1∉fp) -> ∀b∈fp, aeH (blk X N' sc cl C s2 H2 fp (X.pn ++ Kp)) pl H' b := fun {H' pl} hn hpl b hb =>
    ⟨hn b hb, ltC (fpLt b hb), bok.exfs b hb, .inl hb, fun x c e => (f2 b hb).2.2.2.2.1 x c (clm x c e), fun p hp z => by
      rcases List.mem_append.mp (show p ∈ (X.pn ++ Kp) ++ pl from hp) with q | q
      · exact (f2 b hb).2.2.2.2.2 p q z
      · exact hpl p q (by rw [z]; exact hb)⟩
  have Dfp : ∀(o : Obj), ∀p∈[(D, o)], p.1∉fp := fun o p hp z => by
    have e : p = (D, o) := by simpa using hp
    subst e;exact Nat.lt_irrefl _ (fpLt D z)
  have Dfs : D∉frs X.stack := fun z => Nat.lt_irrefl _ (stkLt D z);obtain⟨bG, bT, bE⟩ := body cl C s2 H2 fp (X.pn ++ Kp)
  have loop : codeAny (model X.prog X.w) X.A (.compLoop (.ListComp el [⟨tg, src, ts, 0⟩] sc ps) 0 (.ref it) (.ref D) (compEnvC sc cl C X.env)) (compPost (model X.prog X.w) X.A X.xe (some (assign (.Name x0 pos0) X.env)) (fun _ s' => SP X Kp Dn .next s') (.ref D) C)
      { s2 with heap := h4, toks := s2.toks + ([] : List (Str×Value)).length } := by
    refine ad0 (fun n s' => ∃i τ ys us k H', Inv (blk X N' sc cl C s2 H2 fp (X.pn ++ Kp)) [] τ H' s' /\ tn i s'.heap /\ (∀b∈fp, H' b = none) /\ jG ys us /\ s'.heap.get? D = some { cls := .type "list", data := .seq us.toArray k } /\ H' D = none /\ W i n τ ys H') ?_ m0
      ⟨0, _, [], [], 0, H2, I4, T.keep _ _ _ st2 (fun b _ o e => old b o e), fun b hb => (f2 b hb).1, .nil, accO, H2D, w0⟩
    rintro n s5 ⟨i, τ, ys, us, k, H5, I5, st5, fr5, rv5, ho5, hD5, w5⟩
    obtain⟨hsz, alt⟩ := turn i n τ ys H5 w5
    have I5p : Inv (blk X N' sc cl C s2 H2 fp (X.pn ++ Kp)) [(D, { cls := .type "list", data := .seq us.toArray k })] τ H5 s5 := I5.pins_of fun p hp => by
      have e : p = (D, { cls := .type "list", data := .seq us.toArray k }) := by simpa using hp
      subst e;exact⟨ho5, hD5, hDC, Dfs, fun v z => by cases z⟩
    rcases alt with ⟨stop, fin⟩ | ⟨go, step⟩
    · refine thn (T.done (blk X N' sc cl C s2 H2 fp (X.pn ++ Kp)) rfl rfl rfl hc i _ s5 τ H5 NoX I5p (fpB fr5 (Dfp _)) st5 stop) fun r s6 ⟨hr, I6⟩ => ?_
      subst hr;have ho6 := (I6.pin (D, _) (List.mem_append_right _ (List.mem_singleton.mpr rfl))).1;obtain⟨m6, hn6, _⟩ := I6.loc;have J6 : Inv X Kp σ H5 s6 := I2.call' (ch := fp) I6.os I6.base I6.hok I6.bare fun b hb => ⟨(f2 b hb).2.2.2.1, (f2 b hb).2.1, (f2 b hb).2.2.2.2.1, (f2 b hb).2.2.2.2.2⟩;have H5C : H5 C = none := I6.free;have J7 : Inv X Kp σ (upd H5 D (.lst ys)) s6 := Inv.track J6 hD5 (Nat.le_trans I2.sz hDge) (Ne.symm (Nat.ne_of_lt locLt)) (fun x c e => Nat.ne_of_lt (cellsLt x c e)) (fun p hp => Nat.ne_of_lt (pinLt p hp)) ⟨Nat.le_of_lt hsz, us, k, rv5, ho6⟩;refine wpAny_assign_Name (adQ J7 hN hi0 hx0 (show jT (.ref D) (.ref D) from rfl) (fun s8 I8 ⟨a, sb, ha⟩ => ?_) hf0)
      have aC : C≠a := by
        rcases ha with z | z
        · rw[z];exact Ne.symm (ltC locLt)
        · exact Ne.symm (ltC (cellsLt _ _ z))
      refine⟨m6, hn6.sameBut sb aC, fun h7 hs7 => ?_⟩;have J8 : Inv X Kp (σ.set i0 (some (.ref D))) (upd H5 D (.lst ys)) { s8 with heap := h7, toks := s8.toks } := I8.turned (it := C) (fun b o hb e => hs7.extBut b o hb e) (by rw[js (Ne.symm hDC)];exact H5C) (Ne.symm (ltC locLt)) (.inr (Nat.le_trans I2.sz hCge)) (fun x c e => ltC (cellsLt x c e)) (fun p hp => ltC (pinLt p hp));exact⟨_, _, J8, fin D hD5⟩
    · refine thn (T.item (blk X N' sc cl C s2 H2 fp (X.pn ++ Kp)) rfl rfl rfl hc i _ s5 τ H5 NoX I5p (fpB fr5 (Dfp _)) st5 go) fun r s6 ⟨u, hr, h6⟩ => ?_
      subst hr;refine thn h6 fun _ s7 ⟨x, H7, I7, r7, y7, st7, fr7⟩ => ?_;have I7p := I7.pinned (fpB fr7 (Dfp _)) (T.obj _ _ st7);refine thn (bG _ s7 τ H7 x u _ I7p r7 (step x H7 y7)) fun _ s8 ⟨τ8, H8, I8, q8⟩ => ?_
      have back : ∀{τ9 : St} {H9 : Hp} {s9 : Shared}, Inv (blk X N' sc cl C s2 H2 fp (X.pn ++ Kp)) ([(D, { cls := .type "list", data := .seq us.toArray k })] ++ aa2 fp s7.heap) τ9 H9 s9 ->
          tn (i + 1) s9.heap /\ (∀b∈fp, H9 b = none) /\ s9.heap.get? D = some { cls := .type "list", data := .seq us.toArray k } /\ H9 D = none := fun {τ9 H9 s9} I9 => by
        have pD := I9.pin (D, { cls := .type "list", data := .seq us.toArray k }) (List.mem_append_right _ (List.mem_append_left _ (List.mem_singleton.mpr rfl)));refine⟨T.keep _ _ _ st7 fun b hb o e => (I9.pin (b, o) (List.mem_append_right _ (List.mem_append_right _ (zN hb e)))).1, fun b hb => ?_, pD.1, pD.2.1⟩;obtain⟨o, e, _⟩ := T.obj _ _ st7 b hb;exact(I9.pin (b, o) (List.mem_append_right _ (List.mem_append_right _ (zN hb e)))).2.1
      have drop : ∀{τ9 : St} {H9 : Hp} {s9 : Shared} {pl : List (Addr×Obj)}, Inv (blk X N' sc cl C s2 H2 fp (X.pn ++ Kp)) pl τ9 H9 s9 -> Inv (blk X N' sc cl C s2 H2 fp (X.pn ++ Kp)) [] τ9 H9 s9 := fun I9 => I9.pins_of fun p hp => nomatch hp
      refine thn (bT _ s8 τ8 H8 _ I8 q8) fun b s9 ⟨H9, I9, q9⟩ => ?_;cases b with
      | false =>
        rw[if_neg Bool.false_ne_true]at q9 ⊢;obtain⟨m', hm, w9⟩ := q9;obtain⟨t9, f9, o9, d9⟩ := back I9;exact⟨m', hm, i + 1, τ8, ys, us, k, H9, drop I9, t9, f9, rv5, o9, d9, w9⟩
      | true =>
        rw[if_pos rfl]at q9 ⊢;refine thn (bE _ s9 τ8 H9 _ I9 q9) fun y s10 ⟨z, H10, I10, r10, q10⟩ => ?_;obtain⟨m', hm, w10⟩ := q10;obtain⟨t10, f10, o10, d10⟩ := back I10;have hl := rv5.length;refine append_at (hsz := by show us.toArray.size <= sizeLine;rw[List.size_toArray, ← hl];exact Nat.le_of_lt hsz) o10 fun h11 hs11 hD11 => ?_
        have I11 : Inv (blk X N' sc cl C s2 H2 fp (X.pn ++ Kp)) [] τ8 H10 { s10 with heap := h11, toks := s10.toks } := (drop I10).turned (it := D) (fun b o hb e => hs11.extBut b o hb e) d10 hDC (.inr hDge) (fun x c e => Nat.ne_of_lt (cellsLt x c (clm x c e)))
          (fun p hp => by have hp' : p∈X.pn ++ Kp := by simpa[blk]using hp
                          exact Nat.ne_of_lt (pinLt p hp'))
        refine⟨m', hm, i + 1, τ8, ys ++ [z], us ++ [y], k + 1, H10, I11, T.keep _ _ _ t10 (fun b hb o e => hs11.extBut b o (Nat.ne_of_lt (fpLt b hb)) e), f10, rv5.append (.cons r10 .nil), ?_, d10, w10⟩;rw[hD11];simp
  refine codeAny_compStart_list loop ?_;exact T.self _ 0 _ _ _ (T.keep _ _ _ st2 (fun b _ o e => old b o e)) loop
theorem al4{K:Fg}{fi:Rho->Option (LP)}{cap:List (Option Nat)}{ga:PyData->Rho->Option Rho}{ft:Rho->Option Bool}{fe:RP}{σ:St}{H:Hp}{Q:VK}(h:tD K (ze fi cap ga ft fe) σ H Q):
  alC (tDI K fi) cap (tDG K ga) (tDT K ft) (tD K fe) σ H Q:=by
 obtain⟨ρ,d,en,q,k⟩:=h;cases h1:fi ρ with
 |none=>simp[ze,h1]at q
 | some ds=>
  by_cases hf:few ds=true
  ·cases h2:qp ga ft fe ds (ZL cap ρ)with
   |none=>simp[ze,h1,hf,h2]at q
   | some ys=>
    have:PyData.list ys=d:=by simpa[ze,h1,hf,h2]using q
    subst this;refine⟨ρ,ds,en,h1,fun J H1 s1 Y=>?_⟩
    refine⟨fun i m τ us H2=>m=ds.length-i/\i<=ds.length/\jp H1 H2/\us.length<=i/\∃ρ2 zs ws,EnvR K H2 ρ2 τ/\Reps K H2 zs us/\qp ga ft fe (ds.drop i) ρ2=some ws/\ys=zs++ws,
     ⟨ds.length,by simp,Nat.zero_le _,jp.refl _,Nat.le_refl _,ZL cap ρ,[],ys,(en.mono s1).cap cap,rfl,by simpa using h2,rfl⟩,?_⟩
    rintro i m τ us H2 ⟨rfl,hi',s2,hu,ρ2,zs,ws,en2,r2,q2,ey⟩
    have hsm:us.length<sizeLine:=Nat.lt_of_le_of_lt (Nat.le_trans hu hi') (Nat.lt_of_lt_of_le (by simpa[few]using hf) (by rw[sizeLine_eq];decide:1000000<=sizeLine));obtain⟨g1,g2,g3⟩:=Y i H2 (jp.a s2);refine⟨hsm,?_⟩;by_cases hlt:i<ds.length
    ·right
     have hd:ds.drop i=ds[i]::ds.drop (i+1):=List.drop_eq_getElem_cons hlt;rw[hd]at q2;refine⟨g1 hlt,fun x H3 y=>?_⟩;obtain⟨s3,r3⟩:=g3 x H3 y;have r3':=r3 ds[i] (by simp[hlt]);cases h4:ga ds[i] ρ2 with
     |none=>simp[qp,h4]at q2
     | some ρ4=>
      refine⟨ρ2,ds[i],ρ4,en2.mono s3,r3',h4,fun σ5 H5 s5 en5=>?_⟩;cases h5:ft ρ4 with
      |none=>simp[qp,h4,h5]at q2
      | some b=>
       refine⟨ρ4,b,en5,h5,fun H6 s6=>?_⟩;have s26:=s3.trans (s5.trans s6);cases b with
       | false=>
        refine arz ?_;exact⟨ds.length-(i+1),by omega,rfl,hlt,s2.trans s26,by omega,ρ4,zs,ws,en5.mono s6,Reps.mono s26 _ _ r2,by simpa[qp,h4,h5]using q2,ey⟩
       | true=>
        refine arA ?_;cases h6:fe ρ4 with
        |none=>simp[qp,h4,h5,h6]at q2
        | some y=>
         cases h7:qp ga ft fe (ds.drop (i+1)) ρ4 with
         |none=>simp[qp,h4,h5,h6,h7]at q2
         | some ws'=>
          have hw:y::ws'=ws:=by simpa[qp,h4,h5,h6,h7]using q2
          refine⟨ρ4,y,en5.mono s6,h6,fun v H7 s7 r7=>?_⟩;refine⟨ds.length-(i+1),by omega,rfl,hlt,s2.trans (s26.trans s7),by rw[List.length_append];simp;omega,ρ4,zs++[y],ws',(en5.mono s6).mono s7,(Reps.mono (s26.trans s7) _ _ r2).append ⟨v,[],rfl,r7,rfl⟩,h7,?_⟩;rw[ey,←hw];simp
    ·left
     have he:i=ds.length:=by omega
     have hn:ds.drop i=[]:=by rw[he];simp
     rw[hn]at q2;have hw:[]=ws:=by simpa[qp]using q2
     subst hw;have ey':ys=zs:=by simpa using ey
     subst ey';exact⟨g2 (by omega),fun l hl=>k _ _ (s1.trans (s2.trans (jC hl))) ⟨l,us,rfl,jn,Reps.mono (jC hl) _ _ r2⟩⟩
  ·simp[ze,h1,hf]at q
section
variable {X:Cx}{tg src:Expr}{pos pos':Pos}
theorem agG(i:Nat){x:Str}{el:Expr}{ts:List Expr}{sc:Scope}{ps:Pos}{fi:Rho->Option (LP)}{ga:PyData->Rho->Option Rho}{ft:Rho->Option Bool}{fe:RP}(N':List Str)(cap:List (Option Nat))(hc:X.calm=true)(hN:X.N.Nodup)(hi:PID X tg src fi)(ok:CompOk X sc N' cap)
  (body:∀cl C s0 H0 fp pn,PGD (blk X N' sc cl C s0 H0 fp pn) tg ga/\an4 (blk X N' sc cl C s0 H0 fp pn) ts ft/\PD (blk X N' sc cl C s0 H0 fp pn) el fe)
  (hi0:X.N[i]?=some x:=by rfl) (hx:Loc X.env.scope x:=by first|exact Or.inl rfl|exact Or.inr rfl) (hsw:swapsWith (.ListComp el [⟨tg,src,ts,0⟩] sc ps) (some (.Name x pos')) pos.line X.env=pure true:=by rfl)
  (hf:X.fn x=true∨X.env.scope.names.lookup x=some .local:=by first|exact .inl rfl|exact .inr rfl|assumption)
  (hs:∀x,foldedSetIterable src X.env x=pure x:=by intro _;rfl):PSD X (.Assign [.Name x pos'] (.ListComp el [⟨tg,src,ts,0⟩] sc ps) pos) (zk (ze fi cap ga ft fe) (j9 i)):=by
 with_unfolding_all
  refine PS.imp (aoj (g:=tDG X.K ga) (tt:=tDT X.K ft) (te:=tD X.K fe) hc hi ok (fun cl C s0 H0 fp pn=>body cl C s0 H0 fp pn) hN hi0 hx hsw hf hs) fun D σ H ⟨ρ,o,en,q,k⟩=>al4 ?_;cases h1:ze fi cap ga ft fe ρ with
  |none=>simp[zk,h1]at q
  | some d=>
   have:Out.nx (ρ.set i (some d))=o:=by simpa[zk,h1,j9]using q
   subst this;exact⟨ρ,d,en,h1,fun v H1 s1 r1=>k _ H1 s1 ((en.mono s1).set r1)⟩
end
structure Mine(X:Cx)(H:Hp)(b:Addr):Prop where
 un:H b=none
 new:X.s₀.heap.get? b=none
 loc:b≠X.env.locals
 cel:∀x c,X.env.cells.lookup x=some c->c≠b
 pin:∀p∈X.pn,p.1≠b
structure Xc(X:Cx)(H:Hp)(h:Heap)(e C:Addr):Prop where
 mine:Mine X H e
 ob:∃oe vs,h.get? e=some oe/\(oe.cls= .ref C/\oe.dict=none/\vs[2]?=some .none)/\oe.data= .fields vs/\1<vs.size/\
  (vs[1]?=some .none∨∃T oT ts,vs[1]?=some (.ref T)/\T≠e/\Mine X H T/\h.get? T=some oT/\oT.data= .fields ts/\3<ts.size)
theorem Inv.exIn{X:Cx}{Kp:List (Addr×Obj)}{σ:St}{H:Hp}{s:Shared}{ch:List Addr}(I:Inv X Kp σ H s)(hn:∀b∈ch,X.s₀.heap.get? b=none/\b≠X.env.locals/\∀x c,X.env.cells.lookup x=some c->c≠b):Inv { X with ex:=ch++X.ex } Kp σ H s:=by
 have no:∀b,b∉ch++X.ex->b∉X.ex:=fun b h z=>h (List.mem_append_right _ z)
 refine⟨⟨I.ok.mod,I.ok.kind,I.ok.glob,I.ok.blt,I.ok.above,I.ok.inj,I.ok.has,I.ok.cab,I.ok.hd,I.ok.frames,I.ok.stk,fun b hb=>?_,I.ok.bs,I.ok.bsz,fun b o e hb=>?_,fun b hb z=>?_,I.ok.funs,I.ok.frf⟩,I.os,I.bare,
  ⟨fun b o e n hf hx=>I.base.keep b o e n hf (no b hx),fun b o e n hf hx=>I.base.slot b o e n hf (no b hx),fun b o e n hx=>I.base.free b o e n (no b hx),fun b o e hx=>I.base.there b o e (no b hx),I.base.tups,I.base.frzs,I.base.tbls⟩,I.loc,I.cell,I.free,I.freeC,I.pin,I.hok,I.len⟩
 ·rcases List.mem_append.mp hb with q | q
  ·exact(hn b q).2
  ·exact I.ok.exf b q
 ·rcases List.mem_append.mp hb with q | q
  ·have:=(I.ok.bs b o e).1
   rw[(hn b q).1]at this;cases this
  ·exact I.ok.noex b o e q
 ·rcases List.mem_append.mp hb with q | q
  ·obtain⟨_,o,ho,_⟩:=I.ok.funs.mem z
   rw[(hn b q).1]at ho;cases ho
  ·exact I.ok.exfs b q z
theorem Inv.exOut{X:Cx}{Kp:List (Addr×Obj)}{σ:St}{H:Hp}{s:Shared}{ch:List Addr}(I:Inv { X with ex:=ch++X.ex } Kp σ H s)(ok:X.Ok)(hn:∀b∈ch,X.s₀.heap.get? b=none):Inv X Kp σ H s:=by
 have no:∀b o,X.s₀.heap.get? b=some o->b∉X.ex->b∉ch++X.ex:=fun b o e h z=>by
  rcases List.mem_append.mp z with q | q
  ·rw[hn b q]at e;cases e
  ·exact h q
 exact⟨ok,I.os,I.bare,⟨fun b o e n hf hx=>I.base.keep b o e n hf (no b o e hx),fun b o e n hf hx=>I.base.slot b o e n hf (no b o e hx),fun b o e n hx=>I.base.free b o e n (no b o e hx),fun b o e hx=>I.base.there b o e (no b o e hx),I.base.tups,I.base.frzs,I.base.tbls⟩,I.loc,I.cell,I.free,I.freeC,I.pin,I.hok,I.len⟩
section
variable {X:Cx}{σ:St}{H:Hp}{s:Shared}{h':Heap}{e C:Addr}{E:Value->SP0}{A:Around}
theorem Inv.shake{ch:List Addr}(I:Inv X [] σ H s)(hm:∀b∈ch,Mine X H b)(keep:∀b o,b∉frs X.stack->b∉ch->s.heap.get? b=some o->h'.get? b=some o)
  (slot:∀b o,b∈frs X.stack->b∉ch->s.heap.get? b=some o->∃sl,h'.get? b=some { o with slots:=sl }):Inv X [] σ H { s with heap:=h' }:=by
 have u:Un (frs X.stack) ch H H s.heap h':=⟨fun b o q _ nf nc=>keep b o nf nc q,fun b o q _ hf nc=>slot b o hf nc q,fun _ _ _ n _=>n,fun b o q nc=>by
  by_cases hf:b ∈ frs X.stack
  ·obtain ⟨sl,z⟩:=slot b o hf nc q; exact ⟨_,z⟩
  ·exact ⟨o,keep b o hf nc q⟩,fun _ _ q=>q,fun _ _ _ q=>q,fun _ ps q=>⟨#[],by rw [q]; simp⟩⟩
 have hok:HOk X.prog X.w H h':=fun b o q=>(I.hok b o q).stay (fun c v hc r=>by
  have hb:H c ≠ none:=by
   rcases hc with rfl | hc
   ·rw [q]; exact fun z=>nomatch z
   ·rw [hc]; exact fun z=>nomatch z
  exact keep c v (fun z=>hb (I.stkFree c z)) (fun z=>hb (hm c z).un) r) (fun _ r=>r) fun _ _ r=>r
 exact Inv.exOut (Inv.call (X:={ X with ex:=ch++X.ex }) (g':=s.gens) (d':=s.drawn) (t':=s.toks) (Inv.exIn I fun b hb=>⟨(hm b hb).new,(hm b hb).loc,(hm b hb).cel⟩) u hok I.bare fun b hb=>⟨.inl (List.mem_append_left _ hb),(hm b hb).loc,(hm b hb).cel,fun p hp=>(hm b hb).pin p (by simpa using hp)⟩) I.ok fun b hb=>(hm b hb).new
structure XcT(X:Cx)(H:Hp)(h:Heap)(e C:Addr):Prop where
 mine:Mine X H e
 ob:∃oe vs T oT ts,h.get? e=some oe/\(oe.cls= .ref C/\oe.dict=none/\vs[2]?=some .none)/\oe.data= .fields vs/\vs[1]?=some (.ref T)/\T≠e/\Mine X H T/\h.get? T=some oT/\oT.data= .fields ts/\3<ts.size
theorem XcT.c{h:Heap}(x:XcT X H h e C):Xc X H h e C:=by
 obtain⟨oe,vs,T,oT,ts,h1,h2,h3,h4,h5,h6,h7,h8,h9⟩:=x.ob;exact⟨x.mine,oe,vs,h1,h2,h3,(Array.getElem?_eq_some_iff.mp h4).1,.inr ⟨T,oT,ts,h4,h5,h6,h7,h8,h9⟩⟩
structure Top0(X:Cx):Prop where
 st:X.stack=X.env::X.Ko
 fr:X.env.frame=some X.env.locals
 ex:X.ex=[]
theorem Mine.nofr{b:Addr}(m:Mine X H b)(I:Inv X [] σ H s):b∉frs X.stack:=fun z=>by
 rcases List.mem_cons.mp (I.stkSub b z)with q | q
 ·exact m.loc q
 ·obtain⟨_,o,ho,_⟩:=I.ok.funs.mem q
  rw[m.new]at ho;cases ho
theorem aok{P:Program}{w:World}{h:Heap}{b:Addr}{u:HO}(hok:HOk P w H h)(hH:H b=some u)(hb:h.get? b=none):False:=by
 have x:=hok b u hH;have no:∀{o:Obj},h.get? b=some o->False:=fun {o} q=>by rw[hb]at q;cases q
 cases u with
 |lst xs=>obtain⟨_,_,_,_,e⟩:=x;exact no e
 |tup xs=>obtain⟨_,_,_,⟨_,e,_⟩⟩:=x;exact no e
 |dK kvs=>obtain⟨_,_,_,_,o,_,_,e,_⟩:=x;exact no e
 |dT kvs=>obtain⟨_,_,_,_,o,_,_,e,_⟩:=x;exact no e
 |set S n=>obtain⟨o,_,_,_,e,_⟩:=x;exact no e
 |ins C dx fs=>obtain⟨_,_,_,e,_⟩:=x;exact no e
 |own y=>obtain⟨_,e⟩:=x;exact no e
 |xd fs=>obtain⟨_,⟨_,_,_,e,_⟩,_⟩:=x;exact no e
 |rng lo hi=>obtain⟨_,_,_,e⟩:=x;exact no e
 |frz ob u=>obtain⟨e,_⟩:=x;exact no e
 |tbl ps=>exact no (show h.get? b=some _ from x)
 |met f y=>exact no (show h.get? b=some _ from x)
 |ext φ=>obtain⟨_,⟨_,e⟩,_⟩:=x;exact no e
theorem aal(hx:X.ex=[])(I:Inv X [] σ H s){b:Addr}(hb:s.heap.get? b=none):Mine X H b:=by
 have no:∀{o:Obj},s.heap.get? b=some o->False:=fun {o} q=>by rw[hb]at q;cases q
 refine⟨?_,?_,fun z=>?_,fun x c q z=>?_,fun p hp z=>?_⟩
 ·cases hH:H b with
  |none=>rfl
  |some u=>exact(aok I.hok hH hb).elim
 ·cases h0:X.s₀.heap.get? b with
  |none=>rfl
  | some o=>
   obtain⟨o',q⟩:=I.base.there b o h0 (by rw[hx];simp);exact(no q).elim
 ·subst z
  obtain⟨m,⟨o,_,_,ho,_⟩,_⟩:=I.loc;exact no ho
 ·obtain⟨v,o,ho,_⟩:=I.cell x c q
  subst z;exact no ho
 ·have:=(I.pin p (List.mem_append_left _ hp)).1
  rw[z]at this;exact no this
theorem agH{oe:Obj}{vs:Array Value}{head:Value}{hadNext:Bool}(T0:Top0 X)(hA:A.frames=some X.stack)(I:Inv X [] σ H s)(me:Mine X H e)(he:s.heap.get? e=some oe)(hc:oe.cls= .ref C/\oe.dict=none/\vs[2]?=some .none)(hd:oe.data= .fields vs)(hsz:1<vs.size):
  wpAny (model X.prog X.w) A (do let a ←frameOf X.env;let pl ←entryPlaceOf X.env.locals hadNext;let b ←EntryCells.newEntry head a .none (rawInt X.env.locals) .none pl;setField (.ref e) 1 b) (fun _ s'=>Inv X [] σ H s'/\XcT X H s'.heap e C) E s:=by
 have hst:=T0.st;have hfn:=I.stack;rw[hst]at hfn hA
 have hene:e∉(X.env::X.Ko).filterMap (·.frame):=by
  have:=me.nofr I;rw[hst]at this;exact this
 refine wpAny_bind (wpAny_frameOf_fun hA hfn T0.fr fun h₁ hs₁=>?_);refine wpAny_bind (wpAny_entryPlaceOf fun pl hpl=>?_);unfold EntryCells.newEntry newFields;refine wpAny_bind (wpAny_newObj_type ?_ (hpl.sizeOk5 _ _ _ _ _));have he₁:h₁.get? e=some oe:=(hs₁.2.1 e hene).trans he;generalize hob:({ cls:= .type "traceback",dict:=none,data:= .fields ([head,Value.ref X.env.locals,.none,rawInt X.env.locals,.none]++(if pl.isEmpty then List.replicate 6 Value.none else pl)).toArray }:Obj)=ob;have obd:ob.data= .fields ([head,Value.ref X.env.locals,.none,rawInt X.env.locals,.none]++(if pl.isEmpty then List.replicate 6 Value.none else pl)).toArray:=by rw[←hob]
 have obf:ob.isFreed=false:=by rw[←hob];rfl
 have he₂:(h₁.push ob).get? e=some oe:=Heap.get?_push_of_some ob he₁;refine wpAny_setField he₂ hd hsz ?_;have hTe:h₁.objs.size≠e:=Nat.ne_of_gt (Heap.lt_size he₁);have hd₃:=Obj.data_mapFields hd (·.setIfInBounds 1 (Value.ref h₁.objs.size));have he₃:=Heap.get?_update_self (Obj.mapFields (·.setIfInBounds 1 (Value.ref h₁.objs.size))) he₂ (Obj.isFreed_of_fields hd₃);have hT₃:((h₁.push ob).update e (Obj.mapFields (·.setIfInBounds 1 (Value.ref h₁.objs.size)))).get? h₁.objs.size=some ob:=(Heap.get?_update_other _ _ (Ne.symm hTe)).trans (Heap.get?_push_size h₁ obf)
 have keep:∀b o,b≠e->h₁.get? b=some o->((h₁.push ob).update e (Obj.mapFields (·.setIfInBounds 1 (Value.ref h₁.objs.size)))).get? b=some o:=fun b o hb q=>by
  rw[Heap.get?_update_other _ _ (Ne.symm hb)];exact Heap.get?_push_of_some _ q
 have hfr:frs X.stack=(X.env::X.Ko).filterMap (·.frame):=by rw[hst];rfl
 have sz:h₁.objs.size=s.heap.objs.size:=hs₁.1
 have J:Inv X [] σ H { s with heap:=(h₁.push ob).update e (Obj.mapFields (·.setIfInBounds 1 (Value.ref h₁.objs.size))) }:=by
  refine Inv.shake (s:=s) (ch:=[e]) I (fun b hb=>by rw[List.mem_singleton.mp hb];exact me) (fun b o nf nc q=>keep b o (fun z=>nc (by simp[z])) ((hs₁.2.1 b (by rw[←hfr];exact nf)).trans q)) (fun b o _ nc q=>?_);obtain⟨sl,z⟩:=hs₁.2.2 b o q;exact⟨sl,keep b _ (fun w=>nc (by simp[w])) z⟩
 refine⟨J,me,_,_,h₁.objs.size,ob,_,he₃,?_,hd₃,by simp[hsz],hTe,?_,hT₃,obd,?_⟩
 ·rw[Obj.cls_mapFields];exact⟨hc.1,by unfold Obj.mapFields;split<;>exact hc.2.1,by rw[Array.getElem?_setIfInBounds_ne (by decide)];exact hc.2.2⟩
 ·exact aal T0.ex I (Heap.get?_none_of_le (by rw[sz];exact Nat.le_refl _))
 ·simp only[List.size_toArray,List.length_append,List.length_cons,List.length_nil];omega
theorem ae5(T0:Top0 X)(hA:A.frames=some X.stack)(I:Inv X [] σ H s)(x:Xc X H s.heap e C):wpAny (model X.prog X.w) A (noteFrame (.ref e) X.env) (fun _ s'=>Inv X [] σ H s'/\XcT X H s'.heap e C) E s:=by
 obtain⟨oe,vs,he,hc,hd,hsz,hT⟩:=x.ob;unfold noteFrame;simp only[T0.fr];rcases hT with h1 | ⟨T,oT,ts,h1,hTe,mT,hT,hdT,h3⟩
 ·refine wpAny_bind (wpAny_field he hd h1 ?_)
  rw[if_neg (by decide)];exact agH T0 hA I x.mine he hc hd hsz
 ·refine wpAny_bind (wpAny_field he hd h1 ?_)
  rw[if_pos (show(Value.ref T != Value.none)=true from by simp)];refine wpAny_bind (wpAny_field hT hdT (x:=ts[3]) (by simp[h3]) ?_);by_cases hq:(ts[3]==rawInt X.env.locals)=true
  ·rw[if_pos hq]
   exact wpAny_pure ⟨I,x.mine,oe,vs,T,oT,ts,he,hc,hd,h1,hTe,mT,hT,hdT,h3⟩
  ·rw[if_neg hq]
   refine wpAny_bind (wpAny_setField hT hdT h3 ?_);have other:∀b,b≠T->(s.heap.update T (Obj.mapFields (·.setIfInBounds 3 Value.none))).get? b=s.heap.get? b:=fun b hb=>Heap.get?_update_other _ _ (Ne.symm hb)
   have J:Inv X [] σ H { s with heap:=s.heap.update T (Obj.mapFields (·.setIfInBounds 3 Value.none)) }:=
    Inv.shake (s:=s) (ch:=[T]) I (fun b hb=>by rw[List.mem_singleton.mp hb];exact mT) (fun b o _ nc q=>(other b fun z=>nc (by simp[z])).trans q) fun b o _ nc q=>⟨o.slots,(other b fun z=>nc (by simp[z])).trans q⟩
   exact agH (s:={ s with heap:=s.heap.update T (Obj.mapFields (·.setIfInBounds 3 Value.none)) }) T0 hA J x.mine ((other e (Ne.symm hTe)).trans he) hc hd hsz
theorem Zq(fl:Option Addr)(I:Inv X [] σ H s)(x:XcT X H s.heap e C):wpAny (model X.prog X.w) A (setFlight (.ref e) fl) (fun _ s'=>Inv X [] σ H s'/\XcT X H s'.heap e C) E s:=by
 obtain⟨oe,vs,T,oT,ts,he,hc,hd,h1,hTe,mT,hT,hdT,h3⟩:=x.ob;unfold setFlight;refine wpAny_bind (wpAny_field he hd h1 ?_);rw[if_pos (show(Value.ref T != Value.none)=true from by simp)];refine wpAny_setField hT hdT h3 ?_;have other:∀b,b≠T->(s.heap.update T (Obj.mapFields (·.setIfInBounds 3 (fl.elim Value.none fun f=>rawInt f)))).get? b=s.heap.get? b:=fun b hb=>Heap.get?_update_other _ _ (Ne.symm hb)
 have J:Inv X [] σ H { s with heap:=s.heap.update T (Obj.mapFields (·.setIfInBounds 3 (fl.elim Value.none fun f=>rawInt f))) }:=
  Inv.shake (s:=s) (ch:=[T]) I (fun b hb=>by rw[List.mem_singleton.mp hb];exact mT) (fun b o _ nc q=>(other b fun z=>nc (by simp[z])).trans q) fun b o _ nc q=>⟨o.slots,(other b fun z=>nc (by simp[z])).trans q⟩
 exact⟨J,x.mine,oe,vs,T,_,_,(other e (Ne.symm hTe)).trans he,hc,hd,h1,hTe,mT,Heap.get?_update_self _ hT (Obj.isFreed_of_fields (Obj.data_mapFields hdT _)),Obj.data_mapFields hdT _,by simpa using h3⟩
theorem asP{P:Value->SP0}(T0:Top0 X)(hA:A.frames=some X.stack)(hP:∀e s,P e s->∃a C σ H,e= .ref a/\Inv X [] σ H s/\Xc X H s.heap a C/\∀s',Inv X [] σ H s'->XcT X H s'.heap a C->P e s'):PassesOwn (model X.prog X.w) A X.env P:=fun ev s' h=>by
 obtain⟨a,C,σ,H,rfl,I,x,back⟩:=hP ev s' h;refine wpAny_mono (ae5 (E:=fun _ _=>False) T0 hA I x) (fun _ s2 ⟨I2,x2⟩=>?_) fun _ _ z=>z.elim;obtain⟨oe,vs,T,oT,ts,he,hc,hd,h1,r⟩:=id x2.ob;unfold cameBackBy;refine wpAny_bind (wpAny_field he hd h1 ?_);rw[if_neg (by simp)]
 first
  |exact wpAny_mono (Zq (E:=fun _ _=>False) _ I2 x2) (fun _ s3 ⟨I3,x3⟩=>back s3 I3 x3) fun _ _ z=>z.elim
  |exact wpAny_bind (wpAny_pure (wpAny_mono (Zq (E:=fun _ _=>False) _ I2 x2) (fun _ s3 ⟨I3,x3⟩=>back s3 I3 x3) fun _ _ z=>z.elim))
end
structure XcO(h0:Heap)(H:Hp)(h:Heap)(e C:Addr):Prop where
 un:H e=none
 new:h0.get? e=none
 ob:∃oe vs T oT ts,h.get? e=some oe/\(oe.cls= .ref C/\oe.dict=none/\vs[2]?=some .none)/\oe.data= .fields vs/\vs[1]?=some (.ref T)/\T≠e/\H T=none/\h0.get? T=none/\h.get? T=some oT/\oT.data= .fields ts/\3<ts.size
noncomputable def CXt(P:Program)(w:World):CXT:=fun Ko H s E ev s'=>∃e C H',ev= .ref e/\s'.os=s.os/\AllBare s'.gens/\Un (frs Ko) [] H H' s.heap s'.heap/\HOk P w H' s'.heap/\XcO s.heap H' s'.heap e C/\E (.ref C) none H'
section
variable {X:Cx}
theorem Xc.of(hx:X.ex=[]){Kp:List (Addr×Obj)}{σ:St}{H H':Hp}{s s':Shared}{e0 C:Addr}(I:Inv X Kp σ H s)(x:XcO s.heap H' s'.heap e0 C):Xc X H' s'.heap e0 C:=by
 have J:Inv X [] σ H s:=I.pins_of fun p hp=>nomatch hp
 obtain⟨oe,ws,T,oT,ts,h1,h2,h3,h4,h5,h6,h7,h8,h9,h10⟩:=x.ob;have m1:=aal hx J x.new;have m2:=aal hx J h7;exact⟨⟨x.un,m1.new,m1.loc,m1.cel,m1.pin⟩,oe,ws,h1,h2,h3,(Array.getElem?_eq_some_iff.mp h4).1,.inr ⟨T,oT,ts,h4,h5,⟨h6,m2.new,m2.loc,m2.cel,m2.pin⟩,h8,h9,h10⟩⟩
end
noncomputable def Thr(X:Cx)(H:Hp)(c:Str)(ev:Value)(s':Shared):Prop:=∃e C σ' H',ev= .ref e/\X.mg c=some (.ref C)/\Inv X [] σ' H' s'/\jp H H'/\Xc X H' s'.heap e C
theorem Thr.mono{X:Cx}{H H1:Hp}{c:Str}{ev:Value}{s':Shared}(s:jp H H1)(h:Thr X H1 c ev s'):Thr X H c ev s':=by
 obtain⟨e,C,σ',H',h1,h2,h3,h4,h5⟩:=h;exact⟨e,C,σ',H',h1,h2,h3,s.trans h4,h5⟩
@[irreducible] noncomputable def PDX(X:Cx)(e:Expr)(fx:Rho->Option Str):Prop:=∀(s:Shared) (σ:St) (H:Hp) (ρ:Rho) (c:Str),Inv X [] σ H s->EnvR X.K H ρ σ->fx ρ=some c->(∀ev s',Thr X H c ev s'->X.xe ev s')->wpAny (model X.prog X.w) X.A (eval e X.env) (fun _ _=>False) X.xe s
@[irreducible] noncomputable def PSX(X:Cx)(st:Stmt)(fx:Rho->Option Str):Prop:=∀(s:Shared) (σ:St) (H:Hp) (ρ:Rho) (c:Str),Inv X [] σ H s->EnvR X.K H ρ σ->fx ρ=some c->(∀ev s',Thr X H c ev s'->X.xe ev s')->wpAny (model X.prog X.w) X.A (exec st X.env) (fun _ _=>False) X.xe s
@[irreducible] noncomputable def acS(X:Cx)(sts:List Stmt)(fx:Rho->Option Str):Prop:=∀(s:Shared) (σ:St) (H:Hp) (ρ:Rho) (c:Str),Inv X [] σ H s->EnvR X.K H ρ σ->fx ρ=some c->(∀ev s',Thr X H c ev s'->X.xe ev s')->wpAny (model X.prog X.w) X.A (execs sts X.env) (fun _ _=>False) X.xe s
noncomputable def vB:List Value:=[.type "ValueError",.type "Exception",.type "BaseException",.type "object"]
noncomputable def acT(K:Fg)(mg:SV)(x:Str):Prop:=∃C,mg x=some (.ref C)/\PySem.W.excIn K C vB "ValueError.__new__"=true
theorem aol{K:Fg}{h:Heap}{C:Addr}(X:K.In h)(q:PySem.W.excIn K C vB "ValueError.__new__"=true):
  ∃bm N nm qn bs hdct sn sub ab col dd k0 k1 k2 k3 k5 mN,h.get? C=some (excClassObj nm qn C N bs bm hdct sn sub ab col dd k0 k1 k2 k3 k5 "ValueError.__new__")/\h.Ns N mN/\mN "__init__"=none/\OwnTail h vB bm:=by
 unfold PySem.W.excIn at q;split at q
 ·rename_i dd cd sl ho
  split at q
  ·rename_i C' bm k0 k1 k2 k3 n k5 hm hs
   simp only[Bool.and_eq_true,beq_iff_eq,Bool.not_eq_true']at q;obtain⟨⟨⟨⟨⟨rfl,rfl⟩,hdel⟩,ht⟩,hok⟩,hni⟩:=q;obtain⟨nm,bs,mro,ns,qn,hd,sn,sub,ab,col,del⟩:=cd;dsimp only at hm hdel hok hni;subst hm hdel
   have hsl:sl=#[k0,k1,k2,k3,some (.builtin "ValueError.__new__"),k5]:=by
    obtain⟨l⟩:=sl;simp only at hs;rw[hs]
   subst hsl;exact⟨bm,ns,nm,qn,bs,hd,sn,sub,ab,col,dd,k0,k1,k2,k3,k5,_,X _ _ ho,.of_isNs (PySem.W.isNs_of_in X hok),PySem.W.nsMap_none_of_in X hok hni,PySem.W.tail_of_in X ht⟩
  ·cases q
 ·cases q
section
variable {X:Cx}{e a b c:Expr}{es:List Expr}{st:Stmt}{sts j1:List Stmt}{fx gx:Rho->Option Str}{F:RO}{pos:Pos}
theorem jH(h:PSX X st fx):acS X (st::j1) fx:=by
 with_unfolding_all
  intro s σ H ρ c I en q k;exact wpAny_execs_cons (wpAny_mono (h s σ H ρ c I en q k) (fun _ _ z=>z.elim) fun _ _ z=>z)
noncomputable def nxX(F:RO)(gx:Rho->Option Str):Rho->Option Str:=fun ρ=>(F ρ).bind fun o=>match o with
 |.nx ρ'=>gx ρ'
 |_=>none
theorem zx(h1:PSD X st F)(h2:acS X j1 gx):acS X (st::j1) (nxX F gx):=by
 with_unfolding_all
  intro s σ H ρ c I en q k;cases hF:F ρ with
  |none=>simp[nxX,hF]at q
  | some o=>
   cases o with
   | nx ρ'=>
    have q':gx ρ'=some c:=by simpa[nxX,hF]using q
    refine wpAny_execs_cons (wpAny_mono (h1 [] s σ H { nx:=fun σ' H'=>jp H H'/\EnvR X.K H' ρ' σ',rt:=fun _ _=>False,bk:=fun _ _=>False,ct:=fun _ _=>False } I ⟨ρ,.nx ρ',en,hF,fun σ' H' s1 e1=>⟨s1,e1⟩⟩) (fun f s1 z=>?_) fun _ _ z=>z);cases f with
    | next=>
     obtain⟨σ',H',I',sm,e1⟩:=z;exact wpAny_mono (h2 s1 σ' H' ρ' c I' e1 q' fun ev s' t=>k ev s' (t.mono sm)) (fun _ _ z=>z.elim) fun _ _ z=>z
    |brk=>obtain⟨_,_,_,z⟩:=z;exact z.elim
    |cont=>obtain⟨_,_,_,z⟩:=z;exact z.elim
    |ret u=>obtain⟨_,_,_,_,_,z⟩:=z;exact z.elim
   |_=>simp[nxX,hF]at q
noncomputable def ifX(tc:Rho->Option Bool)(fx gx:Rho->Option Str):Rho->Option Str:=fun ρ=>(tc ρ).bind fun x=>if x=true then fx ρ else gx ρ
noncomputable def akp:Rho->Option Str:=fun _=>none
theorem zr:acS X sts akp:=by
 with_unfolding_all
  intro s σ H ρ c I en q k;cases q
theorem Z0{l r:List Stmt}{tc:Rho->Option Bool}(hc:PTD X a tc)(hl:acS X l fx)(hr:acS X r gx):PSX X (.If a l r pos) (ifX tc fx gx):=by
 with_unfolding_all
  intro s σ H ρ c I en q k;cases ht:tc ρ with
  |none=>simp[ifX,ht]at q
  | some x=>
   refine wpAny_If (wpAny_mono (hc [] s σ H (fun b H'=>b=x/\jp H H') I ⟨ρ,x,en,ht,fun H' s1=>⟨rfl,s1⟩⟩) (fun d s1 z=>?_) fun _ _ z=>z);obtain⟨H1,I1,rfl,s1'⟩:=z;cases d with
   |true=>exact hl s1 σ H1 ρ c I1 (en.mono s1') (by simpa[ifX,ht]using q) fun ev s' t=>k ev s' (t.mono s1')
   |false=>exact hr s1 σ H1 ρ c I1 (en.mono s1') (by simpa[ifX,ht]using q) fun ev s' t=>k ev s' (t.mono s1')
theorem ajp(h:PDX X e fx):PSX X (.Return (some e) pos) fx:=by
 with_unfolding_all
  intro s σ H ρ c I en q k;exact wpAny_Return_some (wpAny_mono (h s σ H ρ c I en q k) (fun _ _ z=>z.elim) fun _ _ z=>z)
theorem zD(h:PDX X e fx)(hs:swapsWith e none pos.line X.env=pure false:=by rfl):PSX X (.Expr e pos) fx:=by
 with_unfolding_all
  intro s σ H ρ c I en q k;exact wpAny_Expr_any (wpAny_mono (h s σ H ρ c I en q k) (fun _ _ z=>z.elim) fun _ _ z=>z) I.quiet hs
end
noncomputable def akq(K:Fg)(mg:SV)(n:Nat)(gx:LP->Option Str):Sp:=fun vs H _ E=>∃ds c,ds.length=n/\Reps K H ds vs/\gx ds=some c/\∀C H',mg c=some (.ref C)->jp H H'->E (.ref C) none H'
noncomputable def zn(P:Program)(w:World)(K:Fg)(mg:SV)(base:Heap)(x:Str)(ps:List Str)(k n:Nat)(gx:LP->Option Str):Prop:=
 ∃(f:Addr) (fd:FuncData),FnOk P w K mg base (CXt P w) k f fd ps (akq K mg n gx)/\mg x=some (.ref f)/\PySem.W.keepIn K (.ref f)=true/\JS K fd ps []
section
variable {X:Cx}{e a b c:Expr}{es:List Expr}{st:Stmt}{sts j1:List Stmt}{fx gx:Rho->Option Str}{F:RO}{pos:Pos}
theorem qL{k j n:Nat}{ps:List Str}{g:LP->Option Str}{x:Str}{p:Pos}{fr:Rho->Option (LP)}(hxe:X.ex=[])(C:zn X.prog X.w X.K X.mg X.base x ps k n g)(hr:Room j X.A)(hkj:k<=j)(ha:PAD X (e::es) fr)(hl:∀ρ ds,fr ρ=some ds->ds.length=n)
  (hg:Gl X x:=by rfl) (hdb:(x==("__debug__":Str))=false:=by decide) (he:starEach (e::es) X.env=(false,eval e X.env)::starEach es X.env:=by rfl)
  (hpl:(backTo pos (starEach es X.env)).any (·.1)=false:=by rfl):PDX X (.Call (.Name x p) (e::es) [] pos) (fun ρ=>(fr ρ).bind g):=by
 with_unfolding_all
  intro s σ H ρ c I en q k';obtain⟨f,fd,F,hm,hk,hb⟩:=C;cases hd:fr ρ with
  |none=>simp[hd]at q
  | some ds=>
   have q':g ds=some c:=by simpa[hd]using q
   refine wpAny_Call_Name_kw (aab I hg hm ?_ hdb);refine PySem.W.callWith_K (h₀:=X.base) I.ok.mod.kin hk (thn (ha pos [] s σ H (fun vs H1=>jp H H1/\Reps X.K H1 ds vs) I ⟨ρ,ds,en,hd,fun vs H1 s1 r1=>⟨s1,r1⟩⟩) fun us s1 ⟨vs,H1,I1,r,sm,rd⟩=>⟨I1.kIn,?_⟩) he hpl;have hsp:akq X.K X.mg n g vs H1 (fun _ _=>False) (fun cls _ H'=>X.mg c=some cls/\jp H1 H')->vs.length=ps.length:=fun z=>F.len _ _ _ _ z;by_cases hn:ds.length=n
   ·have sp:akq X.K X.mg n g vs H1 (fun _ _=>False) (fun cls _ H'=>X.mg c=some cls/\jp H1 H'):=⟨ds,c,hn,rd,q',fun C H' hC s2=>⟨hC,s2⟩⟩
    have hlu:(us++[]).length=ps.length:=by rw[List.append_nil,←r.length];exact hsp sp
    have hbd:=hb s1 us I1.kIn hlu;rw[List.append_nil]at hbd;refine wpAny_call (codeAny_mono (F.run X.A X.stack s1 H1 ⟨us,[]⟩ us vs _ _ (hr.mono hkj) I1.env0 hbd r sp) fun rs s' hq=>?_);cases rs with
    | error ev=>
     obtain⟨e0,C,H',rfl,os,bare,un,hok,xc,hC,sm2⟩:=hq;have J':Inv X [] σ H' s':=I1.call' (ch:=[]) os un hok bare fun b z=>nomatch z
     exact k' _ _ ⟨e0,C,σ,H',rfl,hC,J',sm.trans sm2,Xc.of hxe I1 xc⟩
    | ok fl=>
     cases fl with
     |ret u=>obtain⟨v,H',_,_,_,_,_,z⟩:=hq;exact z.elim
     |next=>exact False.elim hq
     |brk=>exact False.elim hq
     |cont=>exact False.elim hq
   ·exact absurd (hl ρ ds hd) hn
theorem zb{x m:Str}{k0:_}{np p3 cpos:Pos}(hxe:X.ex=[])(hE:acT X.K X.mg x)(hc:X.calm=true)(hg:Gl X x:=by rfl)(hdb:(x==("__debug__":Str))=false:=by decide)
  (he:starEach [.Constant (.str m) k0 p3] X.env=[(false,eval (.Constant (.str m) k0 p3) X.env)]:=by rfl):PSX X (.Raise (some (.Call (.Name x np) [.Constant (.str m) k0 p3] [] cpos)) none pos) (fun _=>some x):=by
 with_unfolding_all
  intro s σ H ρ c I en q k;cases q;obtain⟨C,hm,hex⟩:=hE;obtain⟨bm,N,nm,qn,bs,hdct,sn,sub,ab,col,dd,k0',k1,k2,k3,k5,mN,hC,hN,hni,TL⟩:=aol (h:=X.base) I.ok.mod.kin hex;have hpl:(backTo cpos (starEach [.Constant (.str m) k0 p3] X.env)).any (·.1)=false:=by rw[he];rfl
  refine wpAny_Raise_call_subT (C:=C) (nm:=nm) (q:=qn) (N:=N) (bs:=bs) (bm:=bm) (hdct:=hdct) (sn:=sn) (sub:=sub) (ab:=ab) (col:=col) (dd:=dd) (k0:=k0') (k1:=k1) (k2:=k2) (k3:=k3) (k5:=k5) PySem.F.excBase_ValueError (mN:=mN) (TL.hasType rfl) (I.ok.hd hc) hpl hni ?_;refine wpAny_mono (aeC (pos:=np) hg hm (show jT (.ref C) (.ref C) from rfl) hdb [] s σ H (fun v H'=>v= .ref C/\H'=H) I ⟨rfl,rfl⟩) (fun v s1 ⟨y,H1,I1,r1,e1,e2⟩=>?_) fun _ _ z=>z;subst e1;subst e2;obtain rfl:v=Value.ref C:=r1;refine⟨rfl,?_⟩;have pa:PA X [.Constant (.str m) k0 p3] _:=qG (X:=X) ala Jk he;have hsp:=pa cpos [] s1 σ H1 (fun vs H'=>vs.length=1/\H'=H1) I1 ⟨rfl,rfl⟩;rw[he]at hsp ⊢;refine Calls.evalArgs_plain (wpAny_mono hsp (fun us s2 ⟨vs,H2,I2,r2,l2,e2⟩=>?_) fun _ _ z=>z);subst e2;have kp:∀b o,X.base.get? b=some o->s2.heap.get? b=some o:=fun b o e=>(I2.bs b o e).1;refine⟨rfl,?_,kp _ _ hC,hN.keeps kp,TL.keeps kp,fun h' e0 md=>?_⟩
  ·show us.length<=sizeLine
   rw[←r2.length,l2,sizeLine_eq];decide
  ·obtain⟨t,h1,h2,h3⟩:=md.there
   have I3:Inv X [] σ H2 { s2 with heap:=h' }:=I2.kept (t':=s2.toks) md.keeps;have m0:=aal hxe I2 md.new;exact k _ _ ⟨e0,C,σ,H2,rfl,hm,I3,jp.refl _,m0,_,_,h1,⟨rfl,rfl,rfl⟩,rfl,by simp,.inl rfl⟩
end
theorem al5{CX:CXT}{P:Program}{w:World}{K:Fg}{mg:SV}{base:Heap}{k:Nat}{f:Addr}{name qual:Str}{params:Arguments}{body:List Stmt}{scope:Scope}{dV kV doc pm Kc ct oc:Value}{an od:Option Addr}
  {osl:Array (Option Value)} {N ps:List Str} {sp:Sp} (lk:K.lookup f=some ⟨oc,od,.func (PySem.W.fnOf name qual params body scope dV kV doc pm an Kc ct),osl⟩) (hcd:PySem.W.codeIn K Kc qual=true) (S:FnScope N ps scope)
  (len:∀vs H Q E,sp vs H Q E->vs.length=ps.length)
  (hbody:∀(A:Around) (Ko:List Env) (s:Shared) (H:Hp) (vs:List V) (Q:VK) (E:XK) (s1:Shared),Room k (A.deeper (envOfC qual scope s.heap.objs.size f Kc))->sp vs H Q E->
   Inv (Jl CX P w K mg base N qual scope f Kc A Ko s H E) [] (L2.JB N vs) H s1->
   wpAny (model P w) (A.deeper (envOfC qual scope s.heap.objs.size f Kc)) (execs body (envOfC qual scope s.heap.objs.size f Kc)) (SP (Jl CX P w K mg base N qual scope f Kc A Ko s H E) [] { nx:=fun _ H'=>Q .non H',rt:=Q }) (Jl CX P w K mg base N qual scope f Kc A Ko s H E).xe s1):
  FnOk P w K mg base CX (k+1) f (PySem.W.fnOf name qual params body scope dV kV doc pm an Kc ct) ps sp:=by
 refine⟨len,fun A Ko s H args us vs Q E hr e0 hb r hsp=>?_⟩;have hl:=len _ _ _ _ hsp;have KX:K.In s.heap:=e0.mod.kin.keeps fun b o e=>(e0.bs b o e).1;have lim:s.heap.NoLimit:=e0.mod.nolimit.keeps fun b o e=>(e0.bs b o e).1
 have hkind:∀y∈ps.zip us,scope.names.lookup y.1=some .local∨(scope.names.lookup y.1=some .cell/\((cellsFrom (s.heap.objs.size+1) scope.names []).lookup y.1).isSome=true):=fun⟨n,v⟩ hy=>by
  rcases S.par n (List.of_mem_zip hy).1 with q | q
  ·exact .inl q
  ·exact .inr ⟨q,PySem.W.cellsFrom_some _ _ _ (.inl q)⟩
 refine codeAny_call_function hr.depth (KX _ _ lk) rfl S.co S.gen rfl (PySem.W.codeRec_of KX hcd) (hb _ _ _ _ ?_);refine wpAny_newFunctionEnv_cells S.kind hkind fun env he s1 x=>?_;subst he;refine⟨lim.keeps x.toInCall.keep,codeAny_func ?_⟩;have I:Inv (Jl CX P w K mg base N qual scope f Kc A Ko s H E) [] (L2.JB N vs) H s1:=adW S hr.hd e0 hl r x;refine wpAny_mono (hbody A Ko s H vs Q E s1 (hr.deeper _) hsp I) (fun fl s' hs=>?_) fun e s' hs=>hs
 have fin:∀{σ':St} {H':Hp} {v:V} {u:Value},Inv (Jl CX P w K mg base N qual scope f Kc A Ko s H E) [] σ' H' s'->jT v u->Q v H'->CE Ko P w H s Q u s':=
  fun {σ' H' v u} J rv q=>⟨v,H',J.os,J.bare,J.base,J.hok,rv,q⟩
 cases fl with
 | ret u=>
  obtain⟨v,σ',H',J,rv,q⟩:=hs;exact fin J rv q
 | next=>
  obtain⟨σ',H',J,q⟩:=hs;exact fin (v:=V.non) (u:=Value.none) J rfl q
 | brk=>
  obtain⟨_,_,_,q⟩:=hs;exact False.elim q
 | cont=>
  obtain⟨_,_,_,q⟩:=hs;exact False.elim q
theorem al6{CX:CXT}{P:Program}{w:World}{K:Fg}{mg:SV}{base:Heap}{N:List Str}{qual:Str}{scope:Scope}{f:Addr}{cd:Value}{A:Around}{Ko:List Env}{s:Shared}{H:Hp}{E:XK}:Top0 (Jl CX P w K mg base N qual scope f cd A Ko s H E):=⟨rfl,rfl,rfl⟩
section
variable {P:Program}{w:World}{K:Fg}{mg:SV}{base:Heap}
noncomputable def Jq(N:List Str)(n:Nat)(Fx:Rho->Option Str)(ds:LP):Option Str:=if ds.length=n then Fx (jM N ds) else none
theorem JH{x qual:Str}{st:Stmt}{f:Addr}{fd:FuncData}{N ps:List Str}{k:Nat}{Fx:Rho->Option Str}(F:Fun K x qual st f fd)(S:FnScope N ps (jf st))
  (body:∀(Kc:Value) (A:Around) (Ko:List Env) (s:Shared) (H:Hp) (E:XK),Room k (A.deeper (envOfC qual (jf st) s.heap.objs.size f Kc))->acS (Jl (CXt P w) P w K mg base N qual (jf st) f Kc A Ko s H E) (jQ st) Fx):
  FnOk P w K mg base (CXt P w) (k+1) f fd ps (akq K mg ps.length (Jq N ps.length Fx)):=by
 with_unfolding_all
  obtain⟨oc,od,kV,doc,pm,an,Kc,ct,osl,rfl,lk,hcd⟩:=F.ex;refine al5 lk hcd S (fun vs H Q E h=>?_) fun A Ko s H vs Q E s1 hr h I=>?_
  ·obtain⟨ds,c,h1,h2,_⟩:=h
   rw[h2.length];exact h1
  ·obtain⟨ds,c,h1,h2,h3,h4⟩:=h
   unfold Jq at h3;rw[if_pos h1]at h3;refine wpAny_mono (body Kc A Ko s H E hr s1 (L2.JB N vs) H (jM N ds) c I (Zm h2) h3 fun ev s' t=>?_) (fun _ _ z=>z.elim) fun _ _ z=>z;obtain⟨e,C,σ',H',rfl,hC,J,sm,xc⟩:=t;have T0:Top0 (Jl (CXt P w) P w K mg base N qual (jf st) f Kc A Ko s H E):=al6;show wpAny (model P w) (A.deeper (envOfC qual (jf st) s.heap.objs.size f Kc)) (leaving (envOfC qual (jf st) s.heap.objs.size f Kc) (.ref e)) (fun _ s''=>CXt P w Ko H s E (.ref e) s'') (fun e' s''=>CXt P w Ko H s E e' s'') s';have n1:=ae5 (E:=fun _ _=>False) (A:=A.deeper (envOfC qual (jf st) s.heap.objs.size f Kc)) T0 J.ok.frames J xc;unfold leaving;refine wpAny_bind (wpAny_mono n1 (fun _ s2 ⟨J2,t2⟩=>?_) fun _ _ z=>z.elim);have n2:=Zq (E:=fun _ _=>False) (A:=A.deeper (envOfC qual (jf st) s.heap.objs.size f Kc)) none J2 t2;refine wpAny_mono n2 (fun _ s3 ⟨J3,t3⟩=>?_) fun _ _ z=>z.elim;obtain⟨oe,ws,T,oT,ts,g1,g2,g3,g4,g5,g6,g7,g8,g9⟩:=t3.ob;exact⟨e,C,H',rfl,J3.os,J3.bare,J3.base,J3.hok,⟨t3.mine.un,t3.mine.new,oe,ws,T,oT,ts,g1,g2,g3,g4,g5,g6.un,g6.new,g7,g8,g9⟩,h4 C H' hC sm⟩
end
theorem Mine.unwish{X:Cx}{E:Value->SP0}{H:Hp}{b:Addr}(m:Mine (X.wish E) H b):Mine X H b:=⟨m.un,m.new,m.loc,m.cel,m.pin⟩
theorem Xc.unwish{X:Cx}{E:Value->SP0}{H:Hp}{h:Heap}{e C:Addr}(x:Xc (X.wish E) H h e C):Xc X H h e C:=by
 obtain⟨oe,vs,h1,h2,h3,h4,h5⟩:=x.ob;refine⟨x.mine.unwish,oe,vs,h1,h2,h3,h4,?_⟩;rcases h5 with q | ⟨T,oT,ts,q1,q2,q3,q4⟩
 ·exact .inl q
 ·exact .inr ⟨T,oT,ts,q1,q2,q3.unwish,q4⟩
section
variable {X:Cx}{st:Stmt}{sts j1 tb hb:List Stmt}{F G:RO}{pos:Pos}
end
section
variable {X:Cx}{st b0:Stmt}{sts j1 tb hb:List Stmt}{F G:RO}{fx:Rho->Option Str}{pos:Pos}
end
section
variable {P:Program}{w:World}{K:Fg}{mg:SV}{base:Heap}
end
theorem aam{t sl:Addr}{items:Array Value}{vl vu:Value}{lo hi:Option Int}{Q:Value->SP0}(ht:IsTup s.heap t items)(hs:s.heap.IsSliceOf sl vl vu .none)(pl:IsPart vl lo)(pu:IsPart vu hi)
  (hw:HT.sIx items.size 0 lo=0/\HT.sIx items.size items.size hi=items.size) (h:Q (.ref t) s):wpAny (model prog w) A (getItem (.ref t) (.ref sl)) Q E s:=by
 obtain⟨os,hos,hcs,hds⟩:=id hs;have hTs:s.TypeIs (.ref sl) "slice":=⟨os,hos,hcs⟩;unfold getItem
 first | (with_reducible refine wpAny_holding ?_) | skip
 first | refine wpAny_bind (wpAny_pure ?_) | skip
 refine wpAny_bind (wpAny_sequenceKey ht.typeIs (by decide) ?_);refine wpAny_bind (wpAny_callSpecial?_slot (name:=Str.ofString "__getitem__") ht.typeIs PyProof.Rows.slot_tuple_getitem (wpAny_call_entry PyProof.Rows.slot_tuple_getitem ht.typeIs entry_tuple_getitem ?_ (args_tuple_getitem _ _)));show wpAny _ _ (Builtin.Tuple.tupleItemsOf (.ref t) >>= _) _ _ s;refine wpAny_bind (tupleItemsOf_ ht (wpAny_bind (wpAny_typeOf hTs ?_)));rw[if_pos (show(Value.type "slice" == Value.type "slice")=true by decide)];refine wpAny_bind (HT.sliceApplied_gen hs pl pu ?_);rw[hw.1,hw.2];have hyes:((((0:Nat):Int)==0&&(1:Int)==1&&(items.size-0)==items.size)=true):=by simp
 show wpAny _ _ (if ((((0:Nat):Int)==0&&(1:Int)==1&&(items.size-0)==items.size)=true) then _ else _) _ _ s;rw[if_pos hyes];obtain⟨o,ho,hc,hd⟩:=id ht;have hT:s.TypeIs (.ref t) "tuple":=⟨o,ho,hc⟩
 have ex:∀{R:Bool->SP0} {A':Around} {E':Value->SP0},R true s->wpAny (model prog w) A' (Builtin.Tuple.tupleIsExact (.ref t)) R E' s:=fun {R A' E'} hR=>by
  unfold Builtin.Tuple.tupleIsExact
  first
   |exact wpAny_bind (wpAny_typeOf hT (wpAny_pure hR))
   | (wp_walk;exact hR)
 first
  |exact wpAny_bind (ex (wpAny_bind (wpAny_rule (wpAny_pure ⟨_,rfl,wpAny_pure h⟩))))
  |exact wpAny_bind (ex (by rw[if_pos rfl];exact wpAny_bind (wpAny_rule (wpAny_pure ⟨_,rfl,wpAny_pure h⟩))))
  | (refine wpAny_bind (ex ?_);wp_walk;exact⟨_,rfl,wpAny_pure h⟩)
  | (refine wpAny_bind (wpAny_bind (ex ?_));wp_walk;exact⟨_,rfl,wpAny_pure h⟩)
section
variable {X:Cx}{e a b c:Expr}{fa fb fc:RP}{pos p2:Pos}
noncomputable def arT(K:Fg):V->Option Int->Option Int->Hp->VK->Prop:=fun x lo hi H Q=>∃a xs,x= .ref a/\SqT K H a xs/\(HT.sIx xs.length 0 lo=0/\HT.sIx xs.length xs.length hi=xs.length)/\Q (.ref a) H
theorem agI:SlR X (arT X.K):=by
 intro Kp s σ H x v vl vu lo hi sl Q I rx hs pl pu h;obtain⟨a,xs,rfl,hx,hw,q⟩:=h;cases rx;obtain⟨its,r,ht,hz⟩:=I.tuple hx;have hlen:its.toArray.size=xs.length:=by rw[List.size_toArray];exact r.length.symm
 exact⟨"tuple",_,PyProof.Rows.slot_tuple_getitem.lookup,ht.typeIs,aam ht hs pl pu (by rw[hlen];exact hw) ⟨.ref a,H,I,rfl,q⟩⟩
noncomputable def adJ(p:PyData)(lo hi:Option Int):OP:=match p with
 |.tuple ds=>some (.tuple (ae4 ds lo hi))
 |_=>none
theorem al7{K:Fg}{p d:PyData}{lo hi:Option Int}{x:V}{H:Hp}{Q:VK}(h:adJ p lo hi=some d)(r:Rep K H p x)(k:∀v H',jp H H'->Rep K H' d v->Q v H'):arw K x lo hi H Q∨arT K x lo hi H Q:=by
 unfold adJ at h;split at h
 ·rename_i ds
  cases h;obtain⟨a,xs,e1,e2,e3⟩:=r;have hl:=e3.length
  have rr:Reps K H (ae4 ds lo hi) (aeK xs lo hi):=by
   unfold aeK ae4;rw[hl];exact(e3.drop _).take _
  by_cases hw:HT.sIx xs.length 0 lo=0/\HT.sIx xs.length xs.length hi=xs.length
  ·refine .inr ⟨a,xs,e1,e2,hw,k _ H (jp.refl H) ⟨a,xs,rfl,e2,?_⟩⟩
   have ex:aeK xs lo hi=xs:=by unfold aeK;rw[hw.1,hw.2];simp
   rw[ex]at rr;exact rr
  ·refine .inl ⟨a,xs,e1,e2,hw,fun q hq=>?_⟩
   have s1:=jC (o:= .tup (aeK xs lo hi)) hq;exact k _ _ s1 ⟨q,_,rfl,SqT.of jn,Reps.mono s1 _ _ rr⟩
 ·cases h
noncomputable def acU(fa fb:RP):RP:=fun ρ=>(fa ρ).bind fun p=>(fb ρ).bind fun q=>(inI q).bind fun i=>adJ p none (some i)
theorem agJ(ha:PD X a fa)(hb:PD X b fb):PD X (.Subscript a (.Slice none (some b) none p2) pos) (acU fa fb):=by
 with_unfolding_all
  refine PE.imp (agh (alv.or agI) ha ai4 (aeJ hb)) fun σ H Q ⟨ρ,d,en,q,k⟩=>?_;cases h1:fa ρ with
  |none=>simp[acU,h1]at q
  | some y=>
   cases h2:fb ρ with
   |none=>simp[acU,h1,h2]at q
   | some z=>
    cases h3:inI z with
    |none=>simp[acU,h1,h2,h3]at q
    | some i=>
     have q':adJ y none (some i)=some d:=by simpa[acU,h1,h2,h3]using q
     have hz:=agF h3;subst hz;refine⟨ρ,y,en,h1,fun v H1 s1 r1=>⟨ρ,_,en.mono s1,h2,fun u H2 s2 r2=>?_⟩⟩;cases (show u=_ from r2);exact⟨i,rfl,al7 q' (Rep.mono s2 _ _ r1) fun v H' s r=>k v H' (s1.trans (s2.trans s)) r⟩
noncomputable def QN(fa fb:RP):RP:=fun ρ=>(fa ρ).bind fun p=>(fb ρ).bind fun q=>(inI q).bind fun i=>adJ p (some i) none
theorem acV(ha:PD X a fa)(hb:PD X b fb):PD X (.Subscript a (.Slice (some b) none none p2) pos) (QN fa fb):=by
 with_unfolding_all
  refine PE.imp (agh (alv.or agI) ha (aeJ hb) ai4) fun σ H Q ⟨ρ,d,en,q,k⟩=>?_;cases h1:fa ρ with
  |none=>simp[QN,h1]at q
  | some y=>
   cases h2:fb ρ with
   |none=>simp[QN,h1,h2]at q
   | some z=>
    cases h3:inI z with
    |none=>simp[QN,h1,h2,h3]at q
    | some i=>
     have q':adJ y (some i) none=some d:=by simpa[QN,h1,h2,h3]using q
     have hz:=agF h3;subst hz;refine⟨ρ,y,en,h1,fun v H1 s1 r1=>⟨ρ,_,en.mono s1,h2,fun u H2 s2 r2=>?_⟩⟩;cases (show u=_ from r2);exact⟨i,rfl,al7 q' (Rep.mono s2 _ _ r1) fun v H' s r=>k v H' (s1.trans (s2.trans s)) r⟩
end
section
variable {X:Cx}
end
section
variable {X:Cx}
end
section
variable {X:Cx}{e a b c:Expr}{fa fb fc:RP}{pos p2:Pos}
end
section
variable {X:Cx}
end
section
variable {X:Cx}{e:Expr}{es:List Expr}{pos p:Pos}
noncomputable def apt(x:Str):PyData->Bool
 |.dict [(.str y,.none)]=>decide (y=x)
 |_=>false
@[simp] theorem aqu(x:Str):apt x (fnD x)=true:=by simp[apt,fnD]
end
section
variable {X:Cx}{e a b c:Expr}{es:List Expr}{fa:RP}{fx gx:Rho->Option Str}{pos:Pos}
end
section
variable {X:Cx}{own:Option Nat}{e a b c tg src:Expr}{es:List Expr}{st:Stmt}{sts j1 body:List Stmt}{fx gx:Rho->Option Str}{F:RO}{fa:RP}{pos:Pos}
theorem Thr.unwish{W:Value->SP0}{Hb Hs:Hp}{c:Str}{ev:Value}{s':Shared}(sb:∀H3,jp Hb H3->jp Hs H3)(h:Thr (X.wish W) Hb c ev s'):Thr X Hs c ev s':=by
 obtain⟨e,C,σ',H',h1,h2,h3,h4,h5⟩:=h;exact⟨e,C,σ',H',h1,h2,h3.unwish,sb _ h4,h5.unwish⟩
end
section
variable {X:Cx}{e a b c:Expr}{es:List Expr}{st:Stmt}{sts j1:List Stmt}{fx gx:Rho->Option Str}{F:RO}{pos p:Pos}
noncomputable def orX(fx gx:Rho->Option Str):Rho->Option Str:=fun ρ=>match fx ρ with
 |some c=>some c
 |none=>gx ρ
theorem QO(h1:acS X sts fx)(h2:acS X sts gx):acS X sts (orX fx gx):=by
 with_unfolding_all
  intro s σ H ρ c I en q k;cases hf:fx ρ with
  | some c'=>
   have:c'=c:=by simpa[orX,hf]using q
   subst this;exact h1 s σ H ρ c' I en hf k
  |none=>exact h2 s σ H ρ c I en (by simpa[orX,hf]using q) k
end
section
variable {X:Cx}{a b c:Expr}{tc ta tb:Rho->Option Bool}{pos:Pos}
end
section
variable {X:Cx}{a b:Expr}{fa fb:RP}
end
structure RoomH(k:Nat)(A:Around):Prop where
 dp:A.depth+3*k+5<recursionLimit
 un:A.units+16*k+200<cLine
theorem RoomH.deeper{k:Nat}{A:Around}(r:RoomH (k+1) A)(env:Env):RoomH k (A.deeper env):=
 ⟨by have:=r.dp;show A.depth+1+3*k+5<_;omega,by have:=r.un;show A.units+3+16*k+200<_;omega⟩
structure FnH(P:Program)(w:World)(K:Fg)(mg:SV)(base:Heap)(k:Nat)(f:Addr)(fd:FuncData)(ps:List Str)(sp:Sp):Prop where
 len:∀vs H Q E,sp vs H Q E->vs.length=ps.length
 run:∀(A:Around) (Ko:List Env) (s:Shared) (H:Hp) (args:Args) (us:List Value) (vs:List V) (Q:VK) (E:XK),RoomH k A->Env0 P w K mg base A Ko s H->BindsTo s fd args (ps.zip us)->jG vs us->sp vs H Q E->
  codeAny (model P w) A (.call (.ref f) args) (CR CX0 Ko P w H s Q E) s
noncomputable def asl(P:Program)(w:World)(K:Fg)(mg:SV)(base:Heap)(x:Str)(ps:List Str)(k n:Nat)(g:LP->OP):Prop:=
 ∃(f:Addr) (fd:FuncData),FnH P w K mg base k f fd ps (Pur K n g)/\mg x=some (.ref f)/\PySem.W.keepIn K (.ref f)=true/\JS K fd ps []
section
variable {P:Program}{w:World}{K:Fg}{mg:SV}{base:Heap}
end
section
variable {X:Cx}{e:Expr}{es:List Expr}{pos:Pos}
end
structure ExcK(K:Fg)(C:Addr):Prop where
 exc:PySem.W.excIn K C vB "ValueError.__new__"=true
 ga:PySem.W.findIn K (.ref C) "__getattribute__"=some (some (.builtin "BaseException.__getattribute__"))
 gt:PySem.W.findIn K (.ref C) "__getattr__"=some none
 cl:PySem.W.findIn K (.ref C) "__class__"=some (some (.builtin "object.__class__"))
 mo:PySem.W.mroIn K C (.type "object")=some true
 mb:PySem.W.mroIn K C (.type "BaseException")=some true
structure ClsG(K:Fg):Prop where
 gt:PySem.W.specialIn K (.builtin "object.__class__") "__get__"=some (some (.builtin "getset_descriptor.__get__"))
 tk:PySem.W.takesIn K (.builtin "object.__class__")=some true
section
variable {prog:Program}{w:World}{A:Around}{E:Value->SP0}{s:Shared}{K:Fg}{a C:Addr}{oe:Obj}
end
noncomputable def adr(K:Fg)(c:Str):Option Addr:=match PySem.W.nsIn K mainGlobals c with
 |some (some (.ref C))=>some C
 |_=>none
theorem aom{K:Fg}{c:Str}{C:Addr}(h:adr K c=some C):PySem.W.nsIn K mainGlobals c=some (some (.ref C)):=by
 unfold adr at h;split at h
 ·rename_i q;cases h;exact q
 ·cases h
noncomputable def aqv(K:Fg)(C:Addr):Bool:=PySem.W.excIn K C vB "ValueError.__new__" && ((PySem.W.findIn K (.ref C) "__getattribute__" == some (some (.builtin "BaseException.__getattribute__")))&&((PySem.W.findIn K (.ref C) "__getattr__" == some none)&&((PySem.W.findIn K (.ref C) "__class__" == some (some (.builtin "object.__class__")))&&((PySem.W.mroIn K C (.type "object")==some true)&&(PySem.W.mroIn K C (.type "BaseException")==some true)))))
theorem al8{K:Fg}{C:Addr}(h:aqv K C=true):ExcK K C:=by
 unfold aqv at h;simp only[Bool.and_eq_true,beq_iff_eq]at h;obtain⟨h1,h2,h3,h4,h5,h6⟩:=h;exact⟨h1,h2,h3,h4,h5,h6⟩
noncomputable def ae6(K:Fg)(y:Str)(cs:List Str):Bool:=(PySem.W.specialIn K (.builtin "object.__class__") "__get__" == some (some (.builtin "getset_descriptor.__get__")))&&((PySem.W.takesIn K (.builtin "object.__class__")==some true)&&(match adr K y with
 | none=>false
 | some B=>(PySem.W.typeIn K (.ref B) == some (.type "type")) && ((PySem.W.mroIn K B (.type "BaseException") == some true) && cs.all fun c=>match adr K c with
  | none=>false
  | some C=>aqv K C && ((PySem.W.mroIn K C (.ref B) == some true) && ((PySem.W.kitOne K (.ref C) (.type "ValueError") == some true) && cs.all fun d=>match adr K d with
   | none=>false
   | some D=>PySem.W.kitOne K (.ref C) (.ref D) == some (c == d))))))
structure ErrT(K:Fg)(mg:SV)(y:Str)(cs:List Str):Prop where
 tab:ae6 K y cs=true
 mgs:∀c C,adr K c=some C->mg c=some (.ref C)
section
variable {K:Fg}{mg:SV}{y:Str}{cs:List Str}
theorem ErrT.g(h:ErrT K mg y cs):ClsG K:=by
 have:=h.tab;unfold ae6 at this;simp only[Bool.and_eq_true,beq_iff_eq]at this;exact⟨this.1,this.2.1⟩
theorem ErrT.par(h:ErrT K mg y cs):∃B,adr K y=some B/\mg y=some (.ref B)/\PySem.W.typeIn K (.ref B)=some (.type "type")/\PySem.W.mroIn K B (.type "BaseException")=some true/\
  ∀c∈cs,∃C,adr K c=some C/\mg c=some (.ref C)/\ExcK K C/\PySem.W.mroIn K C (.ref B)=some true/\PySem.W.kitOne K (.ref C) (.type "ValueError")=some true/\∀d∈cs,∃D,adr K d=some D/\mg d=some (.ref D)/\PySem.W.kitOne K (.ref C) (.ref D)=some (c==d):=by
 have q:=h.tab;unfold ae6 at q;simp only[Bool.and_eq_true,beq_iff_eq]at q;obtain⟨_,_,q⟩:=q;cases hB:adr K y with
 |none=>rw[hB]at q;cases q
 | some B=>
  rw[hB]at q;simp only[Bool.and_eq_true,beq_iff_eq,List.all_eq_true]at q;obtain⟨q1,q2,q3⟩:=q;refine⟨B,rfl,h.mgs y B hB,q1,q2,fun c hc=>?_⟩;have z:=q3 c hc;cases hC:adr K c with
  |none=>rw[hC]at z;cases z
  | some C=>
   rw[hC]at z;simp only[Bool.and_eq_true,beq_iff_eq,List.all_eq_true]at z;obtain⟨z1,z2,z3,z4⟩:=z;refine⟨C,rfl,h.mgs c C hC,al8 z1,z2,z3,fun d hd=>?_⟩;have v:=z4 d hd;cases hD:adr K d with
   |none=>rw[hD]at v;cases v
   | some D=>
    rw[hD]at v;exact⟨D,rfl,h.mgs d D hD,beq_iff_eq.mp v⟩
theorem ErrT.err(h:ErrT K mg y cs){c:Str}(hc:c∈cs):acT K mg c:=by
 obtain⟨B,_,_,_,_,q⟩:=h.par;obtain⟨C,_,q2,q3,_⟩:=q c hc;exact⟨C,q2,q3.exc⟩
end
noncomputable def arU:PyData->Option Str
 |.dict [(.str c,.bool true)]=>some c
 |_=>none
@[simp] theorem aqw(c:Str):arU (asJ c)=some c:=rfl
section
variable {X:Cx}{a:Expr}{fa:RP}{pos p p2:Pos}{y:Str}{cs:List Str}
end
section
variable {X:Cx}{σ:St}{H:Hp}{s:Shared}{e C:Addr}
theorem Inv.take{oe:Obj}(I:Inv X [] σ H s)(m:Mine X H e)(he:s.heap.get? e=some oe):Inv X [] σ (upd H e (.frz oe (.own e))) s/\jp H (upd H e (.frz oe (.own e))):=by
 have ne:∀b o,H b=some o->b≠e:=fun b o q z=>by subst z;rw[m.un]at q;cases q
 have sm:jp H (upd H e (.frz oe (.own e))):=fun b o q=>by rw[js (ne b o q)];exact q
 have u:Un (frs X.stack) [e] H (upd H e (.frz oe (.own e))) s.heap s.heap:=⟨fun b o q _ _ _=>q,fun b o q _ _ _=>⟨o.slots,q⟩,fun b o q n nc=>by rw[js (fun z=>nc (by simp[z]))];exact n,fun b o q _=>⟨o,q⟩,fun b xs q=>sm b _ q,fun b o v q=>sm b _ q,fun b ps q=>⟨#[],by rw[sm b _ q];simp⟩⟩
 have hok:HOk X.prog X.w (upd H e (.frz oe (.own e))) s.heap:=fun b o q=>by
  by_cases hb:b=e
  ·subst hb
   rw[jn]at q;cases q;exact⟨he,_,he⟩
  ·rw[js hb]at q
   exact(I.hok b o q).stay (fun c v hc r=>r) (fun c r=>sm _ _ r) fun c v r=>sm _ _ r
 refine⟨?_,sm⟩
 have J:=Inv.call (X:={ X with ex:=[e]++X.ex }) (g':=s.gens) (d':=s.drawn) (t':=s.toks) (Inv.exIn I fun b hb=>by rw[List.mem_singleton.mp hb];exact⟨m.new,m.loc,m.cel⟩) u hok I.bare fun b hb=>by
  rw[List.mem_singleton.mp hb];exact⟨.inl (List.mem_append_left _ (by simp)),m.loc,m.cel,fun p hp=>m.pin p (by simpa using hp)⟩
 exact Inv.exOut J I.ok fun b hb=>by rw[List.mem_singleton.mp hb];exact m.new
end
section
variable {X:Cx}{st b0:Stmt}{sts j1 tb hb:List Stmt}{F G:RO}{fx:Rho->Option Str}{pos:Pos}
end
noncomputable def al9{α:Type}(K:Fg)(enc:α->PyData)(rk:α->Int)(ok:α->Prop):List V->Hp->VK->Prop:=fun vs H Q=>∃a xs ps,vs=[.ref a]/\H a=some (.lst xs)/\Reps K H (ps.map enc) xs/\ps.length<64/\(∀p∈ps,ok p)/\
 ∀qs:List α,qs.Perm ps->qs.Pairwise (fun a b=>rk a<=rk b)->∀l ys,H l=none->Reps K H (qs.map enc) ys->Q (.ref l) (upd H l (.lst ys))
theorem ahY{X:Cx}{α:Type}(z0:α)(enc:α->PyData)(rk:α->Int)(T:Value)(ok:α->Prop)(At:Heap->Value->α->Prop)
  (hat:∀{Kp:List (Addr×Obj)} {σ:St} {H:Hp} {s:Shared} {v:V} {x:α} {u:Value} {h':Heap},Inv X Kp σ H s->ok x->Rep X.K H (enc x) v->jT v u->(∀b o,b≠X.env.locals->s.heap.get? b=some o->h'.get? b=some o)->At h' u x)
  (hfirst:∀{h:Heap} {u:Value} {x:α},ok x->At h u x->∃a o xs n f,u= .ref a/\h.get? a=some o/\o.cls= .type "tuple"/\o.data= .seq xs n/\xs[0]?=some f/\∀M,PySem.W.Looks M h (typeOf f) T)
  (hT:(T==T)=true)
  (hlt:∀{s:Shared} {u v:Value} {x y:α} {Q:Bool->SP0} {E:Value->SP0},ok x->ok y->At s.heap u x->At s.heap v y->Q (decide (rk x<rk y)) s->wpAny (model X.prog X.w) X.A.in1.in1 (keyLt' (tuples' (T != Value.type "tuple")) u v) Q E s):
  zh X (.builtin "sorted") (al9 X.K enc rk ok):=by
 intro Kp s σ H vs us0 Q I r ⟨a,xs,ps,e,hl,hR,h64,hB,q⟩;subst e;obtain⟨u,rfl,rx⟩:=QV r;cases rx;obtain⟨us,rv,pl,hz⟩:=I.list (SqL.of (K:=X.K) hl);have l1:=hR.length;have l2:=rv.length;rw[List.length_map]at l1;by_cases h2:us.length<2
 ·refine ahS pl.isList h2 fun h' D c kp ho hD=>?_
  have hps:ps.Pairwise (fun a b=>rk a<=rk b):=aeX (by omega);refine⟨.ref D,upd H D (.lst xs),I.laid (t':=s.toks) kp hD ⟨hz,us,c,rv,ho⟩,rfl,q ps (List.Perm.refl _) hps D xs (I.hok.fresh hD) hR⟩
 ·obtain⟨m,F⟩:=I.fr
  have ge2:2<=us.length:=by omega
  have lt64:us.length<64:=by omega
  refine PySem.W.kat_sorted (h₀:=X.base) (L:=X.env.locals) (m:=m) (news:=za X.base s.heap X.env.locals) (vs:=us) (l:=a) F aga pl.isList ge2 lt64 ?_;intro D e1 h' F' N' hlt';have nD:=N' (D,seqObj "list" #[] e1) List.mem_cons_self
  have kpb:∀{h2:Heap},Fr X.base X.env.locals h2 m->(∀p∈za X.base s.heap X.env.locals,h2.get? p.1=some p.2)->∀b o,b≠X.env.locals->s.heap.get? b=some o->h2.get? b=some o:=fun {h2} F2 N2 b o hb e=>by
   cases e3:X.base.get? b with
   |some u=>have:=F.keep b u e3;rw[e]at this;cases this;exact F2.keep b _ e3
   |none=>exact N2 (b,o) (Q4 hb e3 e)
  have kp1:=kpb F' fun p hp=>(N' p (List.mem_cons_of_mem _ hp)).1
  have freshD:s.heap.get? D=none:=by
   cases e3:s.heap.get? D with
   |none=>rfl
   |some o=>exact absurd (hlt' (D,o) (Q4 nD.2.1 nD.2.2 e3)) (Nat.lt_irrefl _)
  have pr:∀i (hi:i<ps.length),At h' (us.getD i Value.none) ps[i]:=fun i hi=>by
   obtain⟨x,ex,er⟩:=hR.get (show(ps.map enc)[i]?=some (enc ps[i]) by simp[hi]);obtain⟨v,ev,rv2⟩:=rv.get ex;rw[getD_some ev];exact hat I (hB _ (List.getElem_mem _)) er rv2 kp1
  have hu:us.length=ps.length:=by omega
  have kt:∃fs:List Value,PySem.W.KatTups h' us fs/\fs.length=us.length/\∀v∈fs,∀M,PySem.W.Looks M h' (typeOf v) T:=by
   have go:∀(n:Nat) (ws:List Value),us.drop n=ws->∃fs:List Value,PySem.W.KatTups h' ws fs/\fs.length=ws.length/\∀v∈fs,∀M,PySem.W.Looks M h' (typeOf v) T:=by
    intro n ws
    induction ws generalizing n with
    |nil=>intro _;exact⟨[],trivial,rfl,fun v hv=>nomatch hv⟩
    | cons w ws ih=>
     intro hd
     have hn:us[n]?=some w:=by
      have:(us.drop n)[0]?=some w:=by rw[hd];rfl
      simpa using this
     have hd':us.drop (n+1)=ws:=by
      have:(us.drop n).drop 1=ws:=by rw[hd];rfl
      simpa[List.drop_drop,Nat.add_comm]using this
     obtain⟨fs,t1,t2,t3⟩:=ih (n+1) hd'
     have hlt2:n<ps.length:=by
      have:=(List.getElem?_eq_some_iff.mp hn).1;omega
     obtain⟨a2,o,ys,k,f,e1,e2,e3,e4,e5,e6⟩:=hfirst (hB _ (List.getElem_mem _)) (pr n hlt2);rw[getD_some hn]at e1;subst e1;refine⟨f::fs,PySem.W.KatTups.cons e2 e3 e4 e5 t1,by simp[t2],fun v hv=>?_⟩;rcases List.mem_cons.mp hv with rfl | hv
     ·exact e6
     ·exact t3 v hv
   exact go 0 us rfl
  obtain⟨fs,t1,t2,t3⟩:=kt;refine PySem.W.kat_kind (s:={ s with heap:=h' }) (T:=T) t1 (by omega) (fun v hv=>t3 v hv _) hT ?_;show(PySem.W.kas_sort us.length).kasWp (PySem.W.kas_ask X.prog X.w X.A.in1.in1 (tuples' (T != Value.type "tuple")) us) _ { s with heap:=h' };refine Srt.sort_ok (rk:=fun i=>rk (ps.getD i z0)) (n:=us.length) (s:={ s with heap:=h' }) (fun i j C hi hj hC=>?_) (by omega) fun p hp hs=>?_
  ·have g1:ps.getD i z0=ps[i]'(by omega):=getD_some (List.getElem?_eq_getElem _)
   have g2:ps.getD j z0=ps[j]'(by omega):=getD_some (List.getElem?_eq_getElem _);simp only[g1,g2]at hC;exact hlt (s:={ s with heap:=h' }) (hB _ (List.getElem_mem _)) (hB _ (List.getElem_mem _)) (pr i (by omega)) (pr j (by omega)) hC
  ·have mem:∀i∈p.toList,i<us.length:=fun i hi=>by
    have:i∈(List.range us.length).toArray:=hp.mem_iff.mp (by simpa using hi);simpa using this
   have permN:p.toList.Perm (List.range us.length):=by simpa using hp.toList
   refine PySem.W.KasFin.intro (news:=(D,seqObj "list" #[] e1)::za X.base s.heap X.env.locals) (g:=fun o'=>(D,o')::za X.base s.heap X.env.locals) F' N' (.head fun z hz=>Nat.ne_of_lt (hlt' z hz)) fun h2 c F2 N2=>?_;have kp2:=kpb F2 fun z hz=>(N2 z (List.mem_cons_of_mem _ hz)).1;have hD2:=(N2 (D,PySem.W.listOf (List.toArray (p.toList.map fun i=>us.getD i Value.none)) c) List.mem_cons_self).1
   have hln:(p.toList.map fun i=>xs.getD i V.non).length<=sizeLine:=by
    rw[List.length_map,permN.length_eq,List.length_range,sizeLine_eq];omega
   have I2:=Inv.grownL (ys:=p.toList.map fun i=>xs.getD i V.non) I F.ns F2.ns kp2 freshD hD2 (ad7 rv _ mem) hln
   have nH:H D=none:=by
    cases e3:H D with
    |none=>rfl
    |some o=>obtain⟨u,z⟩:=qt.there (I.hok D o e3);rw[freshD]at z;cases z
   have eqs:(p.toList.map fun i=>(ps.map enc).getD i PyData.none)=(p.toList.map fun i=>ps.getD i z0).map enc:=by
    rw[List.map_map];refine List.map_congr_left fun i hi=>?_;have hi':=mem i hi;have g1:ps.getD i z0=ps[i]'(by omega):=getD_some (List.getElem?_eq_getElem _);show(ps.map enc).getD i PyData.none=enc (ps.getD i z0);rw[g1];refine getD_some ?_;rw[List.getElem?_map,List.getElem?_eq_getElem (show i<ps.length by omega)];rfl
   have rp:=akm hR p.toList fun i hi=>by rw[List.length_map];have:=mem i hi;omega
   rw[eqs]at rp;refine⟨.ref D,_,I2,rfl,q _ ?_ ?_ D _ nH rp⟩
   ·have e5:(List.range us.length).map (fun i=>ps.getD i z0)=ps:=by
     apply List.ext_getElem?;intro i;rw[List.getElem?_map];by_cases hi:i<us.length
     ·rw[List.getElem?_range hi,List.getElem?_eq_getElem (show i<ps.length by omega)]
      show some (ps.getD i z0)=_;rw[getD_some (List.getElem?_eq_getElem (show i<ps.length by omega))]
     ·rw[List.getElem?_eq_none_iff.mpr (show(List.range us.length).length<=i by rw[List.length_range];omega),List.getElem?_eq_none_iff.mpr (show ps.length<=i by omega)]
      rfl
    have:=permN.map (fun i=>ps.getD i z0);rw[e5]at this;exact this
   ·rw[List.pairwise_map]
    rw[List.pairwise_iff_getElem];intro i j hi hj hij;have hps:p.size=us.length:=hp.size;have hi':i<p.size:=by simpa using hi
    have hj':j<p.size:=by simpa using hj
    have:=hs i j (Nat.le_of_lt hij) (by omega);simp only[Srt.val]at this;have g1:p.getD i 0=p.toList[i]:=by simp[Array.getD,hi']
    have g2:p.getD j 0=p.toList[j]:=by simp[Array.getD,hj']
    rw[g1,g2]at this;exact this
noncomputable abbrev aan:=Int×(Int×Int)
noncomputable def ZO(t:aan):PyData:= .tuple [.int t.1,Qs t.2]
noncomputable def qi(t:aan):Int:=t.1*1000000000000+t.2.1*1000000+t.2.2
noncomputable def inT(t:aan):Bool:=decide (0<=t.2.1)&&decide (t.2.1<1000000)&&inB t.2
theorem ama{p q:aan}(hp:inT p=true)(hq:inT q=true):(qi p<qi q)↔(p.1<q.1∨(p.1=q.1/\(p.2.1<q.2.1∨(p.2.1=q.2.1/\p.2.2<q.2.2)))):=by
 simp only[inT,inB,Bool.and_eq_true,decide_eq_true_eq]at hp hq;unfold qi;omega
structure TripAt(h:Heap)(u:Value)(t:aan):Prop where
 ex:∃a o k tk a2,u= .ref a/\h.get? a=some o/\o.cls= .type "tuple"/\o.data= .seq #[.int t.1 tk,.ref a2] k/\PairAt h (.ref a2) t.2
theorem acW{h:Heap}{a:Addr}{p:Int×Int}(x:PairAt h (.ref a) p):Reads h (.ref a) (Qs p) []:=by
 obtain⟨b,o,k,t,t',e1,e2,e3,e4⟩:=x.ex;cases e1;exact .tuple e2 e3 e4 (.cons (.int _ t) (.cons (.int _ t') .nil))
theorem acX{h:Heap}{a:Addr}{p:Int×Int}(x:PairAt h (.ref a) p):∃t t',IsTup h a #[.int p.1 t,.int p.2 t']:=by
 obtain⟨b,o,k,t,t',e1,e2,e3,e4⟩:=x.ex;cases e1;exact⟨t,t',o,e2,e3,k,e4⟩
theorem amb(p q:Int×Int):PyData.eqv (Qs p) (Qs q)=decide (p.1=q.1/\p.2=q.2):=by
 simp only[Qs,PyData.eqv,PyData.eqvAll,Bool.and_true];rw[Bool.decide_and,Bool.beq_eq_decide_eq,Bool.beq_eq_decide_eq]
theorem aon{X:Cx}(hu:X.A.in1.in1.units+8<cLine){s:Shared}{u v:Value}{p q:aan}{Q:Bool->SP0}{E:Value->SP0}(hp:inT p=true)(hq:inT q=true)(xu:TripAt s.heap u p)(xv:TripAt s.heap v q)
  (h:Q (decide (qi p<qi q)) s):wpAny (model X.prog X.w) X.A.in1.in1 (keyLt' (tuples' (Value.type "int" != Value.type "tuple")) u v) Q E s:=by
 obtain⟨a,oa,ka,ta,a2,rfl,ea,_,da,pa⟩:=xu.ex;obtain⟨b,ob,kb,tb,b2,rfl,eb,_,db,pb⟩:=xv.ex;have hr:=ama hp hq;have hT:(Value.type "int" != Value.type "tuple")=true:=by decide
 rw[hT];refine PySem.W.kat_lt ea da eb db ?_;show PySem.W.KatLex X.prog X.w X.A.in1.in1 true (decide (2<2)) Q [(.int p.1 ta,.int q.1 tb),(.ref a2,.ref b2)] 0 s;refine PySem.W.kat_cons (SeqAt.EqAt.int_int p.1 ta q.1 tb X.prog X.w _ _ ?_);by_cases e1:p.1=q.1
 ·have eb1:(p.1==q.1)=true:=by simpa using e1
  rw[eb1];refine PySem.W.kat_yes (PySem.W.kat_cons (SeqAt.eqAt_reads (Qs p.2) (Qs q.2) _ s _ _ [] [] (acW pa) (acW pb) rfl rfl ?_ X.prog X.w _ _ ?_))
  ·have:(Qs p.2).depth=2∨(Qs p.2).depth<=8:= .inr (by simp[Qs,PyData.depth,PyData.depthAll])
   omega
  rw[amb];by_cases e2:p.2.1=q.2.1/\p.2.2=q.2.2
  ·rw[decide_eq_true e2]
   refine PySem.W.kat_yes (PySem.W.kat_nil ?_)
   have:decide (qi p<qi q)=decide (2<2):=by
    apply decide_eq_decide.mpr;rw[hr];omega
   rw[←this];exact h
  ·rw[decide_eq_false e2]
   obtain⟨t1,t2,i1⟩:=acX pa;obtain⟨t3,t4,i2⟩:=acX pb;refine PySem.W.kat_no (PySem.W.kat_one _ _ (HT.lt_tupInts (ns:=[p.2.1,p.2.2]) (ms:=[q.2.1,q.2.2]) i1 i2 (.cons _ t1 (.cons _ t2 .nil)) (.cons _ t3 (.cons _ t4 .nil)) (by omega) ?_));show Q (HT.lexLt [p.2.1,p.2.2] [q.2.1,q.2.2]) s
   have:HT.lexLt [p.2.1,p.2.2] [q.2.1,q.2.2]=decide (qi p<qi q):=by
    rw[HT.lexLt_cons,HT.lexLt_cons,HT.lexLt_nil_nil];by_cases c1:p.2.1=q.2.1
    ·rw[if_pos c1,if_neg (fun z=>e2 ⟨c1,z⟩)]
     apply decide_eq_decide.mpr;rw[hr];omega
    ·rw[if_neg c1]
     apply decide_eq_decide.mpr;rw[hr];omega
   rw[this];exact h
 ·have eb1:(p.1==q.1)=false:=by simpa using e1
  rw[eb1];refine PySem.W.kat_no (oneLt_int ?_)
  have:decide (qi p<qi q)=decide (p.1<q.1):=by
   apply decide_eq_decide.mpr;rw[hr];omega
  rw[←this];exact h
section
variable {X:Cx}
theorem ahZ{Kp:List (Addr×Obj)}{σ:St}{H:Hp}{s:Shared}{a:Addr}{o:Obj}{xs:Array Value}{k:Nat}(I:Inv X Kp σ H s)(eo:s.heap.get? a=some o)(dk:o.data= .seq xs k):a≠X.env.locals:=fun z=>by
 obtain⟨_,⟨o',es,ep,h1,h2,_⟩,_⟩:=I.loc;rw[z]at eo;rw[eo]at h1;cases h1;rw[dk]at h2;cases h2
theorem ajq{Kp:List (Addr×Obj)}{σ:St}{H:Hp}{s:Shared}{v:V}{p:Int×Int}{u:Value}{h':Heap}(I:Inv X Kp σ H s)(r:Rep X.K H (Qs p) v)(rv:jT v u)(kp:∀b o,b≠X.env.locals->s.heap.get? b=some o->h'.get? b=some o):∃a,u= .ref a/\PairAt h' u p:=by
 obtain⟨a2,ws,e2,e3,x1,r1,e4,e5,x2,r2,e6,e7,e8⟩:=r;cases (show x1=_ from e5);cases (show x2=_ from e7);cases (show r2=[] from e8);subst e6;subst e4;subst e2;cases rv;obtain⟨its,r3,⟨o,eo,co,k,dk⟩,_⟩:=I.tuple e3;cases r3 with
 | cons y1 r3=>
  cases r3 with
  | cons y2 r3=>
   cases r3;obtain⟨t,rfl⟩:=y1;obtain⟨t',rfl⟩:=y2;exact⟨a2,rfl,a2,o,k,t,t',rfl,kp a2 o (ahZ I eo dk) eo,co,by simpa using dk⟩
theorem aoo{Kp:List (Addr×Obj)}{σ:St}{H:Hp}{s:Shared}{v:V}{p:aan}{u:Value}{h':Heap}(I:Inv X Kp σ H s)(r:Rep X.K H (ZO p) v)(rv:jT v u)(kp:∀b o,b≠X.env.locals->s.heap.get? b=some o->h'.get? b=some o):TripAt h' u p:=by
 obtain⟨a2,ws,e2,e3,x1,r1,e4,e5,x2,r2,e6,e7,e8⟩:=r;cases (show x1=_ from e5);cases (show r2=[] from e8);subst e6;subst e4;subst e2;cases rv;obtain⟨its,r3,⟨o,eo,co,k,dk⟩,_⟩:=I.tuple e3;cases r3 with
 | cons y1 r3=>
  cases r3 with
  | cons y2 r3=>
   cases r3;obtain⟨t,rfl⟩:=y1;obtain⟨a3,rfl,pp⟩:=ajq I e7 y2 kp;exact⟨a2,o,k,t,a3,rfl,kp a2 o (ahZ I eo dk) eo,co,by simpa using dk,pp⟩
theorem ah0(hu:X.A.in1.in1.units+8<cLine):zh X (.builtin "sorted") (al9 X.K ZO qi (fun t=>inT t=true)):=
 ahY (0,(0,0)) ZO qi (.type "int") _ TripAt (fun I _ r rv kp=>aoo I r rv kp) (fun _ x=>by
  obtain ⟨a,o,k,tk,a2,e1,e2,e3,e4,_⟩:=x.ex;exact ⟨a,o,_,k,_,e1,e2,e3,e4,rfl,fun M=>PySem.W.Looks.of_pure rfl⟩) rfl fun hx hy xu xv h=>aon hu hx hy xu xv h
end
section
variable {α:Type}
noncomputable def akr(rk:α->Int)(p:α):List α->List α
 | []=>[p]
 |q::r=>if rk p<=rk q then p::q::r else q::akr rk p r
noncomputable def JW(rk:α->Int):List α->List α
 | []=>[]
 |p::r=>akr rk p (JW rk r)
theorem abd(rk:α->Int)(p:α):∀l,(akr rk p l).Perm (p::l)
 | []=>List.Perm.refl _
 | q::r=>by
  unfold akr;split
  ·exact List.Perm.refl _
  ·exact((abd rk p r).cons q).trans (List.Perm.swap p q r)
theorem zt(rk:α->Int):∀l,(JW rk l).Perm l
 | []=>List.Perm.refl _
 |p::r=>(abd rk p _).trans ((zt rk r).cons p)
theorem abL(rk:α->Int)(p:α):∀l,l.Pairwise (fun a b=>rk a<=rk b)->(akr rk p l).Pairwise (fun a b=>rk a<=rk b)
 | [],_=>List.pairwise_singleton _ _
 | q::r,h=>by
  have hq:=List.pairwise_cons.mp h;unfold akr;split
  ·rename_i hle
   refine List.pairwise_cons.mpr ⟨fun b hb=>?_,h⟩;rcases List.mem_cons.mp hb with rfl | hb
   ·exact hle
   ·exact Int.le_trans hle (hq.1 b hb)
  ·rename_i hle
   refine List.pairwise_cons.mpr ⟨fun b hb=>?_,abL rk p r hq.2⟩;rcases List.mem_cons.mp ((abd rk p r).mem_iff.mp hb)with rfl | hb
   ·omega
   ·exact hq.1 b hb
theorem Jr(rk:α->Int):∀l,(JW rk l).Pairwise (fun a b=>rk a<=rk b)
 | []=> .nil
 |p::r=>abL rk p _ (Jr rk r)
theorem Za{rk:α->Int}:∀{l l':List α},l.Pairwise (fun a b=>rk a<=rk b)->l'.Pairwise (fun a b=>rk a<=rk b)->l.Perm l'->(∀p∈l,∀q∈l,rk p=rk q->p=q)->l=l'
 | [],l',_,_,hp,_=>hp.nil_eq
 |a::l,[],_,_,hp,_=>by have:=hp.length_eq;simp at this
 | a::l,b::l',h1,h2,hp,hb=>by
  have h1':=List.pairwise_cons.mp h1;have h2':=List.pairwise_cons.mp h2
  have hab:a=b:=by
   have ha:a∈b::l':=hp.mem_iff.mp List.mem_cons_self;have hb':b∈a::l:=hp.mem_iff.mpr List.mem_cons_self;rcases List.mem_cons.mp ha with e | ha'
   ·exact e
   ·rcases List.mem_cons.mp hb' with e | hb''
    ·exact e.symm
    ·exact hb a List.mem_cons_self b hb' (Int.le_antisymm (h1'.1 b hb'') (h2'.1 a ha'))
  subst hab;rw[Za h1'.2 h2'.2 (List.Perm.cons_inv hp) fun p hp q hq=>hb p (List.mem_cons_of_mem _ hp) q (List.mem_cons_of_mem _ hq)]
end
noncomputable def ae7:PyData->Option aan
 |.tuple [.int n,.tuple [.int p,.int q]]=>some (n,(p,q))
 |_=>none
theorem agK{d:PyData}{t:aan}(h:ae7 d=some t):d=ZO t:=by
 unfold ae7 at h;split at h
 ·cases h;rfl
 ·cases h
noncomputable def Jn:LP->Option (List aan)
 | []=>some []
 |d::ds=>(ae7 d).bind fun t=>(Jn ds).map fun ts=>t::ts
theorem acY:∀{ds:LP}{ts:List aan},Jn ds=some ts->ds=ts.map ZO
 | [],ts,h=>by cases h;rfl
 | d::ds,ts,h=>by
  cases h1:ae7 d with
  |none=>simp[Jn,h1]at h
  | some t=>
   cases h2:Jn ds with
   |none=>simp[Jn,h1,h2]at h
   | some r=>
    have:t::r=ts:=by simpa[Jn,h1,h2]using h
    subst this;rw[agK h1,acY h2];rfl
theorem ad8:∀(ts:List aan),Jn (ts.map ZO)=some ts
 | []=>rfl
 | t::ts=>by
  show(some t).bind (fun t=>(Jn (ts.map ZO)).map fun ts=>t::ts)=_;rw[ad8 ts];rfl
theorem ad9{p q:aan}(hp:inT p=true)(hq:inT q=true)(h:qi p=qi q):p=q:=by
 simp only[inT,inB,Bool.and_eq_true,decide_eq_true_eq]at hp hq;unfold qi at h;obtain⟨p1,p2,p3⟩:=p;obtain⟨q1,q2,q3⟩:=q;simp only at*;have h1:p1=q1:=by omega
 have h2:p2=q2:=by omega
 have h3:p3=q3:=by omega
 rw[h1,h2,h3]
noncomputable def ah1(ds:LP):OP:=match ds with
 | [.list xs]=>(Jn xs).bind fun ts=>if decide (ts.length<64)&&ts.all inT then some (.list ((JW qi ts).map ZO)) else none
 |_=>none
theorem amc{X:Cx}(hu:X.A.in1.in1.units+8<cLine):Qn X (.builtin "sorted") ah1:=by
 refine⟨_,ah0 hu,fun ds d xs H Q h r k=>?_⟩;unfold ah1 at h;split at h
 ·rename_i ys
  cases hp:Jn ys with
  |none=>simp[hp]at h
  | some ps=>
   by_cases hc:(decide (ps.length<64)&&ps.all inT)=true
   ·have:PyData.list ((JW qi ps).map ZO)=d:=by simpa[hp,hc]using h
    subst this;obtain⟨x,q,e1,e2,e3⟩:=r;cases (show q=[] from e3);obtain⟨a,us,g1,g2,g3⟩:=e2;subst g1;rw[acY hp]at g3;simp only[Bool.and_eq_true,decide_eq_true_eq,List.all_eq_true]at hc;refine⟨a,us,ps,e1,g2,g3,hc.1,hc.2,fun qs p1 p2 l zs hl hz=>?_⟩;have:qs=JW qi ps:=Za p2 (Jr qi ps) (p1.trans (zt qi ps).symm) fun p hp q hq e=>ad9 (hc.2 p (p1.mem_iff.mp hp)) (hc.2 q (p1.mem_iff.mp hq)) e;subst this;exact k _ _ (jC hl) ⟨l,zs,rfl,jn,Reps.mono (jC hl) _ _ hz⟩
   ·simp[hp,hc]at h
 ·cases h
section
variable {X:Cx}{e a b c:Expr}{es j1:List Expr}{st:Stmt}{sts srest:List Stmt}{fx gx:Rho->Option Str}{fa fb:RP}{F:RO}{pos:Pos}
theorem aqx(h1:PSX X st fx)(h2:PSX X st gx):PSX X st (orX fx gx):=by
 with_unfolding_all
  intro s σ H ρ c I en q k;cases hf:fx ρ with
  | some c'=>
   have:c'=c:=by simpa[orX,hf]using q
   subst this;exact h1 s σ H ρ c' I en hf k
  |none=>exact h2 s σ H ρ c I en (by simpa[orX,hf]using q) k
noncomputable def items:PyData->Option (LP)
 |.list ds=>some ds
 |.tuple ds=>some ds
 |_=>none
noncomputable def itS(fa:RP):Rho->Option (LP):=fun ρ=>(fa ρ).bind items
theorem aao{tg:Expr}(h:PD X e fa):PID X tg e (itS fa):=by
 with_unfolding_all
  intro Kp s σ H R I ⟨ρ,ds,en,q,k⟩;cases hf:fa ρ with
  |none=>simp[itS,hf]at q
  | some d=>
   have q':items d=some ds:=by simpa[itS,hf]using q
   cases d with
   | list es=>
    cases q';exact aaf (tg:=tg) h Kp s σ H R I ⟨ρ,ds,en,by simp[itL,hf,Q6],k⟩
   | tuple es=>
    cases q';exact aeR (tg:=tg) h Kp s σ H R I ⟨ρ,ds,en,by simp[itT,hf,aa9],k⟩
   |_=>cases q'
end
theorem _root_.L2.Room.sort{k:Nat}{A:Around}(r:Room k A):A.in1.in1.units+8<cLine:=by
 have:=r.un;show A.units+1+1+8<cLine;omega
theorem _root_.L2.Room.units1{k:Nat}{A:Around}(r:Room k A):A.units+1<cLine:=by have:=r.un;omega
theorem RoomH.units{k:Nat}{A:Around}(r:RoomH k A):A.units+64<cLine:=by have:=r.un;omega
theorem RoomH.mono{j k:Nat}{A:Around}(r:RoomH k A)(h:j<=k):RoomH j A:=⟨by have:=r.dp;omega,by have:=r.un;omega⟩
section
variable {X:Cx}{a b:Expr}{pos:Pos}
end
@[irreducible] noncomputable def PTX(X:Cx)(e:Expr)(fx:Rho->Option Str):Prop:=∀(s:Shared) (σ:St) (H:Hp) (ρ:Rho) (c:Str),Inv X [] σ H s->EnvR X.K H ρ σ->fx ρ=some c->(∀ev s',Thr X H c ev s'->X.xe ev s')->wpAny (model X.prog X.w) X.A (isTrue e X.env (eval e X.env)) (fun _ _=>False) X.xe s
section
variable {X:Cx}{e a b c:Expr}{l r:List Stmt}{fx gx:Rho->Option Str}{pos:Pos}
theorem aop(h:PDX X e fx)(he:∀whole,isTrue e X.env whole=(do let v ←whole;standAt e.pos;holding [v] (truthy v)):=by intro _;rfl):PTX X e fx:=by
 with_unfolding_all
  intro s σ H ρ c I en q k;exact isTrue_plain (wpAny_mono (h s σ H ρ c I en q k) (fun _ _ z=>z.elim) fun _ _ z=>z) (he _)
theorem aoq(h:PTX X e fx):PTX X (.UnaryOp .Not e pos) fx:=by
 with_unfolding_all
  intro s σ H ρ c I en q k;exact isTrue_not (wpAny_mono (h s σ H ρ c I en q k) (fun _ _ z=>z.elim) fun _ _ z=>z)
theorem aor(h:PTX X e fx):PSX X (.If e l r pos) fx:=by
 with_unfolding_all
  intro s σ H ρ c I en q k;exact wpAny_If (wpAny_mono (h s σ H ρ c I en q k) (fun _ _ z=>z.elim) fun _ _ z=>z)
end
section
variable {X:Cx}{own:Option Nat}{tg:Expr}{st:Stmt}{sts:List Stmt}{fx:Rho->Option Str}{F:RO}
end
section
variable {X:Cx}{a i e:Expr}{es:List Expr}{pos fp:Pos}
end
section
variable {X:Cx}{own:Option Nat}{e a b c:Expr}{es:List Expr}{st:Stmt}{sts j1:List Stmt}{fa fb fc:RP}{F G:RO}{pos:Pos}
noncomputable def agL(F:RO):RO:=fun ρ=>match F ρ with
 |some (.rt d)=>some (.rt d)
 |_=>none
theorem amd{i:Nat}(h:abU X sts F):ae0 X (some i) sts (agL F):=by
 with_unfolding_all
  intro Kp s σ H D I ⟨Hs,ρ,o,E,q,k⟩;cases hF:F ρ with
  |none=>simp[agL,hF]at q
  | some o1=>
   cases o1 with
   | rt d=>
    have:Out.rt d=o:=by simpa[agL,hF]using q
    subst this;obtain⟨d0,a,cl,o',g1,g2,g3,S,g4,env,sm,back,keep⟩:=E.opn;exact h Kp s σ (upd H a o') D (Inv.opened I S g4) ⟨ρ,.rt d,env,hF,fun v H' s' r=>k v H' (sm.trans s') r⟩
   |nx _=>simp[agL,hF]at q
   |bk _=>simp[agL,hF]at q
   |ct _=>simp[agL,hF]at q
end
noncomputable def ah2(ds:LP):OP:=match ds with
 | [.int i]=>some (.int i)
 | [.bool k]=>some (.int (if k=true then 1 else 0))
 |_=>none
theorem ame{X:Cx}:Qn X (.type "int") ah2:=by
 refine⟨_,aj3,fun ds d xs H Q h r k=>?_⟩;unfold ah2 at h;split at h
 ·cases h
  obtain⟨x,q,e1,e2,e3⟩:=r;cases (show q=[] from e3);rename_i i;cases (show x=V.int i from e2);exact .inl ⟨_,e1,k _ _ (jp.refl _) rfl⟩
 ·cases h
  obtain⟨x,q,e1,e2,e3⟩:=r;cases (show q=[] from e3);rename_i b;cases (show x=V.bl b from e2);exact .inr ⟨_,e1,k _ _ (jp.refl _) rfl⟩
 ·cases h
section
variable {X:Cx}{tg src:Expr}{pos pos':Pos}{own:Option Nat}
end
noncomputable def arV(ps:List (Int×Int)):PyData:= .tuple (ps.map Qs)
noncomputable def aap(h:Heap):List Value->List (Int×Int)->Prop
 | [],ps=>ps=[]
 |v::vs,ps=>∃p r a,ps=p::r/\v= .ref a/\PairAt h (.ref a) p/\aap h vs r
theorem aap.len{h:Heap}:∀{vs:List Value}{ps:List (Int×Int)},aap h vs ps->vs.length=ps.length
 | [],ps,e=>by cases (show ps=[] from e);rfl
 |v::vs,ps,⟨p,r,a,e,_,_,k⟩=>by rw[e,List.length_cons,List.length_cons,k.len]
structure SetAt(h:Heap)(u:Value)(ps:List (Int×Int)):Prop where
 ex:∃a o k vs,u= .ref a/\h.get? a=some o/\o.cls= .type "tuple"/\o.data= .seq (List.toArray vs) k/\aap h vs ps
section
variable {X:Cx}
theorem agM{Kp:List (Addr×Obj)}{σ:St}{H:Hp}{s:Shared}{h':Heap}(I:Inv X Kp σ H s)(kp:∀b o,b≠X.env.locals->s.heap.get? b=some o->h'.get? b=some o):∀(ps:List (Int×Int)) (xs:List V) (us:List Value),Reps X.K H (ps.map Qs) xs->jG xs us->aap h' us ps
 | [],xs,us,r,v=>by
  cases (show xs=[] from r);cases v;rfl
 | p::ps,xs,us,r,v=>by
  obtain⟨x,q,rfl,e2,e3⟩:=r;cases v with
  | cons y v=>
   obtain⟨a,rfl,pp⟩:=ajq I e2 y kp;exact⟨p,ps,a,rfl,rfl,pp,agM I kp ps _ _ e3 v⟩
theorem Z1{Kp:List (Addr×Obj)}{σ:St}{H:Hp}{s:Shared}{v:V}{p:List (Int×Int)}{u:Value}{h':Heap}(I:Inv X Kp σ H s)(r:Rep X.K H (arV p) v)(rv:jT v u)(kp:∀b o,b≠X.env.locals->s.heap.get? b=some o->h'.get? b=some o):SetAt h' u p:=by
 obtain⟨a2,ws,e2,e3,e4⟩:=r;subst e2;cases rv;obtain⟨its,r3,⟨o,eo,co,k,dk⟩,_⟩:=I.tuple e3;exact⟨a2,o,k,its,rfl,kp a2 o (ahZ I eo dk) eo,co,dk,agM I kp p ws its e4 r3⟩
end
set_option maxHeartbeats 4000000 in
section
variable {X:Cx}
end
section
variable {prog:Program}{w:World}{A:Around}{E:Value->SP0}{s:Shared}
theorem agN{sl:Addr}{vk:Value}{n:Nat}{Q:Int×Int×Nat->SP0}(hs:s.heap.IsSliceOf sl .none .none vk)(pk:IsPart vk (some (-1)))
  (h:Q ((n:Int)-1,-1,n) s):wpAny (model prog w) A (Builtin.Slice.sliceApplied (.ref sl) (pure (n:Int))) Q E s:=by
 obtain⟨os,hos,hcs,hds⟩:=id hs;unfold Builtin.Slice.sliceApplied Builtin.Slice.sliceFields;refine wpAny_bind (wpAny_bind (wpAny_field hos hds (x:= .none) rfl (wpAny_bind (wpAny_field hos hds (x:= .none) rfl (wpAny_bind (wpAny_field hos hds (x:=vk) rfl (wpAny_pure ?_)))))));refine wpAny_bind (HT.slicePart_ pk ?_);show wpAny _ _ (if (((-1:Int))==0)=true then _ else _) _ _ s;rw[if_neg (by decide)];refine wpAny_bind (PyProof.Rows.slicePart_none (wpAny_bind (PyProof.Rows.slicePart_none (wpAny_bind (wpAny_pure ?_)))));show wpAny _ _ (pure (((n:Int)-1),(-1:Int),Builtin.Slice.slicePlaces ((n:Int)-1) (-1) (-1))) _ _ s
 have e:Builtin.Slice.slicePlaces ((n:Int)-1) (-1) (-1)=n:=by
  unfold Builtin.Slice.slicePlaces;rw[if_neg (by decide)];by_cases hn:(n:Int)-1 > -1
  ·rw[if_pos hn,show(- -1:Int)=1 by decide,Int.ediv_one];omega
  ·rw[if_neg hn];omega
 rw[e];exact wpAny_pure h
theorem aks(xs:Array Value):((List.range xs.size).filterMap fun (k:Nat)=>xs[(((xs.size:Int)-1)+(k:Int)*(-1)).toNat]?).toArray=xs.toList.reverse.toArray:=by
 have e:((List.range xs.size).filterMap fun (k:Nat)=>xs[(((xs.size:Int)-1)+(k:Int)*(-1)).toNat]?)=((List.range xs.size).map fun k=>xs.size-1-k).filterMap (xs[·]?):=by
  rw[List.filterMap_map]
  have key:∀l:List Nat,(∀k∈l,k<xs.size)->l.filterMap (fun (k:Nat)=>xs[(((xs.size:Int)-1)+(k:Int)*(-1)).toNat]?)=l.filterMap ((fun x=>xs[x]?)∘fun k=>xs.size-1-k):=by
   intro l
   induction l with
   |nil=>intro _;rfl
   | cons k l ih=>
    intro hl;have hk:=hl k List.mem_cons_self;have e1:(((xs.size:Int)-1)+(k:Int)*(-1)).toNat=xs.size-1-k:=by omega
    simp only[List.filterMap_cons,Function.comp_apply,e1,ih fun j hj=>hl j (List.mem_cons_of_mem _ hj)]
  exact key _ fun k hk=>List.mem_range.mp hk
 rw[e,PySem.W.krv_range,List.filterMap_reverse,PySem.W.krv_all]
theorem abW{t sl:Addr}{items:Array Value}{vk:Value}{Q:Value->SP0}(ht:IsTup s.heap t items)(hs:s.heap.IsSliceOf sl .none .none vk)(pk:IsPart vk (some (-1)))
  (h:Q (.ref s.heap.objs.size) { s with heap:=s.heap.push { cls:= .type "tuple",data:= .seq items.toList.reverse.toArray } }) (hsz:items.size<=sizeLine):wpAny (model prog w) A (getItem (.ref t) (.ref sl)) Q E s:=by
 obtain⟨os,hos,hcs,hds⟩:=id hs;have hTs:s.TypeIs (.ref sl) "slice":=⟨os,hos,hcs⟩
 have hz:sizeOk (.seq items.toList.reverse.toArray):=by
  show items.toList.reverse.toArray.size<=sizeLine;rw[List.size_toArray,List.length_reverse,Array.length_toList];exact hsz
 unfold getItem
 first | (with_reducible refine wpAny_holding ?_) | skip
 first | refine wpAny_bind (wpAny_pure ?_) | skip
 refine wpAny_bind (wpAny_sequenceKey ht.typeIs (by decide) ?_);refine wpAny_bind (wpAny_callSpecial?_slot (name:=Str.ofString "__getitem__") ht.typeIs PyProof.Rows.slot_tuple_getitem (wpAny_call_entry PyProof.Rows.slot_tuple_getitem ht.typeIs entry_tuple_getitem ?_ (args_tuple_getitem _ _)));show wpAny _ _ (Builtin.Tuple.tupleItemsOf (.ref t) >>= _) _ _ s;refine wpAny_bind (tupleItemsOf_ ht (wpAny_bind (wpAny_typeOf hTs ?_)));rw[if_pos (show(Value.type "slice" == Value.type "slice")=true by decide)];refine wpAny_bind (agN hs pk ?_);show wpAny _ _ (if (((items.size:Int)-1)==0&&((-1:Int))==1&&items.size==items.size)=true then _ else _) _ _ s;rw[if_neg (by simp),aks]
 first
  |exact wpAny_bind (m:=Builtin.Tuple.tupleExact _) (wpAny_newObj_type (wpAny_pure ⟨_,rfl,wpAny_pure h⟩) hz)
  |exact wpAny_bind (m:=Builtin.Tuple.tupleExact _) (wpAny_newObj_type (wpAny_bind (wpAny_pure (wpAny_pure ⟨_,rfl,wpAny_pure h⟩))) hz)
  |exact wpAny_bind (wpAny_bind (m:=Builtin.Tuple.tupleExact _) (wpAny_newObj_type (wpAny_pure (wpAny_pure ⟨_,rfl,wpAny_pure h⟩)) hz))
  |exact wpAny_bind (wpAny_bind (m:=Builtin.Tuple.tupleExact _) (wpAny_newObj_type (wpAny_pure ⟨_,rfl,wpAny_pure h⟩) hz))
end
section
variable {X:Cx}{a:Expr}{fa:RP}{pos p1 p2 p3:Pos}{j:Nat}
noncomputable def aos(p:PyData):OP:=match p with
 |.tuple ds=>some (.tuple ds.reverse)
 |.list ds=>some (.list ds.reverse)
 |_=>none
theorem Reps.rev{K:Fg}{H:Hp}{ds:LP}{xs:List V}(h:Reps K H ds xs):Reps K H ds.reverse xs.reverse:=by
 have app:∀{as bs:LP} {us vs:List V},Reps K H as us->Reps K H bs vs->Reps K H (as++bs) (us++vs):=by
  intro as
  induction as with
  |nil=>intro bs us vs h1 h2;cases (show us=[] from h1);exact h2
  | cons d as ih=>
   intro bs us vs ⟨x,r,e,h1,h2⟩ h3;subst e;exact⟨x,r++vs,rfl,h1,ih h2 h3⟩
 induction ds generalizing xs with
 |nil=>cases (show xs=[] from h);rfl
 | cons d ds ih=>
  obtain⟨x,r,rfl,h1,h2⟩:=h;rw[List.reverse_cons,List.reverse_cons];exact app (ih h2) ⟨x,[],rfl,h1,rfl⟩
theorem aqy(ha:PD X a fa):PD X (.Subscript a (.Slice none none (some (.UnaryOp .USub (.Constant (.int 1) j p1) p2)) p3) pos) (fun ρ=>(fa ρ).bind aos):=by
 with_unfolding_all
  intro Kp s σ H Q I ⟨ρ,d,en,q,k⟩;cases h1:fa ρ with
  |none=>simp[h1]at q
  | some p=>
   have q':aos p=some d:=by simpa[h1]using q
   refine Subscript_ (thn (ha Kp s σ H (fun v H1=>jp H H1/\Rep X.K H1 p v) I ⟨ρ,p,en,h1,fun v H1 s1 r1=>⟨s1,r1⟩⟩) fun v s1 ⟨x,H1,I1,r1,sm,rp⟩=>?_);refine wpAny_Slice ?_;rw[evalPart_none];refine wpAny_pure (wpAny_pure ?_);refine thn (aeJ (X:=X) (apk alk ak8) Kp s1 σ H1 (fun o H2=>o=some (-1)/\H2=H1) I1 ⟨1,rfl,-1,rfl,rfl,rfl⟩) fun vk s2 ⟨o,H2,I2,pk,e1,e2⟩=>?_;subst e1;subst e2;have I4:Inv X Kp σ H2 { s2 with heap:=s2.heap.push { cls:= .type "slice",data:= .fields #[.none,.none,vk] } }:=I2.kept (t':=s2.toks) fun b ob q=>Heap.get?_push_of_some _ q;unfold aos at q';split at q'
   ·rename_i ds
    cases q';obtain⟨t,xs,rfl,hx,rr⟩:=rp;cases r1;obtain⟨its,r,ht,hz⟩:=I4.tuple hx;have hlen:its.toArray.size=xs.length:=by rw[List.size_toArray];exact r.length.symm
    refine tail_any (ops:=[.ref t,.ref s2.heap.objs.size]) ht.typeIs PyProof.Rows.slot_tuple_getitem.lookup (abW ht (Heap.IsSliceOf.new ..) pk ?_ (by rw[hlen];exact hz)) (by with_unfolding_all rfl);have hn:=I4.hok.fresh (Nat.le_refl _);refine⟨.ref _,_,I4.laid (t':=s2.toks) (o:= .tup xs.reverse) (fun b ob q=>Heap.get?_push_of_some _ q) (Nat.le_refl _) ?_,rfl,k _ _ (sm.trans (jC hn)) ⟨_,_,rfl,SqT.of jn,Reps.mono (jC hn) _ _ rr.rev⟩⟩;exact⟨by rw[List.length_reverse];exact hz,_,r.reverse,IsTup.new _ _⟩
   ·rename_i ds
    cases q';obtain⟨t,xs,rfl,hx,rr⟩:=rp;cases r1;obtain⟨its,r,ht,hz⟩:=I4.list (SqL.of hx);have hlen:=r.length;refine tail_any (ops:=[.ref t,.ref s2.heap.objs.size]) ht.isList.typeIs slot_list_getitem.lookup (wpAny_getItem_list_slice ht.isList (Heap.IsSliceOf.new ..) .none .none pk (by decide) ?_ (by rw[List.size_toArray]<;>omega)) (by with_unfolding_all rfl);rw[PySem.W.krv_pick];have hn:=I4.hok.fresh (Nat.le_refl _);refine⟨.ref _,_,I4.laid (t':=s2.toks) (o:= .lst xs.reverse) (fun b ob q=>Heap.get?_push_of_some _ q) (Nat.le_refl _) ?_,rfl,k _ _ (sm.trans (jC hn)) ⟨_,_,rfl,jn,Reps.mono (jC hn) _ _ rr.rev⟩⟩;exact⟨by rw[List.length_reverse];exact hz,_,0,r.reverse,Heap.get?_push_size _ rfl⟩
   ·cases q'
end
section
variable {X:Cx}{e b ev:Expr}{j1:List Stmt}{fe fk fv:RP}{G:RO}{pos pos2:Pos}
end
section
variable {X:Cx}
theorem abM:∀ns:List Int,JF (ns.map PyData.int)=some ns
 | []=>rfl
 |n::ns=>by simp[JF,QZ,abM ns]
theorem RepM.ints{K:Fg}{H:Hp}:∀{r:List (PyData×PyData)}{ks:List (Key×V)}{ns:List Int},RepM K H r ks->JF (r.map (·.1))=some ns->ks.map (·.1)=ns.map (fun n=>(Sum.inl n:Key))
 | [],ks,ns,h,e=>by cases (show ks=[] from h);cases e;rfl
 | (k,c)::r,ks,ns,⟨i,x,s,h1,h2,h3,h4⟩,e=>by
  subst h1;subst h2;have e':=Zo e;cases ns with
  |nil=>simp at e'
  | cons n ns=>
   rw[List.map_cons,List.map_cons]at e';obtain⟨e1,e2⟩:=List.cons.inj e'
   have e1:i=Sum.inl n:=by
    cases i with
    |inl i=>exact congrArg _ (by injection e1)
    |inr t=>cases e1
   have e3:JF (r.map (·.1))=some ns:=by rw[e2];exact abM ns
   rw[List.map_cons,List.map_cons,RepM.ints h4 e3,e1]
end
section
variable {X:Cx}{σ:St}{H:Hp}{s:Shared}{h':Heap}{e C:Addr}{E:Value->SP0}{A:Around}
end
section
variable {X:Cx}{e a b c:Expr}{es:List Expr}{pos:Pos}
end
section
variable {prog:Program}{w:World}{A:Around}{s:Shared}{R:Result->SP0}
end
section
variable {X:Cx}{tg src:Expr}
end
section
variable {X:Cx}{e:Expr}{st:Stmt}{j1:List Stmt}{fa:RP}{G F:RO}{pos:Pos}
end
section
variable {X:Cx}{e a b c:Expr}{fa fb fc:RP}{pos p2:Pos}
end
section
variable {X:Cx}{own:Option Nat}{e a b c tg src:Expr}{body:List Stmt}{F:RO}{pos:Pos}
variable {es:List Expr}
end
inductive Cell where
 |lst (ds:LP)
 |ins (x:Str) (fs:List (Str×PyData))
 |dct (r:List (PyData×PyData))
noncomputable abbrev jD:=Addr->Option Cell
noncomputable def zQ(μ:jD)(a:Addr)(c:Cell):jD:=fun b=>if b=a then some c else μ b
theorem jB{μ:jD}{a:Addr}{c:Cell}:zQ μ a c a=some c:=if_pos rfl
theorem jA{μ:jD}{a b:Addr}{c:Cell}(h:b≠a):zQ μ a c b=μ b:=if_neg h
noncomputable def Qu(K:Fg)(H:Hp):List (Str×PyData)->List (Str×V)->Prop
 | [],vs=>vs=[]
 | (f,d)::fs,vs=>∃v r,vs=(f,v)::r/\Rep K H d v/\Qu K H fs r
noncomputable def aot(f:Str)(d:PyData):List (Str×PyData)->List (Str×PyData)
 | []=>[(f,d)]
 | (k,x)::r=>if k=f then (k,d)::r else (k,x)::aot f d r
section
variable {K:Fg}{H H':Hp}
theorem Qu.monoA(s:jy H H'):∀{fs:List (Str×PyData)}{vs:List (Str×V)},Qu K H fs vs->Qu K H' fs vs
 | [],_,h=>h
 | (f,d)::fs,_,⟨v,r,h1,h2,h3⟩=>⟨v,r,h1,Rep.monoA s d v h2,Qu.monoA s h3⟩
theorem Qu.length:∀{fs:List (Str×PyData)}{vs:List (Str×V)},Qu K H fs vs->vs.length=fs.length
 | [],_,h=>by cases h;rfl
 | (f,d)::fs,_,⟨v,r,h1,h2,h3⟩=>by subst h1;simp[Qu.length h3]
theorem Qu.look{f:Str}{d:PyData}:∀{fs:List (Str×PyData)}{vs:List (Str×V)},Qu K H fs vs->fs.lookup f=some d->∃v,vs.lookup f=some v/\Rep K H d v
 | [],_,_,q=>by cases q
 | (k,x)::fs,_,⟨v,r,h1,h2,h3⟩,q=>by
  subst h1;simp only[List.lookup]at q ⊢;cases hb:f==k with
  |true=>rw[hb]at q;cases q;exact⟨v,rfl,h2⟩
  |false=>rw[hb]at q;exact Qu.look h3 q
theorem Qu.lookN{f:Str}:∀{fs:List (Str×PyData)}{vs:List (Str×V)},Qu K H fs vs->fs.lookup f=none->vs.lookup f=none
 | [],_,h,q=>by cases h;rfl
 | (k,x)::fs,_,⟨v,r,h1,h2,h3⟩,q=>by
  subst h1;simp only[List.lookup]at q ⊢;cases hb:f==k with
  |true=>rw[hb]at q;cases q
  |false=>rw[hb]at q;exact Qu.lookN h3 q
theorem Qu.put{f:Str}{d:PyData}{v:V}(rv:Rep K H d v):∀{fs:List (Str×PyData)}{vs:List (Str×V)},Qu K H fs vs->Qu K H (aot f d fs) (QD f v vs)
 | [],_,h=>by cases h;exact⟨v,[],rfl,rv,rfl⟩
 | (k,x)::fs,_,⟨w,r,h1,h2,h3⟩=>by
  subst h1;show Qu K H (if k=f then (k,d)::fs else (k,x)::aot f d fs) (if k=f then (k,v)::r else (k,w)::QD f v r);by_cases hk:k=f
  ·rw[if_pos hk,if_pos hk];exact⟨v,r,rfl,rv,h3⟩
  ·rw[if_neg hk,if_neg hk];exact⟨w,_,rfl,h2,Qu.put rv h3⟩
end
noncomputable def Zb(P:Program)(w:World)(K:Fg)(H:Hp)(a:Addr):Cell->Prop
 |.lst ds=>∃xs,H a=some (zm a xs)/\Reps K H ds xs
 |.ins x fs=>∃C dx vs,PySem.W.nsIn K mainGlobals x=some (some (.ref C))/\H a=some (.ins C dx vs)/\Qu K H fs vs
 |.dct r=>∃ob ks,H a=some (zv P w a ob ks)/\RepM K H r ks
noncomputable def j8(P:Program)(w:World)(K:Fg)(H:Hp)(μ:jD):Prop:=∀a c,μ a=some c->Zb P w K H a c
section
variable {P:Program}{w:World}{K:Fg}{H H':Hp}{μ:jD}{a:Addr}{c:Cell}{ρ:Rho}{σ:St}
theorem EnvR.monoA(e:EnvR K H ρ σ)(h:jy H H'):EnvR K H' ρ σ:=⟨e.len,fun i d q=>let ⟨v,e1,e2⟩:=e.at' i d q;⟨v,e1,Rep.monoA h d v e2⟩⟩
theorem Zb.to(h:Zb P w K H a c)(s:jy H H')(e:H' a=H a):Zb P w K H' a c:=by
 cases c with
 |lst ds=>obtain⟨xs,h1,h2⟩:=h;exact⟨xs,e.trans h1,Reps.monoA s _ _ h2⟩
 |ins x fs=>obtain⟨C,dx,vs,h1,h2,h3⟩:=h;exact⟨C,dx,vs,h1,e.trans h2,h3.monoA s⟩
 |dct r=>obtain⟨ob,ks,h1,h2⟩:=h;exact⟨ob,ks,e.trans h1,RepM.monoA s _ _ h2⟩
theorem Zb.there(h:Zb P w K H a c):∃o,H a=some o/\alD o=false:=by
 cases c with
 |lst ds=>obtain⟨xs,h1,h2⟩:=h;exact⟨_,h1,rfl⟩
 |ins x fs=>obtain⟨C,dx,vs,h1,h2,h3⟩:=h;exact⟨_,h2,rfl⟩
 |dct r=>obtain⟨ob,ks,h1,h2⟩:=h;exact⟨_,h1,rfl⟩
theorem j8.mono(cs:j8 P w K H μ)(s:jp H H'):j8 P w K H' μ:=fun a c h=>by
 obtain⟨o,h1,_⟩:=(cs a c h).there;exact(cs a c h).to (jp.a s) ((s _ _ h1).trans h1.symm)
theorem j8.free(cs:j8 P w K H μ)(h:H a=none):μ a=none:=by
 cases q:μ a with
 |none=>rfl
 |some c=>obtain⟨o,h1,_⟩:=(cs a c q).there;rw[h]at h1;cases h1
theorem j8.put(cs:j8 P w K H μ)(s:jy H H')(k:∀b,b≠a->∀o,H b=some o->H' b=some o)(new:Zb P w K H' a c):j8 P w K H' (zQ μ a c):=fun b d h=>by
 by_cases hb:b=a
 ·subst hb;rw[jB]at h;cases h;exact new
 ·rw[jA hb]at h
  obtain⟨o,h1,_⟩:=(cs b d h).there;exact(cs b d h).to s ((k b hb o h1).trans h1.symm)
theorem j8.upd{o:HO}(cs:j8 P w K H μ)(s:jy H (L2.upd H a o))(new:Zb P w K (L2.upd H a o) a c):j8 P w K (L2.upd H a o) (zQ μ a c):=
 cs.put s (fun b hb o h=>by rw[js hb];exact h) new
theorem jy.upd{o u:HO}(h:H a=some u)(hu:alD u=false):jy H (L2.upd H a o):=fun b x q d=>by
 have:b≠a:=fun z=>by subst z;rw[h]at q;cases q;rw[hu]at d;cases d
 rw[js this];exact q
end
inductive Res (α:Type) where
 |ok (d:α) | er (c:Str)
noncomputable abbrev TR(α:Type):=Rho->jD->(Res α->jD->Prop)->Prop
inductive OutC where
 |nx (ρ:Rho) | rt (d:PyData) | bk (ρ:Rho) | ct (ρ:Rho) | er (c:Str)
noncomputable abbrev TRS:=Rho->jD->(OutC->jD->Prop)->Prop
noncomputable def ae8(X:Cx)(H:Hp)(μ:jD)(c:Str)(ev:Value)(s':Shared):Prop:=∃e C σ' H',ev= .ref e/\X.mg c=some (.ref C)/\Inv X [] σ' H' s'/\jy H H'/\j8 X.prog X.w X.K H' μ/\Xc X H' s'.heap e C
theorem ae8.mono{X:Cx}{H H1:Hp}{μ:jD}{c:Str}{ev:Value}{s':Shared}(s:jy H H1)(h:ae8 X H1 μ c ev s'):ae8 X H μ c ev s':=by
 obtain⟨e,C,σ',H',h1,h2,h3,h4,h5⟩:=h;exact⟨e,C,σ',H',h1,h2,h3,s.trans h4,h5⟩
noncomputable def JI{α:Type}(X:Cx)(H:Hp)(P:α->Hp->Prop):Res α->jD->Prop
 |.ok d,μ=>∀H',jy H H'->j8 X.prog X.w X.K H' μ->P d H'
 |.er c,μ=>∀ev s',ae8 X H μ c ev s'->X.xe ev s'
noncomputable def JX(X:Cx)(H:Hp)(D:Ends):OutC->jD->Prop
 |.nx ρ,μ=>∀σ H',jy H H'->EnvR X.K H' ρ σ->j8 X.prog X.w X.K H' μ->D.nx σ H'
 |.rt d,μ=>∀v H',jy H H'->Rep X.K H' d v->j8 X.prog X.w X.K H' μ->D.rt v H'
 |.bk ρ,μ=>∀σ H',jy H H'->EnvR X.K H' ρ σ->j8 X.prog X.w X.K H' μ->D.bk σ H'
 |.ct ρ,μ=>∀σ H',jy H H'->EnvR X.K H' ρ σ->j8 X.prog X.w X.K H' μ->D.ct σ H'
 |.er c,μ=>∀ev s',ae8 X H μ c ev s'->X.xe ev s'
section
variable {X:Cx}{α β:Type}{H H1:Hp}{σ:St}
theorem JI.mono{P:α->Hp->Prop}{o:Res α}{μ:jD}(h:JI X H P o μ)(s:jy H H1):JI X H1 P o μ:=by
 cases o with
 |ok d=>exact fun H' s1 c=>h H' (s.trans s1) c
 |er c=>exact fun ev s' t=>h ev s' (t.mono s)
theorem JX.mono{D:Ends}{o:OutC}{μ:jD}(h:JX X H D o μ)(s:jy H H1):JX X H1 D o μ:=by
 cases o with
 |nx ρ=>exact fun σ H' s1 e c=>h σ H' (s.trans s1) e c
 |rt d=>exact fun v H' s1 e c=>h v H' (s.trans s1) e c
 |bk ρ=>exact fun σ H' s1 e c=>h σ H' (s.trans s1) e c
 |ct ρ=>exact fun σ H' s1 e c=>h σ H' (s.trans s1) e c
 |er c=>exact fun ev s' t=>h ev s' (t.mono s)
noncomputable def AtC(X:Cx)(σ:St)(H:Hp)(T:TR α)(P:α->Hp->Prop):Prop:=∃ρ μ R,EnvR X.K H ρ σ/\j8 X.prog X.w X.K H μ/\T ρ μ R/\∀o μ',R o μ'->JI X H P o μ'
noncomputable def AtS(X:Cx)(σ:St)(H:Hp)(T:TRS)(D:Ends):Prop:=∃ρ μ R,EnvR X.K H ρ σ/\j8 X.prog X.w X.K H μ/\T ρ μ R/\∀o μ',R o μ'->JX X H D o μ'
noncomputable def bindC(T:TR α)(k:α->TR β):TR β:=fun ρ μ R=>T ρ μ fun o μ'=>match o with
 |.ok d=>k d ρ μ' R
 |.er c=>R (.er c) μ'
noncomputable def qB(T:TR α)(k:α->TRS):TRS:=fun ρ μ R=>T ρ μ fun o μ'=>match o with
 |.ok d=>k d ρ μ' R
 |.er c=>R (.er c) μ'
noncomputable def jP(f:Rho->Option α):TR α:=fun ρ μ R=>∃d,f ρ=some d/\R (.ok d) μ
noncomputable def qj(o:Option α):TR α:=fun _ μ R=>∃d,o=some d/\R (.ok d) μ
theorem AtC.bind{T:TR α}{k:α->TR β}{P:β->Hp->Prop}(h:AtC X σ H (bindC T k) P):AtC X σ H T fun d H1=>jy H H1/\AtC X σ H1 (k d) P:=by
 obtain⟨ρ,μ,R,en,cs,t,kk⟩:=h;refine⟨ρ,μ,_,en,cs,t,fun o μ1 r=>?_⟩;cases o with
 |ok d=>exact fun H1 s1 cs1=>⟨s1,ρ,μ1,R,en.monoA s1,cs1,r,fun o μ' q=>(kk o μ' q).mono s1⟩
 |er c=>exact kk (.er c) μ1 r
theorem AtS.bind{T:TR α}{k:α->TRS}{D:Ends}(h:AtS X σ H (qB T k) D):AtC X σ H T fun d H1=>jy H H1/\AtS X σ H1 (k d) D:=by
 obtain⟨ρ,μ,R,en,cs,t,kk⟩:=h;refine⟨ρ,μ,_,en,cs,t,fun o μ1 r=>?_⟩;cases o with
 |ok d=>exact fun H1 s1 cs1=>⟨s1,ρ,μ1,R,en.monoA s1,cs1,r,fun o μ' q=>(kk o μ' q).mono s1⟩
 |er c=>exact kk (.er c) μ1 r
theorem AtC.imp{T:TR α}{P P':α->Hp->Prop}(h:AtC X σ H T P)(hp:∀d H1,jy H H1->P d H1->P' d H1):AtC X σ H T P':=by
 obtain⟨ρ,μ,R,en,cs,t,kk⟩:=h;refine⟨ρ,μ,R,en,cs,t,fun o μ1 r=>?_⟩;have q:=kk o μ1 r;cases o with
 |ok d=>exact fun H1 s1 c1=>hp d H1 s1 (q H1 s1 c1)
 |er c=>exact q
theorem AtC.pure{f:Rho->Option α}{P:α->Hp->Prop}(h:AtC X σ H (jP f) P):∃ρ d,EnvR X.K H ρ σ/\f ρ=some d/\∀H',jp H H'->P d H':=by
 obtain⟨ρ,μ,R,en,cs,⟨d,hf,hR⟩,kk⟩:=h;exact⟨ρ,d,en,hf,fun H' s=>kk _ _ hR H' (jp.a s) (cs.mono s)⟩
theorem AtC.ret{o:Option α}{P:α->Hp->Prop}(h:AtC X σ H (qj o) P):∃d,o=some d/\∀H',jp H H'->P d H':=by
 obtain⟨ρ,μ,R,en,cs,⟨d,hf,hR⟩,kk⟩:=h;exact⟨d,hf,fun H' s=>kk _ _ hR H' (jp.a s) (cs.mono s)⟩
end
noncomputable def tC(X:Cx)(T:TR PyData):TE:=fun σ H Q=>AtC X σ H T fun d H'=>∀v,Rep X.K H' d v->Q v H'
noncomputable def tCT(X:Cx)(T:TR Bool):TT:=fun σ H Q=>AtC X σ H T Q
noncomputable def tCA(X:Cx)(T:TR (LP)):TA:=fun σ H Q=>AtC X σ H T fun ds H'=>∀vs,Reps X.K H' ds vs->Q vs H'
noncomputable def tCS(X:Cx)(T:TRS):TS:=fun D σ H=>AtS X σ H T D
@[irreducible] noncomputable def PEC(X:Cx)(e:Expr)(T:TR PyData):Prop:=PE X e (tC X T)
@[irreducible] noncomputable def PTC(X:Cx)(e:Expr)(T:TR Bool):Prop:=PT X e (tCT X T)
@[irreducible] noncomputable def PWC(X:Cx)(e:Expr)(T:TR Bool):Prop:=PW X e (tCT X T)
@[irreducible] noncomputable def PAC(X:Cx)(es:List Expr)(T:TR (LP)):Prop:=PA X es (tCA X T)
@[irreducible] noncomputable def PSC(X:Cx)(st:Stmt)(T:TRS):Prop:=PS X st (tCS X T)
@[irreducible] noncomputable def abe(X:Cx)(sts:List Stmt)(T:TRS):Prop:=PSs X sts (tCS X T)
section
variable {X:Cx}{e a b c:Expr}{es:List Expr}{st:Stmt}{sts j1:List Stmt}{fa:RP}{Ta Tb To:TR PyData}{Tt Tu:TR Bool}{F:RO}{S S':TRS}{pos:Pos}
theorem jk(h:PD X e fa):PEC X e (jP fa):=by
 with_unfolding_all
  exact PE.imp h fun σ H Q h=>let ⟨ρ,d,en,hf,k⟩:=h.pure;⟨ρ,d,en,hf,fun v H' s r=>k H' s v r⟩
theorem acZ{tc:Rho->Option Bool}(h:PTD X e tc):PTC X e (jP tc):=by
 with_unfolding_all
  exact PT.imp h fun σ H Q h=>let ⟨ρ,d,en,hf,k⟩:=h.pure;⟨ρ,d,en,hf,fun H' s=>k H' s⟩
theorem jO:PAC X [] (qj (some [])):=by
 with_unfolding_all
  exact PA.imp Jk fun σ H Q h=>by
   obtain⟨d,hd,k⟩:=AtC.ret h;cases hd;exact k H (jp.refl H) [] rfl
noncomputable def zo(Ta:TR PyData)(Tr:TR (LP)):TR (LP):=bindC Ta fun d=>bindC Tr fun ds=>qj (some (d::ds))
theorem jq{Tr:TR (LP)}(ha:PEC X e Ta)(hr:PAC X es Tr)(hs:starEach (e::es) X.env=(false,eval e X.env)::starEach es X.env:=by rfl):PAC X (e::es) (zo Ta Tr):=by
 with_unfolding_all
  exact PA.imp (qG ha hr hs) fun σ H Q h=>(AtC.bind h).imp fun d H1 _ ⟨s1,h1⟩ x rx=>h1.bind.imp fun ds H2 _ ⟨s2,h2⟩ xs rxs=>by
   obtain⟨d',hd,k⟩:=h2.ret;cases hd;exact k H2 (jp.refl _) (x::xs) ⟨x,xs,rfl,Rep.monoA s2 _ _ rx,rxs⟩
noncomputable def opC(g:PyData->PyData->OP)(Ta Tb:TR PyData):TR PyData:=bindC Ta fun p=>bindC Tb fun q=>qj (g p q)
theorem aea{g:PyData->PyData->OP}{r:R2}(hr:∀p q d x y H Q,g p q=some d->Rep X.K H p x->Rep X.K H q y->(∀v H',jp H H'->Rep X.K H' d v->Q v H')->r x y H Q)
  {σ:St} {H:Hp} {Q:VK} (h:tC X (opC g Ta Tb) σ H Q):tOp r (tC X Ta) (tC X Tb) σ H Q:=
 (AtC.bind h).imp fun p H1 _ ⟨s1,h1⟩ x rx=>h1.bind.imp fun q H2 _ ⟨s2,h2⟩ y ry=>by
  obtain⟨d,hd,k⟩:=h2.ret;exact hr p q d x y H2 Q hd (Rep.monoA s2 _ _ rx) ry fun v H' s rv=>k H' s v rv
theorem ajr{op:Operator}{g:PyData->PyData->OP}(ho:OpD X (binaryOp op) g)(ha:PEC X a Ta)(hb:PEC X b Tb):PEC X (.BinOp a op b pos) (opC g Ta Tb):=by
 with_unfolding_all
  obtain⟨r,h1,h2⟩:=ho;exact PE.imp (apj h1 ha hb) fun σ H Q h=>aea h2 h
theorem aou{op:CmpOp}{g:PyData->PyData->OP}(ho:OpD X (compareOp op) g)(ha:PEC X a Ta)(hb:PEC X b Tb)(hm:behindInMarks op b=false:=by first|exact acz _ | with_unfolding_all rfl):PEC X (.Compare a [op] [b] pos) (opC g Ta Tb):=by
 with_unfolding_all
  obtain⟨r,h1,h2⟩:=ho;exact PE.imp (aiY h1 ha hb hm) fun σ H Q h=>aea h2 h
noncomputable def ZM(T:TR PyData):TR Bool:=bindC T fun d=>qj (asB d)
theorem apu{σ:St}{H:Hp}{Q:Bool->Hp->Prop}(h:tCT X (ZM Ta) σ H Q):tC X Ta σ H fun x H'=>∃k,x= .bl k/\Q k H':=
 (AtC.bind h).imp fun d H1 _ ⟨s1,h1⟩ x rx=>by
  obtain⟨b,hb,k⟩:=h1.ret;cases JC hb;exact⟨b,rx,k H1 (jp.refl _)⟩
theorem Jb{op:CmpOp}{g:PyData->PyData->OP}(ho:OpD X (compareOp op) g)(ha:PEC X a Ta)(hb:PEC X b Tb)(hm:behindInMarks op b=false:=by first|exact acz _ | with_unfolding_all rfl):PTC X (.Compare a [op] [b] pos) (ZM (opC g Ta Tb)):=by
 with_unfolding_all
  obtain⟨r,h1,h2⟩:=ho;exact PT.imp (aiZ h1 ha hb hm) fun σ H Q h=>aea h2 (apu h)
noncomputable def orC(T U:TR Bool):TR Bool:=bindC T fun b=>if b=true then qj (some true) else U
noncomputable def asQ(T U:TR Bool):TR Bool:=bindC T fun b=>if b=true then U else qj (some false)
variable {er:List Expr}
theorem ae9(ha:PTC X a Tt):PWC X (.BoolOp .Or [a] pos) Tt:=by
 with_unfolding_all exact(alc ha)
theorem amf(ha:PTC X a Tt):PWC X (.BoolOp .And [a] pos) Tt:=by
 with_unfolding_all exact(anD ha)
theorem ah3(ha:PTC X a Tt)(hb:PWC X (.BoolOp .Or (b::er) pos) Tu):PWC X (.BoolOp .Or (a::b::er) pos) (orC Tt Tu):=by
 with_unfolding_all
  exact PW.imp (aph ha hb) fun σ H Q h=>(AtC.bind h).imp fun b H1 _ ⟨s1,h1⟩=>by
   cases b with
   | true=>
    rw[if_pos rfl]at h1 ⊢;obtain⟨d,hd,k⟩:=h1.ret;cases hd;exact k H1 (jp.refl _)
   | false=>
    rw[if_neg Bool.false_ne_true]at h1 ⊢;exact h1
theorem aov(ha:PTC X a Tt)(hb:PWC X (.BoolOp .And (b::er) pos) Tu):PWC X (.BoolOp .And (a::b::er) pos) (asQ Tt Tu):=by
 with_unfolding_all
  exact PW.imp (apR ha hb) fun σ H Q h=>(AtC.bind h).imp fun b H1 _ ⟨s1,h1⟩=>by
   cases b with
   | true=>
    rw[if_pos rfl]at h1 ⊢;exact h1
   | false=>
    rw[if_neg Bool.false_ne_true]at h1 ⊢;obtain⟨d,hd,k⟩:=h1.ret;cases hd;exact k H1 (jp.refl _)
theorem aaq(h:PWC X e Tt):PTC X e Tt:=by
 with_unfolding_all exact(PW.pt h)
noncomputable def qC(S S':TRS):TRS:=fun ρ μ R=>S ρ μ fun o μ'=>match o with
 |.nx ρ'=>S' ρ' μ' R
 |o=>R o μ'
noncomputable def Z2:TRS:=fun ρ μ R=>R (.nx ρ) μ
theorem jx:abe X [] Z2:=by
 with_unfolding_all
  exact PSs.imp aeD fun D σ H ⟨ρ,μ,R,en,cs,t,k⟩=>k _ _ t σ H (jy.refl _) en cs
theorem ji(h1:PSC X st S)(h2:abe X j1 S'):abe X (st::j1) (qC S S'):=by
 with_unfolding_all
  refine PSs.imp (Je h1 h2) fun D σ H ⟨ρ,μ,R,en,cs,t,k⟩=>⟨ρ,μ,_,en,cs,t,fun o μ' r=>?_⟩;cases o with
  |nx ρ'=>exact fun σ' H' s e c=>⟨ρ',μ',R,e,c,r,fun o μ2 q=>(k o μ2 q).mono s⟩
  |rt d=>exact k (.rt d) μ' r
  |bk d=>exact k (.bk d) μ' r
  |ct d=>exact k (.ct d) μ' r
  |er d=>exact k (.er d) μ' r
noncomputable def apv:Out->OutC
 |.nx ρ=> .nx ρ
 |.rt d=> .rt d
 |.bk ρ=> .bk ρ
 |.ct ρ=> .ct ρ
noncomputable def ac0(F:RO):TRS:=fun ρ μ R=>∃o,F ρ=some o/\R (apv o) μ
theorem ah4{H:Hp}{D:Ends}{o:Out}{μ:jD}(cs:j8 X.prog X.w X.K H μ)(h:JX X H D (apv o) μ):agn X.K D H o:=by
 cases o with
 |nx ρ=>exact fun σ H' s e=>h σ H' (jp.a s) e (cs.mono s)
 |rt d=>exact fun v H' s e=>h v H' (jp.a s) e (cs.mono s)
 |bk ρ=>exact fun σ H' s e=>h σ H' (jp.a s) e (cs.mono s)
 |ct ρ=>exact fun σ H' s e=>h σ H' (jp.a s) e (cs.mono s)
theorem zR(h:PSD X st F):PSC X st (ac0 F):=by
 with_unfolding_all
  exact PS.imp h fun D σ H ⟨ρ,μ,R,en,cs,⟨o,hF,hR⟩,k⟩=>⟨ρ,o,en,hF,ah4 cs (k _ _ hR)⟩
noncomputable def asR(fx:Rho->Option Str):TRS:=fun ρ μ R=>∃c,fx ρ=some c/\R (.er c) μ
theorem arW{H:Hp}{μ:jD}{c:Str}{ev:Value}{s':Shared}(cs:j8 X.prog X.w X.K H μ)(h:Thr X H c ev s'):ae8 X H μ c ev s':=by
 obtain⟨e,C,σ',H',h1,h2,h3,h4,h5⟩:=h;exact⟨e,C,σ',H',h1,h2,h3,jp.a h4,cs.mono h4,h5⟩
theorem aeb{fx:Rho->Option Str}(h:PSX X st fx):PSC X st (asR fx):=by
 with_unfolding_all
  intro Kp s σ H D I ⟨ρ,μ,R,en,cs,⟨c,hc,hR⟩,k⟩;exact wpAny_mono (h s σ H ρ c (I.pins_of fun p hp=>nomatch hp) en hc fun ev s' t=>k _ _ hR ev s' (arW cs t)) (fun _ _ z=>z.elim) fun _ _ z=>z
noncomputable def asS(i:Nat)(d:PyData):TRS:=fun ρ μ R=>R (.nx (ρ.set i (some d))) μ
theorem Zr(i:Nat){x:Str}{pos':Pos}(hN:X.N.Nodup)(he:PEC X e Ta)(hi:X.N[i]?=some x:=by rfl)(hx:Loc X.env.scope x:=by first|exact Or.inl rfl|exact Or.inr rfl)(hs:swapsWith e (some (.Name x pos')) pos.line X.env=pure false:=by rfl)
  (hf:X.fn x=true∨X.env.scope.names.lookup x=some .local:=by first|exact .inl rfl|exact .inr rfl|assumption):PSC X (.Assign [.Name x pos'] e pos) (qB Ta (asS i)):=by
 with_unfolding_all
  exact PS.imp (aa0 hN hi hx he hs hf) fun D σ H h=>(AtS.bind h).imp fun d H1 _ ⟨s1,ρ,μ,R,en,cs,t,k⟩ v rv=>k _ _ t _ H1 (jy.refl _) (en.set rv) cs
noncomputable def amg(_:PyData):TRS:=fun ρ μ R=>R (.nx ρ) μ
theorem aar(h:PEC X e Ta)(hs:swapsWith e none pos.line X.env=pure false:=by rfl):PSC X (.Expr e pos) (qB Ta amg):=by
 with_unfolding_all
  exact PS.imp (abX h hs) fun D σ H h=>(AtS.bind h).imp fun d H1 _ ⟨s1,ρ,μ,R,en,cs,t,k⟩ v rv=>k _ _ t σ H1 (jy.refl _) en cs
noncomputable def rtC(d:PyData):TRS:=fun _ μ R=>R (.rt d) μ
theorem qR(h:PEC X e Ta):PSC X (.Return (some e) pos) (qB Ta rtC):=by
 with_unfolding_all
  exact PS.imp (aeF h) fun D σ H h=>(AtS.bind h).imp fun d H1 _ ⟨s1,ρ,μ,R,en,cs,t,k⟩ v rv=>k _ _ t v H1 (jy.refl _) rv cs
noncomputable def ifC(T:TR Bool)(S S':TRS):TRS:=qB T fun b=>if b=true then S else S'
theorem Jo{l r:List Stmt}(hc:PTC X c Tt)(hl:abe X l S)(hr:abe X r S'):PSC X (.If c l r pos) (ifC Tt S S'):=by
 with_unfolding_all
  exact PS.imp (api hc hl hr) fun D σ H h=>(AtS.bind h).imp fun b H1 _ ⟨s1,h1⟩=>by
   cases b with
   |true=>exact h1
   |false=>exact h1
end
theorem amh{a b:Addr}(h:jV a=jV b):a=b:=by
 have:(a:Int)=(b:Int):=by simpa[jV]using h
 exact Int.ofNat.inj this
noncomputable def qg(K:Fg)(x f:Str):Prop:=∀C,PySem.W.nsIn K mainGlobals x=some (some (.ref C))->Cls K C/\ZT K C f
section
variable {X:Cx}{e a b c o value:Expr}{es:List Expr}{st:Stmt}{Ta Tb To Tv:TR PyData}{Tr:TR (LP)}{pos pos' apos:Pos}{x f m:Str}
noncomputable def abf(x f:Str)(d:PyData):TR PyData:=fun _ μ R=>∃a fs v,d=jV a/\μ a=some (.ins x fs)/\fs.lookup f=some v/\R (.ok v) μ
theorem jY(hC:qg X.K x f)(h:PEC X e To)(hb:attributeBase e f X.env (eval e X.env)=eval e X.env:=by rfl):PEC X (.Attribute e f pos) (bindC To (abf x f)):=by
 with_unfolding_all
  exact PE.imp (ahx h hb) fun σ H Q h=>(AtC.bind h).imp fun d H1 _ ⟨s1,ρ,μ,R,en,cs,⟨a,fs,v,hd,hm,hl,hR⟩,kk⟩ y ry=>by
   subst hd;cases Rep.celOut ry;obtain⟨C,dx,vs,h1,h2,h3⟩:=cs a _ hm;obtain⟨w,h4,h5⟩:=h3.look hl;exact⟨a,C,dx,vs,w,rfl,h2,(hC C h1).1,(hC C h1).2,h4,kk _ _ hR H1 (jy.refl _) cs w h5⟩
noncomputable def aqz(x f:Str)(d od:PyData):TRS:=fun ρ μ R=>∃a fs,od=jV a/\μ a=some (.ins x fs)/\fs.length<1000/\R (.nx ρ) (zQ μ a (.ins x (aot f d fs)))
theorem zE(hC:qg X.K x f)(ho:PEC X o To)(hv:PEC X value Tv)(hs:swapsWith value (some (.Attribute o f pos')) pos.line X.env=pure false:=by rfl):PSC X (.Assign [.Attribute o f pos'] value pos) (qB Tv fun d=>qB To (aqz x f d)):=by
 with_unfolding_all
  exact PS.imp (ap5 ho hv hs) fun D σ H h=>(AtS.bind h).imp fun d H1 _ ⟨s1,h1⟩ y ry=>h1.bind.imp fun od H2 _ ⟨s2,ρ,μ,R,en,cs,⟨a,fs,hd,hm,hl,hR⟩,kk⟩ z rz=>by
   subst hd;cases Rep.celOut rz;obtain⟨C,dx,vs,h1,h2,h3⟩:=cs a _ hm;have sA:jy H2 (upd H2 a (.ins C dx (QD f y vs))):=jy.upd h2 rfl;exact⟨a,C,dx,vs,rfl,h2,(hC C h1).1,(hC C h1).2,by rw[h3.length];exact hl,kk _ _ hR σ _ sA (en.monoA sA) (cs.upd sA ⟨C,dx,_,h1,jn,(h3.monoA sA).put (Rep.monoA (s2.trans sA) _ _ ry)⟩)⟩
noncomputable abbrev GC3:=LP->jD->(Res PyData->jD->Prop)->Prop
noncomputable def agO(P:Program)(w:World)(K:Fg)(mg:SV)(n:Nat)(g:GC3):Sp:=fun vs H Q E=>∃ds μ R,ds.length=n/\Reps K H ds vs/\j8 P w K H μ/\g ds μ R/\(∀d μ',R (.ok d) μ'->∀v H',jy H H'->Rep K H' d v->j8 P w K H' μ'->Q v H')/\
 ∀c μ',R (.er c) μ'->∀C H',mg c=some (.ref C)->jy H H'->j8 P w K H' μ'->E (.ref C) none H'
noncomputable def qU(P:Program)(w:World)(K:Fg)(mg:SV)(base:Heap)(x m:Str)(ps:List Str)(k n:Nat)(g:GC3):Prop:=
 ∃(C f:Addr) (fd:FuncData),PySem.W.nsIn K mainGlobals x=some (some (.ref C))/\Cls K C/\Meth K C m f/\FnOk P w K mg base (CXt P w) k f fd ps (agO P w K mg n g)/\JS K fd ps []
noncomputable def akt(P:Program)(w:World)(K:Fg)(mg:SV)(base:Heap)(x:Str)(ps:List Str)(k n:Nat)(g:GC3):Prop:=
 ∃(C f:Addr) (fd:FuncData),PySem.W.nsIn K mainGlobals x=some (some (.ref C))/\mg x=some (.ref C)/\Mk K C f/\FnOk P w K mg base (CXt P w) k f fd ps (agO P w K mg n g)/\JS K fd ps []
end
section
variable {X:Cx}{e a b c o value:Expr}{es:List Expr}{st:Stmt}{Ta Tb To Tv:TR PyData}{Tr:TR (LP)}{pos pos' apos:Pos}{x f m:Str}
theorem apw{Kp:List (Addr×Obj)}{σ:St}{H:Hp}{s:Shared}{Q:VK}{us:List Value}{vs:List V}{k n:Nat}{f:Addr}{fd:FuncData}{ps:List Str}{g:GC3}{ds:LP}{μ:jD}{R:Res PyData->jD->Prop}(hxe:X.ex=[])
  (F:FnOk X.prog X.w X.K X.mg X.base (CXt X.prog X.w) k f fd ps (agO X.prog X.w X.K X.mg n g)) (hr:Room k X.A) (hb:JS X.K fd ps []) (I:Inv X Kp σ H s) (r:jG vs us) (rd:Reps X.K H ds vs) (cs:j8 X.prog X.w X.K H μ) (hn:ds.length=n) (hg:g ds μ R)
  (kk:∀o μ',R o μ'->JI X H (fun d H'=>∀v,Rep X.K H' d v->Q v H') o μ'):wpAny (model X.prog X.w) X.A (call (.ref f) us) (EP X Kp σ Q) X.xe s:=by
 have sp:agO X.prog X.w X.K X.mg n g vs H Q (fun cls _ H'=>∃c μ',X.mg c=some cls/\R (.er c) μ'/\jy H H'/\j8 X.prog X.w X.K H' μ'):=
  ⟨ds,μ,R,hn,rd,cs,hg,fun d μ' q v H' sA rv c=>(kk (.ok d) μ' q:JI X H (fun d H'=>∀v,Rep X.K H' d v->Q v H') (.ok d) μ') H' sA c v rv,fun c μ' q C H' hC sA c'=>⟨c,μ',hC,q,sA,c'⟩⟩
 have hlu:(us++[]).length=ps.length:=by rw[List.append_nil,←r.length];exact F.len _ _ _ _ sp
 have hbd:=hb s us I.kIn hlu;rw[List.append_nil]at hbd;refine wpAny_call (codeAny_mono (F.run X.A X.stack s H ⟨us,[]⟩ us vs _ _ hr I.env0 hbd r sp) fun rs s' hq=>?_);cases rs with
 | error ev=>
  obtain⟨e0,C,H',rfl,os,bare,un,hok,xc,c,μ',hC,hR,sA,c'⟩:=hq;have J':Inv X Kp σ H' s':=I.call' (ch:=[]) os un hok bare fun b z=>nomatch z
  have J0:Inv X [] σ H' s':=J'.pins_of fun p hp=>nomatch hp
  have k1:JI X H (fun d H'=>∀v,Rep X.K H' d v->Q v H') (.er c) μ':=kk (.er c) μ' hR;have x1:=Xc.of hxe I xc;have t1:ae8 X H μ' c (.ref e0) s':=⟨e0,C,σ,H',rfl,hC,J0,sA,c',x1⟩;exact k1 (.ref e0) s' t1
 | ok fl=>
  cases fl with
  |ret u=>exact I.after hq
  |next=>exact False.elim hq
  |brk=>exact False.elim hq
  |cont=>exact False.elim hq
end
section
variable {X:Cx}{e a b c o value:Expr}{es:List Expr}{st:Stmt}{Ta Tb To Tv:TR PyData}{Tr:TR (LP)}{pos pos' apos:Pos}{x f m:Str}
noncomputable def ZP(g:GC3)(n:Nat)(ds:LP):TR PyData:=fun _ μ R=>ds.length=n/\g ds μ R
end
section
variable {X:Cx}{e a b c o value:Expr}{es:List Expr}{st:Stmt}{Ta Tb To Tv:TR PyData}{Tr:TR (LP)}{pos pos' apos:Pos}{x f m:Str}
noncomputable def zg(x m:Str)(g:GC3)(n:Nat)(Tr:TR (LP))(od:PyData):TR PyData:=fun ρ μ R=>(∃a fs,od=jV a/\μ a=some (.ins x fs)/\fs.lookup m=none)/\bindC Tr (fun ds=>ZP g n (od::ds)) ρ μ R
theorem qu{k j n:Nat}{ps:List Str}{g:GC3}{pl:Sem Bool}(hxe:X.ex=[])(C:qU X.prog X.w X.K X.mg X.base x m ps k n g)(hr:Room j X.A)(hkj:k<=j)(ho:PEC X o To)(ha:PAC X (e::es) Tr)
  (hst:starEach (e::es) X.env=(false,eval e X.env)::starEach es X.env:=by rfl) (hpl:(backTo pos (starEach es X.env)).any (·.1)=false:=by rfl)
  (ht:eval (.Call (.Attribute o m apos) (e::es) [] pos) X.env=(do
   let ov ←eval o X.env
   standAt apos.atName
   let (f,first) ←holding [ov] (getMethod ov m pl)
   callWith pos f first (backTo pos (starEach (e::es) X.env)) (backToKw pos (keywordEach [] X.env))):=by rfl):
  PEC X (.Call (.Attribute o m apos) (e::es) [] pos) (bindC To (zg x m g n Tr)):=by
 with_unfolding_all
  intro Kp s σ H Q I h;obtain⟨C,f,fd,hC,hcls,hmeth,F,hb⟩:=C;refine PySem.W.methodCall_KW (pl:=pl) (thn (ho Kp s σ H (fun y H1=>∃od,Rep X.K H1 od y/\AtC X σ H1 (zg x m g n Tr od) fun d H'=>∀v,Rep X.K H' d v->Q v H') I ((AtC.bind h).imp fun od H1 _ ⟨s1,h1⟩ y ry=>⟨od,ry,h1⟩)) fun u s1 ⟨y,H1,I1,ry,od,rod,ρ,μ,R,en,cs,⟨⟨a,fs,hd,hm,hl⟩,t⟩,kk⟩=>?_) ht;subst hd;cases Rep.celOut rod;obtain rfl:u=Value.ref a:=ry;obtain⟨C',dx,vs,h1,h2,h3⟩:=cs a _ hm;rw[hC]at h1;cases h1;refine acB I1 h2 hcls hmeth (h3.lookN hl) ?_;refine PySem.W.callWith_K (first:=[.ref a]) (h₀:=X.base) I.ok.mod.kin hmeth.kp (thn (ha pos Kp s1 σ H1 (fun ws H2=>∃ds,Reps X.K H2 ds ws/\AtC X σ H2 (ZP g n (jV a::ds)) fun d H'=>∀v,Rep X.K H' d v->Q v H') I1 ((AtC.bind (show AtC X σ H1 (bindC Tr fun ds=>ZP g n (jV a::ds)) _ from⟨ρ,μ,R,en,cs,t,kk⟩)).imp fun ds H2 _ ⟨s2,h2⟩ ws rw=>⟨ds,rw,h2⟩)) fun us s2 ⟨ws,H2,I2,r,ds,rd,q⟩=>⟨I2.kIn,?_⟩) hst hpl;obtain⟨ρ2,μ2,R2,en2,cs2,⟨hn,hG⟩,kk2⟩:=q;exact apw (us:= .ref a::us) (vs:= .ref a::ws) hxe F (hr.mono hkj) hb I2 (.cons rfl r) (show Reps X.K H2 (jV a::ds) (V.ref a::ws) from⟨_,_,rfl,Rep.cel a,rd⟩) cs2 hn hG kk2
end
section
variable {X:Cx}{e a b c o value:Expr}{es:List Expr}{st:Stmt}{Ta Tb To Tv:TR PyData}{Tr:TR (LP)}{pos pos' apos:Pos}{x f m:Str}
theorem j6{k j n:Nat}{ps:List Str}{g:GC3}{pl:Sem Bool}(hxe:X.ex=[])(C:qU X.prog X.w X.K X.mg X.base x m ps k n g)(hr:Room j X.A)(hkj:k<=j)(ho:PEC X o To)
  (ht:eval (.Call (.Attribute o m apos) [] [] pos) X.env=(do
   let ov ←eval o X.env
   standAt apos.atName
   let (f,first) ←holding [ov] (getMethod ov m pl)
   callWith pos f first (backTo pos (starEach [] X.env)) (backToKw pos (keywordEach [] X.env))):=by rfl):
  PEC X (.Call (.Attribute o m apos) [] [] pos) (bindC To (zg x m g n (qj (some [])))):=by
 with_unfolding_all
  intro Kp s σ H Q I h;obtain⟨C,f,fd,hC,hcls,hmeth,F,hb⟩:=C;refine PySem.W.methodCall_KW (pl:=pl) (thn (ho Kp s σ H (fun y H1=>∃od,Rep X.K H1 od y/\AtC X σ H1 (zg x m g n (qj (some [])) od) fun d H'=>∀v,Rep X.K H' d v->Q v H') I ((AtC.bind h).imp fun od H1 _ ⟨s1,h1⟩ y ry=>⟨od,ry,h1⟩)) fun u s1 ⟨y,H1,I1,ry,od,rod,ρ,μ,R,en,cs,⟨⟨a,fs,hd,hm,hl⟩,t⟩,kk⟩=>?_) ht;subst hd;cases Rep.celOut rod;obtain rfl:u=Value.ref a:=ry;obtain⟨C',dx,vs,h1,h2,h3⟩:=cs a _ hm;rw[hC]at h1;cases h1;refine acB I1 h2 hcls hmeth (h3.lookN hl) ?_;obtain⟨ds,hds,hn,hG⟩:=t;cases hds;exact PySem.W.callWith_K0 (first:=[.ref a]) I1.kIn hmeth.kp (apw (us:=[.ref a]) (vs:=[.ref a]) hxe F (hr.mono hkj) hb I1 (.cons rfl .nil) (show Reps X.K H1 [jV a] [V.ref a] from⟨_,_,rfl,Rep.cel a,rfl⟩) cs hn hG kk)
end
section
variable {X:Cx}{e a b c o value:Expr}{es:List Expr}{st:Stmt}{Ta Tb To Tv:TR PyData}{Tr:TR (LP)}{pos pos' apos:Pos}{x f m:Str}
noncomputable def aow(x:Str)(g:GC3)(n:Nat)(ds:LP):TR PyData:=fun _ μ R=>(ds.length+1=n)/\∀a,μ a=none->g (jV a::ds) (zQ μ a (.ins x [])) fun o μ'=>match o with
 |.ok d=>d= .none/\R (.ok (jV a)) μ'
 |.er c=>R (.er c) μ'
theorem agP{k j n:Nat}{ps:List Str}{g:GC3}{p:Pos}(hxe:X.ex=[])(C:akt X.prog X.w X.K X.mg X.base x ps k n g)(hr:Room j X.A)(hkj:k+1<=j)(ha:PAC X (e::es) Tr)
  (hg:Gl X x:=by rfl) (hdb:(x==("__debug__":Str))=false:=by decide) (he:starEach (e::es) X.env=(false,eval e X.env)::starEach es X.env:=by rfl)
  (hpl:(backTo pos (starEach es X.env)).any (·.1)=false:=by rfl):PEC X (.Call (.Name x p) (e::es) [] pos) (bindC Tr (aow x g n)):=by
 with_unfolding_all
  intro Kp s σ H Q I h;obtain⟨C,f,fd,hC,hm,M,F,hb⟩:=C;refine wpAny_Call_Name_kw (aab I hg hm ?_ hdb);refine PySem.W.callWith_K (h₀:=X.base) I.ok.mod.kin M.kp (thn (ha pos Kp s σ H (fun vs H1=>∃ds,Reps X.K H1 ds vs/\AtC X σ H1 (aow x g n ds) fun d H'=>∀v,Rep X.K H' d v->Q v H') I ((AtC.bind h).imp fun ds H1 _ ⟨s1,h1⟩ vs rv=>⟨ds,rv,h1⟩)) fun us s1 ⟨vs,H1,I1,r,ds,rd,q⟩=>⟨I1.kIn,?_⟩) he hpl;obtain⟨ρ,μ,R,en,cs,⟨hn,hG⟩,kk⟩:=q;have hA:H1 (s1.heap.objs.size+1)=none:=I1.hok.fresh (Nat.le_succ _);have hD:H1 s1.heap.objs.size=none:=I1.hok.fresh (Nat.le_refl _);have ne:s1.heap.objs.size≠s1.heap.objs.size+1:=Nat.ne_of_lt (Nat.lt_succ_self _);have hq:=hG (s1.heap.objs.size+1) (cs.free hA);have I2:=Inv.made (C:=C) I1
  have sm:jp H1 (upd (upd H1 s1.heap.objs.size (.own (s1.heap.objs.size+1))) (s1.heap.objs.size+1) (.ins C s1.heap.objs.size [])):=fun b o q=>by
   have n1:b≠s1.heap.objs.size+1:=fun z=>by subst z;rw[hA]at q;cases q
   have n2:b≠s1.heap.objs.size:=fun z=>by subst z;rw[hD]at q;cases q
   rw[js n1,js n2];exact q
  have cs2:j8 X.prog X.w X.K (upd (upd H1 s1.heap.objs.size (.own (s1.heap.objs.size+1))) (s1.heap.objs.size+1) (.ins C s1.heap.objs.size [])) (zQ μ (s1.heap.objs.size+1) (.ins x [])):=
   cs.put (jp.a sm) (fun b _ o q=>sm b o q) ⟨C,_,[],hC,jn,rfl⟩
  have sp:agO X.prog X.w X.K X.mg n g (V.ref (s1.heap.objs.size+1)::vs) (upd (upd H1 s1.heap.objs.size (.own (s1.heap.objs.size+1))) (s1.heap.objs.size+1) (.ins C s1.heap.objs.size [])) (fun v H2=>v= .non/\Q (.ref (s1.heap.objs.size+1)) H2)
    (fun cls _ H'=>∃c μ',X.mg c=some cls/\R (.er c) μ'/\jy H1 H'/\j8 X.prog X.w X.K H' μ'):=
   ⟨jV (s1.heap.objs.size+1)::ds,_,_,hn,⟨V.ref (s1.heap.objs.size+1),vs,rfl,Rep.cel _,Reps.mono sm _ _ rd⟩,cs2,hq,fun d μ' q v H' sA rv c=>by
    obtain ⟨q1,q2⟩:=q;subst q1;exact ⟨rv,kk _ _ q2 H' ((jp.a sm).trans sA) c _ (Rep.cel _)⟩,fun c μ' q C H' hC' sA c'=>⟨c,μ',hC',q,(jp.a sm).trans sA,c'⟩⟩
  have r2:jG (V.ref (s1.heap.objs.size+1)::vs) (Value.ref (s1.heap.objs.size+1)::us):= .cons rfl r
  have hl:(Value.ref (s1.heap.objs.size+1)::us++[]).length=ps.length:=by
   rw[List.append_nil,←r2.length];exact F.len _ _ _ _ sp
  have hbd:=hb _ (Value.ref (s1.heap.objs.size+1)::us) I2.kIn hl;rw[List.append_nil]at hbd
  refine wpAny_call (alq (f:=f) I1.kIn M.makes M.init (beq_iff_eq.mp M.fn) (codeAny_mono (F.run _ X.stack _ _ ⟨Value.ref (s1.heap.objs.size+1)::us,[]⟩ (Value.ref (s1.heap.objs.size+1)::us) _ _ _ ((hr.mono hkj).make C us [])
   (I2.env0.make C us []) hbd r2 sp) fun rs s' hq'=>?_))
  cases rs with
  | error ev=>
   obtain⟨e0,C0,H',rfl,os,bare,un,hok,xc,c,μ',hC',hR,sA,c'⟩:=hq';have J':Inv X Kp σ H' s':=I2.call' (ch:=[]) os un hok bare fun b z=>nomatch z
   have J0:Inv X [] σ H' s':=J'.pins_of fun p hp=>nomatch hp
   have k1:JI X H1 (fun d H'=>∀v,Rep X.K H' d v->Q v H') (.er c) μ':=kk (.er c) μ' hR;have x1:=Xc.of hxe I2 xc;have t1:ae8 X H1 μ' c (.ref e0) s':=⟨e0,C0,σ,H',rfl,hC',J0,sA,c',x1⟩;exact k1 (.ref e0) s' t1
  | ok fl=>
   cases fl with
   | ret u=>
    obtain⟨v,H',I3,rv,ev,q3⟩:=I2.after hq';subst ev;exact⟨rv,⟨V.ref (s1.heap.objs.size+1),H',I3,rfl,q3⟩⟩
   |next=>exact False.elim hq'
   |brk=>exact False.elim hq'
   |cont=>exact False.elim hq'
end
section
variable {X:Cx}{e a b c o value:Expr}{es:List Expr}{st:Stmt}{Ta Tb To Tv:TR PyData}{Tr:TR (LP)}{pos pos' apos cpos:Pos}{x f m:Str}
noncomputable def ajs(od:PyData)(μ:jD):Prop:=∃a ds,od=jV a/\μ a=some (.lst ds)
theorem ajt{Kp:List (Addr×Obj)}{σ:St}{H:Hp}{s:Shared}{a:Addr}{xs:List V}(I:Inv X Kp σ H s)(h:H a=some (zm a xs)):s.TypeIs (.ref a) "list"/\∀b,Value.ref a= .ref b->∃o,s.heap.get? b=some o/\o.dict=none:=
 alx (T:="list") (Inv.opened I (.l xs) h) (x:= .ref a) (v:= .ref a) rfl (.inl ⟨rfl,xs,SqL.of jn⟩)
theorem agQ{Kp:List (Addr×Obj)}{σ:St}{H H4:Hp}{s s':Shared}{a:Addr}{xs ys:List V}(I:Inv X Kp σ H s)(h:H a=some (zm a xs))(e4:H4=upd (upd H a (.lst xs)) a (.lst ys))(I4:Inv X Kp σ H4 s'):Inv X Kp σ (upd H a (zm a ys)) s':=by
 subst e4;have:=Inv.closed I4 (.l ys) jn (Inv.nofrz I h);rw[L2.qE,L2.qE]at this;exact this
noncomputable def aku(od d:PyData):TR PyData:=fun _ μ R=>∃a ds,od=jV a/\μ a=some (.lst ds)/\ds.length<1000000/\R (.ok .none) (zQ μ a (.lst (ds++[d])))
theorem ac1(ho:PEC X o To)(ha:PEC X e Ta)(hbase:attributeBase o "append" X.env (eval o X.env)=eval o X.env:=by rfl)
  (hfew:((backTo cpos (starEach [e] X.env)).all (fun x=>!x.1)&&(backToKw cpos (keywordEach [] X.env)).all (fun x=>x.1.isSome)
   && decide ([e].length+([]:List Keyword).length+(if ([]:List Keyword).isEmpty then 0 else 1)<30))=true:=by rfl)
  (hline:(apos.endLine==cpos.line)=true:=by rfl) (hs:starEach [e] X.env=(false,eval e X.env)::starEach [] X.env:=by rfl) (hplain:(backTo cpos (starEach [] X.env)).any (·.1)=false:=by rfl):
  PEC X (.Call (.Attribute o "append" apos) [e] [] cpos) (bindC To fun od ρ μ R=>ajs od μ/\bindC Ta (aku od) ρ μ R):=by
 with_unfolding_all
  intro Kp s σ H Q I h;refine wpAny_Call_method_late hbase hfew hline rfl (thn (ho Kp s σ H (fun y H1=>∃od,Rep X.K H1 od y/\AtC X σ H1 (fun ρ μ R=>ajs od μ/\bindC Ta (aku od) ρ μ R) fun d H'=>∀v,Rep X.K H' d v->Q v H') I ((AtC.bind h).imp fun od H1 _ ⟨s1,h1⟩ y ry=>⟨od,ry,h1⟩)) fun v s1 ⟨y,H1,I1,ry,od,rod,ρ,μ,R,en,cs,⟨⟨l,ds0,hd,hm⟩,t⟩,kk⟩=>?_);subst hd;cases Rep.celOut rod;obtain rfl:v=Value.ref l:=ry;obtain⟨xs0,h2,_⟩:=cs l _ hm;obtain⟨t1,t2⟩:=ajt I1 h2;refine⟨"list","list.append",PySem.F.plainAttrs_list,PySem.F.slot_list_append,PySem.F.type_list_append,t1,t2,?_⟩;have pa:PA X [e] _:=qG (X:=X) ha Jk hs
  have hA:=pa cpos Kp s1 σ H1 (fun ws H2=>∃y d,ws=[y]/\Rep X.K H2 d y/\AtC X σ H2 (aku (jV l) d) fun d H'=>∀v,Rep X.K H' d v->Q v H') I1
   ((AtC.bind (show AtC X σ H1 (bindC Ta (aku (jV l))) _ from⟨ρ,μ,R,en,cs,t,kk⟩)).imp fun d H2 _ ⟨s2,h2⟩ y ry=>⟨y,d,rfl,ry,h2⟩)
  rw[hs]at hA ⊢;refine Calls.callWith_builtin (by show(false||(backTo cpos (starEach [] X.env)).any (·.1))=false;rw[hplain]<;>rfl) (Calls.evalArgs_plain ?_);refine thn hA fun us s2 ⟨ws,H2,I2,r2,y,d,hws,ry,ρ2,μ2,R2,en2,cs2,⟨l2,ds,hd2,hm2,hl,hR⟩,kk2⟩=>?_;subst hws;cases amh hd2;obtain⟨xs,h3,rs⟩:=cs2 l _ hm2;refine thn (adY Kp s2 σ (upd H2 l (.lst xs)) (.ref l) [y] (.ref l) us (fun w H4=>w= .non/\H4=upd (upd H2 l (.lst xs)) l (.lst (xs++[y]))) (Inv.opened I2 (.l xs) h3) rfl r2 ⟨l,xs,y,rfl,rfl,jn,by rw[rs.length];exact QL hl,rfl,rfl⟩) fun u s3 ⟨w,H4,I4,r4,e1,e4⟩=>?_;subst e1;have sA:jy H2 (upd H2 l (zm l (xs++[y]))):=jy.upd h3 rfl;have k1:=(kk2 (.ok .none) _ hR:JI X H2 (fun d H'=>∀v,Rep X.K H' d v->Q v H') (.ok .none) _);exact⟨.non,_,agQ I2 h3 e4 I4,r4,k1 _ sA (cs2.upd sA ⟨_,jn,(Reps.monoA sA _ _ rs).append ⟨y,[],rfl,Rep.monoA sA _ _ ry,rfl⟩⟩) .non rfl⟩
noncomputable def aqA(od:PyData):TR PyData:=fun _ μ R=>∃a ds,od=jV a/\μ a=some (.lst ds)/\R (.ok .none) (zQ μ a (.lst []))
theorem akv(ho:PEC X o To)(hbase:attributeBase o "clear" X.env (eval o X.env)=eval o X.env:=by rfl)(hline:(apos.endLine==cpos.line)=true:=by rfl):PEC X (.Call (.Attribute o "clear" apos) [] [] cpos) (bindC To aqA):=by
 with_unfolding_all
  intro Kp s σ H Q I h;refine wpAny_Call_method0_late hbase hline (thn (ho Kp s σ H (fun y H1=>∃od,Rep X.K H1 od y/\AtC X σ H1 (aqA od) fun d H'=>∀v,Rep X.K H' d v->Q v H') I ((AtC.bind h).imp fun od H1 _ ⟨s1,h1⟩ y ry=>⟨od,ry,h1⟩)) fun v s1 ⟨y,H1,I1,ry,od,rod,ρ,μ,R,en,cs,⟨l,ds,hd,hm,hR⟩,kk⟩=>?_);subst hd;cases Rep.celOut rod;obtain rfl:v=Value.ref l:=ry;obtain⟨xs,h2,rs⟩:=cs l _ hm;obtain⟨t1,t2⟩:=ajt I1 h2;refine⟨"list","list.clear",PySem.F.plainAttrs_list,PySem.F.slot_list_clear,PySem.F.type_list_clear,t1,t2,Calls.callWith_builtin rfl (PySem.evalArgs_none ?_)⟩;refine thn (alz Kp s1 σ (upd H1 l (.lst xs)) (.ref l) [] (.ref l) [] (fun w H4=>w= .non/\H4=upd (upd H1 l (.lst xs)) l (.lst [])) (Inv.opened I1 (.l xs) h2) rfl .nil ⟨l,xs,rfl,rfl,jn,rfl,rfl⟩) fun u s3 ⟨w,H4,I4,r4,e1,e4⟩=>?_;subst e1;have sA:jy H1 (upd H1 l (zm l [])):=jy.upd h2 rfl;have k1:=(kk (.ok .none) _ hR:JI X H1 (fun d H'=>∀v,Rep X.K H' d v->Q v H') (.ok .none) _);exact⟨.non,_,agQ I1 h2 e4 I4,r4,k1 _ sA (cs.upd sA ⟨_,jn,rfl⟩) .non rfl⟩
noncomputable def asT(f:RP):TR PyData:=fun ρ μ R=>∃ds,f ρ=some (.list ds)/\∀a,μ a=none->R (.ok (jV a)) (zQ μ a (.lst ds))
theorem afa{fe:RP}(h:PN X e fe):PEC X e (asT fe):=by
 with_unfolding_all
  exact PE.imp h fun σ H Q ⟨ρ,μ,R,en,cs,⟨ds,hf,hR⟩,kk⟩=>⟨ρ,_,en,hf,fun l H' s hn ow=>by
   have k1:=(kk (.ok (jV l)) _ (hR l (cs.free hn)):JI X H (fun d H'=>∀ v,Rep X.K H' d v->Q v H') (.ok (jV l)) _);exact k1 H' (jp.a s) (cs.put (jp.a s) (fun b _ o q=>s b o q) ow) (.ref l) (Rep.cel l)⟩
end
section
variable {X:Cx}{e a b c o value:Expr}{es:List Expr}{st:Stmt}{Ta Tb To Tv:TR PyData}{Tr:TR (LP)}{fa:RP}{pos pos' apos cpos:Pos}{x f m:Str}
theorem Qv{k j n:Nat}{ps:List Str}{g:LP->OP}{p:Pos}(C:jj X.prog X.w X.K X.mg X.base x ps k n g)(hr:Room j X.A)(hkj:k<=j)(ha:PAC X (e::es) Tr)
  (hg:Gl X x:=by rfl) (hdb:(x==("__debug__":Str))=false:=by decide) (he:starEach (e::es) X.env=(false,eval e X.env)::starEach es X.env:=by rfl)
  (hpl:(backTo pos (starEach es X.env)).any (·.1)=false:=by rfl):PEC X (.Call (.Name x p) (e::es) [] pos) (bindC Tr fun ds=>qj (if ds.length=n then g ds else none)):=by
 with_unfolding_all
  obtain⟨f,fd,h1,h2,h3,h4⟩:=C
  exact PE.imp (ai1 h1 (hr.mono hkj) hg h2 h3 h4 .nil ai7 ha hdb he hpl) fun σ H Q h=>(AtC.bind h).imp fun ds H1 _ ⟨s1,h1⟩ vs rv=>by
   obtain⟨d,hd,k⟩:=h1.ret;by_cases hn:ds.length=n
   ·rw[if_pos hn]at hd
    exact⟨ds,d,hn,by rw[List.append_nil];exact rv,hd,fun v H' s r=>k H' s v r⟩
   ·rw[if_neg hn]at hd;cases hd
noncomputable def ah5(n:Nat)(g:LP->OP)(t:LP->Option Str)(ds:LP):TR PyData:=fun _ μ R=>ds.length=n/\((∃d,g ds=some d/\R (.ok d) μ)∨∃c,t ds=some c/\R (.er c) μ)
theorem Jy{k k' j n:Nat}{ps:List Str}{g:LP->OP}{gx:LP->Option Str}{p:Pos}(hxe:X.ex=[])(C:jj X.prog X.w X.K X.mg X.base x ps k n g)(C':zn X.prog X.w X.K X.mg X.base x ps k' n gx)(hr:Room j X.A)(hkj:k<=j)(hkj':k'<=j)(ha:PAC X (e::es) Tr)
  (hg:Gl X x:=by rfl) (hdb:(x==("__debug__":Str))=false:=by decide) (he:starEach (e::es) X.env=(false,eval e X.env)::starEach es X.env:=by rfl)
  (hpl:(backTo pos (starEach es X.env)).any (·.1)=false:=by rfl):PEC X (.Call (.Name x p) (e::es) [] pos) (bindC Tr (ah5 n g gx)):=by
 with_unfolding_all
  intro Kp s σ H Q I h;obtain⟨f,fd,F,hm,hk,hb⟩:=C;obtain⟨f',fd',F',hm',hk',hb'⟩:=C';rw[hm]at hm';have ef:f=f':=by cases hm';rfl
  subst ef;refine wpAny_Call_Name_kw (aab I hg hm ?_ hdb);refine PySem.W.callWith_K (h₀:=X.base) I.ok.mod.kin hk (thn (ha pos Kp s σ H (fun vs H1=>∃ds,Reps X.K H1 ds vs/\AtC X σ H1 (ah5 n g gx ds) fun d H'=>∀v,Rep X.K H' d v->Q v H') I ((AtC.bind h).imp fun ds H1 _ ⟨s1,h1⟩ vs rv=>⟨ds,rv,h1⟩)) fun us s1 ⟨vs,H1,I1,r,ds,rd,q⟩=>⟨I1.kIn,?_⟩) he hpl;obtain⟨ρ,μ,R,en,cs,⟨hn,hG⟩,kk⟩:=q;rcases hG with ⟨d,hd,hR⟩ | ⟨c,hc,hR⟩
  ·have k1:=(kk (.ok d) _ hR:JI X H1 (fun d H'=>∀v,Rep X.K H' d v->Q v H') (.ok d) _)
   exact ahD F (hr.mono hkj) hb .nil ai7 I1 r ⟨ds,d,hn,by rw[List.append_nil];exact rd,hd,fun v H' s r=>k1 H' (jp.a s) (cs.mono s) v r⟩
  ·have sp:akq X.K X.mg n gx vs H1 (fun _ _=>False) (fun cls _ H'=>X.mg c=some cls/\jp H1 H'):=⟨ds,c,hn,rd,hc,fun C H' hC s2=>⟨hC,s2⟩⟩
   have hlu:(us++[]).length=ps.length:=by rw[List.append_nil,←r.length];exact F'.len _ _ _ _ sp
   have hbd:=hb' s1 us I1.kIn hlu;rw[List.append_nil]at hbd;refine wpAny_call (codeAny_mono (F'.run X.A X.stack s1 H1 ⟨us,[]⟩ us vs _ _ (hr.mono hkj') I1.env0 hbd r sp) fun rs s' hq=>?_);cases rs with
   | error ev=>
    obtain⟨e0,C,H',rfl,os,bare,un,hok,xc,hC,sm2⟩:=hq;have J':Inv X Kp σ H' s':=I1.call' (ch:=[]) os un hok bare fun b z=>nomatch z
    have J0:Inv X [] σ H' s':=J'.pins_of fun p hp=>nomatch hp
    have k1:=(kk (.er c) _ hR:JI X H1 (fun d H'=>∀v,Rep X.K H' d v->Q v H') (.er c) _);have x1:=Xc.of hxe I1 xc;have t1:ae8 X H1 μ c (.ref e0) s':=⟨e0,C,σ,H',rfl,hC,J0,jp.a sm2,cs.mono sm2,x1⟩;exact k1 (.ref e0) s' t1
   | ok fl=>
    cases fl with
    |ret u=>obtain⟨v,H',_,_,_,_,_,z⟩:=hq;exact z.elim
    |next=>exact False.elim hq
    |brk=>exact False.elim hq
    |cont=>exact False.elim hq
theorem aec{id:String}{g:LP->OP}{p:Pos}(hc:Qn X (.builtin id) g)(hm:X.mg x=none)(hv:bootBuiltins x=some (.builtin id))(ha:PAC X (e::es) Tr)(hg:Gl X x:=by rfl)(hn:x≠"__name__":=by decide)(hdb:(x==("__debug__":Str))=false:=by decide)
  (he:starEach (e::es) X.env=(false,eval e X.env)::starEach es X.env:=by rfl) (hpl:(backTo pos (starEach es X.env)).any (·.1)=false:=by rfl):PEC X (.Call (.Name x p) (e::es) [] pos) (bindC Tr fun ds=>qj (g ds)):=by
 with_unfolding_all
  obtain⟨r,h1,h2⟩:=hc
  exact PE.imp (aac h1 hg hm hv ha hn hdb he hpl) fun σ H Q h=>(AtC.bind h).imp fun ds H1 _ ⟨s1,h3⟩ vs rv=>by
   obtain⟨d,hd,k⟩:=h3.ret;exact h2 ds d vs H1 Q hd rv fun v H' s r=>k H' s v r
theorem aox{x1}(h:PAC X es Tr):PEC X (.Tuple es x1 pos) (bindC Tr fun ds=>qj (if few ds=true then some (.tuple ds) else none)):=by
 with_unfolding_all
  exact PE.imp (ahA h) fun σ H Q h=>(AtC.bind h).imp fun ds H1 _ ⟨s1,h3⟩ vs rv=>by
   obtain⟨d,hd,k⟩:=h3.ret;by_cases hf:few ds=true
   ·rw[if_pos hf]at hd;cases hd
    refine⟨by rw[rv.length];exact aa8 (by simpa[few]using hf),fun p hp=>?_⟩;exact k _ (jC hp) (.ref p) ⟨p,vs,rfl,SqT.of jn,Reps.mono (jC hp) _ _ rv⟩
   ·rw[if_neg hf]at hd;cases hd
end
section
variable {X:Cx}{e a b c o tg src:Expr}{es:List Expr}{st:Stmt}{body:List Stmt}{S:TRS}{Tt:TR Bool}{Tr:TR (LP)}{pos:Pos}{x:Str}
noncomputable def apx(nx:Rho->jD->Prop)(R:OutC->jD->Prop):OutC->jD->Prop
 |.nx ρ,μ=>nx ρ μ
 |.ct ρ,μ=>nx ρ μ
 |.bk ρ,μ=>R (.nx ρ) μ
 |.rt d,μ=>R (.rt d) μ
 |.er c,μ=>R (.er c) μ
noncomputable def aas(ga:PyData->Rho->Option Rho)(S:TRS):LP->TRS
 | []=>fun ρ μ R=>R (.nx ρ) μ
 |d::r=>fun ρ μ R=>∃ρ1,ga d ρ=some ρ1/\S ρ1 μ (apx (fun ρ2 μ2=>aas ga S r ρ2 μ2 R) R)
noncomputable def asU(fi:Rho->Option (LP))(ga:PyData->Rho->Option Rho)(S:TRS):TRS:=fun ρ μ R=>∃ds,fi ρ=some ds/\aas ga S ds ρ μ R
theorem aoy{fi:Rho->Option (LP)}{ga:PyData->Rho->Option Rho}(hp:PassesOwn (model X.prog X.w) X.A X.env X.xe)(hc:X.calm=true)(hi:PID X tg src fi)(hg:PGD X tg ga)(hb:abe X body S)
  (hs:∀x,foldedSetIterable src X.env x=pure x:=by intro _;rfl):PSC X (.For tg src body [] pos) (asU fi ga S):=by
 with_unfolding_all
  refine PS.imp (acy hp hc hi hg hb hs) fun D σ H ⟨ρ,μ,R,en,cs,⟨ds,h1,q'⟩,k⟩=>?_;refine⟨ρ,ds,en,h1,fun J H1 s1 Y=>?_⟩;refine⟨fun i m σ2 H2=>m=ds.length-i/\i<=ds.length/\∃ρ2 μ2,jy H1 H2/\EnvR X.K H2 ρ2 σ2/\j8 X.prog X.w X.K H2 μ2/\aas ga S (ds.drop i) ρ2 μ2 R,⟨ds.length,by simp,Nat.zero_le _,ρ,μ,jy.refl _,en.mono s1,cs.mono s1,by simpa using q'⟩,?_⟩
  rintro i m σ2 H2 ⟨rfl,hi,ρ2,μ2,sA,en2,cs2,q2⟩
  obtain⟨g1,g2,g3⟩:=Y i H2 sA;by_cases hlt:i<ds.length
  ·right
   rw[List.drop_eq_getElem_cons hlt]at q2;obtain⟨ρ4,h4,q3⟩:=q2;refine⟨g1 hlt,fun σ3 H3=>∃ρ3 μ3,jy H1 H3/\EnvR X.K H3 ρ3 σ3/\j8 X.prog X.w X.K H3 μ3/\aas ga S (ds.drop (i+1)) ρ3 μ3 R,fun σ3 H3 z=>⟨ds.length-(i+1),by omega,rfl,hlt,z⟩,fun x H3 y=>?_⟩;obtain⟨s3,r3⟩:=g3 x H3 y;have r3':=r3 ds[i] (by simp[hlt]);refine⟨ρ2,ds[i],ρ4,en2.mono s3,r3',h4,fun σ5 H5 s5 en5=>?_⟩;have s15:jy H1 H5:=(sA.trans (jp.a s3)).trans (jp.a s5);have s05:jy H H5:=(jp.a s1).trans s15;refine⟨ρ4,μ2,_,en5,(cs2.mono s3).mono s5,q3,fun o μ' r=>?_⟩;cases o with
   |nx ρ6=>exact fun σ6 H6 s6 e6 c6=>⟨ρ6,μ',s15.trans s6,e6,c6,r⟩
   |ct ρ6=>exact fun σ6 H6 s6 e6 c6=>⟨ρ6,μ',s15.trans s6,e6,c6,r⟩
   |bk ρ6=>exact fun σ6 H6 s6 e6 c6=>(k (.nx ρ6) μ' r:JX X H D (.nx ρ6) μ') σ6 H6 (s05.trans s6) e6 c6
   |rt d=>exact fun v H6 s6 e6 c6=>(k (.rt d) μ' r:JX X H D (.rt d) μ') v H6 (s05.trans s6) e6 c6
   |er c=>exact fun ev s' t=>(k (.er c) μ' r:JX X H D (.er c) μ') ev s' (t.mono s05)
  ·left
   have hn:ds.drop i=[]:=List.drop_of_length_le (by omega);rw[hn]at q2;exact⟨g2 (by omega),(k (.nx ρ2) μ2 q2:JX X H D (.nx ρ2) μ2) σ2 H2 ((jp.a s1).trans sA) en2 cs2⟩
end
noncomputable def akw(R:Res PyData->jD->Prop):OutC->jD->Prop
 |.rt d,μ=>R (.ok d) μ
 |.nx _,μ=>R (.ok .none) μ
 |.er c,μ=>R (.er c) μ
 |_,_=>False
noncomputable def qv(N:List Str)(T:TRS):GC3:=fun ds μ R=>T (jM N ds) μ (akw R)
noncomputable def aju(P:Program)(w:World)(K:Fg)(n:Nat)(g:GC3):Sp:=fun vs H Q _=>∃ds μ R,ds.length=n/\Reps K H ds vs/\j8 P w K H μ/\g ds μ R/\(∀d μ',R (.ok d) μ'->∀v H',jy H H'->Rep K H' d v->j8 P w K H' μ'->Q v H')/\∀c μ',¬ R (.er c) μ'
section
variable {P:Program}{w:World}{K:Fg}{mg:SV}{base:Heap}
theorem Z3{x qual:Str}{st:Stmt}{f:Addr}{fd:FuncData}{N ps:List Str}{k:Nat}{T:TRS}(F:Fun K x qual st f fd)(S:FnScope N ps (jf st))
  (body:∀(Kc:Value) (A:Around) (Ko:List Env) (s:Shared) (H:Hp) (E:XK),Room k (A.deeper (envOfC qual (jf st) s.heap.objs.size f Kc))->abe (Jl (CXt P w) P w K mg base N qual (jf st) f Kc A Ko s H E) (jQ st) T):
  FnOk P w K mg base (CXt P w) (k+1) f fd ps (agO P w K mg ps.length (qv N T)):=by
 with_unfolding_all
  obtain⟨oc,od,kV,doc,pm,an,Kc,ct,osl,rfl,lk,hcd⟩:=F.ex;refine al5 lk hcd S (fun vs H Q E h=>?_) fun A Ko s H vs Q E s1 hr h I=>?_
  ·obtain⟨ds,μ,R,h1,h2,_⟩:=h
   rw[h2.length];exact h1
  ·obtain⟨ds,μ,R,h1,h2,h3,h4,h5,h6⟩:=h
   refine body Kc A Ko s H E hr [] s1 (L2.JB N vs) H _ I ⟨jM N ds,μ,_,Zm h2,h3,h4,fun o μ' r=>?_⟩;cases o with
   |rt d=>exact fun v H' sA rv c=>h5 d μ' r v H' sA rv c
   |nx ρ=>exact fun σ H' sA e c=>h5 .none μ' r .non H' sA rfl c
   |bk ρ=>exact r.elim
   |ct ρ=>exact r.elim
   | er c=>
    intro ev s' t;obtain⟨e,C,σ',H',rfl,hC,J,sm,cs',xc⟩:=t;have T0:Top0 (Jl (CXt P w) P w K mg base N qual (jf st) f Kc A Ko s H E):=al6;show wpAny (model P w) (A.deeper (envOfC qual (jf st) s.heap.objs.size f Kc)) (leaving (envOfC qual (jf st) s.heap.objs.size f Kc) (.ref e)) (fun _ s''=>CXt P w Ko H s E (.ref e) s'') (fun e' s''=>CXt P w Ko H s E e' s'') s';have n1:=ae5 (E:=fun _ _=>False) (A:=A.deeper (envOfC qual (jf st) s.heap.objs.size f Kc)) T0 J.ok.frames J xc;unfold leaving;refine wpAny_bind (wpAny_mono n1 (fun _ s2 ⟨J2,t2⟩=>?_) fun _ _ z=>z.elim);have n2:=Zq (E:=fun _ _=>False) (A:=A.deeper (envOfC qual (jf st) s.heap.objs.size f Kc)) none J2 t2;refine wpAny_mono n2 (fun _ s3 ⟨J3,t3⟩=>?_) fun _ _ z=>z.elim;obtain⟨oe,ws,T,oT,ts,g1,g2,g3,g4,g5,g6,g7,g8,g9⟩:=t3.ob;exact⟨e,C,H',rfl,J3.os,J3.bare,J3.base,J3.hok,⟨t3.mine.un,t3.mine.new,oe,ws,T,oT,ts,g1,g2,g3,g4,g5,g6.un,g6.new,g7,g8,g9⟩,h6 c μ' r C H' hC sm cs'⟩
theorem arX{x qual:Str}{st:Stmt}{f:Addr}{fd:FuncData}{N ps:List Str}{k:Nat}{T:TRS}(F:Fun K x qual st f fd)(S:FnScope N ps (jf st))
  (body:∀(Kc:Value) (A:Around) (Ko:List Env) (s:Shared) (H:Hp) (E:XK),Room k (A.deeper (envOfC qual (jf st) s.heap.objs.size f Kc))->abe (Jl CX0 P w K mg base N qual (jf st) f Kc A Ko s H E).nox (jQ st) T):
  FnOk P w K mg base CX0 (k+1) f fd ps (aju P w K ps.length (qv N T)):=by
 with_unfolding_all
  refine F.ok S (fun vs H Q E h=>?_) (fun Kc A Ko s H vs Q E hr h=>?_)
  ·obtain⟨ds,μ,R,h1,h2,_⟩:=h
   rw[h2.length];exact h1
  ·obtain⟨ds,μ,R,h1,h2,h3,h4,h5,h6⟩:=h
   refine⟨_,body Kc A Ko s H E hr,jM N ds,μ,_,Zm h2,h3,h4,fun o μ' r=>?_⟩;cases o with
   |rt d=>exact fun v H' sA rv c=>h5 d μ' r v H' sA rv c
   |nx ρ=>exact fun σ H' sA e c=>h5 .none μ' r .non H' sA rfl c
   |bk ρ=>exact r.elim
   |ct ρ=>exact r.elim
   |er c=>exact(h6 c μ' r).elim
end
section
variable {X:Cx}{e:Expr}{es:List Expr}{Tr:TR (LP)}{pos:Pos}{x:Str}
end
@[irreducible] noncomputable def arY(X:Cx)(sts:List Stmt)(T:TRS):Prop:=∀(s:Shared) (σ:St) (H:Hp) (D:Ends),Inv X [] σ H s->AtS X σ H T D->wpAny (model X.prog X.w) X.A (execs sts X.env) (SP X [] D) X.xe s
section
variable {X:Cx}{st b0:Stmt}{sts j1 tb hb:List Stmt}{S S':TRS}{G:RO}{pos:Pos}
end
section
variable {P:Program}{w:World}{K:Fg}{mg:SV}{base:Heap}
noncomputable def zy(K:Fg)(x m qual:Str)(st:Stmt):Prop:=
 ∃(C f:Addr) (oc:Value) (od an:Option Addr) (kV doc pm Kc ct:Value) (osl:Array (Option Value)),PySem.W.nsIn K mainGlobals x=some (some (.ref C))/\PySem.W.findIn K (.ref C) m=some (some (.ref f))/\PySem.W.isFn K (.ref f)=true/\
  K.lookup f=some ⟨oc,od,.func (PySem.W.fnOf m qual (zY st) (jQ st) (jf st) .none kV doc pm an Kc ct),osl⟩/\PySem.W.codeIn K Kc qual=true/\PySem.W.keepIn K (.ref f)=true
theorem qk{x m qual:Str}{st:Stmt}{C f:Addr}{oc:Value}{od an:Option Addr}{kV doc pm Kc ct:Value}{osl:Array (Option Value)}(a:PySem.W.nsIn K mainGlobals x=some (some (.ref C)))(b:PySem.W.findIn K (.ref C) m=some (some (.ref f)))(i:PySem.W.isFn K (.ref f)=true)
  (l:K.lookup f=some ⟨oc,od,.func (PySem.W.fnOf m qual (zY st) (jQ st) (jf st) .none kV doc pm an Kc ct),osl⟩) (c:PySem.W.codeIn K Kc qual=true) (k:PySem.W.keepIn K (.ref f)=true):zy K x m qual st:=
 ⟨C,f,oc,od,an,kV,doc,pm,Kc,ct,osl,a,b,i,l,c,k⟩
noncomputable def ah6(K:Fg)(x:Str):Prop:=∃C,PySem.W.nsIn K mainGlobals x=some (some (.ref C))/\Cls K C/\PySem.W.makesIn K C=true/\PySem.W.keepIn K (.ref C)=true
theorem ajv{x:Str}{C:Addr}(a:PySem.W.nsIn K mainGlobals x=some (some (.ref C)))(b:PySem.W.plainGet K C Str.empty=true)(c:PySem.W.hasDictIn K C=true)(d:PySem.W.plainOver K C=true)(e:PySem.W.findIn K (.ref C) "__setattr__"=some (some (.builtin "object.__setattr__")))
  (f:PySem.W.makesIn K C=true) (g:PySem.W.keepIn K (.ref C)=true):ah6 K x:=⟨C,a,⟨b,c,d,e⟩,f,g⟩
theorem aoz{x f:Str}{C:Addr}(T:ah6 K x)(a:PySem.W.nsIn K mainGlobals x=some (some (.ref C)))(b:PySem.W.findIn K (.ref C) f=some none):qg K x f:=fun C' h=>by
 obtain⟨D,d1,d2,_⟩:=T;rw[a]at h;cases h;rw[a]at d1;cases d1;exact⟨d2,b⟩
noncomputable abbrev jU(x qual:Str)(st:Stmt)(ps:List Str):Prop:=∀(kV doc pm:Value) (an:Option Addr) (Kc ct:Value) (us:List Value),us.length=ps.length->bindArgs (PySem.W.fnOf x qual (zY st) (jQ st) (jf st) .none kV doc pm an Kc ct) ⟨us,[]⟩=pure (ps.zip us)
theorem zy.met{x m qual:Str}{st:Stmt}{ps:List Str}{k n:Nat}{g:GC3}(T:zy K x m qual st)(Tc:ah6 K x)(hb:jU m qual st ps)
  (F:∀(f:Addr) (fd:FuncData),Fun K m qual st f fd->FnOk P w K mg base (CXt P w) k f fd ps (agO P w K mg n g)):qU P w K mg base x m ps k n g:=by
 obtain⟨C,f,oc,od,an,kV,doc,pm,Kc,ct,osl,a,b,i,l,c,kp⟩:=T;obtain⟨C',a',cl,_⟩:=Tc;rw[a]at a';cases a';have F1:=acE (st:=st) l c kp;exact⟨C,f,_,a,cl,⟨b,i,kp⟩,F f _ F1,F1.binds hb⟩
theorem zy.mak{h:Heap}{x qual:Str}{st:Stmt}{ps:List Str}{k n:Nat}{g:GC3}(T:zy K x "__init__" qual st)(Tc:ah6 K x)(X:K.In h)(G:h.Ns mainGlobals mg)(hb:jU "__init__" qual st ps)
  (F:∀(f:Addr) (fd:FuncData),Fun K "__init__" qual st f fd->FnOk P w K mg base (CXt P w) k f fd ps (agO P w K mg n g)):akt P w K mg base x ps k n g:=by
 obtain⟨C,f,oc,od,an,kV,doc,pm,Kc,ct,osl,a,b,i,l,c,kp⟩:=T;obtain⟨C',a',cl,mk,kc⟩:=Tc;rw[a]at a';cases a';have F1:=acE (st:=st) l c kp;exact⟨C,f,_,a,PySem.W.mg_of X G a,⟨mk,b,i,kc⟩,F f _ F1,F1.binds hb⟩
end
section
variable {X:Cx}{e a b tg src:Expr}{es:List Expr}{Tr:TR (LP)}{S:TRS}{body:List Stmt}{pos:Pos}
end
section
variable {X:Cx}{e a b c tg src:Expr}{es:List Expr}{Ta Tb:TR PyData}{Tr:TR (LP)}{S:TRS}{body:List Stmt}{pos:Pos}{x:Str}
noncomputable def tCI(X:Cx)(T:TR (LP)):TI:=fun σ H R=>AtC X σ H T fun ds H1=>∀J,ahI X.K J ds H1->R J H1
@[irreducible] noncomputable def PIC(X:Cx)(tg src:Expr)(T:TR (LP)):Prop:=PI X tg src (tCI X T)
noncomputable def arZ(T:TR (LP))(ga:PyData->Rho->Option Rho)(S:TRS):TRS:=qB T fun ds=>aas ga S ds
theorem ami{ga:PyData->Rho->Option Rho}(hp:PassesOwn (model X.prog X.w) X.A X.env X.xe)(hc:X.calm=true)(hi:PIC X tg src Tr)(hg:PGD X tg ga)(hb:abe X body S)
  (hs:∀x,foldedSetIterable src X.env x=pure x:=by intro _;rfl):PSC X (.For tg src body [] pos) (arZ Tr ga S):=by
 with_unfolding_all
  refine PS.imp (acy hp hc hi hg hb hs) fun D σ H h=>(AtS.bind h).imp fun ds H1 _ ⟨s1,ρ,μ,R,en,cs,q',k⟩ J Y=>?_;refine⟨fun i m σ2 H2=>m=ds.length-i/\i<=ds.length/\∃ρ2 μ2,jy H1 H2/\EnvR X.K H2 ρ2 σ2/\j8 X.prog X.w X.K H2 μ2/\aas ga S (ds.drop i) ρ2 μ2 R,⟨ds.length,by simp,Nat.zero_le _,ρ,μ,jy.refl _,en,cs,by simpa using q'⟩,?_⟩
  rintro i m σ2 H2 ⟨rfl,hi,ρ2,μ2,sA,en2,cs2,q2⟩
  obtain⟨g1,g2,g3⟩:=Y i H2 sA;by_cases hlt:i<ds.length
  ·right
   rw[List.drop_eq_getElem_cons hlt]at q2;obtain⟨ρ4,h4,q3⟩:=q2;refine⟨g1 hlt,fun σ3 H3=>∃ρ3 μ3,jy H1 H3/\EnvR X.K H3 ρ3 σ3/\j8 X.prog X.w X.K H3 μ3/\aas ga S (ds.drop (i+1)) ρ3 μ3 R,fun σ3 H3 z=>⟨ds.length-(i+1),by omega,rfl,hlt,z⟩,fun x H3 y=>?_⟩;obtain⟨s3,r3⟩:=g3 x H3 y;have r3':=r3 ds[i] (by simp[hlt]);refine⟨ρ2,ds[i],ρ4,en2.mono s3,r3',h4,fun σ5 H5 s5 en5=>?_⟩;have s15:jy H1 H5:=(sA.trans (jp.a s3)).trans (jp.a s5);refine⟨ρ4,μ2,_,en5,(cs2.mono s3).mono s5,q3,fun o μ' r=>?_⟩;cases o with
   |nx ρ6=>exact fun σ6 H6 s6 e6 c6=>⟨ρ6,μ',s15.trans s6,e6,c6,r⟩
   |ct ρ6=>exact fun σ6 H6 s6 e6 c6=>⟨ρ6,μ',s15.trans s6,e6,c6,r⟩
   |bk ρ6=>exact fun σ6 H6 s6 e6 c6=>(k (.nx ρ6) μ' r:JX X H1 D (.nx ρ6) μ') σ6 H6 (s15.trans s6) e6 c6
   |rt d=>exact fun v H6 s6 e6 c6=>(k (.rt d) μ' r:JX X H1 D (.rt d) μ') v H6 (s15.trans s6) e6 c6
   |er c=>exact fun ev s' t=>(k (.er c) μ' r:JX X H1 D (.er c) μ') ev s' (t.mono s15)
  ·left
   have hn:ds.drop i=[]:=List.drop_of_length_le (by omega);rw[hn]at q2;exact⟨g2 (by omega),(k (.nx ρ2) μ2 q2:JX X H1 D (.nx ρ2) μ2) σ2 H2 sA en2 cs2⟩
end
noncomputable def ac2(K:Fg)(x f:Str):Prop:=∃C,PySem.W.nsIn K mainGlobals x=some (some (.ref C))/\PySem.W.findIn K (.ref C) f=some none
theorem JY{K:Fg}{x f:Str}{C:Addr}(a:PySem.W.nsIn K mainGlobals x=some (some (.ref C)))(b:PySem.W.findIn K (.ref C) f=some none):ac2 K x f:=⟨C,a,b⟩
theorem ac2.cls{K:Fg}{x f:Str}(h:ac2 K x f)(T:ah6 K x):qg K x f:=by
 obtain⟨C,a,b⟩:=h;exact aoz T a b
section
variable {X:Cx}{tg src:Expr}{pos pos':Pos}
end
section
variable {X:Cx}
end
section
variable {X:Cx}
noncomputable def apy(ds:LP):OP:=match ds with
 | [.str z]=>if z.length<1000000 then some (.int z.length) else none
 |_=>none
theorem aoA:Qn X (.builtin "len") apy:=by
 refine⟨_,aeN,fun ds d xs H Q h r k=>?_⟩;unfold apy at h;split at h
 ·split at h
  ·rename_i hz
   cases h;obtain⟨x,q,z1,z2,z3⟩:=r;cases (show q=[] from z3);cases (show x=_ from z2);exact⟨_,z1,by rw[sizeLine_eq];omega,k _ H (jp.refl H) rfl⟩
  ·cases h
 ·cases h
open Builtin Builtin.Str in
noncomputable def JJ:LP->Option (List Str)
 | []=>some []
 |.str x::r=>(JJ r).map (x::·)
 |_=>none
theorem aed{K:Fg}{H:Hp}:∀(ts:List Str),Reps K H (ts.map PyData.str) (ts.map V.str)
 | []=>rfl
 |t::ts=>⟨_,_,rfl,rfl,aed ts⟩
end
section
variable {X:Cx}{a b c:Expr}{fa fb fc:RP}{p2 pos:Pos}
noncomputable def aoB:PyData->PyData->OP
 |.str z,.int i=>if 0<=i/\i<1000000/\i<z.length then (z.cps[i.toNat]?).map fun c=> .str ⟨#[c]⟩ else none
 |_,_=>none
theorem aqB(ha:PD X a fa)(hb:PD X b fb)(hs:agd b):PD X (.Subscript a b pos) (op2 aoB fa fb):=by
 with_unfolding_all
  refine PE.imp (age ha hb hs) fun σ H Q h=>alE (fun p q d x y H Q h rx ry k=>?_) h;unfold aoB at h;split at h
  ·rename_i z i
   split at h
   ·rename_i hc
    cases h1:z.cps[i.toNat]? with
    |none=>simp[h1]at h
    | some c=>
     have:PyData.str ⟨#[c]⟩=d:=by simpa[h1]using h
     subst this;cases (show x=_ from rx);cases (show y=_ from ry);exact⟨z,i,c,rfl,rfl,hc.1,by omega,hc.2.2,h1,k _ H (jp.refl H) rfl⟩
   ·cases h
  ·cases h
theorem amj{K:Fg}{T:String}(hT:T="str")(d:PyData):PySem.W.kitOne K (.type (tyn d)) (.type T)=some (JG T d):=by
 subst hT;cases d<;>first|rfl | (rename_i kvs;by_cases h:zK kvs=true<;>simp only[tyn,JG,h]<;>rfl)
theorem aoC{a:Expr}{fa:RP}{T:Str}{Tn:String}{p p2 pos:Pos}(hT:Tn="str")(hm1:X.mg "isinstance"=none)(hm2:X.mg T=none)(hv:bootBuiltins T=some (.type Tn))(ha:PD X a fa)
  (hg1:Gl X "isinstance":=by rfl) (hg2:Gl X T:=by rfl) (hn:T≠"__name__":=by decide) (hd:(T==("__debug__":Str))=false:=by decide)
  (he:starEach [a,.Name T p2] X.env=[(false,eval a X.env),(false,eval (.Name T p2) X.env)]:=by rfl) (he2:starEach [.Name T p2] X.env=[(false,eval (.Name T p2) X.env)]:=by rfl) (hpl:(backTo pos (starEach [.Name T p2] X.env)).any (·.1)=false:=by rfl):
  PD X (.Call (.Name "isinstance" p) [a,.Name T p2] [] pos) (fun ρ=>(fa ρ).bind fun d=>Q0 Tn d):=by
 with_unfolding_all
  have hT2:PE X (.Name T p2) (L2.tC (.ty Tn)):=aiV hg2 hm2 hv rfl hn hd;refine PE.imp (aac (ags (T:=Tn)) hg1 hm1 (by decide +kernel) (qG ha (qG hT2 Jk (by rw[he2];rfl)) (by rw[he,he2])) (by decide) (by decide) (by rw[he,he2]) hpl) fun σ H Q ⟨ρ,d,en,q,k⟩=>?_;cases h1:fa ρ with
  |none=>simp[h1]at q
  | some c=>
   obtain⟨hF,rfl⟩:=agt (show Q0 Tn c=some d by simpa[h1]using q);exact⟨ρ,c,en,h1,fun v H1 s1 r1=>⟨v,c,_,rfl,r1,hF,amj hT c,k _ H1 s1 rfl⟩⟩
end
theorem abg{H:Hp}{a:Addr}{ob:Obj}{ks:List (Key×V)}(h:H a=some (.frz ob (.dK ks)))(n:Str):aa6 H a (.str n) (QE ks (Sum.inr n:Key)):= .inl ⟨ks,Sum.inr n,.inr ⟨ob,h⟩,rfl,rfl⟩
section
variable {X:Cx}{e a b c tg src:Expr}{es:List Expr}{fa fb fc:RP}{pos:Pos}
noncomputable def ZQ(p q:PyData):OP:=match QM p,q with
 |some r,.str n=>zw r (Sum.inr n)
 |_,_=>none
theorem ab3(hu:X.A.units+1<cLine)(ha:PD X a fa)(hb:PD X b fb)(hs:anV b:=by intro _ _;rfl):PD X (.Subscript a b pos) (op2 ZQ fa fb):=by
 with_unfolding_all
  refine PE.imp (ajb hu ha hb hs) fun σ H Q ⟨ρ,d,en,h,k⟩=>?_;cases h1:fa ρ with
  |none=>simp[op2,h1]at h
  | some p=>
   cases h2:fb ρ with
   |none=>simp[op2,h1,h2]at h
   | some q=>
    have h':ZQ p q=some d:=by simpa[op2,h1,h2]using h
    unfold ZQ at h';split at h'
    ·rename_i r n hp
     refine⟨ρ,p,en,h1,fun v H1 s1 r1=>⟨ρ,.str n,en.mono s1,h2,fun y H2 s2 r2=>?_⟩⟩;cases (show y=V.str n from r2);obtain⟨ad,ks,ob,e1,e2,e3⟩:=Jg hp (Rep.mono s2 _ _ r1);rcases Zp (Sum.inr n) e3 with ⟨z,_⟩ | ⟨d',x,z1,z2,z3⟩
     ·rw[z]at h';cases h'
     ·rw[z1]at h';cases h'
      exact⟨ad,x,e1,by rw[←z2];exact abg e2 n,k x H2 (s1.trans s2) z3⟩
    ·cases h'
noncomputable def ajw(neg:Bool)(q p:PyData):OP:=match QM p,q with
 |some r,.str n=>some (.bool (if neg then !(zw r (Sum.inr n)).isSome else (zw r (Sum.inr n)).isSome))
 |_,_=>none
end
section
variable {X:Cx}{e a b c tg src:Expr}{es:List Expr}{st:Stmt}{sts j1 body:List Stmt}{fa fb fc:RP}{F G:RO}{pos:Pos}
noncomputable def aqC(P:Program)(w:World):V->V->V->Hp->(Hp->Prop)->Prop:=fun o k v H Q=>∃a ks ob n,o= .ref a/\k= .str n/\H a=some (zv P w a ob ks)/\ks.length<sizeLine/\∀ob',Q (upd H a (zv P w a ob' (putK ks (Sum.inr n) v)))
theorem aee(hu:X.A.units+1<cLine):anE X (aqC X.prog X.w):=by
 intro Kp s σ H o k v ov iv u Q I ro rk rv ⟨a,ks,ob,n,e1,e2,h1,h2,q⟩;subst e1;subst e2;cases ro;obtain⟨t,rfl⟩:=rk;refine aka hu (Inv.openD I h1) (aj8.k (k:=Sum.inr n) jn h2) ⟨t,rfl⟩ rv fun s' I'=>?_;obtain⟨ob',I2⟩:=Inv.sealedD I' jn;rw[qE,qE]at I2;exact⟨_,I2,q ob'⟩
end
noncomputable def sg(x:Str):List Nat:=x.cps.toList
theorem aqD{x y:Str}(h:sg x=sg y):x=y:=Str.ext' (by
 have:=congrArg List.toArray h;simpa [sg] using this)
noncomputable def ItU(x:Str):It:=
 ⟨fun i _=>i<x.cps.size,fun i H v H'=>H'=H/\∃c,x.cps[i]?=some c/\v= .str ⟨#[c]⟩,fun i _=>x.cps.size<=i⟩
theorem akx{P:Program}{w:World}{K:Fg}{tg:Expr}(it:Addr)(x:Str)(t:Tok):Turn P w K tg (ItU x) [it] it (fun i h=>h.IsStrIter it "str_ascii_iterator" x t i) where
 mem:=by simp
 obj:=fun i h st b hb=>by
  have e:b=it:=by simpa using hb
  subst e;obtain⟨o,e,c,d⟩:=st;exact⟨o,e,fun v z=>by rw[d]at z;cases z⟩
 keep:=fun i h h' st k=>by
  obtain⟨o,e,r⟩:=st;exact⟨o,k it (by simp) o e,r⟩
 item:=by
  intro X hP hw hK hc i Kp s σ H E I hf st hg;subst hP hw hK;have hg:i<x.cps.size:=hg;obtain⟨f0,f1,f2,f3,f4,f5⟩:=hf it (by simp);refine wpAny_pyNext_ascii_item st (c:=x.cps[i]) (by simp[hg]) fun h' st' sb=>?_;have I1:Inv X Kp σ H { s with heap:=h',toks:=s.toks+1 }:=I.turned (t':=s.toks+1) (fun b o hb e=>(sb.2 b hb).trans e) f0 f1 f3 f4 f5;obtain⟨o,e,c,d⟩:=id st';exact⟨_,rfl,aiW (s:={ s with heap:=h',toks:=s.toks+1 }) e c d (by decide) ⟨.str ⟨#[x.cps[i]]⟩,H,I1,⟨_,rfl⟩,⟨rfl,_,by simp[hg],rfl⟩,st',fun b hb=>(hf b hb).1⟩⟩
 done:=by
  intro X hP hw hK hc i Kp s σ H E I hf st hg;subst hP hw hK;have hg:x.cps.size<=i:=hg;obtain⟨f0,f1,f2,f3,f4,f5⟩:=hf it (by simp);exact wpAny_pyNext_ascii_end (I.ok.hd hc) st (by simp;omega) fun h' eb=>⟨rfl,I.turned (t':=s.toks) (fun b o hb e=>eb b o hb e) f0 f1 f3 f4 f5⟩
 self:=fun _ _ _ _ _ st h=>wpAny_pyIter_striter_ascii st h
noncomputable def ah7(x:Str):Bool:=x.cps.all (· < 128)
noncomputable def abh(x:Str):LP:=x.cps.toList.map fun c=> .str ⟨#[c]⟩
section
variable {X:Cx}{e:Expr}{fa:RP}{tg:Expr}
noncomputable def ar0(tl:TE):TI:=fun σ H R=>tl σ H fun v H1=>∃x,v= .str x/\ah7 x=true/\R (ItU x) H1
theorem aoD{l:Expr}{tl:TE}(hl:PE X l tl):PI X tg l (ar0 tl):=by
 intro Kp s σ H R I h;refine thn (hl Kp s σ H _ I h) fun v s1 ⟨x,H1,I1,r1,q1⟩=>?_;obtain⟨z,rfl,ha,q⟩:=q1;obtain⟨t,rfl⟩:=r1;refine wpAny_pyIter_ascii ha ?_;refine⟨s1.heap.objs.size,[s1.heap.objs.size],_,_,H1,rfl,I1.kept (t':=s1.toks) fun b o e=>Heap.get?_push_of_some _ e,akx _ z t,⟨_,Heap.get?_push_size _ rfl,rfl,rfl⟩,fun b hb=>?_,q⟩;have e:b=s1.heap.objs.size:=by simpa using hb
 subst e;exact I1.fpOk (Nat.le_refl _) (I1.hok.fresh (Nat.le_refl _))
noncomputable def afb:PyData->Option (LP)
 |.str x=>if ah7 x=true then some (abh x) else none
 |_=>none
noncomputable def itU(fa:RP):Rho->Option (LP):=fun ρ=>(fa ρ).bind afb
theorem ah8{x:Str}{i:Nat}{d:PyData}(h:(abh x)[i]?=some d):∃c,x.cps[i]?=some c/\d= .str ⟨#[c]⟩:=by
 unfold abh at h;rw[List.getElem?_map]at h;cases hc:x.cps.toList[i]? with
 |none=>rw[hc]at h;cases h
 | some c=>
  rw[hc]at h;cases h;exact⟨c,by simpa using hc,rfl⟩
theorem ac3(x:Str):(abh x).length=x.cps.size:=by unfold abh;simp
theorem amk(h:PD X e fa):PID X tg e (itU fa):=by
 with_unfolding_all
  refine PI.imp (aoD h) fun σ H R ⟨ρ,ds,en,q,k⟩=>?_;cases h1:fa ρ with
  |none=>simp[itU,h1]at q
  | some d=>
   cases d with
   | str x=>
    by_cases ha:ah7 x=true
    ·have:abh x=ds:=by simpa[itU,h1,afb,ha]using q
     subst this;refine⟨ρ,_,en,h1,fun v H1 s1 r1=>?_⟩;cases (show v=_ from r1);refine⟨x,rfl,ha,k _ H1 s1 fun i H2 s2=>⟨fun hi=>?_,fun hi=>?_,fun y H' z=>?_⟩⟩
     ·rw[ac3]at hi;exact hi
     ·rw[ac3]at hi;exact hi
     ·obtain⟨z1,c,z2,z3⟩:=z
      subst z1;refine⟨jp.refl _,fun d hd=>?_⟩;obtain⟨c',e1,rfl⟩:=ah8 hd;rw[z2]at e1;cases e1;exact z3
    ·simp[itU,h1,afb,ha]at q
   |_=>simp[itU,h1,afb]at q
end
section
variable {X:Cx}
end
section
variable {prog:Program}{w:World}{A:Around}{E:Value->SP0}
end
section
variable {X:Cx}{es:List Expr}{pos:Pos}
end
section
variable {X:Cx}{a b:Expr}{fa fb:RP}{pos p1 p2 p3:Pos}{j:Nat}
end
noncomputable abbrev ltT(x y:Str):Bool:=decide (x.cps.toList<y.cps.toList)
noncomputable def rkT(ts:List Str)(x:Str):Int:=((ts.filter fun y=>ltT y x).length:Int)
theorem aml{α:Type}{p q:α->Bool}:∀{l:List α},(∀x∈l,p x=true->q x=true)->(l.filter p).length<=(l.filter q).length
 | [],_=>Nat.le_refl _
 | x::l,h=>by
  have ih:=aml (l:=l) fun y hy=>h y (List.mem_cons_of_mem _ hy);by_cases hp:p x=true
  ·rw[List.filter_cons_of_pos hp,List.filter_cons_of_pos (h x List.mem_cons_self hp),List.length_cons,List.length_cons];omega
  ·rw[List.filter_cons_of_neg hp]
   by_cases hq:q x=true
   ·rw[List.filter_cons_of_pos hq,List.length_cons];omega
   ·rw[List.filter_cons_of_neg hq];exact ih
theorem amm{α:Type}{p q:α->Bool}:∀{l:List α},(∀x∈l,p x=true->q x=true)->(∃x∈l,q x=true/\p x=false)->(l.filter p).length<(l.filter q).length
 | [],_,⟨x,h,_⟩=>nomatch h
 | x::l,h,⟨y,hy,y1,y2⟩=>by
  have hl:∀x∈l,p x=true->q x=true:=fun y hy=>h y (List.mem_cons_of_mem _ hy);rcases List.mem_cons.mp hy with e | hy
  ·rw[←e,List.filter_cons_of_neg (by rw[y2];decide),List.filter_cons_of_pos y1,List.length_cons]
   have:=aml hl;omega
  ·have ih:=amm hl ⟨y,hy,y1,y2⟩
   by_cases hp:p x=true
   ·rw[List.filter_cons_of_pos hp,List.filter_cons_of_pos (h x List.mem_cons_self hp),List.length_cons,List.length_cons];omega
   ·rw[List.filter_cons_of_neg hp]
    by_cases hq:q x=true
    ·rw[List.filter_cons_of_pos hq,List.length_cons];omega
    ·rw[List.filter_cons_of_neg hq];exact ih
theorem afc{ts:List Str}{x y:Str}(hx:x∈ts)(h:ltT x y=true):rkT ts x<rkT ts y:=by
 have h':x.cps.toList<y.cps.toList:=of_decide_eq_true h;have:=amm (p:=fun z=>ltT z x) (q:=fun z=>ltT z y) (l:=ts) (fun z _ hz=>decide_eq_true (List.lt_trans (of_decide_eq_true hz) h')) ⟨x,hx,h,decide_eq_false (List.lt_irrefl _)⟩;unfold rkT;omega
theorem ajx(x y:Str):ltT x y=true∨x=y∨ltT y x=true:=by
 by_cases h1:x.cps.toList<y.cps.toList
 ·exact .inl (decide_eq_true h1)
 ·by_cases h2:y.cps.toList<x.cps.toList
  ·exact .inr (.inr (decide_eq_true h2))
  ·exact .inr (.inl (aqD (List.le_antisymm (List.not_lt.mp h2) (List.not_lt.mp h1))))
theorem aoE{ts:List Str}{x y:Str}(hx:x∈ts)(hy:y∈ts):rkT ts x<rkT ts y↔ltT x y=true:=by
 constructor
 ·intro h
  rcases ajx x y with z | z | z
  ·exact z
  ·rw[z]at h;omega
  ·have:=afc hy z;omega
 ·exact afc hx
theorem aoF{ts:List Str}{x y:Str}(hx:x∈ts)(hy:y∈ts)(h:rkT ts x=rkT ts y):x=y:=by
 rcases ajx x y with z | z | z
 ·have:=afc hx z;omega
 ·exact z
 ·have:=afc hy z;omega
section
variable {X:Cx}
noncomputable def aqE:List V->Hp->VK->Prop:=fun xs H Q=>∃d ob ks ts,xs=[.ref d]/\H d=some (.frz ob (.dK ks))/\ks.map (·.1)=ts.map (fun t=>(Sum.inr t:Key))/\ts.length<64/\∀l,H l=none->Q (.ref l) (upd H l (.lst ((JW (rkT ts) ts).map V.str)))
theorem ac4:∀(ts:List Str) (us:List Value),us.length=ts.length->(∀(i:Nat) (u:Value),us[i]?=some u->∃(x:Str) (t:Tok),ts[i]?=some x/\u=Value.str x t)->jG (ts.map V.str) us
 | [],[],_,_=> .nil
 | [],_::_,h,_=>by cases h
 |_::_,[],h,_=>by cases h
 | t::ts,u::us,h,g=>by
  obtain⟨x,tk,e1,e2⟩:=g 0 u rfl;cases e1;subst e2;exact .cons ⟨tk,rfl⟩ (ac4 ts us (by simpa using h) fun i v hv=>g (i+1) v (by simpa using hv))
theorem ah9(hc:X.calm=true):zh X (.builtin "sorted") aqE:=by
 intro Kp s σ H xs us0 Q I r ⟨d,ob,ks,ts,e,hq,hk,h64,q⟩;subst e;obtain⟨u,rfl,rx⟩:=QV r;cases rx;have hh:=I.ok.hd hc;obtain⟨o0,z,nm,vs,rel,ob',es,ep,h4,h5,h6,h7⟩:=I.hok d _ hq;rw[o0]at h4;cases h4;have hl:=rel.length;have hkl:ks.length=ts.length:=by have:=congrArg List.length hk;simpa using this
 have key:∀(ks:List (Key×V)) (vs:List (Key×Value)) (ts:List Str),KV ks vs->ks.map (·.1)=ts.map (fun t=>(Sum.inr t:Key))->∀(i:Nat) (k:Key) (x:Value),vs[i]?=some (k,x)->∃t:Str,ts[i]?=some t/\k=Sum.inr t:=by
  intro ks
  induction ks with
  |nil=>intro vs ts r _ i k x e;cases r;simp at e
  | cons p ks ih=>
   intro vs ts r hk i k x e;cases r with
   | cons r1 r2=>
    cases ts with
    |nil=>simp at hk
    | cons t ts=>
     rw[List.map_cons,List.map_cons]at hk;obtain⟨e1,e2⟩:=List.cons.inj hk;cases i with
     | zero=>
      simp at e;subst e;have r0:=r1.1;simp only at r0;exact⟨t,rfl,by rw[←r0,e1]⟩
     |succ i=>exact ih _ ts r2 e2 i k x (by simpa using e)
 have da:s.heap.DictAt (ql X.prog X.w) d vs ep:=⟨ob,es,o0,h5,h6,h7⟩;refine Calls.call_function_entry kind_sorted plain_sorted entry_sorted (args_sorted1 _) ?_;unfold Builtin.«sorted»;refine wpAny_bind (m:=checkCount "sorted" 1 1 _) (wpAny_pure ?_);refine wpAny_bind (PySem.W.kdu_collect (PySem.W.kdl_dict (knd:=ql X.prog X.w) (kvs:=vs) (ep:=ep) nm) (by first|exact hh|simp[hh]) da (by rw[sizeLine_eq];omega) fun h1 tk acc k1 it=>?_);generalize hus:acc.toList=us;have lu:us.length=ts.length:=by rw[←hus,Array.length_toList,it.1];omega
 have ku:∀(i:Nat) (u:Value),us[i]?=some u->∃(x:Str) (t:Tok),ts[i]?=some x/\u=Value.str x t:=fun i u hu=>by
  have:acc[i]?=some u:=by rw[←hus]at hu;simpa using hu
  obtain⟨k,x,e1,e2⟩:=it.2 i u this;obtain⟨t,e3,e4⟩:=key ks vs ts rel hk i k x e1;rw[e4,ahq]at e2;rcases qf e2 with ⟨n,t',e5,_⟩ | ⟨y,t',e5,e6⟩
  ·cases e5
  ·cases e5;exact⟨t,t',e3,e6⟩
 have rv:=ac4 ts us lu ku;have small:us.length<=sizeLine:=by rw[sizeLine_eq];omega
 refine wpAny_bind (wpAny_newList ?_ small)
 have fD:s.heap.get? h1.objs.size=none:=by
  cases e3:s.heap.get? h1.objs.size with
  |none=>rfl
  |some o=>exact absurd (Heap.lt_size (k1 _ _ e3)) (Nat.lt_irrefl _)
 have nH:H h1.objs.size=none:=by
  cases e3:H h1.objs.size with
  |none=>rfl
  |some o=>obtain⟨u,z⟩:=qt.there (I.hok _ o e3);rw[fD]at z;cases z
 have hD:(h1.push (seqObj "list" us.toArray 0)).get? h1.objs.size=some (seqObj "list" us.toArray 0):=Heap.get?_push_size _ rfl;have kpD:∀b o,s.heap.get? b=some o->(h1.push (seqObj "list" us.toArray 0)).get? b=some o:=fun b o e=>Heap.get?_push_of_some _ (k1 b o e);obtain⟨m,F⟩:=I.fr;refine wpAny_bind (wpAny_holding (wpAny_call_entry (s:={ s with heap:=h1.push (seqObj "list" us.toArray 0),toks:=tk }) slot_list_sort ⟨_,hD,rfl⟩ entry_list_sort ?body (args_list_sort _)))
 case body=>
  by_cases h2:us.length<2
  ·rw[list_sort_plain]
   refine wpAny_bind (listItems_at hD rfl ?_);refine wpAny_bind (listUpdate_at hD rfl ?_ (by rw[List.size_toArray];exact small) (Nat.zero_le _));obtain⟨e1,ho1⟩:∃e1,((h1.push (seqObj "list" us.toArray 0)).update h1.objs.size (Obj.mapSeq fun _=>(#[]:Array Value))).get? h1.objs.size=some (seqObj "list" #[] e1):=⟨_,get?_update_seq hD fun _=>#[]⟩;refine wpAny_bind (seqEpoch_at ho1 rfl ?_);refine wpAny_bind (wpAny_newTuple ?_ small);refine wpAny_bind (wpAny_newList ?_ (Nat.zero_le _));refine wpAny_holding ?_;dsimp only;have hlt:us.toArray.size<2:=by rw[List.size_toArray];exact h2
   rw[if_pos hlt,if_pos hlt];refine wpAny_bind (wpAny_pure ?_);rw[StateT.run_pure];refine wpAny_bind (wpAny_pure ?_);dsimp only;have ho3:((((h1.push (seqObj "list" us.toArray 0)).update h1.objs.size (Obj.mapSeq fun _=>(#[]:Array Value))).push (seqObj "tuple" us.toArray 0)).push (seqObj "list" #[] 0)).get? h1.objs.size=some (seqObj "list" #[] e1):=Heap.get?_push_of_some _ (Heap.get?_push_of_some _ ho1);refine wpAny_bind (seqEpoch_at ho3 rfl ?_);rw[ajn];refine wpAny_bind (listUpdate_at ho3 rfl ?_ (Nat.zero_le _) (by rw[List.size_toArray];exact Nat.le_succ_of_le small));obtain⟨c2,hc2⟩:=ab0 (ws:=us.toArray) (show _=some (lob #[] e1) from ho3);simp only[bne_self_eq_false,zzL,zzN];refine wpAny_pure ⟨_,rfl,?_⟩;refine wpAny_pure ⟨_,rfl,?_⟩
   have kp:∀b o,s.heap.get? b=some o->(((((h1.push (seqObj "list" us.toArray 0)).update h1.objs.size (Obj.mapSeq fun _=>(#[]:Array Value))).push (seqObj "tuple" us.toArray 0)).push (seqObj "list" #[] 0)).update h1.objs.size (Obj.mapSeq fun _=>us.toArray)).get? b=some o:=fun b o q=>by
    have q1:=k1 b o q;have lt1:b<h1.objs.size:=Heap.lt_size q1;have u1:=Heap.SameBut.update (h1.push (seqObj "list" us.toArray 0)) h1.objs.size (Obj.mapSeq fun _=>(#[]:Array Value));have q2:=(u1.2 b (Nat.ne_of_lt lt1)).trans (Heap.get?_push_of_some _ q1);have q3:=Heap.get?_push_of_some { cls:= .type "list",data:= .seq (#[]:Array Value) } (Heap.get?_push_of_some { cls:= .type "tuple",data:= .seq us.toArray } q2);exact((Heap.SameBut.update _ h1.objs.size (Obj.mapSeq fun _=>us.toArray)).2 b (Nat.ne_of_lt lt1)).trans q3
   have es1:JW (rkT ts) ts=ts:=by
    match ts,(show ts.length<2 by omega)with
    | [],_=>rfl
    | [t],_=>rfl
   refine⟨.ref h1.objs.size,upd H h1.objs.size (.lst (ts.map V.str)),Inv.grownL (ys:=ts.map V.str) (I.tok tk) F.ns (F.kept kp).ns (fun b o _ e=>kp b o e) fD hc2 rv (by rw[List.length_map,sizeLine_eq];omega),rfl,?_⟩;have:=q h1.objs.size nH;rw[es1]at this;exact this
  ·have hL:X.env.locals<s.heap.objs.size:=F.ns.lt
   have N:News X.base X.env.locals s.heap (za X.base s.heap X.env.locals):=aga
   have tyS:∀v∈us,∀h,PySem.W.Looks (model X.prog X.w) h (typeOf v) (Value.type "str"):=fun v hv h=>by
    obtain⟨i,hi,e⟩:=List.getElem_of_mem hv;obtain⟨x,t,_,rfl⟩:=ku i v (by rw[List.getElem?_eq_getElem hi,e]);exact PySem.W.Looks.of_pure rfl
   have hLD:h1.objs.size≠X.env.locals:=fun z=>by
    obtain⟨oL,esL,epL,hoL,_⟩:=F.ns;have:=Heap.lt_size (k1 _ _ hoL);rw[z]at this;exact absurd this (Nat.lt_irrefl _)
   refine PySem.W.kas_list_sort (T:=Value.type "str") (s:={ s with heap:=h1.push (seqObj "list" us.toArray 0),toks:=tk }) (h₀:=X.base) (L:=X.env.locals) (m:=m) (news:=za X.base s.heap X.env.locals) (F.kept kpD) (N.grown kpD) hD hLD
    (by
     cases e3:X.base.get? h1.objs.size with
     | none=>rfl
     | some o=>have:=F.keep _ o e3; rw [fD] at this; cases this)
    (fun p hp z=>by have:=(N p hp).1;rw[z,fD]at this;cases this) (by omega) (by omega) (fun e1 h' F' N' v hv=>tyS v hv h') (by decide) (by decide) fun e1 h' F' N'=>?_
   refine Srt.sort_ok (rk:=fun i=>rkT ts (ts.getD i Str.empty)) (n:=us.length) (s:={ s with heap:=h',toks:=tk }) (fun i j C hi hj hC=>?_) (by omega) fun p hp hs=>?_
   ·have gi:us[i]?=some us[i]:=List.getElem?_eq_getElem hi
    have gj:us[j]?=some us[j]:=List.getElem?_eq_getElem hj;obtain⟨x,t,ex,eu⟩:=ku i _ gi;obtain⟨y,t',ey,ev⟩:=ku j _ gj;simp only[getD_some ex,getD_some ey]at hC;show wpAny (model X.prog X.w) _ (keyLt' oneType' (us.getD i Value.none) (us.getD j Value.none)) C _ _;rw[getD_some gi,getD_some gj,eu,ev];refine PySem.W.kas_lt_str ?_;have:decide (rkT ts x<rkT ts y)=decide (x.cps.toList<y.cps.toList):=decide_eq_decide.mpr ((aoE (List.mem_of_getElem? ex) (List.mem_of_getElem? ey)).trans ⟨of_decide_eq_true,decide_eq_true⟩);rw[←this];exact hC
   ·have mem:∀i∈p.toList,i<us.length:=fun i hi=>by
     have:i∈(List.range us.length).toArray:=hp.mem_iff.mp (by simpa using hi);simpa using this
    have permN:p.toList.Perm (List.range us.length):=by simpa using hp.toList
    have hltD:∀z∈za X.base s.heap X.env.locals,z.1≠h1.objs.size:=fun z hz e=>by have:=(N z hz).1;rw[e,fD]at this;cases this
    refine PySem.W.KasFin.intro (news:=(h1.objs.size,seqObj "list" #[] e1)::za X.base s.heap X.env.locals) (g:=fun o'=>(h1.objs.size,o')::za X.base s.heap X.env.locals) F' N' (.head fun z hz=>hltD z hz) fun h2 c F2 N2=>?_
    have kp2:∀b o,b≠X.env.locals->s.heap.get? b=some o->h2.get? b=some o:=fun b o hb e=>by
     cases e3:X.base.get? b with
     |some u=>have:=F.keep b u e3;rw[e]at this;cases this;exact F2.keep b _ e3
     |none=>exact(N2 (b,o) (List.mem_cons_of_mem _ (Q4 hb e3 e))).1
    have hD2:=(N2 (h1.objs.size,PySem.W.listOf (List.toArray (p.toList.map fun i=>us.getD i Value.none)) c) List.mem_cons_self).1
    have hqs:(p.toList.map fun i=>(ts.map V.str).getD i V.non)=(JW (rkT ts) ts).map V.str:=by
     have e1:(p.toList.map fun i=>(ts.map V.str).getD i V.non)=(p.toList.map fun i=>ts.getD i Str.empty).map V.str:=by
      rw[List.map_map];refine List.map_congr_left fun i hi=>?_;have hi':=mem i hi;have g1:ts[i]?=some (ts[i]'(by omega)):=List.getElem?_eq_getElem _;show(ts.map V.str).getD i V.non=V.str (ts.getD i Str.empty);rw[getD_some g1];refine getD_some ?_;rw[List.getElem?_map,g1];rfl
     rw[e1]
     congr 1
     have e5:(List.range us.length).map (fun i=>ts.getD i Str.empty)=ts:=by
      apply List.ext_getElem?;intro i;rw[List.getElem?_map];by_cases hi:i<us.length
      ·rw[List.getElem?_range hi,List.getElem?_eq_getElem (show i<ts.length by omega)]
       show some (ts.getD i Str.empty)=_;rw[getD_some (List.getElem?_eq_getElem (show i<ts.length by omega))]
      ·rw[List.getElem?_eq_none_iff.mpr (show(List.range us.length).length<=i by rw[List.length_range];omega),List.getElem?_eq_none_iff.mpr (show ts.length<=i by omega)]
       rfl
     have pm:=permN.map (fun i=>ts.getD i Str.empty);rw[e5]at pm;refine Za ?_ (Jr (rkT ts) ts) (pm.trans (zt (rkT ts) ts).symm) fun x hx y hy h=>aoF (pm.mem_iff.mp hx) (pm.mem_iff.mp hy) h;rw[List.pairwise_map,List.pairwise_iff_getElem];intro i j hi hj hij;have hps:p.size=us.length:=hp.size;have hi':i<p.size:=by simpa using hi
     have hj':j<p.size:=by simpa using hj
     have:=hs i j (Nat.le_of_lt hij) (by omega);simp only[Srt.val]at this;have g1:p.getD i 0=p.toList[i]:=by simp[Array.getD,hi']
     have g2:p.getD j 0=p.toList[j]:=by simp[Array.getD,hj']
     rw[g1,g2]at this;exact this
    have hln:(p.toList.map fun i=>(ts.map V.str).getD i V.non).length<=sizeLine:=by
     rw[List.length_map,permN.length_eq,List.length_range];exact small
    have I2:=Inv.grownL (ys:=p.toList.map fun i=>(ts.map V.str).getD i V.non) (I.tok tk) F.ns F2.ns kp2 fD hD2 (ad7 rv _ mem) hln;rw[hqs]at I2;exact⟨_,rfl,wpAny_pure ⟨_,rfl,.ref h1.objs.size,_,I2,rfl,q _ nH⟩⟩
noncomputable def Qi(ds:LP):OP:=match ds with
 | [p]=>(QM p).bind fun r=>(JJ (r.map (·.1))).bind fun ts=>if ts.length<64 then some (.list ((JW (rkT ts) ts).map .str)) else none
 |_=>none
theorem RepM.strs{K:Fg}{H:Hp}:∀{r:List (PyData×PyData)}{ks:List (Key×V)}{ts:List Str},RepM K H r ks->JJ (r.map (·.1))=some ts->ks.map (·.1)=ts.map (fun t=>(Sum.inr t:Key))
 | [],ks,ts,h,e=>by cases (show ks=[] from h);cases e;rfl
 | (k,c)::r,ks,ts,⟨i,x,s,h1,h2,h3,h4⟩,e=>by
  subst h1;subst h2;cases i with
  |inl n=>simp[adG,JJ]at e
  | inr t=>
   have e':(JJ (r.map (·.1))).map (t::·)=some ts:=e;cases hr:JJ (r.map (·.1))with
   |none=>rw[hr]at e';cases e'
   | some us=>
    rw[hr]at e';cases e';rw[List.map_cons,List.map_cons,RepM.strs h4 hr]
theorem Zc(hc:X.calm=true):Qn X (.builtin "sorted") Qi:=by
 refine⟨_,ah9 hc,fun ds d xs H Q h r k=>?_⟩;unfold Qi at h;split at h
 ·rename_i p
  cases h1:QM p with
  |none=>simp[h1]at h
  | some pr=>
   cases h2:JJ (pr.map (·.1))with
   |none=>simp[h1,h2]at h
   | some ts=>
    rw[h1,zzD,h2,zzD]at h;by_cases h3:ts.length<64
    ·rw[if_pos h3]at h
     cases h;obtain⟨x,q,e1,e2,e3⟩:=r;cases (show q=[] from e3);obtain⟨a,ks,ob,g1,g2,g3⟩:=Jg h1 e2;subst g1;exact⟨a,ob,ks,ts,e1,g2,g3.strs h2,h3,fun l hl=>k _ _ (jC hl) ⟨l,_,rfl,jn,aed _⟩⟩
    ·rw[if_neg h3]at h;cases h
 ·cases h
end
section
variable {X:Cx}{e a b c:Expr}{pos:Pos}
noncomputable def aoG:List V->Hp->VK->Prop:=fun xs H Q=>∃d ob ks,xs=[.ref d]/\H d=some (.frz ob (.dK ks))/\∀l,H l=none->Q (.ref l) (upd H l (.dK ks))
theorem agR:zh X (.type "dict") aoG:=by
 intro Kp s σ H xs us Q I r ⟨d,ob,ks,e,hq,q⟩;subst e;obtain⟨u,rfl,rx⟩:=QV r;cases rx;obtain⟨o0,z,nm,vs,rel,ob',es,ep,h4,h5⟩:=I.hok d _ hq;have hl:=rel.length;refine kt_call_dict (knd:=ql X.prog X.w) nm ⟨ob',es,ep,h4,h5⟩ (by omega) fun h' hm hs=>?_;have kp:∀b o,s.heap.get? b=some o->h'.get? b=some o:=fun b o e=>(hs.2 b (Nat.ne_of_lt (Heap.lt_size e))).trans (Heap.get?_push_of_some _ e);have nS:(s.heap.objs.size==sysModules)=false:=beq_false_of_ne (Nat.ne_of_gt (Inv.big I));exact⟨.ref s.heap.objs.size,_,I.laid (t':=s.toks) (o:= .dK ks) kp (Nat.le_refl _) ⟨z,nS,vs,rel,hm⟩,rfl,q _ (I.hok.fresh (Nat.le_refl _))⟩
theorem amn:PD X (.Dict [] [] pos) (cst (.dict [(.none,.none)])):=by
 with_unfolding_all
  intro Kp s σ H Q I ⟨ρ,d,en,hf,k⟩;cases hf;refine thn (agm Kp s σ H (fun v H2=>∃a,v= .ref a/\H a=none/\H2=upd H a (.dK [])) I (fun l hl=>⟨l,rfl,hl,rfl⟩)) fun u s1 ⟨v,H2,I2,r,a,e1,e2,e3⟩=>?_;subst e1;have e4:H2 a=some (.dK []):=by rw[e3];exact jn
  obtain⟨ob,I3⟩:=Inv.sealedD I2 e4;have I6:=Inv.opened I3 (.d ob _) jn;rw[qE,e3,qE]at I6;exact⟨.ref a,_,I6,r,k _ _ (jC e2) ⟨a,rfl,.inr (.inl ⟨[],ob,jn,rfl⟩)⟩⟩
noncomputable def ar1(i s j:Nat)(cls f1 f2:Str)(S:TRS):TRS:=fun ρ μ R=>∃a fs r d n,lkp s ρ=some (jV a)/\μ a=some (.ins cls fs)/\fs.lookup f1=some (.dict ((.none,.none)::r))/\fs.lookup f2=some d/\lkp j ρ=some (.str n)/\r.length<1000000/\i≠s/\i≠j/\i < ρ.length/\
 S (ρ.set i (some (.dict ((.none,.none)::acR r (Sum.inr n) d)))) μ R
theorem aky(i s j:Nat){x y me cls f1 f2:Str}{S:TRS}{j1:List Stmt}{pos' p p1 p2 p3 pc ps pa ps' pa' pos2:Pos}(hu:X.A.units+1<cLine)(hN:X.N.Nodup)(hm:X.mg "dict"=none)(hv:bootBuiltins "dict"=some (.type "dict"))(hC1:qg X.K cls f1)(hC2:qg X.K cls f2)(hR:abe X j1 S)
  (hi:X.N[i]?=some x:=by rfl) (hsn:X.N[s]?=some me:=by rfl) (hj:X.N[j]?=some y:=by rfl) (hx:Loc X.env.scope x:=by first|exact Or.inl rfl|exact Or.inr rfl)
  (hs:swapsWith (.Call (.Name "dict" p) [.Attribute (.Name me ps) f1 pa] [] pc) (some (.Name x pos')) pos.line X.env=pure false:=by rfl)
  (hf:X.fn x=true∨X.env.scope.names.lookup x=some .local:=by first|exact .inl rfl|exact .inr rfl|assumption)
  (hg:Gl X "dict":=by rfl) (he:starEach [.Attribute (.Name me ps) f1 pa] X.env=(false,eval (.Attribute (.Name me ps) f1 pa) X.env)::starEach [] X.env:=by rfl) (hpl:(backTo pc (starEach [] X.env)).any (·.1)=false:=by rfl)
  (hvs:Vis X.env.scope me:=by first|exact Or.inl rfl|exact Or.inr (Or.inl rfl)|exact Or.inr (Or.inr rfl)) (hvx:Vis X.env.scope x:=by first|exact Or.inl rfl|exact Or.inr (Or.inl rfl)|exact Or.inr (Or.inr rfl)) (hvy:Vis X.env.scope y:=by first|exact Or.inl rfl|exact Or.inr (Or.inl rfl)|exact Or.inr (Or.inr rfl))
  (d1:(me==("__debug__":Str))=false:=by decide) (d2:(me==("__classdict__":Str))=false:=by decide) (d3:(x==("__debug__":Str))=false:=by decide) (d4:(x==("__classdict__":Str))=false:=by decide) (d5:(y==("__debug__":Str))=false:=by decide) (d6:(y==("__classdict__":Str))=false:=by decide)
  (hb1:attributeBase (.Name me ps) f1 X.env (eval (.Name me ps) X.env)=eval (.Name me ps) X.env:=by rfl) (hb2:attributeBase (.Name me ps') f2 X.env (eval (.Name me ps') X.env)=eval (.Name me ps') X.env:=by rfl)
  (ha:∀v,assign (.Subscript (.Name x p1) (.Name y p2) p3) X.env v=(do
   let ov ←holding [v] (eval (.Name x p1) X.env)
   let iv ←holding [v,ov] (eval (.Name y p2) X.env)
   standAt p3
   holding [v,ov,iv] (setItem ov iv v)
   release [v,ov,iv] []):=by intro _; rfl)
  (hs2:swapsWithSole [.Subscript (.Name x p1) (.Name y p2) p3] (.Attribute (.Name me ps') f2 pa') pos2.line X.env=pure false:=by rfl) (hw2:swappedStores [.Subscript (.Name x p1) (.Name y p2) p3] (.Attribute (.Name me ps') f2 pa') X.env=pure none:=by rfl)
  (h12:(assignEach [.Subscript (.Name x p1) (.Name y p2) p3] X.env).map (·.2)=[assign (.Subscript (.Name x p1) (.Name y p2) p3) X.env]:=by rfl):
  abe X (.Assign [.Name x pos'] (.Call (.Name "dict" p) [.Attribute (.Name me ps) f1 pa] [] pc) pos :: .Assign [.Subscript (.Name x p1) (.Name y p2) p3] (.Attribute (.Name me ps') f2 pa') pos2::j1) (ar1 i s j cls f1 f2 S):=by
 with_unfolding_all
  have hR':PSs X j1 (fun D σ H=>∃l ob ks,H l=some (zv X.prog X.w l ob ks)/\tCS X S D σ (upd H l (.frz ob (.dK ks)))):=by
   intro Kp s σ H D I ⟨l,ob,ks,h1,h2⟩;exact hR Kp s σ _ D (Inv.opened I (.d ob ks) h1) h2
  have hd:PE X (.Call (.Name "dict" p) [.Attribute (.Name me ps) f1 pa] [] pc) (fun σ H Q=>ars X.K (apO s) f1 σ H fun v H1=>∃d ob ks,v= .ref d/\H1 d=some (.frz ob (.dK ks))/\∀l ob',H1 l=none->Q (.ref l) (upd H1 l (zv X.prog X.w l ob' ks))):=by
   intro Kp s0 σ H Q I h;have W:=aa5 (X:=X) (pos:=pc) (p:=p) agR hg hm hv (qG (ahx (QC hsn hvs d1 d2) hb1) Jk he) (by decide) (by decide) he hpl;refine thn (W Kp s0 σ H (fun v H2=>∃l ks H1,v= .ref l/\H1 l=none/\H2=upd H1 l (.dK ks)/\∀ob',Q (.ref l) (upd H1 l (zv X.prog X.w l ob' ks))) I ?_) fun u s1 ⟨v,H2,I2,r,l,ks,H1,e1,e2,e3,e4⟩=>?_
   ·obtain⟨v0,e0,a0,C,dx,fs,v,g1,g2,g3,g4,g5,d,ob,ks,g6,g7,g8⟩:=h
    exact⟨v0,e0,a0,C,dx,fs,v,g1,g2,g3,g4,g5,d,ob,ks,by rw[g6],g7,fun l hl=>⟨l,ks,H,rfl,hl,rfl,fun ob'=>g8 l ob' hl⟩⟩
   ·subst e1
    have e5:H2 l=some (.dK ks):=by rw[e3];exact jn
    obtain⟨ob,I3⟩:=Inv.sealedD I2 e5;rw[e3,qE]at I3;exact⟨.ref l,_,I3,r,e4 ob⟩
  refine PSs.imp (Je (aa0 hN hi hx hd hs hf) (Je (acx (ahx (QC hsn hvs d1 d2) hb2) (ahr (QC hi hvx d3 d4) (QC hj hvy d5 d6) (aee hu) ha) hs2 hw2 h12) hR')) fun D σ H h=>?_;obtain⟨ρ,μ,R,en,cs,⟨ad,fs,r,d,n,q1,q2,q3,q4,q5,q6,q7,q8,q9,q10⟩,kk⟩:=h;obtain⟨C,dx,vs,h1,h2,h3⟩:=cs ad _ q2;obtain⟨w1,l1,r1⟩:=h3.look q3;obtain⟨w2,l2,r2⟩:=h3.look q4;obtain⟨a1,ks,ob,g1,g2,g3⟩:=Jg (show QM (.dict ((.none,.none)::r))=some r from rfl) r1;subst g1;obtain⟨vs',es1,rs1⟩:=en.at' s _ (qJ q1);cases Rep.celOut rs1;obtain⟨vy,es2,rs2⟩:=en.at' j _ (qJ q5);cases (show vy=V.str n from rs2);refine⟨_,es1,ad,C,dx,vs,_,rfl,h2,(hC1 C h1).1,(hC1 C h1).2,l1,a1,ob,ks,rfl,g2,fun l ob' hl=>?_⟩;have nea:ad≠l:=fun z=>by rw[z,hl]at h2;cases h2
  have nes:i≠s:=q7;have hil:i < σ.length:=by rw[←en.len];exact q9
  have kl:=g3.length;refine⟨_,by rw[List.getElem?_set_ne nes];exact es1,ad,C,dx,vs,w2,rfl,by rw[js nea];exact h2,(hC2 C h1).1,(hC2 C h1).2,l2,.ref l,by rw[List.getElem?_set_self hil],.str n,by rw[List.getElem?_set_ne q8];exact es2,l,ks,ob',n,rfl,rfl,jn,by rw[kl];exact QL q6,fun ob2=>?_⟩;refine⟨l,ob2,putK ks (Sum.inr n) w2,jn,?_⟩;rw[qE,qE];have sm:jp H (upd H l (.frz ob2 (.dK (putK ks (Sum.inr n) w2)))):=jC hl;refine⟨_,μ,R,⟨by simp[en.len],fun m z hz=>?_⟩,cs.mono sm,q10,fun o μ' hR'=>(kk o μ' hR').mono (jp.a sm)⟩;by_cases hmi:i=m
  ·subst hmi
   rw[List.getElem?_set_self q9]at hz;cases hz;exact⟨.ref l,by rw[List.getElem?_set_self hil],l,rfl,.inr (.inl ⟨_,ob2,jn,RepM.putK (Sum.inr n) (Rep.mono sm _ _ r2) (RepM.mono sm _ _ g3)⟩)⟩
  ·rw[List.getElem?_set_ne hmi]at hz ⊢
   obtain⟨v,e1,e2⟩:=en.at' m z hz;exact⟨v,e1,Rep.mono sm _ _ e2⟩
end
section
variable {X:Cx}{e a b c o:Expr}{pos:Pos}{Ta Tb To:TR PyData}
theorem amo(hu:X.A.units+1<cLine)(ha:PEC X a Ta)(hb:PEC X b Tb)(hs:anV b:=by intro _ _;rfl):PEC X (.Subscript a b pos) (opC ZQ Ta Tb):=by
 with_unfolding_all
  refine PE.imp (ajb hu ha hb hs) fun σ H Q h=>aea (r:=fun x y H Q=>∃ad v,x= .ref ad/\aa6 H ad y (some v)/\Q v H) (fun p q d x y H Q h rx ry k=>?_) h;unfold ZQ at h;split at h
  ·rename_i r n hp
   cases (show y=V.str n from ry);obtain⟨ad,ks,ob,e1,e2,e3⟩:=Jg hp rx;rcases Zp (Sum.inr n) e3 with ⟨z,_⟩ | ⟨d',v,z1,z2,z3⟩
   ·rw[z]at h;cases h
   ·rw[z1]at h;cases h
    exact⟨ad,v,e1,by rw[←z2];exact abg e2 n,k v H (jp.refl H) z3⟩
  ·cases h
theorem aqF{neg:Bool}{p q d:PyData}{x y:V}{H:Hp}{Q:VK}(h:ajw neg p q=some d)(rx:Rep X.K H p x)(ry:Rep X.K H q y)(k:∀v H',jp H H'->Rep X.K H' d v->Q v H'):∃ad ov,y= .ref ad/\aa6 H ad x ov/\Q (.bl (if neg then !ov.isSome else ov.isSome)) H:=by
 unfold ajw at h;split at h
 ·rename_i r n hp
  cases h;cases (show x=V.str n from rx);obtain⟨ad,ks,ob,e1,e2,e3⟩:=Jg hp ry;refine⟨ad,_,e1,abg e2 n,k _ H (jp.refl H) ?_⟩;rcases Zp (Sum.inr n) e3 with ⟨z1,z2⟩ | ⟨d',x,z1,z2,z3⟩
  ·rw[z1,z2];rfl
  ·rw[z1,z2];rfl
 ·cases h
theorem aia(hu:X.A.units+1<cLine)(ha:PEC X a Ta)(hb:PEC X b Tb)(hm:behindInMarks .NotIn b=false:=by first|exact acz _ | with_unfolding_all rfl):PTC X (.Compare a [.NotIn] [b] pos) (ZM (opC (ajw true) Ta Tb)):=by
 with_unfolding_all
  exact PT.imp (apP (akb hu ha hb) hm) fun σ H Q h=>aea (r:=fun x y H Q=>∃ad ov,y= .ref ad/\aa6 H ad x ov/\Q (.bl (!ov.isSome)) H) (fun p q d x y H Q h rx ry k=>aqF (neg:=true) h rx ry k) (apu h)
theorem aqG(ha:PEC X a Ta)(hb:PEC X b Tb)(hs:aeL b:=by intro _ _;rfl):PEC X (.Subscript a b pos) (opC dIx Ta Tb):=by
 with_unfolding_all
  obtain⟨r,h1,h2⟩:=ixd (X:=X);exact PE.imp (apm h1 ha hb hs) fun σ H Q h=>aea h2 h
noncomputable def asV(ga:PyData->Rho->Option Rho)(d:PyData):TRS:=fun ρ μ R=>∃ρ',ga d ρ=some ρ'/\R (.nx ρ') μ
theorem aoH{tg:Expr}{ga:PyData->Rho->Option Rho}(he:PEC X e Ta)(hg:PGD X tg ga)(hs:swapsWithSole [tg] e pos.line X.env=pure false:=by rfl)(hw:swappedStores [tg] e X.env=pure none:=by rfl)
  (h1:(assignEach [tg] X.env).map (·.2)=[assign tg X.env]:=by rfl):PSC X (.Assign [tg] e pos) (qB Ta (asV ga)):=by
 with_unfolding_all
  exact PS.imp (acx he hg hs hw h1) fun D σ H h=>(AtS.bind h).imp fun d H1 _ ⟨s1,ρ,μ,R,en,cs,⟨ρ',hg',hR⟩,k⟩ v rv=>⟨ρ,d,ρ',en,rv,hg',fun σ' H' s' e'=>k _ _ hR σ' H' (jp.a s') e' (cs.mono s')⟩
theorem akz:OpR X (compareOp .LtE) (fun x y H Q=>∃i j,x= .str i/\y= .str j/\Q (.bl (!decide (j.cps.toList<i.cps.toList))) H):=by
 intro Kp s σ H x y v u Q I rx ry h;obtain⟨i,j,rfl,rfl,q⟩:=h;obtain⟨t,rfl⟩:=rx;obtain⟨t',rfl⟩:=ry;exact PySem.P.le_str (alm I q rfl)
noncomputable def ar2:PyData->PyData->OP
 |.str i,.str j=>some (.bool (!decide (j.cps.toList<i.cps.toList)))
 |_,_=>none
theorem ajy:OpD X (compareOp .LtE) ar2:=by
 refine⟨_,akz,fun p q d x y H Q h rx ry k=>?_⟩;unfold ar2 at h;split at h
 ·cases h;cases (show x=_ from rx);cases (show y=_ from ry)
  exact⟨_,_,rfl,rfl,k _ H (jp.refl H) rfl⟩
 ·cases h
end
section
variable {X:Cx}{e o:Expr}{es:List Expr}{To:TR PyData}{Tr:TR (LP)}{pos apos:Pos}{x m:Str}
end
section
variable {X:Cx}{e a b c o:Expr}{pos p2:Pos}{Ta Tb To:TR PyData}
end
section
variable {X:Cx}{e1 e2:Expr}{fa fb:RP}{pos:Pos}
end
section
variable {X:Cx}{e a b c tg src:Expr}{Ta Tb:TR PyData}{fa:RP}{pos:Pos}{x:Str}
noncomputable abbrev dcD(r:List (PyData×PyData)):PyData:= .dict ((.none,.none)::r)
noncomputable def ar3:TR PyData:=fun _ μ R=>∀a,μ a=none->R (.ok (jV a)) (zQ μ a (.dct []))
theorem amp:PEC X (.Dict [] [] pos) ar3:=by
 with_unfolding_all
  intro Kp s σ H Q I ⟨ρ,μ,R,en,cs,hR,kk⟩;refine thn (agm Kp s σ H (fun v H2=>∃a,v= .ref a/\H a=none/\H2=upd H a (.dK [])) I (fun l hl=>⟨l,rfl,hl,rfl⟩)) fun u s1 ⟨v,H2,I2,r,l,e1,e2,e3⟩=>?_;subst e1;have e4:H2 l=some (.dK []):=by rw[e3];exact jn
  obtain⟨ob,I3⟩:=Inv.sealedD I2 e4;rw[e3,qE]at I3;have sm:jp H (upd H l (zv X.prog X.w l ob [])):=jC e2;have k1:=(kk (.ok (jV l)) _ (hR l (cs.free e2)):JI X H (fun d H'=>∀v,Rep X.K H' d v->Q v H') (.ok (jV l)) _);exact⟨.ref l,_,I3,r,k1 _ (jp.a sm) (cs.put (jp.a sm) (fun b _ o q=>sm b o q) ⟨ob,[],jn,rfl⟩) (.ref l) (Rep.cel l)⟩
noncomputable def apz(a:Addr)(d kd:PyData):TRS:=fun ρ μ R=>∃r n,μ a=some (.dct r)/\kd= .str n/\r.length<1000000/\R (.nx ρ) (zQ μ a (.dct (acR r (Sum.inr n) d)))
noncomputable def apA(i:Nat)(Tb:TR PyData)(d:PyData):TRS:=fun ρ μ R=>∃a,lkp i ρ=some (jV a)/\qB Tb (apz a d) ρ μ R
theorem amq(i:Nat){p1 p2:Pos}(hu:X.A.units+1<cLine)(hk:PEC X b Tb)(he:PEC X e Ta)(hN:X.N[i]?=some x:=by rfl)(hv:Vis X.env.scope x:=by first|exact Or.inl rfl|exact Or.inr (Or.inl rfl)|exact Or.inr (Or.inr rfl))
  (hd:(x==("__debug__":Str))=false:=by decide) (hcd:(x==("__classdict__":Str))=false:=by decide)
  (ha:∀v,assign (.Subscript (.Name x p1) b p2) X.env v=(do
   let ov ←holding [v] (eval (.Name x p1) X.env)
   let iv ←holding [v,ov] (eval b X.env)
   standAt p2
   holding [v,ov,iv] (setItem ov iv v)
   release [v,ov,iv] []):=by intro _; rfl)
  (hs:swapsWithSole [.Subscript (.Name x p1) b p2] e pos.line X.env=pure false:=by rfl) (hw:swappedStores [.Subscript (.Name x p1) b p2] e X.env=pure none:=by rfl)
  (h1:(assignEach [.Subscript (.Name x p1) b p2] X.env).map (·.2)=[assign (.Subscript (.Name x p1) b p2) X.env]:=by rfl):PSC X (.Assign [.Subscript (.Name x p1) b p2] e pos) (qB Ta (apA i Tb)):=by
 with_unfolding_all
  refine PS.imp (acx he (ahr (QC hN hv hd hcd) hk (aee hu) ha) hs hw h1) fun D σ H h=>(AtS.bind h).imp fun d H1 _ ⟨s1,ρ,μ,R,en,cs,⟨l,hl,t⟩,k⟩ v rv=>?_;obtain⟨y,g1,g2⟩:=en.at' i _ (qJ hl);cases Rep.celOut g2;refine⟨.ref l,g1,(AtS.bind (show AtS X σ H1 (qB Tb (apz l d)) D from⟨ρ,μ,R,en,cs,t,k⟩)).imp fun kd H2 _ ⟨s2,ρ2,μ2,R2,en2,cs2,⟨r,n,hm,hkd,hr,hR⟩,k2⟩ kv rk=>?_⟩;subst hkd;cases (show kv=V.str n from rk);obtain⟨ob,ks,e2,e3⟩:=cs2 l _ hm;refine⟨l,ks,ob,n,rfl,rfl,e2,by rw[e3.length];exact QL hr,fun ob'=>?_⟩;have sA:jy H2 (upd H2 l (zv X.prog X.w l ob' (putK ks (Sum.inr n) v))):=jy.upd e2 rfl;exact(k2 (.nx ρ2) _ hR:JX X H2 D (.nx ρ2) _) σ _ sA (en2.monoA sA) (cs2.upd sA ⟨ob',_,jn,RepM.putK (Sum.inr n) (Rep.monoA (s2.trans sA) _ _ rv) (RepM.monoA sA _ _ e3)⟩)
theorem akA{H:Hp}{ρ:Rho}{σ:St}{i:Nat}{l:Addr}{ob:Obj}{r:List (PyData×PyData)}{ks:List (Key×V)}(en:EnvR X.K H ρ σ)(hi:lkp i ρ=some (jV l))(h:H l=some (zv X.prog X.w l ob ks))(rs:RepM X.K H r ks):EnvR X.K (upd H l (.frz ob (.dK ks))) (ρ.set i (some (dcD r))) σ:=by
 have sA:jy H (upd H l (.frz ob (.dK ks))):=jy.upd h rfl;have hi':=qJ hi;have hl:i < ρ.length:=(List.getElem?_eq_some_iff.mp hi').1;refine⟨by rw[List.length_set];exact en.len,fun j d q=>?_⟩;by_cases hj:i=j
 ·subst hj
  rw[List.getElem?_set_self hl]at q;cases q;obtain⟨v,h1,h2⟩:=en.at' i _ hi';cases Rep.celOut h2;exact⟨_,h1,l,rfl,.inr (.inl ⟨ks,ob,jn,RepM.monoA sA _ _ rs⟩)⟩
 ·rw[List.getElem?_set_ne hj]at q
  exact(en.monoA sA).at' j d q
theorem amr{H H3:Hp}{l:Addr}{ob:Obj}{ks:List (Key×V)}{o:HO}(h:H l=some (zv X.prog X.w l ob ks))(s:jp (upd H l o) H3):jy H (upd H3 l (zv X.prog X.w l ob ks))/\∀b,b≠l->∀u,H b=some u->upd H3 l (zv X.prog X.w l ob ks) b=some u:=
 have k:∀b,b≠l->∀u,H b=some u->upd H3 l (zv X.prog X.w l ob ks) b=some u:=fun b hb u q=>by rw[js hb];exact s b u (by rw[js hb];exact q)
 ⟨fun b u q d=>k b (fun z=>by subst z;rw[h]at q;cases q;cases d) u q,k⟩
theorem agS{H H3:Hp}{μ:jD}{l:Addr}{ob:Obj}{ks:List (Key×V)}{o:HO}(cs:j8 X.prog X.w X.K H μ)(h:H l=some (zv X.prog X.w l ob ks))(s:jp (upd H l o) H3):j8 X.prog X.w X.K (upd H3 l (zv X.prog X.w l ob ks)) μ:=fun b c q=>by
 obtain⟨sA,k⟩:=amr h s;by_cases hb:b=l
 ·subst hb
  exact(cs b c q).to sA (by rw[jn,h])
 ·obtain⟨u,h1,_⟩:=(cs b c q).there
  exact(cs b c q).to sA ((k b hb u h1).trans h1.symm)
noncomputable def akB(i:Nat)(f:RP):TR PyData:=fun ρ μ R=>∃a r d,lkp i ρ=some (jV a)/\μ a=some (.dct r)/\f (ρ.set i (some (dcD r)))=some d/\noD d=true/\R (.ok d) μ
theorem JK(i:Nat)(h:PD X e fa):PEC X e (akB i fa):=by
 with_unfolding_all
  intro Kp s σ H Q I ⟨ρ,μ,R,en,cs,⟨l,r,d,hi,hm,hf,hn,hR⟩,kk⟩;obtain⟨ob,ks,h1,rs⟩:=cs l _ hm;refine thn (h Kp s σ (upd H l (.frz ob (.dK ks))) (fun v H3=>jp (upd H l (.frz ob (.dK ks))) H3/\Rep X.K H3 d v) (Inv.opened I (.d ob ks) h1) ⟨_,d,akA en hi h1 rs,hf,fun v H3 s3 r3=>⟨s3,r3⟩⟩) fun u s1 ⟨v,H3,I3,r0,s3,r3⟩=>?_;have e3:H3 l=some (.frz ob (.dK ks)):=s3 _ _ jn;have k1:=(kk (.ok d) _ hR:JI X H (fun d H'=>∀v,Rep X.K H' d v->Q v H') (.ok d) _);refine⟨v,upd H3 l (zv X.prog X.w l ob ks),Inv.closed I3 (.d ob ks) e3 (Inv.nofrz I h1),r0,k1 _ (amr h1 s3).1 (agS cs h1 s3) v (Rep.monoM (fun b u hb m=>?_) d v hn r3)⟩;have:b≠l:=fun z=>by subst z;rw[e3]at hb;cases hb;exact m _ _ rfl
  rw[js this];exact hb
theorem aoI(h:PEC X src Ta):PIC X tg src (bindC Ta fun d=>qj (Q6 d)):=by
 with_unfolding_all
  refine PI.imp (aiX h) fun σ H R h=>(AtC.bind h).imp fun d H1 _ ⟨s1,h1⟩ v rv=>?_;obtain⟨ds,q',k⟩:=h1.ret;cases d with
  | list es=>
   cases q';obtain⟨a,xs,e1,e2,e3⟩:=rv;refine⟨a,e1,⟨xs,SqL.of e2⟩,k H1 (jp.refl _) _ fun i H2 s2=>⟨fun hi=>?_,fun hi=>?_,fun x H' y=>?_⟩⟩
   ·exact⟨xs,xs[i]'(by rw[e3.length];exact hi),SqL.of (s2 _ _ e2 rfl),by simp[e3.length,hi]⟩
   ·exact⟨xs,SqL.of (s2 _ _ e2 rfl),by rw[e3.length];exact hi⟩
   ·obtain⟨z1,z2⟩:=y
    subst z1;refine⟨jp.refl _,fun d hd=>?_⟩;obtain⟨y,e4,e5⟩:=(Reps.monoA s2 _ _ e3).get hd;have:=z2 xs (SqL.of (s2 _ _ e2 rfl));rw[e4]at this;cases this;exact e5
  |_=>cases q'
end
end BX
end
section
namespace Rods
open PySem L2 BX
open PyProof.Rows hiding St
noncomputable def top(i:Nat):Stmt:=PySem.Challenge.pw_beadrods_k71_whole_benches.main.body.getD i (.Pass ⟨0,0,0,0⟩)
structure Bare(mg:SV):Prop where
 isi:mg "isinstance"=none
 bool:mg "bool"=none
 int:mg "int"=none
 tuple:mg "tuple"=none
 zip:mg "zip"=none
 range:mg "range"=none
 all:mg "all"=none
 len:mg "len"=none
 max:mg "max"=none
 min:mg "min"=none
 sum:mg "sum"=none
 sorted:mg "sorted"=none
 abs:mg "abs"=none
 list:mg "list"=none
 enum:mg "enumerate"=none
 vale:mg "ValueError"=none
 str:mg "str"=none
 set:mg "set"=none
 dict:mg "dict"=none
theorem afd:bootBuiltins "bool"=some (.type "bool"):=by decide +kernel
theorem aib:bootBuiltins "int"=some (.type "int"):=by decide +kernel
theorem JL:bootBuiltins "tuple"=some (.type "tuple"):=by decide +kernel
theorem aoJ:bootBuiltins "list"=some (.type "list"):=by decide +kernel
theorem aqH:bootBuiltins "str"=some (.type "str"):=by decide +kernel
theorem aoK:bootBuiltins "dict"=some (.type "dict"):=by decide +kernel
theorem aic:bootBuiltins "all"=some (.builtin "all"):=by decide +kernel
theorem qN:bootBuiltins "len"=some (.builtin "len"):=by decide +kernel
theorem alQ:bootBuiltins "max"=some (.builtin "max"):=by decide +kernel
theorem aeW:bootBuiltins "min"=some (.builtin "min"):=by decide +kernel
theorem aqI:bootBuiltins "sum"=some (.builtin "sum"):=by decide +kernel
theorem Jz:bootBuiltins "sorted"=some (.builtin "sorted"):=by decide +kernel
noncomputable abbrev aat:Stmt:=top 10
noncomputable abbrev Zs:Stmt:=top 19
noncomputable abbrev aau:Stmt:=top 18
noncomputable abbrev afe:Stmt:=top 21
noncomputable abbrev qV(C:Program->World->Fg->(SV)->Heap->Prop)(qual:Str)(st:Stmt)(N:List Str)(k:Nat)(B:RO):Prop:=
 ∀(P:Program) (w:World) (K:Fg) (mg:SV) (base:Heap) (f:Addr) (Kc:Value) (A:Around) (Ko:List Env) (s:Shared) (H:Hp) (E:XK),C P w K mg base->Room k (A.deeper (envOfC qual (jf st) s.heap.objs.size f Kc))->
  abU (Jl CX0 P w K mg base N qual (jf st) f Kc A Ko s H E).nox (jQ st) B
theorem aid:FnScope ["thing","least","most"] ["thing","least","most"] (jf aat):=⟨rfl,rfl,rfl,by decide +kernel,rfl,by decide +kernel,by decide +kernel⟩
noncomputable def aav:{ B:RO // qV (fun _ _ _ mg _=>Bare mg) "is_whole" aat ["thing","least","most"] 0 B }:=
 ⟨_,fun P w K mg base f Kc A Ko s H E T hr=>
  jd (qh (zj (Jm (jZ (Qh (.inl rfl) T.isi T.bool afd (ja 0))) (zZ (jW (jZ (Qh (.inr (.inl rfl)) T.isi T.int aib (ja 0))))))) (jd (jw zL) jh) jh)
  (jd (jw (agr QI QI (ja 1) (ja 0) (ja 2))) jh)⟩
noncomputable def jS:LP->OP:=jE ["thing","least","most"] 3 aav.1
theorem agT:FnScope ["manner","rod"] ["manner","rod"] (jf Zs):=⟨rfl,rfl,rfl,by decide +kernel,rfl,by decide +kernel,by decide +kernel⟩
noncomputable def abi:{ B:RO // qV (fun _ _ _ _ _=>True) "rod_worth" Zs ["manner","rod"] 0 B }:=
 ⟨_,fun P w K mg base f Kc A Ko s H E T hr=>
  jd (jw (jt jz (jt qQ (jN (ja 1) jg) (jN (ja 0) jg)) (jN (ja 1) jg))) jh⟩
noncomputable def zz:LP->OP:=jE ["manner","rod"] 2 abi.1
theorem ams:FnScope ["rod"] ["rod"] (jf afe):=⟨rfl,rfl,rfl,by decide +kernel,rfl,by decide +kernel,by decide +kernel⟩
noncomputable def aie:{ B:RO // qV (fun _ _ _ _ _=>True) "beads" afe ["rod"] 0 B }:=
 ⟨_,fun P w K mg base f Kc A Ko s H E T hr=>jd (jw (jt jz (jN (ja 0) jg) (jN (ja 0) jg))) jh⟩
noncomputable def qO:LP->OP:=jE ["rod"] 1 aie.1
noncomputable def qW(i:Nat)(m:Nat):LP:=(List.range m).map fun (j:Nat)=>PyData.tuple [.int (i:Int),.int (j:Int)]
noncomputable def zA(n m:Nat):LP:=(List.range n).flatMap fun (i:Nat)=>qW i m
theorem agU(i m:Nat):qW i (m+1)=qW i m++[PyData.tuple [.int (i:Int),.int (m:Int)]]:=by simp[qW,List.range_succ]
theorem QP(n m:Nat):zA (n+1) m=zA n m++qW n m:=by simp[zA,List.range_succ]
theorem agV(i m:Nat):noLs (qW i m)=true:=agu fun d hd=>by
 obtain⟨j,_,rfl⟩:=List.mem_map.mp hd;simp[noL,noLs]
theorem akC(n m:Nat):noLs (zA n m)=true:=by
 induction n with
 |zero=>simp[zA,noLs]
 |succ n ih=>rw[QP,Q9,ih,agV];rfl
theorem aff(i m:Nat):(qW i m).length=m:=by simp[qW]
theorem aaw(n m:Nat):(zA n m).length=n*m:=by
 induction n with
 |zero=>simp[zA]
 |succ n ih=>rw[QP,List.length_append,ih,aff,Nat.succ_mul]
noncomputable def JM(ds:LP):OP:=match ds with
 | [.tuple [.int u,.int _,.int l,.int _]]=>if 0<=u/\u<1000/\0<=l/\l<1000 then some (.list (zA (u+1).toNat (l+1).toNat)) else none
 |_=>none
theorem QQ:FnScope ["manner","rods","upper","lower"] ["manner"] (jf aau):=⟨rfl,rfl,rfl,by decide +kernel,rfl,by decide +kernel,by decide +kernel⟩
section
variable {P:Program}{w:World}{K:Fg}{mg:SV}{base:Heap}
theorem aif{f:Addr}{fd:FuncData}(F:Fun K "all_rods" "all_rods" aau f fd)(T:Bare mg):FnOk P w K mg base CX0 1 f fd ["manner"] (Pur K 1 JM):=by
 with_unfolding_all
  refine F.ok QQ (fun vs H Q E h=>?_) (fun Kc A Ko s H vs Q E hr h=>?_)
  ·obtain⟨ds,d,h1,h2,_⟩:=h
   rw[h2.length];exact h1
  ·obtain⟨ds,d,h1,h2,h3,k⟩:=h
   unfold JM at h3;split at h3
   ·rename_i u e l b
    split at h3
    ·rename_i hb
     obtain⟨hu0,hu1,hl0,hl1⟩:=hb;cases h3
     refine⟨_,Je (aa0 (i:=1) QQ.nd rfl (Or.inl rfl) (ahB Jk))
      (Je (acy PassesOwn.never rfl (aa1 rfl T.range (jb (jt jz (jN (ja 0) jg) jg) je)) (aeG (i:=2) QQ.nd rfl (Or.inl rfl))
       (aeE (acy PassesOwn.never rfl (aa1 rfl T.range (jb (jt jz (jN (ja 0) jg) jg) je)) (aeG (i:=3) QQ.nd rfl (Or.inl rfl))
        (aeE (abX (apn PySem.F.plainAttrs_list PySem.F.slot_list_append PySem.F.type_list_append adY (pv 1) (qG (ahA (qG (pv 2) (qG (pv 3) Jk))) Jk)))))))
      (aeE (aeF (pv 1)))),?_⟩
     obtain⟨mv,rr,e1,em,e2⟩:=h2;cases (show rr=[] from e2);subst e1;have nm:noL (PyData.tuple [.int u,.int e,.int l,.int b])=true:=by simp[noL,noLs]
     refine⟨Nat.zero_le _,fun p hp=>?_⟩
     have envr:∀{H2:Hp} {x2 x3:Option V} {y:Option V},jp H H2->EnvR K H2 [some (PyData.tuple [.int u,.int e,.int l,.int b]),none,none,none] [some mv,y,x2,x3]:=fun {H2 x2 x3 y} s2=>
      ⟨rfl,fun i d q=>by
       cases i with
       | zero=>cases q; exact ⟨mv,rfl,Rep.mono s2 _ _ em⟩
       | succ i=>
        match i,q with
        | 0,q=>cases q
        | 1,q=>cases q
        | 2,q=>cases q
        | j+3,q=>simp at q⟩
     refine⟨_,[.int (u+1)],envr (jC hp),by simp[jr,jF,op2,lkp,dIx,atI,ixN,cst,qS],fun vs1 H1 s1 r1=>?_⟩;obtain⟨y1,q1,f1,f2,f3⟩:=r1;cases (show y1=V.int (u+1) from f2);cases (show q1=[] from f3);subst f1
     refine⟨u+1,rfl,by omega,by omega,adR (n:=(u+1).toNat) (fun i σ H2=>∃x2 x3 xs,σ=[some mv,some (.ref p),x2,x3]/\jp H H2/\H2 p=some (.lst xs)/\Reps K H2 (zA i (l+1).toNat) xs)
      ⟨none,none,[],rfl,(jC hp).trans s1,s1 _ _ jn,rfl⟩ ?_ ?_⟩
     ·rintro i σ H2 hi ⟨x2,x3,xs,rfl,s2,hp2,r2⟩
      refine⟨_,[.int (l+1)],envr s2,by simp[jr,jF,op2,lkp,dIx,atI,ixN,cst,qS],fun vs2 H3 s3 r3=>?_⟩;obtain⟨y2,q2,g1,g2,g3⟩:=r3;cases (show y2=V.int (l+1) from g2);cases (show q2=[] from g3);subst g1
      refine⟨l+1,rfl,by omega,by omega,adR (n:=(l+1).toNat) (fun j σ H4=>∃x3 ys,σ=[some mv,some (.ref p),some (.int (0+i)),x3]/\jp H H4/\H4 p=some (.lst ys)/\Reps K H4 (zA i (l+1).toNat++qW i j) ys)
       ⟨x3,xs,rfl,s2.trans s3,s3 _ _ hp2,by simpa [qW] using Reps.mono s3 _ _ r2⟩ ?_ ?_⟩
      ·rintro j σ H4 hj ⟨x3',ys,rfl,s4,hp4,r4⟩
       have hlen:ys.length<sizeLine:=by
        rw[r4.length,List.length_append,aaw,aff,sizeLine_eq];have h1:i*(l+1).toNat<=1000*1001:=Nat.mul_le_mul (by omega) (by omega);omega
       refine⟨_,rfl,.inl ⟨rfl,ys,SqL.of hp4⟩,_,rfl,_,rfl,by show 2<=sizeLine;rw[sizeLine_eq];decide,fun q hq=>?_⟩;have npq:p≠q:=qF hp4 hq;refine⟨p,ys,.ref q,rfl,rfl,by rw[js npq];exact hp4,hlen,?_⟩
       have t1:Jf H4 (upd (upd H4 q (.tup [.int (0+(i:Int)),.int (0+(j:Int))])) p (.lst (ys++[.ref q]))):=
        (jp.n (jC hq)).trans (Jf.upd (xs:=ys) (by rw[js npq];exact hp4))
       refine⟨_,ys++[.ref q],rfl,fun c o hc=>?_,jn,?_⟩
       ·have hc4:=s4 c o hc
        rw[js (qF hc hp),js (qF hc4 hq)];exact hc4
       ·rw[agU,←List.append_assoc]
        refine(Reps.monoN t1 _ _ (by rw[Q9,akC,agV];rfl) r4).append ⟨.ref q,[],rfl,⟨q,_,rfl,SqT.of (by rw[js (Ne.symm npq)];exact jn),?_⟩,rfl⟩;exact⟨_,_,rfl,by show _=V.int _;rw[Int.zero_add],_,_,rfl,by show _=V.int _;rw[Int.zero_add],rfl⟩
      ·rintro σ H4 ⟨x3',ys,rfl,s4,hp4,r4⟩
       exact⟨_,x3',ys,rfl,s4,hp4,by rw[QP];exact r4⟩
     ·rintro σ H2 ⟨x2,x3,xs,rfl,s2,hp2,r2⟩
      exact⟨_,rfl,k _ _ s2 ⟨p,xs,rfl,hp2,r2⟩⟩
    ·cases h3
   ·cases h3
end
noncomputable abbrev Zt:Stmt:=top 15
noncomputable abbrev Zu:Stmt:=top 14
noncomputable abbrev CC:=Program->World->Fg->(SV)->Heap->Prop
structure CHasAll(P:Program)(w:World)(K:Fg)(mg:SV)(base:Heap):Prop where
 t:Bare mg
 allRods:jj P w K mg base "all_rods" ["manner"] 1 1 JM
 rodWorth:jj P w K mg base "rod_worth" ["manner","rod"] 1 2 zz
theorem aef:FnScope ["manner","worths"] ["manner"] (jf Zt):=⟨rfl,rfl,rfl,by decide +kernel,rfl,by decide +kernel,by decide +kernel⟩
theorem nd2:(["rod","manner"]:List Str).Nodup:=by decide +kernel
theorem nd3:(["digit","worths"]:List Str).Nodup:=by decide +kernel
noncomputable def afg:{ B:RO // qV CHasAll "has_all_digits" Zt ["manner","worths"] 1 B }:=
 ⟨_,fun P w K mg base f Kc A Ko s H E C hr=>
  jd (jR 1 aef.nd (JU ["rod","manner"] [none,some 0] rfl (aaf (jl C.allRods hr (Nat.le_refl _) (jb (ja 0) je) (jc jm))) (Ja (jf Zt) ["manner","worths"] (by decide +kernel))
   fun cl C' s0 H0 fp pn=>⟨jK 0 nd2,JD,jl C.rodWorth hr (Nat.le_refl _) (jb (ja 1) (jb (ja 0) je)) (jc (jc jm))⟩))
  (jd (jw (jI (ahN rfl) C.t.all aic (jb (JU ["digit","worths"] [none,some 1] rfl (zP rfl C.t.range (jb (jN (ja 0) jg) je)) (Ja (jf Zt) ["manner","worths"] (by decide +kernel))
   fun cl C' s0 H0 fp pn=>⟨jK 0 nd3,JD,ahH (aql hr.units) (ja 0) (ja 1)⟩) je))) jh)⟩
noncomputable abbrev ac5:Stmt:=top 16
noncomputable abbrev Qw:Stmt:=top 20
noncomputable abbrev ab4:Stmt:=top 22
noncomputable def GC(K:Fg)(mg:SV)(x:Str)(d:PyData):Prop:=∃v u,mg x=some u/\jT v u/\∀H,Rep K H d v
theorem ZR{X:Cx}{pos:Pos}{x:Str}{d:PyData}(c:GC X.K X.mg x d)(hg:Gl X x:=by rfl)(hd:(x==("__debug__":Str))=false:=by decide):PD X (.Name x pos) (cst d):=by
 with_unfolding_all
  obtain⟨v,u,h1,h2,h3⟩:=c;exact an1 hg h1 h2 h3 hd
noncomputable def aax:LP->OP:=jE ["manner","worths"] 1 afg.1
structure CIsManner(P:Program)(w:World)(K:Fg)(mg:SV)(base:Heap):Prop where
 t:Bare mg
 least:GC K mg "LEAST_PARTS" (.tuple [.int 0,.int 1,.int 0,.int 2])
 most:GC K mg "MOST_PARTS" (.tuple [.int 3,.int 16,.int 12,.int 16])
 isWhole:jj P w K mg base "is_whole" ["thing","least","most"] 1 3 jS
 hasAll:jj P w K mg base "has_all_digits" ["manner"] 2 1 aax
theorem JZ:FnScope ["thing","part","least","most"] ["thing"] (jf Zu):=⟨rfl,rfl,rfl,by decide +kernel,rfl,by decide +kernel,by decide +kernel⟩
noncomputable def abj:{ B:RO // qV CIsManner "is_manner" Zu ["thing","part","least","most"] 2 B }:=
 ⟨_,fun P w K mg base f Kc A Ko s H E C hr=>
  jd (qh (zj (Jm (jW (jZ (Qh (.inr (.inr rfl)) C.t.isi C.t.tuple JL (ja 0)))) (zZ (j7 (zq hr.units) (jI qT C.t.len qN (jb (ja 0) je)) (jI qT C.t.len qN (jb (ZR C.most) je)))))) (jd (jw zL) jh) jh)
  (jd (QG PassesOwn.never rfl (alM C.t.zip (jb (ja 0) (jb (ZR C.least) (jb (ZR C.most) je)))) (abY (n:=3) rfl (qA (jK 1 JZ.nd) (qA (jK 2 JZ.nd) (qA (jK 3 JZ.nd) aae))))
   (jd (qh (jW (jZ (jl C.isWhole hr (by decide) (jb (ja 1) (jb (ja 2) (jb (ja 3) je))) (jc (jc (jc jm)))))) (jd (jw zL) jh) jh) jh))
  (jd (jw (jl C.hasAll hr (Nat.le_refl _) (jb (ja 0) je) (jc jm))) jh))⟩
noncomputable def qM:LP->OP:=jE ["thing","part","least","most"] 1 abj.1
structure CCheck(P:Program)(w:World)(K:Fg)(mg:SV)(base:Heap):Prop where
 isManner:jj P w K mg base "is_manner" ["thing"] 3 1 qM
theorem agW:FnScope ["thing"] ["thing"] (jf ac5):=⟨rfl,rfl,rfl,by decide +kernel,rfl,by decide +kernel,by decide +kernel⟩
noncomputable def aig:{ B:RO // qV CCheck "check_manner" ac5 ["thing"] 3 B }:=
 ⟨_,fun P w K mg base f Kc A Ko s H E C hr=>
  jd (qh (jW (jZ (jl C.isManner hr (Nat.le_refl _) (jb (ja 0) je) (jc jm)))) zO jh) jh⟩
noncomputable def Z4:LP->OP:=jE ["thing"] 1 aig.1
structure CRodsWith(P:Program)(w:World)(K:Fg)(mg:SV)(base:Heap):Prop where
 allRods:jj P w K mg base "all_rods" ["manner"] 1 1 JM
 rodWorth:jj P w K mg base "rod_worth" ["manner","rod"] 1 2 zz
theorem agX:FnScope ["manner","worth"] ["manner","worth"] (jf Qw):=⟨rfl,rfl,rfl,by decide +kernel,rfl,by decide +kernel,by decide +kernel⟩
theorem nd4:(["rod","manner","worth"]:List Str).Nodup:=by decide +kernel
noncomputable def abk:{ B:RO // qV CRodsWith "rods_with" Qw ["manner","worth"] 1 B }:=
 ⟨_,fun P w K mg base f Kc A Ko s H E C hr=>
  jd (jw (JU ["rod","manner","worth"] [none,some 0,some 1] rfl (aaf (jl C.allRods hr (Nat.le_refl _) (jb (ja 0) je) (jc jm))) (Ja (jf Qw) ["manner","worth"] (by decide +kernel))
   fun cl C' s0 H0 fp pn=>⟨jK 0 nd4,acJ (j7 (Q7 hr.units) (jl C.rodWorth hr (Nat.le_refl _) (jb (ja 1) (jb (ja 0) je)) (jc (jc jm))) (ja 2)),ja 0⟩)) jh⟩
noncomputable def Zv:LP->OP:=jE ["manner","worth"] 2 abk.1
structure CFewest(P:Program)(w:World)(K:Fg)(mg:SV)(base:Heap):Prop where
 t:Bare mg
 rodsWith:jj P w K mg base "rods_with" ["manner","worth"] 2 2 Zv
 beads:jj P w K mg base "beads" ["rod"] 1 1 qO
theorem akD:FnScope ["manner","worth"] ["manner","worth"] (jf ab4):=⟨rfl,rfl,rfl,by decide +kernel,rfl,by decide +kernel,by decide +kernel⟩
noncomputable def ab5:{ B:RO // qV CFewest "fewest_beads" ab4 ["manner","worth"] 2 B }:=
 ⟨_,fun P w K mg base f Kc A Ko s H E C hr=>
  jd (jw (alR rfl C.beads hr (Nat.le_refl _) C.t.min (jl C.rodsWith hr (by decide) (jb (ja 0) (jb (ja 1) je)) (jc (jc jm))))) jh⟩
noncomputable def J1:LP->OP:=jE ["manner","worth"] 2 ab5.1
noncomputable abbrev JN:Stmt:=top 28
noncomputable abbrev zF:Stmt:=top 29
noncomputable abbrev Jh:Stmt:=top 30
noncomputable abbrev JA:Stmt:=top 31
noncomputable abbrev aeg(C:CC)(qual:Str)(st:Stmt)(N:List Str)(k:Nat)(sts:List Stmt)(B:RO):Prop:=
 ∀(P:Program) (w:World) (K:Fg) (mg:SV) (base:Heap) (f:Addr) (Kc:Value) (A:Around) (Ko:List Env) (s:Shared) (H:Hp) (E:XK),C P w K mg base->Room k (A.deeper (envOfC qual (jf st) s.heap.objs.size f Kc))->
  abU (Jl CX0 P w K mg base N qual (jf st) f Kc A Ko s H E).nox sts B
noncomputable abbrev ar4(own:Nat)(C:CC)(qual:Str)(st:Stmt)(N:List Str)(k:Nat)(sts:List Stmt)(B:RO):Prop:=
 ∀(P:Program) (w:World) (K:Fg) (mg:SV) (base:Heap) (f:Addr) (Kc:Value) (A:Around) (Ko:List Env) (s:Shared) (H:Hp) (E:XK),C P w K mg base->Room k (A.deeper (envOfC qual (jf st) s.heap.objs.size f Kc))->
  ae0 (Jl CX0 P w K mg base N qual (jf st) f Kc A Ko s H E).nox (some own) sts B
noncomputable def Js:Stmt->List Stmt
 |.For _ _ b _ _=>b
 |_=>[]
noncomputable def adK(l:List Stmt)(i:Nat):Stmt:=l.getD i (.Pass ⟨0,0,0,0⟩)
structure CNum(P:Program)(w:World)(K:Fg)(mg:SV)(base:Heap):Prop where
 rodWorth:jj P w K mg base "rod_worth" ["manner","rod"] 1 2 zz
noncomputable abbrev aoL:List Str:=["manner","setting","number","rod"]
theorem afh:FnScope aoL ["manner","setting"] (jf JA):=⟨rfl,rfl,rfl,by decide +kernel,rfl,by decide +kernel,by decide +kernel⟩
noncomputable def afi:{ B:RO // aeg CNum "number_on" JA aoL 1 (Js (adK (jQ JA) 1)) B }:=
 ⟨_,fun P w K mg base f Kc A Ko s H E C hr=>
  jd (jR 2 afh.nd (jt jz (jt qQ (ja 2) (jN (ja 0) jg)) (jl C.rodWorth hr (Nat.le_refl _) (jb (ja 0) (jb (ja 3) je)) (jc (jc jm))))) jh⟩
noncomputable def aoM:{ B:RO // qV CNum "number_on" JA aoL 1 B }:=
 ⟨_,fun P w K mg base f Kc A Ko s H E C hr=>
  jd (jR 2 afh.nd jg) (jd (QG PassesOwn.never rfl (aeR (ja 1)) (jK 3 afh.nd) (afi.2 P w K mg base f Kc A Ko s H E C hr)) (jd (jw (ja 2)) jh))⟩
noncomputable def zS:LP->OP:=jE aoL 2 aoM.1
structure CChkRods(P:Program)(w:World)(K:Fg)(mg:SV)(base:Heap):Prop where
 isWhole:jj P w K mg base "is_whole" ["thing","least","most"] 1 3 jS
 most:GC K mg "MOST_RODS" (.int 4)
theorem ac6:FnScope ["rods"] ["rods"] (jf JN):=⟨rfl,rfl,rfl,by decide +kernel,rfl,by decide +kernel,by decide +kernel⟩
noncomputable def aay:{ B:RO // qV CChkRods "check_rods" JN ["rods"] 1 B }:=
 ⟨_,fun P w K mg base f Kc A Ko s H E C hr=>
  jd (qh (jW (jZ (jl C.isWhole hr (Nat.le_refl _) (jb (ja 0) (jb jg (jb (ZR C.most) je))) (jc (jc (jc jm)))))) zO jh) jh⟩
noncomputable def Ji:LP->OP:=jE ["rods"] 1 aay.1
structure CChkNum(P:Program)(w:World)(K:Fg)(mg:SV)(base:Heap):Prop where
 isWhole:jj P w K mg base "is_whole" ["thing","least","most"] 1 3 jS
 most:GC K mg "MOST_NUMBER" (.int 99999)
theorem aeh:FnScope ["number"] ["number"] (jf zF):=⟨rfl,rfl,rfl,by decide +kernel,rfl,by decide +kernel,by decide +kernel⟩
noncomputable def ab6:{ B:RO // qV CChkNum "check_number" zF ["number"] 1 B }:=
 ⟨_,fun P w K mg base f Kc A Ko s H E C hr=>
  jd (qh (jW (jZ (jl C.isWhole hr (Nat.le_refl _) (jb (ja 0) (jb jg (jb (ZR C.most) je))) (jc (jc (jc jm)))))) zO jh) jh⟩
noncomputable def Jc:LP->OP:=jE ["number"] 1 ab6.1
structure CAsked(P:Program)(w:World)(K:Fg)(mg:SV)(base:Heap):Prop where
 check:jj P w K mg base "check_manner" ["thing"] 4 1 Z4
 rods:jj P w K mg base "check_rods" ["rods"] 2 1 Ji
 num:jj P w K mg base "check_number" ["number"] 2 1 Jc
theorem agY:FnScope ["manner","rods","number"] ["manner","rods","number"] (jf Jh):=⟨rfl,rfl,rfl,by decide +kernel,rfl,by decide +kernel,by decide +kernel⟩
noncomputable def aih:{ B:RO // qV CAsked "check_asked" Jh ["manner","rods","number"] 4 B }:=
 ⟨_,fun P w K mg base f Kc A Ko s H E C hr=>
  jd (qe (jl C.check hr (Nat.le_refl _) (jb (ja 0) je) (jc jm)))
  (jd (qe (jl C.rods hr (by decide) (jb (ja 1) je) (jc jm)))
  (jd (qe (jl C.num hr (by decide) (jb (ja 2) je) (jc jm))) jh))⟩
noncomputable def Z5:LP->OP:=jE ["manner","rods","number"] 3 aih.1
noncomputable abbrev afj:Stmt:=top 17
noncomputable abbrev zT:Stmt:=top 26
noncomputable abbrev zp:Stmt:=top 27
noncomputable abbrev aaz:Stmt:=top 32
noncomputable abbrev Zw:Stmt:=top 33
noncomputable abbrev Zx:Stmt:=top 34
noncomputable abbrev aoN:List Str:=["base","rods","number","digits","left"]
noncomputable def akE:Stmt->List Stmt
 |.While _ b _ _=>b
 |_=>[]
theorem afk:FnScope aoN ["base","rods","number"] (jf Zx):=⟨rfl,rfl,rfl,by decide +kernel,rfl,by decide +kernel,by decide +kernel⟩
noncomputable def Z6:{ B:RO // ar4 3 (fun _ _ _ mg _=>Bare mg) "digits_by_rods" Zx aoN 0 (akE (adK (jQ Zx) 2)) B }:=
 ⟨_,fun P w K mg base f Kc A Ko s H E C hr=>
  Jx (aof (ahX 3 jg (jt JV (ja 4) (ja 0))))
  (Jx (ajo 4 afk.nd (jt Qp (ja 4) (ja 0))) agA)⟩
noncomputable def aoO:{ B:RO // qV (fun _ _ _ mg _=>Bare mg) "digits_by_rods" Zx aoN 0 B }:=
 ⟨_,fun P w K mg base f Kc A Ko s H E C hr=>
  agz (agB 3 afk.nd (ae1 je)
  (Jx (ajo 4 afk.nd (ja 2))
  (Jx (akn 10 PassesOwn.never (j7 ahL (jI qT C.len qN (jb (ja 3) je)) (jt QH (ja 1) jg)) (Z6.2 P w K mg base f Kc A Ko s H E C hr))
  (Jx (aod (jt jz (acH (jb (ja 4) je)) (ja 3))) agA))))⟩
noncomputable def amt:LP->OP:=jE aoN 3 aoO.1
structure CPlainR(P:Program)(w:World)(K:Fg)(mg:SV)(base:Heap):Prop where
 t:Bare mg
 dig:jj P w K mg base "digits_by_rods" ["base","rods","number"] 1 3 amt
 fewest:jj P w K mg base "fewest_beads" ["manner","worth"] 3 2 J1
noncomputable abbrev Zy:List Str:=["manner","rods","number","digits"]
theorem Zz:FnScope Zy ["manner","rods","number"] (jf Zw):=⟨rfl,rfl,rfl,by decide +kernel,rfl,by decide +kernel,by decide +kernel⟩
theorem ndd:(["digit","manner"]:List Str).Nodup:=by decide +kernel
noncomputable def ab7:{ B:RO // qV CPlainR "plain_rods" Zw Zy 3 B }:=
 ⟨_,fun P w K mg base f Kc A Ko s H E C hr=>
  jd (jR 3 Zz.nd (jl C.dig hr (by decide) (jb (jN (ja 0) jg) (jb (ja 1) (jb (ja 2) je))) (jc (jc (jc jm)))))
  (jd (qh (j7 alF (jN (ja 3) jg) (jN (ja 0) jg)) zO jh)
  (jd (jw (aba agE C.t.tuple JL (jb (JU ["digit","manner"] [none,some 0] rfl (aaf (ja 3)) (Ja (jf Zw) Zy (by decide +kernel))
   fun cl C' s0 H0 fp pn=>⟨jK 0 ndd,JD,jl C.fewest hr (Nat.le_refl _) (jb (ja 1) (jb (ja 0) je)) (jc (jc jm))⟩) je))) jh))⟩
noncomputable def ZA:LP->OP:=jE Zy 3 ab7.1
structure CPlainS(P:Program)(w:World)(K:Fg)(mg:SV)(base:Heap):Prop where
 asked:jj P w K mg base "check_asked" ["manner","rods","number"] 5 3 Z5
 rods:jj P w K mg base "plain_rods" ["manner","rods","number"] 4 3 ZA
theorem aei:FnScope ["manner","rods","number"] ["manner","rods","number"] (jf aaz):=⟨rfl,rfl,rfl,by decide +kernel,rfl,by decide +kernel,by decide +kernel⟩
noncomputable def afl:{ B:RO // qV CPlainS "plain_setting" aaz ["manner","rods","number"] 5 B }:=
 ⟨_,fun P w K mg base f Kc A Ko s H E C hr=>
  jd (qe (jl C.asked hr (Nat.le_refl _) (jb (ja 0) (jb (ja 1) (jb (ja 2) je))) (jc (jc (jc jm)))))
  (jd (jw (jl C.rods hr (by decide) (jb (ja 0) (jb (ja 1) (jb (ja 2) je))) (jc (jc (jc jm))))) jh)⟩
noncomputable def J4:LP->OP:=jE ["manner","rods","number"] 3 afl.1
structure CIsRod(P:Program)(w:World)(K:Fg)(mg:SV)(base:Heap):Prop where
 t:Bare mg
 isWhole:jj P w K mg base "is_whole" ["thing","least","most"] 1 3 jS
theorem amu:FnScope ["manner","thing"] ["manner","thing"] (jf afj):=⟨rfl,rfl,rfl,by decide +kernel,rfl,by decide +kernel,by decide +kernel⟩
noncomputable def abl:{ B:RO // qV CIsRod "is_rod" afj ["manner","thing"] 1 B }:=
 ⟨_,fun P w K mg base f Kc A Ko s H E C hr=>
  jd (qh (zj (Jm (jW (jZ (Qh (.inr (.inr rfl)) C.t.isi C.t.tuple JL (ja 1)))) (zZ (j7 (zq hr.units) (jI qT C.t.len qN (jb (ja 1) je)) jg)))) (jd (jw zL) jh) jh)
  (jd (jw (alX (jl C.isWhole hr (Nat.le_refl _) (jb (jN (ja 1) jg) (jb jg (jb (jN (ja 0) jg) je))) (jc (jc (jc jm)))) (alW (jl C.isWhole hr (Nat.le_refl _) (jb (jN (ja 1) jg) (jb jg (jb (jN (ja 0) jg) je))) (jc (jc (jc jm))))))) jh)⟩
noncomputable def Qj:LP->OP:=jE ["manner","thing"] 2 abl.1
structure CIsSet(P:Program)(w:World)(K:Fg)(mg:SV)(base:Heap):Prop where
 t:Bare mg
 check:jj P w K mg base "check_manner" ["thing"] 4 1 Z4
 isRod:jj P w K mg base "is_rod" ["manner","thing"] 2 2 Qj
 most:GC K mg "MOST_RODS" (.int 4)
theorem agZ:FnScope ["manner","thing"] ["manner","thing"] (jf zT):=⟨rfl,rfl,rfl,by decide +kernel,rfl,by decide +kernel,by decide +kernel⟩
theorem ndp:(["part","manner"]:List Str).Nodup:=by decide +kernel
noncomputable def abm:{ B:RO // qV CIsSet "is_setting" zT ["manner","thing"] 4 B }:=
 ⟨_,fun P w K mg base f Kc A Ko s H E C hr=>
  jd (qe (jl C.check hr (Nat.le_refl _) (jb (ja 0) je) (jc jm)))
  (jd (qh (zj (Jm (jW (jZ (Qh (.inr (.inr rfl)) C.t.isi C.t.tuple JL (ja 1)))) (zZ (jW (Zn QI QI jg (jI qT C.t.len qN (jb (ja 1) je)) (ZR C.most)))))) (jd (jw zL) jh) jh)
  (jd (jw (jI (ahN rfl) C.t.all aic (jb (JU ["part","manner"] [none,some 0] rfl (aeR (ja 1)) (Ja (jf zT) ["manner","thing"] (by decide +kernel))
   fun cl C' s0 H0 fp pn=>⟨jK 0 ndp,JD,jl C.isRod hr (by decide) (jb (ja 1) (jb (ja 0) je)) (jc (jc jm))⟩) je))) jh))⟩
noncomputable def ac7:LP->OP:=jE ["manner","thing"] 2 abm.1
structure CChkSet(P:Program)(w:World)(K:Fg)(mg:SV)(base:Heap):Prop where
 isSet:jj P w K mg base "is_setting" ["manner","thing"] 5 2 ac7
theorem aej:FnScope ["manner","thing"] ["manner","thing"] (jf zp):=⟨rfl,rfl,rfl,by decide +kernel,rfl,by decide +kernel,by decide +kernel⟩
noncomputable def afm:{ B:RO // qV CChkSet "check_setting" zp ["manner","thing"] 5 B }:=
 ⟨_,fun P w K mg base f Kc A Ko s H E C hr=>
  jd (qh (jW (jZ (jl C.isSet hr (Nat.le_refl _) (jb (ja 0) (jb (ja 1) je)) (jc (jc jm))))) zO jh) jh⟩
noncomputable def Jd:LP->OP:=jE ["manner","thing"] 2 afm.1
noncomputable abbrev ajz:Stmt:=top 52
noncomputable abbrev afn:Stmt:=top 53
noncomputable abbrev ab8:Stmt:=top 54
theorem aoP:FnScope ["_law_script","_law_k"] ["_law_script","_law_k"] (jf ajz):=⟨rfl,rfl,rfl,by decide +kernel,rfl,by decide +kernel,by decide +kernel⟩
noncomputable def ajA:{ B:RO // qV (fun _ _ _ mg _=>Bare mg) "_law_cell" ajz ["_law_script","_law_k"] 0 B }:=
 ⟨_,fun P w K mg base f Kc A Ko s H E C hr=>
  jd (qh (j7 (Q7 hr.units) (ja 0) (acH je)) (jd (jw (jt qQ jg (ja 1))) jh) jh)
  (jd (jw (jt jz (jN (ja 0) (jt JV (ja 1) (jI qT C.len qN (jb (ja 0) je)))) (jt qQ jg (jt Qp (ja 1) (jI qT C.len qN (jb (ja 0) je)))))) jh)⟩
noncomputable def ag0:LP->OP:=jE ["_law_script","_law_k"] 2 ajA.1
structure CDrawn(P:Program)(w:World)(K:Fg)(mg:SV)(base:Heap):Prop where
 cell:jj P w K mg base "_law_cell" ["_law_script","_law_k"] 1 2 ag0
theorem ac8:FnScope ["_law_script","_law_k","_law_many","_law_cell_here"] ["_law_script","_law_k","_law_many"] (jf afn):=⟨rfl,rfl,rfl,by decide +kernel,rfl,by decide +kernel,by decide +kernel⟩
noncomputable def aii:{ B:RO // qV CDrawn "_law_drawn" afn ["_law_script","_law_k","_law_many","_law_cell_here"] 1 B }:=
 ⟨_,fun P w K mg base f Kc A Ko s H E C hr=>
  jd (jR 3 ac8.nd (jt JV (jt jz (jt qQ (jt JV (jl C.cell hr (Nat.le_refl _) (jb (ja 0) (jb (ja 1) je)) (jc (jc jm))) jg) jg) (jt qQ jg (jt jz (ja 1) jg))) jg))
  (jd (jR 3 ac8.nd (jt JV (jt jz (jt qQ (ja 3) (ja 3)) (jt Qp (ja 3) jg)) jg))
  (jd (jw (jt JV (jt Qp (jt JV (jt jz (jt qQ (ja 3) (ja 3)) (jt Qp (ja 3) jg)) jg) jg) (ja 2))) jh))⟩
noncomputable def JO:LP->OP:=jE ["_law_script","_law_k","_law_many","_law_cell_here"] 3 aii.1
noncomputable abbrev afo:List Str:=["_law_script","_law_at","_law_known","_law_way","_law_each","_law_upper","_law_lower"]
structure CManner(P:Program)(w:World)(K:Fg)(mg:SV)(base:Heap):Prop where
 t:Bare mg
 drawn:jj P w K mg base "_law_drawn" ["_law_script","_law_k","_law_many"] 2 3 JO
theorem zU:FnScope afo ["_law_script","_law_at"] (jf ab8):=⟨rfl,rfl,rfl,by decide +kernel,rfl,by decide +kernel,by decide +kernel⟩
noncomputable def jo(a b c d:Int):PyData:= .tuple [.int a,.int b,.int c,.int d]
noncomputable def abn:LP:=[jo 1 5 4 10,jo 2 5 5 10,jo 0 1 9 10,jo 1 5 5 10,jo 0 1 10 10,jo 1 2 1 4,jo 0 1 1 2]
noncomputable def abo:LP:=[jo 1 4 3 8,jo 1 3 2 5,jo 3 4 3 16,jo 2 3 2 7,jo 1 1 1 3]
noncomputable def ab9:{ B:RO // qV CManner "_law_manner" ab8 afo 2 B }:=
 ⟨_,fun P w K mg base f Kc A Ko s H E C hr=>
  jd (jR 2 zU.nd (aeZ 3 (.list abn) (by kernel_rfl)))
  (jd (jR 2 zU.nd (jt jz (ja 2) (aeZ 3 (.list abo) (by kernel_rfl))))
  (jd (jR 3 zU.nd (jl C.drawn hr (Nat.le_refl _) (jb (ja 0) (jb (ja 1) (jb (jt qQ jg (jI qT C.t.len qN (jb (ja 2) je))) je))) (jc (jc (jc jm)))))
  (jd (qh (j7 ahL (ja 3) (jI qT C.t.len qN (jb (ja 2) je))) (jd (jw (jN (ja 2) (ja 3))) jh) jh)
  (jd (jR 4 zU.nd (jt jz jg (jl C.drawn hr (Nat.le_refl _) (jb (ja 0) (jb (jt jz (ja 1) jg) (jb jg je))) (jc (jc (jc jm))))))
  (jd (jR 5 zU.nd (jl C.drawn hr (Nat.le_refl _) (jb (ja 0) (jb (jt jz (ja 1) jg) (jb jg je))) (jc (jc (jc jm)))))
  (jd (jR 6 zU.nd (jt jz (jI (an8 rfl) C.t.max alQ (jb (jt QH (ja 4) jg) (jb jg je))) (jl C.drawn hr (Nat.le_refl _) (jb (ja 0) (jb (jt jz (ja 1) jg) (jb jg je))) (jc (jc (jc jm))))))
  (jd (jw (zf (jb (ja 5) (jb (ja 4) (jb (ja 6) (jb (jt jz jg (jl C.drawn hr (Nat.le_refl _) (jb (ja 0) (jb (jt jz (ja 1) jg) (jb (jI (ajg rfl) C.t.min aeW (jb jg (jb (jt jz (jt qQ (ja 5) (ja 4)) (ja 6)) je))) je))) (jc (jc (jc jm))))) je)))))) jh)))))))⟩
noncomputable def ZB:LP->OP:=jE afo 2 ab9.1
noncomputable abbrev Zd(C:CC)(qual:Str)(st:Stmt)(N:List Str)(k:Nat)(Fx:Rho->Option Str):Prop:=
 ∀(P:Program) (w:World) (K:Fg) (mg:SV) (base:Heap) (f:Addr) (Kc:Value) (A:Around) (Ko:List Env) (s:Shared) (H:Hp) (E:XK),C P w K mg base->Room k (A.deeper (envOfC qual (jf st) s.heap.objs.size f Kc))->
  acS (Jl (CXt P w) P w K mg base N qual (jf st) f Kc A Ko s H E) (jQ st) Fx
noncomputable abbrev aaA:Stmt:=top 44
noncomputable abbrev ag1:Stmt:=top 43
structure CEnough(P:Program)(w:World)(K:Fg)(mg:SV)(base:Heap):Prop where
 num:jj P w K mg base "number_on" ["manner","setting"] 2 2 zS
theorem aek:FnScope ["manner","setting","number"] ["manner","setting","number"] (jf aaA):=⟨rfl,rfl,rfl,by decide +kernel,rfl,by decide +kernel,by decide +kernel⟩
noncomputable def aca:{ B:RO // qV CEnough "check_enough" aaA ["manner","setting","number"] 2 B }:=
 ⟨_,fun P w K mg base f Kc A Ko s H E C hr=>
  (jd (qh (j7 ahM (ja 2) (jl C.num hr (by decide) (jb (ja 0) (jb (ja 1) je)) (jc (jc jm)))) zO jh)
  jh)⟩
noncomputable def acb:LP->OP:=jE ["manner","setting","number"] 3 aca.1
structure CLess(P:Program)(w:World)(K:Fg)(mg:SV)(base:Heap):Prop where
 t:Bare mg
 chkSet:jj P w K mg base "check_setting" ["manner","thing"] 6 2 Jd
 chkNum:jj P w K mg base "check_number" ["number"] 2 1 Jc
 enough:jj P w K mg base "check_enough" ["manner","setting","number"] 3 3 acb
 plainR:jj P w K mg base "plain_rods" ["manner","rods","number"] 4 3 ZA
 num:jj P w K mg base "number_on" ["manner","setting"] 2 2 zS
theorem ajB:FnScope ["manner","setting","number"] ["manner","setting","number"] (jf ag1):=⟨rfl,rfl,rfl,by decide +kernel,rfl,by decide +kernel,by decide +kernel⟩
noncomputable def ajC:{ B:RO // qV CLess "less" ag1 ["manner","setting","number"] 6 B }:=
 ⟨_,fun P w K mg base f Kc A Ko s H E C hr=>
  (jd (qe (jl C.chkSet hr (by decide) (jb (ja 0) (jb (ja 1) je)) (jc (jc jm))))
  (jd (qe (jl C.chkNum hr (by decide) (jb (ja 2) je) (jc jm)))
  (jd (qe (jl C.enough hr (by decide) (jb (ja 0) (jb (ja 1) (jb (ja 2) je))) (jc (jc (jc jm)))))
  (jd (jw (jl C.plainR hr (by decide) (jb (ja 0) (jb (jI qT C.t.len qN (jb (ja 1) je)) (jb (jt QH (jl C.num hr (by decide) (jb (ja 0) (jb (ja 1) je)) (jc (jc jm))) (ja 2)) je))) (jc (jc (jc jm)))))
  jh))))⟩
noncomputable def abN:LP->OP:=jE ["manner","setting","number"] 3 ajC.1
noncomputable def JP(k:Bool):PyData:= .str (if k=true then "lower" else "upper")
noncomputable def mv(r:Int)(k:Bool)(c:Int):PyData:= .tuple [.int r,JP k,.int c]
section
variable {u e l b:Int}
noncomputable def dig(b:Int)(r:Nat)(n:Int)(i:Nat):Int:=if 0<i then n / b ^ (r-1-i) % b else n / b ^ (r-1-i)
end
noncomputable abbrev amv:List Str:=["NoManner","NoSetting","NoNumber","NoMove","TooGreat","NoName"]
noncomputable abbrev J5:Stmt:=top 38
structure CNamesBeads(P:Program)(w:World)(K:Fg)(mg:SV)(base:Heap):Prop where
 t:Bare mg
 c_isWhole:jj P w K mg base "is_whole" ["thing","least","most"] 1 3 jS
 k_DECKS:GC K mg "DECKS" (.tuple [.str "upper",.str "lower"])
noncomputable abbrev Ze:List Str:=["setting","thing"]
theorem adL:FnScope Ze ["setting","thing"] (jf J5):=⟨rfl,rfl,rfl,by decide +kernel,rfl,by decide +kernel,by decide +kernel⟩
noncomputable def qX:{ B:RO // qV CNamesBeads "names_beads" J5 Ze 1 B }:=
 ⟨_,fun P w K mg base f Kc A Ko s H E C hr=>
  (jd (qh (zj (Jm (jW (jZ (Qh (.inr (.inr rfl)) C.t.isi C.t.tuple JL (ja 1)))) (zZ (j7 (zq hr.units) (jI qT C.t.len qN (jb (ja 1) je)) jg)))) (jd (jw zL)
  jh) jh)
  (jd (qh (zj (Jm (jW (jZ (jl C.c_isWhole hr (by decide) (jb (jN (ja 1) jg) (jb jg (jb (jt QH (jI qT C.t.len qN (jb (ja 0) je)) jg) je))) (jc (jc (jc jm)))))) (zZ (j7 (abb hr.units) (jN (ja 1) jg) (ZR C.k_DECKS))))) (jd (jw zL)
  jh) jh)
  (jd (jw (alX (jl C.c_isWhole hr (by decide) (jb (jN (ja 1) jg) (jb (ahT jg) (jb jg je))) (jc (jc (jc jm)))) (alW (ahH (zq hr.units) (jN (ja 1) jg) jg))))
  jh)))⟩
noncomputable def J9:LP->OP:=jE Ze 2 qX.1
noncomputable abbrev acd:Stmt:=top 39
structure CPushed(P:Program)(w:World)(K:Fg)(mg:SV)(base:Heap):Prop where
 tr:True
noncomputable abbrev afp:List Str:=["rod","deck","by"]
theorem akF:FnScope afp ["rod","deck","by"] (jf acd):=⟨rfl,rfl,rfl,by decide +kernel,rfl,by decide +kernel,by decide +kernel⟩
noncomputable def aaB:{ B:RO // qV CPushed "pushed" acd afp 0 B }:=
 ⟨_,fun P w K mg base f Kc A Ko s H E C hr=>
  (jd (qh (j7 (Q7 hr.units) (ja 1) Qg) (jd (jw (zf (jb (jt jz (jN (ja 0) jg) (ja 2)) (jb (jN (ja 0) jg) je))))
  jh) jh)
  (jd (jw (zf (jb (jN (ja 0) jg) (jb (jt jz (jN (ja 0) jg) (ja 2)) je))))
  jh))⟩
noncomputable def ace:LP->OP:=jE afp 3 aaB.1
noncomputable abbrev aaC:Stmt:=top 37
structure CCanMove(P:Program)(w:World)(K:Fg)(mg:SV)(base:Heap):Prop where
 c_NamesBeads:jj P w K mg base "names_beads" ["setting","thing"] 2 2 J9
 c_isRod:jj P w K mg base "is_rod" ["manner","thing"] 2 2 Qj
 c_Pushed:jj P w K mg base "pushed" ["rod","deck","by"] 1 3 ace
noncomputable abbrev ac9:List Str:=["manner","setting","thing"]
theorem aij:FnScope ac9 ["manner","setting","thing"] (jf aaC):=⟨rfl,rfl,rfl,by decide +kernel,rfl,by decide +kernel,by decide +kernel⟩
noncomputable def aaD:{ B:RO // qV CCanMove "can_move" aaC ac9 2 B }:=
 ⟨_,fun P w K mg base f Kc A Ko s H E C hr=>
  (jd (qh (jW (jZ (jl C.c_NamesBeads hr (by decide) (jb (ja 1) (jb (ja 2) je)) (jc (jc jm))))) (jd (jw zL)
  jh) jh)
  (jd (jw (jl C.c_isRod hr (by decide) (jb (ja 0) (jb (jl C.c_Pushed hr (by decide) (jb (jN (ja 1) (jN (ja 2) jg)) (jb (jN (ja 2) jg) (jb (jN (ja 2) jg) je))) (jc (jc (jc jm)))) je)) (jc (jc jm))))
  jh))⟩
noncomputable def Zf:LP->OP:=jE ac9 3 aaD.1
noncomputable abbrev Qa:Stmt:=top 40
structure CBehindMove(P:Program)(w:World)(K:Fg)(mg:SV)(base:Heap):Prop where
 c_Pushed:jj P w K mg base "pushed" ["rod","deck","by"] 1 3 ace
noncomputable abbrev Zg:List Str:=["setting","move","at"]
theorem ZS:FnScope Zg ["setting","move"] (jf Qa):=⟨rfl,rfl,rfl,by decide +kernel,rfl,by decide +kernel,by decide +kernel⟩
noncomputable def Qb:{ B:RO // qV CBehindMove "behind_move" Qa Zg 1 B }:=
 ⟨_,fun P w K mg base f Kc A Ko s H E C hr=>
  (jd (jR 2 ZS.nd (jN (ja 1) jg))
  (jd (jw (jt jz (jt jz (agJ (ja 0) (ja 2)) (zf (jb (jl C.c_Pushed hr (by decide) (jb (jN (ja 0) (ja 2)) (jb (jN (ja 1) jg) (jb (jN (ja 1) jg) je))) (jc (jc (jc jm)))) je))) (acV (ja 0) (jt jz (ja 2) jg))))
  jh))⟩
noncomputable def Qc:LP->OP:=jE Zg 2 Qb.1
noncomputable abbrev ada:Stmt:=top 41
structure CMoved(P:Program)(w:World)(K:Fg)(mg:SV)(base:Heap):Prop where
 c_chkSet:jj P w K mg base "check_setting" ["manner","thing"] 6 2 Jd
 c_CanMove:jj P w K mg base "can_move" ["manner","setting","thing"] 3 3 Zf
 c_BehindMove:jj P w K mg base "behind_move" ["setting","move"] 2 2 Qc
noncomputable abbrev adb:List Str:=["manner","setting","move"]
theorem ag2:FnScope adb ["manner","setting","move"] (jf ada):=⟨rfl,rfl,rfl,by decide +kernel,rfl,by decide +kernel,by decide +kernel⟩
noncomputable def afq:{ B:RO // qV CMoved "moved" ada adb 6 B }:=
 ⟨_,fun P w K mg base f Kc A Ko s H E C hr=>
  (jd (qe (jl C.c_chkSet hr (by decide) (jb (ja 0) (jb (ja 1) je)) (jc (jc jm))))
  (jd (qh (jW (jZ (jl C.c_CanMove hr (by decide) (jb (ja 0) (jb (ja 1) (jb (ja 2) je))) (jc (jc (jc jm)))))) (jd akc
  jh) jh)
  (jd (jw (jl C.c_BehindMove hr (by decide) (jb (ja 1) (jb (ja 2) je)) (jc (jc jm))))
  jh)))⟩
noncomputable def Qk:LP->OP:=jE adb 3 afq.1
structure XCheck(P:Program)(w:World)(K:Fg)(mg:SV)(base:Heap):Prop where
 c_isManner:jj P w K mg base "is_manner" ["thing"] 3 1 qM
 e_NoManner:acT K mg "NoManner"
noncomputable def afr:{ F:Rho->Option Str // Zd XCheck "check_manner" ac5 ["thing"] 3 F }:=
 ⟨_,fun P w K mg base f Kc A Ko s H E C hr=>
  (jH (Z0 (jW (jZ (jl C.c_isManner hr (by decide) (jb (ja 0) je) (jc jm)))) (jH (zb rfl C.e_NoManner rfl)) zr))⟩
noncomputable def afs:LP->Option Str:=Jq ["thing"] 1 afr.1
structure XIsSet(P:Program)(w:World)(K:Fg)(mg:SV)(base:Heap):Prop where
 x_check:zn P w K mg base "check_manner" ["thing"] 4 1 afs
noncomputable def aft:{ F:Rho->Option Str // Zd XIsSet "is_setting" zT ["manner","thing"] 4 F }:=
 ⟨_,fun P w K mg base f Kc A Ko s H E C hr=>
  (jH (zD (qL rfl C.x_check hr (by decide) (jb (ja 0) je) (jc jm))))⟩
noncomputable def aik:LP->Option Str:=Jq ["manner","thing"] 2 aft.1
structure XChkSet(P:Program)(w:World)(K:Fg)(mg:SV)(base:Heap):Prop where
 c_isSet:jj P w K mg base "is_setting" ["manner","thing"] 5 2 ac7
 x_isSet:zn P w K mg base "is_setting" ["manner","thing"] 5 2 aik
 e_NoSetting:acT K mg "NoSetting"
noncomputable def acf:{ F:Rho->Option Str // Zd XChkSet "check_setting" zp ["manner","thing"] 5 F }:=
 ⟨_,fun P w K mg base f Kc A Ko s H E C hr=>
  (jH (aqx (aor (aoq (aop (qL rfl C.x_isSet hr (by decide) (jb (ja 0) (jb (ja 1) je)) (jc (jc jm)))))) (Z0 (jW (jZ (jl C.c_isSet hr (by decide) (jb (ja 0) (jb (ja 1) je)) (jc (jc jm))))) (jH (zb rfl C.e_NoSetting rfl)) zr)))⟩
noncomputable def aaE:LP->Option Str:=Jq ["manner","thing"] 2 acf.1
structure XChkRods(P:Program)(w:World)(K:Fg)(mg:SV)(base:Heap):Prop where
 c_isWhole:jj P w K mg base "is_whole" ["thing","least","most"] 1 3 jS
 k_MOST_RODS:GC K mg "MOST_RODS" (.int 4)
 e_NoNumber:acT K mg "NoNumber"
noncomputable def aaF:{ F:Rho->Option Str // Zd XChkRods "check_rods" JN ["rods"] 1 F }:=
 ⟨_,fun P w K mg base f Kc A Ko s H E C hr=>
  (jH (Z0 (jW (jZ (jl C.c_isWhole hr (by decide) (jb (ja 0) (jb jg (jb (ZR C.k_MOST_RODS) je))) (jc (jc (jc jm)))))) (jH (zb rfl C.e_NoNumber rfl)) zr))⟩
noncomputable def adc:LP->Option Str:=Jq ["rods"] 1 aaF.1
structure XChkNum(P:Program)(w:World)(K:Fg)(mg:SV)(base:Heap):Prop where
 c_isWhole:jj P w K mg base "is_whole" ["thing","least","most"] 1 3 jS
 k_MOST_NUMBER:GC K mg "MOST_NUMBER" (.int 99999)
 e_NoNumber:acT K mg "NoNumber"
noncomputable def acg:{ F:Rho->Option Str // Zd XChkNum "check_number" zF ["number"] 1 F }:=
 ⟨_,fun P w K mg base f Kc A Ko s H E C hr=>
  (jH (Z0 (jW (jZ (jl C.c_isWhole hr (by decide) (jb (ja 0) (jb jg (jb (ZR C.k_MOST_NUMBER) je))) (jc (jc (jc jm)))))) (jH (zb rfl C.e_NoNumber rfl)) zr))⟩
noncomputable def ach:LP->Option Str:=Jq ["number"] 1 acg.1
structure XAsked(P:Program)(w:World)(K:Fg)(mg:SV)(base:Heap):Prop where
 c_chkRods:jj P w K mg base "check_rods" ["rods"] 2 1 Ji
 c_check:jj P w K mg base "check_manner" ["thing"] 4 1 Z4
 x_check:zn P w K mg base "check_manner" ["thing"] 4 1 afs
 x_chkRods:zn P w K mg base "check_rods" ["rods"] 2 1 adc
 x_chkNum:zn P w K mg base "check_number" ["number"] 2 1 ach
noncomputable def afu:{ F:Rho->Option Str // Zd XAsked "check_asked" Jh ["manner","rods","number"] 4 F }:=
 ⟨_,fun P w K mg base f Kc A Ko s H E C hr=>
  (QO (jH (zD (qL rfl C.x_check hr (by decide) (jb (ja 0) je) (jc jm)))) (zx (qe (jl C.c_check hr (by decide) (jb (ja 0) je) (jc jm)))
  (QO (jH (zD (qL rfl C.x_chkRods hr (by decide) (jb (ja 1) je) (jc jm)))) (zx (qe (jl C.c_chkRods hr (by decide) (jb (ja 1) je) (jc jm)))
  (jH (zD (qL rfl C.x_chkNum hr (by decide) (jb (ja 2) je) (jc jm))))))))⟩
noncomputable def ail:LP->Option Str:=Jq ["manner","rods","number"] 3 afu.1
structure XPlainR(P:Program)(w:World)(K:Fg)(mg:SV)(base:Heap):Prop where
 c_digits:jj P w K mg base "digits_by_rods" ["base","rods","number"] 1 3 amt
 e_TooGreat:acT K mg "TooGreat"
noncomputable def ajD:{ F:Rho->Option Str // Zd XPlainR "plain_rods" Zw Zy 3 F }:=
 ⟨_,fun P w K mg base f Kc A Ko s H E C hr=>
  (zx (jR 3 Zz.nd (jl C.c_digits hr (by decide) (jb (jN (ja 0) jg) (jb (ja 1) (jb (ja 2) je))) (jc (jc (jc jm)))))
  (jH (Z0 (j7 alF (jN (ja 3) jg) (jN (ja 0) jg)) (jH (zb rfl C.e_TooGreat rfl)) zr)))⟩
noncomputable def afv:LP->Option Str:=Jq Zy 3 ajD.1
structure XPlainS(P:Program)(w:World)(K:Fg)(mg:SV)(base:Heap):Prop where
 c_asked:jj P w K mg base "check_asked" ["manner","rods","number"] 5 3 Z5
 x_asked:zn P w K mg base "check_asked" ["manner","rods","number"] 5 3 ail
 x_plainR:zn P w K mg base "plain_rods" ["manner","rods","number"] 4 3 afv
noncomputable def ajE:{ F:Rho->Option Str // Zd XPlainS "plain_setting" aaz ["manner","rods","number"] 5 F }:=
 ⟨_,fun P w K mg base f Kc A Ko s H E C hr=>
  (QO (jH (zD (qL rfl C.x_asked hr (by decide) (jb (ja 0) (jb (ja 1) (jb (ja 2) je))) (jc (jc (jc jm)))))) (zx (qe (jl C.c_asked hr (by decide) (jb (ja 0) (jb (ja 1) (jb (ja 2) je))) (jc (jc (jc jm)))))
  (jH (ajp (qL rfl C.x_plainR hr (by decide) (jb (ja 0) (jb (ja 1) (jb (ja 2) je))) (jc (jc (jc jm))))))))⟩
noncomputable def afw:LP->Option Str:=Jq ["manner","rods","number"] 3 ajE.1
structure XEnough(P:Program)(w:World)(K:Fg)(mg:SV)(base:Heap):Prop where
 c_num:jj P w K mg base "number_on" ["manner","setting"] 2 2 zS
 e_TooGreat:acT K mg "TooGreat"
noncomputable def aci:{ F:Rho->Option Str // Zd XEnough "check_enough" aaA ["manner","setting","number"] 2 F }:=
 ⟨_,fun P w K mg base f Kc A Ko s H E C hr=>
  (jH (Z0 (j7 ahM (ja 2) (jl C.c_num hr (by decide) (jb (ja 0) (jb (ja 1) je)) (jc (jc jm)))) (jH (zb rfl C.e_TooGreat rfl)) zr))⟩
noncomputable def afx:LP->Option Str:=Jq ["manner","setting","number"] 3 aci.1
structure XLess(P:Program)(w:World)(K:Fg)(mg:SV)(base:Heap):Prop where
 t:Bare mg
 c_num:jj P w K mg base "number_on" ["manner","setting"] 2 2 zS
 c_enough:jj P w K mg base "check_enough" ["manner","setting","number"] 3 3 acb
 c_chkNum:jj P w K mg base "check_number" ["number"] 2 1 Jc
 c_chkSet:jj P w K mg base "check_setting" ["manner","thing"] 6 2 Jd
 x_chkSet:zn P w K mg base "check_setting" ["manner","thing"] 6 2 aaE
 x_chkNum:zn P w K mg base "check_number" ["number"] 2 1 ach
 x_enough:zn P w K mg base "check_enough" ["manner","setting","number"] 3 3 afx
 x_plainR:zn P w K mg base "plain_rods" ["manner","rods","number"] 4 3 afv
noncomputable def apB:{ F:Rho->Option Str // Zd XLess "less" ag1 ["manner","setting","number"] 6 F }:=
 ⟨_,fun P w K mg base f Kc A Ko s H E C hr=>
  (QO (jH (zD (qL rfl C.x_chkSet hr (by decide) (jb (ja 0) (jb (ja 1) je)) (jc (jc jm))))) (zx (qe (jl C.c_chkSet hr (by decide) (jb (ja 0) (jb (ja 1) je)) (jc (jc jm))))
  (QO (jH (zD (qL rfl C.x_chkNum hr (by decide) (jb (ja 2) je) (jc jm)))) (zx (qe (jl C.c_chkNum hr (by decide) (jb (ja 2) je) (jc jm)))
  (QO (jH (zD (qL rfl C.x_enough hr (by decide) (jb (ja 0) (jb (ja 1) (jb (ja 2) je))) (jc (jc (jc jm)))))) (zx (qe (jl C.c_enough hr (by decide) (jb (ja 0) (jb (ja 1) (jb (ja 2) je))) (jc (jc (jc jm)))))
  (jH (ajp (qL rfl C.x_plainR hr (by decide) (jb (ja 0) (jb (jI qT C.t.len qN (jb (ja 1) je)) (jb (jt QH (jl C.c_num hr (by decide) (jb (ja 0) (jb (ja 1) je)) (jc (jc jm))) (ja 2)) je))) (jc (jc (jc jm))))))))))))⟩
noncomputable def amw:LP->Option Str:=Jq ["manner","setting","number"] 3 apB.1
structure XMoved(P:Program)(w:World)(K:Fg)(mg:SV)(base:Heap):Prop where
 c_CanMove:jj P w K mg base "can_move" ["manner","setting","thing"] 3 3 Zf
 c_chkSet:jj P w K mg base "check_setting" ["manner","thing"] 6 2 Jd
 x_chkSet:zn P w K mg base "check_setting" ["manner","thing"] 6 2 aaE
 e_NoMove:acT K mg "NoMove"
noncomputable def amx:{ F:Rho->Option Str // Zd XMoved "moved" ada adb 6 F }:=
 ⟨_,fun P w K mg base f Kc A Ko s H E C hr=>
  (QO (jH (zD (qL rfl C.x_chkSet hr (by decide) (jb (ja 0) (jb (ja 1) je)) (jc (jc jm))))) (zx (qe (jl C.c_chkSet hr (by decide) (jb (ja 0) (jb (ja 1) je)) (jc (jc jm))))
  (jH (Z0 (jW (jZ (jl C.c_CanMove hr (by decide) (jb (ja 0) (jb (ja 1) (jb (ja 2) je))) (jc (jc (jc jm)))))) (jH (zb rfl C.e_NoMove rfl)) zr))))⟩
noncomputable def aim:LP->Option Str:=Jq adb 3 amx.1
noncomputable abbrev aaG:Stmt:=top 47
structure CIsName(P:Program)(w:World)(K:Fg)(mg:SV)(base:Heap):Prop where
 t:Bare mg
 k_MOST_LETTERS:GC K mg "MOST_LETTERS" (.int 6)
noncomputable abbrev acj:List Str:=["thing"]
theorem akG:FnScope acj ["thing"] (jf aaG):=⟨rfl,rfl,rfl,by decide +kernel,rfl,by decide +kernel,by decide +kernel⟩
theorem amy:(["letter"]:List Str).Nodup:=by decide +kernel
noncomputable def ajF:{ B:RO // qV CIsName "is_name" aaG acj 0 B }:=
 ⟨_,fun P w K mg base f Kc A Ko s H E C hr=>
  (jd (qh (zj (Jm (jW (jZ (aoC rfl C.t.isi C.t.str aqH (ja 0)))) (zZ (jW (Zn QI QI jg (jI aoA C.t.len qN (jb (ja 0) je)) (ZR C.k_MOST_LETTERS)))))) (jd (jw zL)
  jh) jh)
  (jd (jw (jI (ahN rfl) C.t.all aic (jb (JU ["letter"] [none] rfl (amk (ja 0)) (Ja (jf aaG) acj (by decide +kernel))
   fun cl C' s0 H0 fp pn=>⟨(jK 0 amy),JD,(agr ajy ajy Qg (ja 0) Qg)⟩) je)))
  jh))⟩
noncomputable def Qd:LP->OP:=jE acj 1 ajF.1
noncomputable abbrev JQ(C:CC)(qual:Str)(st:Stmt)(N:List Str)(k:Nat)(T:TRS):Prop:=
 ∀(P:Program) (w:World) (K:Fg) (mg:SV) (base:Heap) (f:Addr) (Kc:Value) (A:Around) (Ko:List Env) (s:Shared) (H:Hp) (E:XK),C P w K mg base->Room k (A.deeper (envOfC qual (jf st) s.heap.objs.size f Kc))->
  abe (Jl (CXt P w) P w K mg base N qual (jf st) f Kc A Ko s H E) (jQ st) T
noncomputable abbrev amz(C:CC)(qual:Str)(st:Stmt)(N:List Str)(k:Nat)(sts:List Stmt)(T:TRS):Prop:=
 ∀(P:Program) (w:World) (K:Fg) (mg:SV) (base:Heap) (f:Addr) (Kc:Value) (A:Around) (Ko:List Env) (s:Shared) (H:Hp) (E:XK),C P w K mg base->Room k (A.deeper (envOfC qual (jf st) s.heap.objs.size f Kc))->
  abe (Jl CX0 P w K mg base N qual (jf st) f Kc A Ko s H E).nox sts T
noncomputable abbrev as7(C:CC)(qual:Str)(st:Stmt)(N:List Str)(k:Nat)(T:TRS):Prop:=
 ∀(P:Program) (w:World) (K:Fg) (mg:SV) (base:Heap) (f:Addr) (Kc:Value) (A:Around) (Ko:List Env) (s:Shared) (H:Hp) (E:XK),C P w K mg base->Room k (A.deeper (envOfC qual (jf st) s.heap.objs.size f Kc))->
  arY (Jl CX0 P w K mg base N qual (jf st) f Kc A Ko s H E) (jQ st) T
noncomputable abbrev afy:Stmt:=qH (top 48) 0
structure CMInit(P:Program)(w:World)(K:Fg)(mg:SV)(base:Heap):Prop where
 f_now:qg K "Bench" "now"
 f_manner:qg K "Bench" "manner"
 f_kept:qg K "Bench" "kept"
 f_done:qg K "Bench" "done"
 f_undone:qg K "Bench" "undone"
 c_plainS:jj P w K mg base "plain_setting" ["manner","rods","number"] 6 3 J4
 x_plainS:zn P w K mg base "plain_setting" ["manner","rods","number"] 6 3 afw
noncomputable abbrev ain:List Str:=["self","manner","rods"]
theorem amA:FnScope ain ["self","manner","rods"] (jf afy):=⟨rfl,rfl,rfl,by decide +kernel,rfl,by decide +kernel,by decide +kernel⟩
noncomputable def afz:{ B:TRS // JQ CMInit "Bench.__init__" afy ain 6 B }:=
 ⟨_,fun P w K mg base f Kc A Ko s H E C hr=>
  (ji (zE C.f_now (jk (ja 0)) (Jy rfl C.c_plainS C.x_plainS hr (by decide) (by decide) (jq (jk (ja 1)) (jq (jk (ja 2)) (jq (jk jg) jO)))))
  (ji (zE C.f_manner (jk (ja 0)) (jk (ja 1)))
  (ji (zE C.f_kept (jk (ja 0)) (jk amn))
  (ji (zE C.f_done (jk (ja 0)) (afa (ae1 je)))
  (ji (zE C.f_undone (jk (ja 0)) (afa (ae1 je)))
  jx)))))⟩
noncomputable def aio:GC3:=qv ain afz.1
noncomputable abbrev ZC:Stmt:=qH (top 48) 1
structure CMSetting(P:Program)(w:World)(K:Fg)(mg:SV)(base:Heap):Prop where
 f_now:qg K "Bench" "now"
noncomputable abbrev abp:List Str:=["self"]
theorem ag3:FnScope abp ["self"] (jf ZC):=⟨rfl,rfl,rfl,by decide +kernel,rfl,by decide +kernel,by decide +kernel⟩
noncomputable def abq:{ B:TRS // JQ CMSetting "Bench.setting" ZC abp 0 B }:=
 ⟨_,fun P w K mg base f Kc A Ko s H E C hr=>
  (ji (qR (jY C.f_now (jk (ja 0))))
  jx)⟩
noncomputable def zV:GC3:=qv abp abq.1
noncomputable abbrev ack:Stmt:=qH (top 48) 2
structure CMValue(P:Program)(w:World)(K:Fg)(mg:SV)(base:Heap):Prop where
 f_manner:qg K "Bench" "manner"
 f_now:qg K "Bench" "now"
 c_num:jj P w K mg base "number_on" ["manner","setting"] 2 2 zS
noncomputable abbrev afA:List Str:=["self"]
theorem akH:FnScope afA ["self"] (jf ack):=⟨rfl,rfl,rfl,by decide +kernel,rfl,by decide +kernel,by decide +kernel⟩
noncomputable def afB:{ B:TRS // JQ CMValue "Bench.value" ack afA 2 B }:=
 ⟨_,fun P w K mg base f Kc A Ko s H E C hr=>
  (ji (qR (Qv C.c_num hr (by decide) (jq (jY C.f_manner (jk (ja 0))) (jq (jY C.f_now (jk (ja 0))) jO))))
  jx)⟩
noncomputable def QR:GC3:=qv afA afB.1
noncomputable abbrev afC:Stmt:=qH (top 48) 9
structure CMGoOn(P:Program)(w:World)(K:Fg)(mg:SV)(base:Heap):Prop where
 f_done:qg K "Bench" "done"
 f_now:qg K "Bench" "now"
 f_kept:qg K "Bench" "kept"
 f_undone:qg K "Bench" "undone"
 m_value:qU P w K mg base "Bench" "value" ["self"] 3 1 QR
noncomputable abbrev aip:List Str:=["self","word","fresh","kept"]
theorem amB:FnScope aip ["self","word","fresh","kept"] (jf afC):=⟨rfl,rfl,rfl,by decide +kernel,rfl,by decide +kernel,by decide +kernel⟩
noncomputable def aiq:{ B:TRS // JQ CMGoOn "Bench.go_on" afC aip 3 B }:=
 ⟨_,fun P w K mg base f Kc A Ko s H E C hr=>
  (ji (aar (ac1 (jY C.f_done (jk (ja 0))) (aox (jq (jk (ja 1)) (jq (jY C.f_now (jk (ja 0))) (jq (jY C.f_kept (jk (ja 0))) jO))))))
  (ji (aar (akv (jY C.f_undone (jk (ja 0)))))
  (ji (zE C.f_now (jk (ja 0)) (jk (ja 2)))
  (ji (zE C.f_kept (jk (ja 0)) (jk (ja 3)))
  (ji (qR (j6 rfl C.m_value hr (by decide) (jk (ja 0))))
  jx)))))⟩
noncomputable def Z7:GC3:=qv aip aiq.1
noncomputable abbrev afD:Stmt:=qH (top 48) 4
structure CMTake(P:Program)(w:World)(K:Fg)(mg:SV)(base:Heap):Prop where
 f_manner:qg K "Bench" "manner"
 f_now:qg K "Bench" "now"
 f_kept:qg K "Bench" "kept"
 m_go_on:qU P w K mg base "Bench" "go_on" ["self","word","fresh","kept"] 4 4 Z7
 c_less:jj P w K mg base "less" ["manner","setting","number"] 7 3 abN
 x_less:zn P w K mg base "less" ["manner","setting","number"] 7 3 amw
noncomputable abbrev air:List Str:=["self","number"]
theorem amC:FnScope air ["self","number"] (jf afD):=⟨rfl,rfl,rfl,by decide +kernel,rfl,by decide +kernel,by decide +kernel⟩
noncomputable def ais:{ B:TRS // JQ CMTake "Bench.take" afD air 7 B }:=
 ⟨_,fun P w K mg base f Kc A Ko s H E C hr=>
  (ji (qR (qu rfl C.m_go_on hr (by decide) (jk (ja 0)) (jq (jk Qg) (jq (Jy rfl C.c_less C.x_less hr (by decide) (by decide) (jq (jY C.f_manner (jk (ja 0))) (jq (jY C.f_now (jk (ja 0))) (jq (jk (ja 1)) jO)))) (jq (jY C.f_kept (jk (ja 0))) jO)))))
  jx)⟩
noncomputable def add:GC3:=qv air ais.1
noncomputable abbrev afE:Stmt:=qH (top 48) 5
structure CMPush(P:Program)(w:World)(K:Fg)(mg:SV)(base:Heap):Prop where
 f_manner:qg K "Bench" "manner"
 f_now:qg K "Bench" "now"
 f_kept:qg K "Bench" "kept"
 m_go_on:qU P w K mg base "Bench" "go_on" ["self","word","fresh","kept"] 4 4 Z7
 c_Moved:jj P w K mg base "moved" ["manner","setting","move"] 7 3 Qk
 x_Moved:zn P w K mg base "moved" ["manner","setting","move"] 7 3 aim
noncomputable abbrev ait:List Str:=["self","move"]
theorem amD:FnScope ait ["self","move"] (jf afE):=⟨rfl,rfl,rfl,by decide +kernel,rfl,by decide +kernel,by decide +kernel⟩
noncomputable def aiu:{ B:TRS // JQ CMPush "Bench.push" afE ait 7 B }:=
 ⟨_,fun P w K mg base f Kc A Ko s H E C hr=>
  (ji (qR (qu rfl C.m_go_on hr (by decide) (jk (ja 0)) (jq (jk Qg) (jq (Jy rfl C.c_Moved C.x_Moved hr (by decide) (by decide) (jq (jY C.f_manner (jk (ja 0))) (jq (jY C.f_now (jk (ja 0))) (jq (jk (ja 1)) jO)))) (jq (jY C.f_kept (jk (ja 0))) jO)))))
  jx)⟩
noncomputable def abr:GC3:=qv ait aiu.1
noncomputable abbrev afF:Stmt:=qH (top 48) 6
structure CMKeep(P:Program)(w:World)(K:Fg)(mg:SV)(base:Heap):Prop where
 f_kept:qg K "Bench" "kept"
 f_now:qg K "Bench" "now"
 m_go_on:qU P w K mg base "Bench" "go_on" ["self","word","fresh","kept"] 4 4 Z7
 t:Bare mg
 c_IsName:jj P w K mg base "is_name" ["thing"] 1 1 Qd
 e_NoName:acT K mg "NoName"
noncomputable abbrev aiv:List Str:=["self","name","kept"]
theorem ag4:FnScope aiv ["self","name"] (jf afF):=⟨rfl,rfl,rfl,by decide +kernel,rfl,by decide +kernel,by decide +kernel⟩
noncomputable def afG:{ B:TRS // JQ CMKeep "Bench.keep" afF aiv 4 B }:=
 ⟨_,fun P w K mg base f Kc A Ko s H E C hr=>
  (ji (Jo (acZ (jW (jZ (jl C.c_IsName hr (by decide) (jb (ja 1) je) (jc jm))))) (ji (aeb (zb rfl C.e_NoName rfl))
  jx) jx)
  (aky 2 0 1 hr.units1 ag4.nd C.t.dict aoK C.f_kept C.f_now
  (ji (qR (qu rfl C.m_go_on hr (by decide) (jk (ja 0)) (jq (jk Qg) (jq (jY C.f_now (jk (ja 0))) (jq (jk (ja 2)) jO)))))
  jx)))⟩
noncomputable def ade:GC3:=qv aiv afG.1
noncomputable abbrev aaH:Stmt:=qH (top 48) 7
structure CMRecall(P:Program)(w:World)(K:Fg)(mg:SV)(base:Heap):Prop where
 f_kept:qg K "Bench" "kept"
 m_go_on:qU P w K mg base "Bench" "go_on" ["self","word","fresh","kept"] 4 4 Z7
 c_IsName:jj P w K mg base "is_name" ["thing"] 1 1 Qd
 e_NoName:acT K mg "NoName"
noncomputable abbrev adf:List Str:=["self","name"]
theorem aiw:FnScope adf ["self","name"] (jf aaH):=⟨rfl,rfl,rfl,by decide +kernel,rfl,by decide +kernel,by decide +kernel⟩
noncomputable def aaI:{ B:TRS // JQ CMRecall "Bench.recall" aaH adf 4 B }:=
 ⟨_,fun P w K mg base f Kc A Ko s H E C hr=>
  (ji (Jo (aaq (ah3 (acZ (jW (jZ (jl C.c_IsName hr (by decide) (jb (ja 1) je) (jc jm))))) (ae9 (aia hr.units1 (jk (ja 1)) (jY C.f_kept (jk (ja 0))))))) (ji (aeb (zb rfl C.e_NoName rfl))
  jx) jx)
  (ji (qR (qu rfl C.m_go_on hr (by decide) (jk (ja 0)) (jq (jk Qg) (jq (amo hr.units1 (jY C.f_kept (jk (ja 0))) (jk (ja 1))) (jq (jY C.f_kept (jk (ja 0))) jO)))))
  jx))⟩
noncomputable def aaJ:GC3:=qv adf aaI.1
noncomputable abbrev acl:Stmt:=qH (top 48) 8
structure CMNames(P:Program)(w:World)(K:Fg)(mg:SV)(base:Heap):Prop where
 f_kept:qg K "Bench" "kept"
 t:Bare mg
noncomputable abbrev afH:List Str:=["self"]
theorem akI:FnScope afH ["self"] (jf acl):=⟨rfl,rfl,rfl,by decide +kernel,rfl,by decide +kernel,by decide +kernel⟩
noncomputable def afI:{ B:TRS // JQ CMNames "Bench.names" acl afH 0 B }:=
 ⟨_,fun P w K mg base f Kc A Ko s H E C hr=>
  (ji (qR (aec (Zc rfl) C.t.sorted Jz (jq (jY C.f_kept (jk (ja 0))) jO)))
  jx)⟩
noncomputable def ZD:GC3:=qv afH afI.1
noncomputable abbrev afJ:Stmt:=qH (top 50) 0
structure CHInit(P:Program)(w:World)(K:Fg)(mg:SV)(base:Heap):Prop where
 fh_now:qg K "Hand" "now"
 fh_manner:qg K "Hand" "manner"
 fh_past:qg K "Hand" "past"
 c_plainS:jj P w K mg base "plain_setting" ["manner","rods","number"] 6 3 J4
 x_plainS:zn P w K mg base "plain_setting" ["manner","rods","number"] 6 3 afw
noncomputable abbrev aix:List Str:=["self","manner","rods"]
theorem amE:FnScope aix ["self","manner","rods"] (jf afJ):=⟨rfl,rfl,rfl,by decide +kernel,rfl,by decide +kernel,by decide +kernel⟩
noncomputable def afK:{ B:TRS // JQ CHInit "Hand.__init__" afJ aix 6 B }:=
 ⟨_,fun P w K mg base f Kc A Ko s H E C hr=>
  (ji (zE C.fh_now (jk (ja 0)) (Jy rfl C.c_plainS C.x_plainS hr (by decide) (by decide) (jq (jk (ja 1)) (jq (jk (ja 2)) (jq (jk jg) jO)))))
  (ji (zE C.fh_manner (jk (ja 0)) (jk (ja 1)))
  (ji (zE C.fh_past (jk (ja 0)) (afa (ae1 je)))
  jx)))⟩
noncomputable def aiy:GC3:=qv aix afK.1
noncomputable abbrev ZE:Stmt:=qH (top 50) 1
structure CHSetting(P:Program)(w:World)(K:Fg)(mg:SV)(base:Heap):Prop where
 fh_now:qg K "Hand" "now"
noncomputable abbrev abt:List Str:=["self"]
theorem ag5:FnScope abt ["self"] (jf ZE):=⟨rfl,rfl,rfl,by decide +kernel,rfl,by decide +kernel,by decide +kernel⟩
noncomputable def abu:{ B:TRS // JQ CHSetting "Hand.setting" ZE abt 0 B }:=
 ⟨_,fun P w K mg base f Kc A Ko s H E C hr=>
  (ji (qR (jY C.fh_now (jk (ja 0))))
  jx)⟩
noncomputable def zW:GC3:=qv abt abu.1
noncomputable abbrev acm:Stmt:=qH (top 50) 2
structure CHValue(P:Program)(w:World)(K:Fg)(mg:SV)(base:Heap):Prop where
 fh_manner:qg K "Hand" "manner"
 fh_now:qg K "Hand" "now"
 c_num:jj P w K mg base "number_on" ["manner","setting"] 2 2 zS
noncomputable abbrev afL:List Str:=["self"]
theorem akJ:FnScope afL ["self"] (jf acm):=⟨rfl,rfl,rfl,by decide +kernel,rfl,by decide +kernel,by decide +kernel⟩
noncomputable def afM:{ B:TRS // JQ CHValue "Hand.value" acm afL 2 B }:=
 ⟨_,fun P w K mg base f Kc A Ko s H E C hr=>
  (ji (qR (Qv C.c_num hr (by decide) (jq (jY C.fh_manner (jk (ja 0))) (jq (jY C.fh_now (jk (ja 0))) jO))))
  jx)⟩
noncomputable def Jt:GC3:=qv afL afM.1
noncomputable abbrev afN:Stmt:=qH (top 50) 7
structure CHGoOn(P:Program)(w:World)(K:Fg)(mg:SV)(base:Heap):Prop where
 fh_past:qg K "Hand" "past"
 fh_now:qg K "Hand" "now"
 mh_value:qU P w K mg base "Hand" "value" ["self"] 3 1 Jt
noncomputable abbrev aiz:List Str:=["self","fresh"]
theorem amF:FnScope aiz ["self","fresh"] (jf afN):=⟨rfl,rfl,rfl,by decide +kernel,rfl,by decide +kernel,by decide +kernel⟩
noncomputable def aiA:{ B:TRS // JQ CHGoOn "Hand.go_on" afN aiz 3 B }:=
 ⟨_,fun P w K mg base f Kc A Ko s H E C hr=>
  (ji (aar (ac1 (jY C.fh_past (jk (ja 0))) (jY C.fh_now (jk (ja 0)))))
  (ji (zE C.fh_now (jk (ja 0)) (jk (ja 1)))
  (ji (qR (j6 rfl C.mh_value hr (by decide) (jk (ja 0))))
  jx)))⟩
noncomputable def adg:GC3:=qv aiz aiA.1
noncomputable abbrev afO:Stmt:=qH (top 50) 5
structure CHTake(P:Program)(w:World)(K:Fg)(mg:SV)(base:Heap):Prop where
 fh_manner:qg K "Hand" "manner"
 fh_now:qg K "Hand" "now"
 mh_go_on:qU P w K mg base "Hand" "go_on" ["self","fresh"] 4 2 adg
 c_less:jj P w K mg base "less" ["manner","setting","number"] 7 3 abN
 x_less:zn P w K mg base "less" ["manner","setting","number"] 7 3 amw
noncomputable abbrev aiB:List Str:=["self","number"]
theorem amG:FnScope aiB ["self","number"] (jf afO):=⟨rfl,rfl,rfl,by decide +kernel,rfl,by decide +kernel,by decide +kernel⟩
noncomputable def aiC:{ B:TRS // JQ CHTake "Hand.take" afO aiB 7 B }:=
 ⟨_,fun P w K mg base f Kc A Ko s H E C hr=>
  (ji (qR (qu rfl C.mh_go_on hr (by decide) (jk (ja 0)) (jq (Jy rfl C.c_less C.x_less hr (by decide) (by decide) (jq (jY C.fh_manner (jk (ja 0))) (jq (jY C.fh_now (jk (ja 0))) (jq (jk (ja 1)) jO)))) jO)))
  jx)⟩
noncomputable def adh:GC3:=qv aiB aiC.1
noncomputable abbrev afP:Stmt:=qH (top 50) 6
structure CHPush(P:Program)(w:World)(K:Fg)(mg:SV)(base:Heap):Prop where
 fh_manner:qg K "Hand" "manner"
 fh_now:qg K "Hand" "now"
 mh_go_on:qU P w K mg base "Hand" "go_on" ["self","fresh"] 4 2 adg
 c_Moved:jj P w K mg base "moved" ["manner","setting","move"] 7 3 Qk
 x_Moved:zn P w K mg base "moved" ["manner","setting","move"] 7 3 aim
noncomputable abbrev aiD:List Str:=["self","move"]
theorem amH:FnScope aiD ["self","move"] (jf afP):=⟨rfl,rfl,rfl,by decide +kernel,rfl,by decide +kernel,by decide +kernel⟩
noncomputable def aiE:{ B:TRS // JQ CHPush "Hand.push" afP aiD 7 B }:=
 ⟨_,fun P w K mg base f Kc A Ko s H E C hr=>
  (ji (qR (qu rfl C.mh_go_on hr (by decide) (jk (ja 0)) (jq (Jy rfl C.c_Moved C.x_Moved hr (by decide) (by decide) (jq (jY C.fh_manner (jk (ja 0))) (jq (jY C.fh_now (jk (ja 0))) (jq (jk (ja 1)) jO)))) jO)))
  jx)⟩
noncomputable def adi:GC3:=qv aiD aiE.1
noncomputable abbrev ZF:Stmt:=top 55
structure CLValue(P:Program)(w:World)(K:Fg)(mg:SV)(base:Heap):Prop where
 tr:True
noncomputable abbrev acn:List Str:=["_law_manner_here","_law_setting","_law_found","_law_upper","_law_lower"]
theorem Qx:FnScope acn ["_law_manner_here","_law_setting"] (jf ZF):=⟨rfl,rfl,rfl,by decide +kernel,rfl,by decide +kernel,by decide +kernel⟩
noncomputable def aaK:{ B:RO // aeg CLValue "_law_value" ZF acn 0 (Js (adK (jQ ZF) 1)) B }:=
 ⟨_,fun P w K mg base f Kc A Ko s H E C hr=>
  (jd (jR 2 Qx.nd (jt jz (jt jz (jt qQ (jN (ja 0) jg) (ja 2)) (jt qQ (ja 3) (jN (ja 0) jg))) (ja 4)))
  jh)⟩
noncomputable def aco:{ B:RO // qV CLValue "_law_value" ZF acn 0 B }:=
 ⟨_,fun P w K mg base f Kc A Ko s H E C hr=>
  (jd (jR 2 Qx.nd jg)
  (jd (QG PassesOwn.never rfl (aao (ja 1)) (abY (n:=2) rfl (qA (jK 3 Qx.nd) (qA (jK 4 Qx.nd) aae))) (aaK.2 P w K mg base f Kc A Ko s H E C hr))
  (jd (jw (ja 2))
  jh)))⟩
noncomputable def Ju:LP->OP:=jE acn 2 aco.1
noncomputable abbrev Z8:Stmt:=top 56
structure CLRods(P:Program)(w:World)(K:Fg)(mg:SV)(base:Heap):Prop where
 t:Bare mg
noncomputable abbrev adj:List Str:=["_law_manner_here","_law_found","_law_upper"]
theorem aaL:FnScope adj ["_law_manner_here"] (jf Z8):=⟨rfl,rfl,rfl,by decide +kernel,rfl,by decide +kernel,by decide +kernel⟩
theorem amI:(["_law_lower","_law_upper"]:List Str).Nodup:=by decide +kernel
noncomputable def afQ:{ B:RO // aeg CLRods "_law_rods" Z8 adj 0 (Js (adK (jQ Z8) 1)) B }:=
 ⟨_,fun P w K mg base f Kc A Ko s H E C hr=>
  (jd (jR 1 aaL.nd (jt jz (ja 1) (JU ["_law_lower","_law_upper"] [none,some 2] rfl (zP rfl C.t.range (jb (jt jz (jN (ja 0) jg) jg) je)) (Ja (jf Z8) adj (by decide +kernel))
   fun cl C' s0 H0 fp pn=>⟨(jK 0 amI),JD,(zf (jb (ja 1) (jb (ja 0) je)))⟩)))
  jh)⟩
noncomputable def afR:{ B:RO // qV CLRods "_law_rods" Z8 adj 0 B }:=
 ⟨_,fun P w K mg base f Kc A Ko s H E C hr=>
  (jd (jR 1 aaL.nd (acH je))
  (jd (QG PassesOwn.never rfl (zP rfl C.t.range (jb (jt jz (jN (ja 0) jg) jg) je)) (jK 2 aaL.nd) (afQ.2 P w K mg base f Kc A Ko s H E C hr))
  (jd (jw (ja 1))
  jh)))⟩
noncomputable def afS:LP->OP:=jE adj 1 afR.1
noncomputable abbrev Zh:Stmt:=top 57
structure CLFewest(P:Program)(w:World)(K:Fg)(mg:SV)(base:Heap):Prop where
 t:Bare mg
 c_LRods:jj P w K mg base "_law_rods" ["_law_manner_here"] 1 1 afS
noncomputable abbrev aaM:List Str:=["_law_manner_here","_law_digit","_law_some"]
theorem adk:FnScope aaM ["_law_manner_here","_law_digit"] (jf Zh):=⟨rfl,rfl,rfl,by decide +kernel,rfl,by decide +kernel,by decide +kernel⟩
theorem amJ:(["_law_rod","_law_digit","_law_manner_here"]:List Str).Nodup:=by decide +kernel
noncomputable def aaN:{ B:RO // qV CLFewest "_law_fewest" Zh aaM 1 B }:=
 ⟨_,fun P w K mg base f Kc A Ko s H E C hr=>
  (jd (agG 2 ["_law_rod","_law_digit","_law_manner_here"] [none,some 1,some 0] rfl adk.nd (aao (jl C.c_LRods hr (by decide) (jb (ja 0) je) (jc jm))) (Ja (jf Zh) aaM (by decide +kernel))
   fun cl C' s0 H0 fp pn=>⟨(jK 0 amJ),(acJ (j7 (Q7 hr.units) (jt jz (jt qQ (jN (ja 0) jg) (jN (ja 2) jg)) (jN (ja 0) jg)) (ja 1))),(zf (jb (jI (aqm rfl) C.t.sum aqI (jb (ja 0) je)) (jb (ja 0) je)))⟩)
  (jd (jw (jN (jN (jI (amc hr.sort) C.t.sorted Jz (jb (ja 2) je)) jg) jg))
  jh))⟩
noncomputable def adm:LP->OP:=jE aaM 2 aaN.1
noncomputable abbrev ZG:Stmt:=top 58
structure CLPlain(P:Program)(w:World)(K:Fg)(mg:SV)(base:Heap):Prop where
 t:Bare mg
 c_LFewest:jj P w K mg base "_law_fewest" ["_law_manner_here","_law_digit"] 2 2 adm
noncomputable abbrev acp:List Str:=["_law_manner_here","_law_rods_here","_law_number","_law_found","_law_k"]
theorem Qy:FnScope acp ["_law_manner_here","_law_rods_here","_law_number"] (jf ZG):=⟨rfl,rfl,rfl,by decide +kernel,rfl,by decide +kernel,by decide +kernel⟩
noncomputable def Zi:{ B:RO // aeg CLPlain "_law_plain" ZG acp 2 (Js (adK (jQ ZG) 1)) B }:=
 ⟨_,fun P w K mg base f Kc A Ko s H E C hr=>
  (jd (jR 3 Qy.nd (jt jz (zf (jb (jl C.c_LFewest hr (by decide) (jb (ja 0) (jb (jt JV (ja 2) (jN (ja 0) jg)) je)) (jc (jc jm))) je)) (ja 3)))
  (jd (jR 2 Qy.nd (jt Qp (ja 2) (jN (ja 0) jg)))
  jh))⟩
noncomputable def aaO:{ B:RO // qV CLPlain "_law_plain" ZG acp 2 B }:=
 ⟨_,fun P w K mg base f Kc A Ko s H E C hr=>
  (jd (jR 3 Qy.nd (zf je))
  (jd (QG PassesOwn.never rfl (zP rfl C.t.range (jb (ja 1) je)) (jK 4 Qy.nd) (Zi.2 P w K mg base f Kc A Ko s H E C hr))
  (jd (jw (arF (j7 (Q7 hr.units) (ja 2) jg) (ja 3) Q5))
  jh)))⟩
noncomputable def afT:LP->OP:=jE acp 3 aaO.1
noncomputable abbrev aaP:Stmt:=top 59
structure CLBehind(P:Program)(w:World)(K:Fg)(mg:SV)(base:Heap):Prop where
 t:Bare mg
noncomputable abbrev adn:List Str:=["_law_manner_here","_law_setting","_law_move","_law_rod","_law_deck","_law_by","_law_side","_law_fresh"]
theorem zX:FnScope adn ["_law_manner_here","_law_setting","_law_move"] (jf aaP):=⟨rfl,rfl,rfl,by decide +kernel,rfl,by decide +kernel,by decide +kernel⟩
noncomputable def aaQ:{ B:RO // qV CLBehind "_law_behind" aaP adn 0 B }:=
 ⟨_,fun P w K mg base f Kc A Ko s H E C hr=>
  (jd (qh (zj (Jm (jW (jZ (Qh (.inr (.inr rfl)) C.t.isi C.t.tuple JL (ja 2)))) (zZ (j7 (zq hr.units) (jI qT C.t.len qN (jb (ja 2) je)) jg)))) (jd (jw Q5)
  jh) jh)
  (jd (an3 (ja 2) (abY (n:=3) rfl (qA (jK 3 zX.nd) (qA (jK 4 zX.nd) (qA (jK 5 zX.nd) aae)))))
  (jd (qh (zj (Jm (jW (jZ (Qh (.inr (.inl rfl)) C.t.isi C.t.int aib (ja 3)))) (Jm (jZ (Qh (.inl rfl) C.t.isi C.t.bool afd (ja 3))) (zZ (jW (Zn QI ahL jg (ja 3) (jI qT C.t.len qN (jb (ja 1) je)))))))) (jd (jw Q5)
  jh) jh)
  (jd (qh (zj (Jm (j7 (abb hr.units) (ja 4) (aeZ 2 (.tuple [.str "upper",.str "lower"]) (by kernel_rfl))) (Jm (jZ (Qh (.inl rfl) C.t.isi C.t.bool afd (ja 5))) (zZ (j7 (abb hr.units) (ja 5) (zf (jb jg (jb (ahT jg) je)))))))) (jd (jw Q5)
  jh) jh)
  (jd (jR 6 zX.nd (aba ame C.t.int aib (jb (ahH (Q7 hr.units) (ja 4) Qg) je)))
  (agz (agB 7 zX.nd (ako C.t.list aoJ (jb (jN (ja 1) (ja 3)) je))
  (Jx (al3 7 (ja 6) (jt jz (jN (ja 7) (ja 6)) (ja 5)))
  (amd (jd (qh (jW (Zn QI QI jg (jN (ja 7) (ja 6)) (jN (zf (jb (jN (ja 0) jg) (jb (jN (ja 0) jg) je))) (ja 6)))) (jd (jw Q5)
  jh) jh)
  (jd (jw (jt jz (jt jz (agJ (ja 1) (ja 3)) (zf (jb (aba agE C.t.tuple JL (jb (ja 7) je)) je))) (acV (ja 1) (jt jz (ja 3) jg))))
  jh)))))))))))⟩
noncomputable def Jj:LP->OP:=jE adn 3 aaQ.1
noncomputable abbrev qy:Stmt:=top 60
structure CLAllMoves(P:Program)(w:World)(K:Fg)(mg:SV)(base:Heap):Prop where
 t:Bare mg
 c_LBehind:jj P w K mg base "_law_behind" ["_law_manner_here","_law_setting","_law_move"] 1 3 Jj
noncomputable abbrev zu:List Str:=["_law_manner_here","_law_setting","_law_found","_law_rod","_law_deck","_law_some"]
theorem zc:FnScope zu ["_law_manner_here","_law_setting"] (jf qy):=⟨rfl,rfl,rfl,by decide +kernel,rfl,by decide +kernel,by decide +kernel⟩
theorem amK:(["_law_by","_law_rod","_law_deck"]:List Str).Nodup:=by decide +kernel
theorem amL:(["_law_move","_law_manner_here","_law_setting"]:List Str).Nodup:=by decide +kernel
noncomputable def Qe:{ B:RO // aeg CLAllMoves "_law_all_moves" qy zu 1 (Js (adK (Js (adK (jQ qy) 1)) 0)) B }:=
 ⟨_,fun P w K mg base f Kc A Ko s H E C hr=>
  (jd (agG 5 ["_law_by","_law_rod","_law_deck"] [none,some 3,some 4] rfl zc.nd (aao (zf (jb jg (jb (ahT jg) je)))) (Ja (jf qy) zu (by decide +kernel))
   fun cl C' s0 H0 fp pn=>⟨(jK 0 amK),JD,(zf (jb (ja 1) (jb (ja 2) (jb (ja 0) je))))⟩)
  (jd (jR 2 zc.nd (jt jz (ja 2) (JU ["_law_move","_law_manner_here","_law_setting"] [none,some 0,some 1] rfl (aao (ja 5)) (Ja (jf qy) zu (by decide +kernel))
   fun cl C' s0 H0 fp pn=>⟨(jK 0 amL),(acJ (j7 agD (jl C.c_LBehind hr (by decide) (jb (ja 1) (jb (ja 2) (jb (ja 0) je))) (jc (jc (jc jm)))) Q5)),(ja 0)⟩)))
  jh))⟩
noncomputable def Qf:{ B:RO // aeg CLAllMoves "_law_all_moves" qy zu 1 (Js (adK (jQ qy) 1)) B }:=
 ⟨_,fun P w K mg base f Kc A Ko s H E C hr=>
  (jd (QG PassesOwn.never rfl (aao (aeZ 2 (.tuple [.str "upper",.str "lower"]) (by kernel_rfl))) (jK 4 zc.nd) (Qe.2 P w K mg base f Kc A Ko s H E C hr))
  jh)⟩
noncomputable def QS:{ B:RO // qV CLAllMoves "_law_all_moves" qy zu 1 B }:=
 ⟨_,fun P w K mg base f Kc A Ko s H E C hr=>
  (jd (jR 2 zc.nd (acH je))
  (jd (QG PassesOwn.never rfl (zP rfl C.t.range (jb (jI qT C.t.len qN (jb (ja 1) je)) je)) (jK 3 zc.nd) (Qf.2 P w K mg base f Kc A Ko s H E C hr))
  (jd (jw (ja 2))
  jh)))⟩
noncomputable def Z9:LP->OP:=jE zu 2 QS.1
noncomputable abbrev afU:Stmt:=top 61
structure CLaw(P:Program)(w:World)(K:Fg)(mg:SV)(base:Heap):Prop where
 mh_setting:qU P w K mg base "Hand" "setting" ["self"] 1 1 zW
 m_push:qU P w K mg base "Bench" "push" ["self","move"] 8 2 abr
 mh_push:qU P w K mg base "Hand" "push" ["self","move"] 8 2 adi
 mh_value:qU P w K mg base "Hand" "value" ["self"] 3 1 Jt
 m_take:qU P w K mg base "Bench" "take" ["self","number"] 8 2 add
 mh_take:qU P w K mg base "Hand" "take" ["self","number"] 8 2 adh
 m_value:qU P w K mg base "Bench" "value" ["self"] 3 1 QR
 m_setting:qU P w K mg base "Bench" "setting" ["self"] 1 1 zV
 m_names:qU P w K mg base "Bench" "names" ["self"] 1 1 ZD
 m_keep:qU P w K mg base "Bench" "keep" ["self","name"] 5 2 ade
 m_recall:qU P w K mg base "Bench" "recall" ["self","name"] 5 2 aaJ
 mk_Bench:akt P w K mg base "Bench" ["self","manner","rods"] 7 3 aio
 mk_Hand:akt P w K mg base "Hand" ["self","manner","rods"] 7 3 aiy
 t:Bare mg
 c_manner:jj P w K mg base "_law_manner" ["_law_script","_law_at"] 3 2 ZB
 c_drawn:jj P w K mg base "_law_drawn" ["_law_script","_law_k","_law_many"] 2 3 JO
 c_LAllMoves:jj P w K mg base "_law_all_moves" ["_law_manner_here","_law_setting"] 2 2 Z9
 c_LPlain:jj P w K mg base "_law_plain" ["_law_manner_here","_law_rods_here","_law_number"] 3 3 afT
 c_LValue:jj P w K mg base "_law_value" ["_law_manner_here","_law_setting"] 1 2 Ju
noncomputable abbrev amM:List Str:=["_law_script","_law_manner_here","_law_rods_here","_law_bench","_law_hand","_law_known","_law_k","_law_here","_law_moves","_law_move","_law_number","_law_left","_law_name","_law_rod","_law_deck","_law_by"]
theorem qY:FnScope amM ["_law_script"] (jf afU):=⟨rfl,rfl,rfl,by decide +kernel,rfl,by decide +kernel,by decide +kernel⟩
noncomputable def apC:{ B:TRS // amz CLaw "law" afU amM 8 (Js (adK (jQ afU) 5)) B }:=
 ⟨_,fun P w K mg base f Kc A Ko s H E C hr=>
  (ji (zR (jR 7 qY.nd (jt jz jg (jt qQ jg (ja 6)))))
  (ji (Zr 8 qY.nd (Qv C.c_LAllMoves hr (by decide) (jq (jk (ja 1)) (jq (j6 rfl C.mh_setting hr (by decide) (jk (ja 4))) jO))))
  (ji (zR (jR 9 qY.nd (jN (ja 8) (jl C.c_drawn hr (by decide) (jb (ja 0) (jb (ja 7) (jb (jI qT C.t.len qN (jb (ja 8) je)) je))) (jc (jc (jc jm)))))))
  (ji (Jo (acZ (j7 ahM (jl C.c_drawn hr (by decide) (jb (ja 0) (jb (jt jz (ja 7) jg) (jb jg je))) (jc (jc (jc jm)))) jg)) (ji (Jo (Jb (zq hr.units) (qu rfl C.m_push hr (by decide) (jk (ja 3)) (jq (jk (ja 9)) jO)) (qu rfl C.mh_push hr (by decide) (jk (ja 4)) (jq (jk (ja 9)) jO))) (ji (zR (jw zL))
  jx) jx)
  jx) (ji (Zr 10 qY.nd (Qv C.c_drawn hr (by decide) (jq (jk (ja 0)) (jq (jk (jt jz (ja 7) jg)) (jq (ajr jz (jk jg) (aec (ajg rfl) C.t.min aeW (jq (jk jg) (jq (j6 rfl C.mh_value hr (by decide) (jk (ja 4))) jO)))) jO)))))
  (ji (Zr 11 qY.nd (Qv C.c_LPlain hr (by decide) (jq (jk (ja 1)) (jq (jk (ja 2)) (jq (ajr QH (j6 rfl C.mh_value hr (by decide) (jk (ja 4))) (jk (ja 10))) jO)))))
  (ji (Jo (aaq (aov (acZ (j7 agD (ja 11) Q5)) (amf (Jb (zq hr.units) (qu rfl C.m_take hr (by decide) (jk (ja 3)) (jq (jk (ja 10)) jO)) (qu rfl C.mh_take hr (by decide) (jk (ja 4)) (jq (jk (ja 10)) jO)))))) (ji (zR (jw zL))
  jx) jx)
  jx))))
  (ji (Jo (aaq (ah3 (Jb (zq hr.units) (j6 rfl C.m_setting hr (by decide) (jk (ja 3))) (j6 rfl C.mh_setting hr (by decide) (jk (ja 4)))) (ae9 (Jb (zq hr.units) (j6 rfl C.m_value hr (by decide) (jk (ja 3))) (j6 rfl C.mh_value hr (by decide) (jk (ja 4))))))) (ji (zR (jw zL))
  jx) jx)
  (ji (Jo (acZ (j7 (Q7 hr.units) (jl C.c_drawn hr (by decide) (jb (ja 0) (jb (jt jz (ja 7) jg) (jb jg je))) (jc (jc (jc jm)))) jg)) (ji (zR (jR 12 qY.nd (aqB Qg (jl C.c_drawn hr (by decide) (jb (ja 0) (jb (jt jz (ja 7) jg) (jb jg je))) (jc (jc (jc jm)))) (by intro _ _; rfl))))
  (ji (amq 5 hr.units1 (jk (ja 12)) (j6 rfl C.mh_setting hr (by decide) (jk (ja 4))))
  (ji (Jo (aaq (ah3 (Jb (zq hr.units) (qu rfl C.m_keep hr (by decide) (jk (ja 3)) (jq (jk (ja 12)) jO)) (j6 rfl C.mh_value hr (by decide) (jk (ja 4)))) (ae9 (Jb (zq hr.units) (j6 rfl C.m_names hr (by decide) (jk (ja 3))) (JK 5 (jI (Zc rfl) C.t.sorted Jz (jb (ja 5) je))))))) (ji (zR (jw zL))
  jx) jx)
  jx))) jx)
  jx))))))⟩
noncomputable def amN:{ B:TRS // amz CLaw "law" afU amM 8 (Js (adK (jQ afU) 6)) B }:=
 ⟨_,fun P w K mg base f Kc A Ko s H E C hr=>
  (ji (Jo (Jb (zq hr.units) (qu rfl C.m_recall hr (by decide) (jk (ja 3)) (jq (jk (ja 12)) jO)) (JK 5 (jl C.c_LValue hr (by decide) (jb (ja 1) (jb (ab3 hr.units1 (ja 5) (ja 12)) je)) (jc (jc jm))))) (ji (zR (jw zL))
  jx) jx)
  (ji (Jo (Jb (zq hr.units) (j6 rfl C.m_setting hr (by decide) (jk (ja 3))) (JK 5 (ab3 hr.units1 (ja 5) (ja 12)))) (ji (zR (jw zL))
  jx) jx)
  (ji (aoH (aqG (Qv C.c_LAllMoves hr (by decide) (jq (jk (ja 1)) (jq (j6 rfl C.m_setting hr (by decide) (jk (ja 3))) jO))) (jk jg)) (abY (n:=3) rfl (qA (jK 13 qY.nd) (qA (jK 14 qY.nd) (qA (jK 15 qY.nd) aae)))))
  (ji (aar (qu rfl C.m_push hr (by decide) (jk (ja 3)) (jq (jk (zf (jb (ja 13) (jb (ja 14) (jb (ja 15) je))))) jO)))
  (ji (Jo (Jb (zq hr.units) (qu rfl C.m_push hr (by decide) (jk (ja 3)) (jq (jk (zf (jb (ja 13) (jb (ja 14) (jb (jt QH jg (ja 15)) je))))) jO)) (JK 5 (jl C.c_LValue hr (by decide) (jb (ja 1) (jb (ab3 hr.units1 (ja 5) (ja 12)) je)) (jc (jc jm))))) (ji (zR (jw zL))
  jx) jx)
  (ji (Jo (Jb (zq hr.units) (j6 rfl C.m_setting hr (by decide) (jk (ja 3))) (JK 5 (ab3 hr.units1 (ja 5) (ja 12)))) (ji (zR (jw zL))
  jx) jx)
  jx))))))⟩
noncomputable def aoQ:{ B:TRS // amz CLaw "law" afU amM 8 (jQ afU) B }:=
 ⟨_,fun P w K mg base f Kc A Ko s H E C hr=>
  (ji (zR (jR 1 qY.nd (jl C.c_manner hr (by decide) (jb (ja 0) (jb jg je)) (jc (jc jm)))))
  (ji (zR (jR 2 qY.nd (jt jz jg (jl C.c_drawn hr (by decide) (jb (ja 0) (jb jg (jb jg je))) (jc (jc (jc jm)))))))
  (ji (Zr 3 qY.nd (agP rfl C.mk_Bench hr (by decide) (jq (jk (ja 1)) (jq (jk (ja 2)) jO))))
  (ji (Zr 4 qY.nd (agP rfl C.mk_Hand hr (by decide) (jq (jk (ja 1)) (jq (jk (ja 2)) jO))))
  (ji (Zr 5 qY.nd amp)
  (ji (aoy PassesOwn.never rfl (zP rfl C.t.range (jb (jt jz jg (jl C.c_drawn hr (by decide) (jb (ja 0) (jb jg (jb jg je))) (jc (jc (jc jm))))) je)) (jK 6 qY.nd) (apC.2 P w K mg base f Kc A Ko s H E C hr))
  (ji (ami PassesOwn.never rfl (aoI (JK 5 (jt jz (aqy (jI (Zc rfl) C.t.sorted Jz (jb (ja 5) je))) (jI (Zc rfl) C.t.sorted Jz (jb (ja 5) je))))) (jK 12 qY.nd) (amN.2 P w K mg base f Kc A Ko s H E C hr))
  (ji (qR (aou (Q7 hr.units) (j6 rfl C.m_names hr (by decide) (jk (ja 3))) (JK 5 (jI (Zc rfl) C.t.sorted Jz (jb (ja 5) je)))))
  jx))))))))⟩
noncomputable def amO:GC3:=qv amM aoQ.1
end Rods
end
local macro_rules
  | `(tactic| dsimp? [$xs,*])=>`(tactic| simp only [BX.jX,BX.ifS,BX.ifD,BX.ifX,BX.asK,BX.orB,BX.zI,BX.tst,BX.op2,BX.chn,BX.jL,BX.aad,BX.QY,BX.jr,BX.jF,BX.lkp,BX.cst,BX.qq,BX.aeQ,BX.zk,BX.j9,BX.qz,BX.nxX,BX.orX,BX.akp,BX.aqf,BX.asB,zzA,zzB,zzC,zzD,zzH,zzE,zzI,zzF,zzG,zzJ,zzK,zzL,zzM,zzN,$(⟨xs.elemsAndSeps⟩),*])
section
namespace Rods
noncomputable abbrev PL:=List (Int×Int)
open PySem L2 BX
open PyProof.Rows hiding St
theorem j2(i a b:Int):jS [.int i,.int a,.int b]=some (.bool (decide (a<=i)&&decide (i<=b))):=by
 by_cases h:a<=i<;>simp[jS,jE,aav,jM,jX,ifS,orB,tst,lkp,JG,tyn,asB,zI,chn,zJ,qq,qz,h]
theorem aaR(u e l b x y:Int)(h:-18446744073709551616<x/\x<18446744073709551616):zz [.tuple [.int u,.int e,.int l,.int b],.tuple [.int x,.int y]]=some (.int (x*e+y)):=by
 simp[zz,jE,abi,jM,jX,op2,lkp,dIx,atI,ixN,qq,qz,cst,Qo,qS,h]
theorem abv(x y:Int):qO [.tuple [.int x,.int y]]=some (.int (x+y)):=by
 simp[qO,jE,aie,jM,jX,op2,lkp,dIx,atI,ixN,qq,qz,cst,qS]
theorem afV{n:Nat}{i:Int}(h0:0<=i)(h:i.toNat<n):ixN n i=some i.toNat:=by
 unfold ixN;rw[if_pos h0,if_pos (by omega)]
noncomputable def okN(u e l b:Int):Bool:=decide (0<=u)&&decide (u<=3)&&decide (1<=e)&&decide (e<=5)&&decide (e-1<=l)&&decide (1<=l)&&decide (l<=11)&&decide (2<=b)&&decide (b<=16)&&decide (b<=u*e+l+1)
noncomputable def qD(u l:Int):LP:=zA (u+1).toNat (l+1).toNat
noncomputable def j0(e:Int):PyData->Int
 |.tuple [.int x,.int y]=>x*e+y
 |_=>-1
noncomputable def fpr(m:PyData)(d:Int):Int×Int:=match J1 [m,.int d]with
 |some (.tuple [.int x,.int y])=>(x,y)
 |_=>(0,0)
noncomputable def pr(p:Int×Int):PyData:= .tuple [.int p.1,.int p.2]
noncomputable def jv(ps:List (Int×Int)):PyData:= .tuple (ps.map pr)
noncomputable def okP(u l:Int)(p:Int×Int):Bool:=decide (0<=p.1)&&decide (p.1<=u)&&decide (0<=p.2)&&decide (p.2<=l)
noncomputable def okS(u l:Int)(ps:List (Int×Int)):Bool:=decide (1<=ps.length)&&decide (ps.length<=4)&&ps.all (okP u l)
noncomputable def wt(e:Int)(p:Int×Int):Int:=p.1*e+p.2
noncomputable def val(b e:Int)(ps:List (Int×Int)):Int:=ps.foldl (fun n p=>n*b+wt e p) 0
noncomputable def small(b e:Int)(ps:List (Int×Int)):Bool:=ps.all fun p=>decide (wt e p<b)
noncomputable def dgl(b:Int):Nat->Int->List Int
 |0,_=>[]
 |1,n=>[n]
 |k+2,n=>dgl b (k+1) (n / b)++[n % b]
noncomputable def pln(m:PyData)(b:Int)(r:Nat)(n:Int):List (Int×Int):=(dgl b r n).map (fpr m)
noncomputable def f00:Int×Int:=(0,0)
noncomputable def ar5(e:Int):List Int->LP->List Int
 |c,[]=>c
 |c,r::rs=>ar5 e (c.set (j0 e r).toNat (c.getD (j0 e r).toNat 0+1)) rs
noncomputable def ar6(u e l:Int):List Int:=ar5 e (List.replicate (u*e+l+1).toNat 0) (qD u l)
noncomputable def cnt(u e l n:Int):Int:=((qD u l).filter fun r=>j0 e r==n).length
noncomputable def okM(u e l b:Int):Bool:=decide (0<=u)&&decide (u<=3)&&decide (1<=e)&&decide (e<=5)&&decide (e-1<=l)&&decide (1<=l)&&decide (l<=10)&&decide (2<=b)&&decide (b<=16)&&decide (b<=u*e+l+1)
theorem ael{n m:Nat}{d:PyData}(h:d∈zA n m):∃i j:Nat,i<n/\j<m/\d= .tuple [.int i,.int j]:=by
 obtain⟨i,hi,hd⟩:=List.mem_flatMap.mp h;obtain⟨j,hj,rfl⟩:=List.mem_map.mp hd;exact⟨i,j,List.mem_range.mp hi,List.mem_range.mp hj,rfl⟩
theorem Jv(i:Int):okD (.int i)=true:=by simp[okD,PyData.canLay0,PyData.depth]
theorem abO{u e l b:Int}(hu:0<=u)(hu':u<100)(hl:0<=l)(hl':l<100):JM [jo u e l b]=some (.list (qD u l)):=by
 simp[JM,jo,qD,hu,hl,show u<1000 by omega,show l<1000 by omega]
theorem ado{u l:Int}(hu':u<100)(hl':l<100):few (qD u l)=true:=by
 simp only[few,qD,aaw,decide_eq_true_eq];have:(u+1).toNat*(l+1).toNat<=100*100:=Nat.mul_le_mul (by omega) (by omega);omega
theorem aem{u e l b:Int}(hu':u<100){d:PyData}(h:d∈qD u l):zz [jo u e l b,d]=some (.int (j0 e d)):=by
 obtain⟨i,j,hi,hj,rfl⟩:=ael h;exact aaR u e l b i j (by omega)
theorem amP(ns:List Int):okD (.list (ns.map PyData.int))=true:=by
 have h1:∀ns:List Int,PyData.canLayAll0 (ns.map PyData.int)=true:=fun ns=>by
  induction ns with
  |nil=>rfl
  |cons n ns ih=>simp[PyData.canLayAll0,PyData.canLay0,ih]
 have h2:∀ns:List Int,PyData.depthAll (ns.map PyData.int)=0:=fun ns=>by
  induction ns with
  |nil=>rfl
  |cons n ns ih=>simp[PyData.depthAll,PyData.depth,ih]
 simp[okD,PyData.canLay0,h1,PyData.depth,h2]
theorem amQ(ns:List Int)(d:Int):(ns.map PyData.int).any (fun z=>PyData.eqv z (.int d))=ns.any (fun z=>z==d):=by
 induction ns with
 |nil=>rfl
 |cons n ns ih=>simp only[List.map_cons,List.any_cons,ih];rfl
theorem acq{α:Type}(f:α->Bool):∀xs:List α,bls (xs.map fun d=>PyData.bool (f d))=some (xs.map f)
 | []=>rfl
 |x::xs=>by simp[bls,asB,acq f xs]
theorem ix0(u e l b:Int):dIx (jo u e l b) (.int 0)=some (.int u):=rfl
theorem ix1(u e l b:Int):dIx (jo u e l b) (.int 1)=some (.int e):=rfl
theorem ix2(u e l b:Int):dIx (jo u e l b) (.int 2)=some (.int l):=rfl
theorem ix3(u e l b:Int):dIx (jo u e l b) (.int 3)=some (.int b):=rfl
theorem aaS{j:Int}(h:0<=j)(h':j<1000000):ZV [.int j]=some (zl 0 j.toNat):=by
 unfold ZV;exact if_pos (by omega)
theorem QT(a b:Int):PyData.eqv (.int a) (.int b)=(a==b):=by unfold PyData.eqv;rfl
theorem adp{u e l b:Int}(hu:0<=u)(hu':u<100)(hl:0<=l)(hl':l<100)(hb:0<=b)(hb':b<100):aax [jo u e l b]=some (.bool ((List.range b.toNat).all fun d=>((qD u l).map (j0 e)).any fun z=>z==(d:Int))):=by
 have h1:=abO (e:=e) (b:=b) hu hu' hl hl';have h2:=ado hu' hl';have h4:few (zl 0 b.toNat)=true:=by simp[few,zl];omega
 simp only[aax,jE,afg,jM,jX,qq,ze,itL,jL,jr,jF,lkp,Q6,List.length_cons,List.length_nil,zzM,List.map_cons,List.map_nil,List.cons_append,List.nil_append,zzA,zzC,zzD,zzE,h1,h2,ZL,zk];rw[Jw (fun d=> .int (j0 e d))]
 ·simp only[j9,qz,op2,cst,lkp,zzD,zzE,zzF,zzG,List.replicate,List.length_cons,List.length_nil,zzA,zzB,zzC,ix3,aaS hb (show b<1000000 by omega),h4,zzM]
  rw[Jw (fun d=> .bool (((qD u l).map (j0 e)).any fun z=>z==(QZ d).getD 0))]
  ·have:(zl 0 b.toNat).map (fun d=>PyData.bool (((qD u l).map (j0 e)).any fun z=>z==(QZ d).getD 0))=(List.range b.toNat).map fun (d:Nat)=>PyData.bool (((qD u l).map (j0 e)).any fun z=>z==(d:Int)):=by
    simp[zl,QZ,Function.comp_def]
   simp only[zzE,zzD,this,alH,acq (fun (d:Nat)=>((qD u l).map (j0 e)).any fun z=>z==(d:Int)),List.all_map,Function.comp_def,id]
  ·intro d hd
   obtain⟨k,_,rfl⟩:=List.mem_map.mp hd;have h5:(qD u l).map (fun d=>PyData.int (j0 e d))=((qD u l).map (j0 e)).map PyData.int:=by simp
   have h6:=amP ((qD u l).map (j0 e));simp only[op2,lkp,zzG,zzA,zzB,zzC,zzD,dIn,Jv,h5,h6,amQ];simp[QZ]
 ·intro d hd
  simp[jL,jr,jF,lkp,aem (b:=b) (e:=e) hu' hd]
theorem afW{u e l b:Int}(hu:0<=u)(hu':u<=3)(he:1<=e)(he':e<=16)(hl:0<=l)(hl':l<=12)(hb:2<=b)(hb':b<=16):qM [jo u e l b]=aax [jo u e l b]:=by
 have g:=adp (e:=e) hu (by omega) hl (by omega) (show 0<=b by omega) (by omega);have w1:jS [.int u,.int 0,.int 3]=some (.bool true):=by rw[j2];simp[hu,hu']
 have w2:jS [.int e,.int 1,.int 16]=some (.bool true):=by rw[j2];simp[he,he']
 have w3:jS [.int l,.int 0,.int 12]=some (.bool true):=by rw[j2];simp[hl,hl']
 have w4:jS [.int b,.int 2,.int 16]=some (.bool true):=by rw[j2];simp[hb,hb']
 have z:aji [jo u e l b,.tuple [.int 0,.int 1,.int 0,.int 2],.tuple [.int 3,.int 16,.int 12,.int 16]]=some [.tuple [.int u,.int 0,.int 3],.tuple [.int e,.int 1,.int 16],.tuple [.int l,.int 0,.int 12],.tuple [.int b,.int 2,.int 16]]:=rfl;rw[g];rw[show jo u e l b= .tuple [.int u,.int e,.int l,.int b] from rfl]at g z ⊢;simp[qM,jE,abj,jM,jX,ifS,orB,zI,tst,JG,tyn,asB,lkp,op2,jL,jr,jF,JE,cst,dNe,Jv,QT,qz,agp,z,qK,ago,zB,acI,j9,w1,w2,w3,w4,qq,g]
theorem ZH{m:PyData}(h:qM [m]=some (.bool true)):Z4 [m]=some .none:=by
 simp[Z4,jE,aig,jM,jX,ifS,zI,tst,asB,jL,jr,jF,lkp,h,qz]
theorem aoR:few []=true:=by simp[few]
theorem add_int(i j:Int):qS (.int i) (.int j)=some (.int (i+j)):=rfl
theorem zd{i j:Int}(h:-1000000000000<i/\i<1000000000000):Qo (.int i) (.int j)=some (.int (i*j)):=by
 unfold Qo;exact if_pos (.inl ⟨by omega,by omega⟩)
theorem afX{i j:Int}(h:0<j):ahK (.int i) (.int j)=some (.int (i % j)):=by unfold ahK;exact if_pos h
theorem adq{i j:Int}(h:0<j)(h':j<1000000000):acK (.int i) (.int j)=some (.int (i / j)):=by unfold acK;exact if_pos ⟨h,by omega⟩
theorem amR(ns:List Int)(hn:ns.length<1000000)(k:Int)(hk:0<=k):∃c,ag0 [scr ns,.int k]=some (.int c):=by
 cases ns with
 | nil=>
  refine⟨7*k,?_⟩;simp[ag0,jE,ajA,jM,jX,ifS,tst,op2,lkp,QY,jF,few,dEq,scr,zK,asB,qq,cst,zd,qz]
 | cons n ns=>
  have hl:0<(((n::ns).map fun n=>(PyData.int n,PyData.none)).length:Int):=by simp
  have hl':(((n::ns).map fun n=>(PyData.int n,PyData.none)).length:Int)<1000000:=by simp at hn ⊢;omega
  have hsc:=ad3 (n::ns)
  have e1:dEq (scr (n::ns)) (.list [])=some (.bool false):=by
   show(if zK ((n::ns).map fun n=>(PyData.int n,PyData.none))=true then some (PyData.bool ((n::ns).map fun n=>(PyData.int n,PyData.none)).isEmpty) else none)=_;rw[if_pos hsc];rfl
  have e2:JE [scr (n::ns)]=some (.int (((n::ns).map fun n=>(PyData.int n,PyData.none)).length)):=by
   show(if zK ((n::ns).map fun n=>(PyData.int n,PyData.none))=true then some (PyData.int ((n::ns).map fun n=>(PyData.int n,PyData.none)).length) else none)=_;rw[if_pos hsc]
  generalize hL:(((n::ns).map fun n=>(PyData.int n,PyData.none)).length:Int)=L at*;have h0:0<=k % L:=Int.emod_nonneg _ (by omega);have h1:k % L<L:=Int.emod_lt_of_pos _ hl
  have e3:∃c,dIx (scr (n::ns)) (.int (k % L))=some (.int c):=by
   have hlen:((n::ns).map fun n=>(PyData.int n,PyData.none)).length<1000000:=by omega
   have hlt:(k % L).toNat<((n::ns).map fun n=>(PyData.int n,PyData.none)).length:=by omega
   have hx:ixN ((n::ns).map fun n=>(PyData.int n,PyData.none)).length (k % L)=some (k % L).toNat:=afV h0 hlt;refine⟨((n::ns)[(k % L).toNat]'(by simpa using hlt)),?_⟩;show(if ((n::ns).map fun n=>(PyData.int n,PyData.none)).length<1000000/\zK ((n::ns).map fun n=>(PyData.int n,PyData.none))=true then (atI ((n::ns).map fun n=>(PyData.int n,PyData.none)) (k % L)).map (·.1) else none)=_;rw[if_pos ⟨hlen,hsc⟩];unfold atI;rw[hx,zzD,List.getElem?_eq_getElem hlt,zzE,List.getElem_map]
  obtain⟨c,e3⟩:=e3;refine⟨c+6553*(k / L),?_⟩;simp[ag0,jE,ajA,jM,jX,ifS,tst,op2,lkp,QY,jF,few,asB,qq,cst,qz,jL,jr,e1,e2,e3,afX hl,adq hl (show L<1000000000 by omega),zd,add_int]
theorem qr(ns:List Int)(hn:ns.length<1000000)(k m:Int)(hk:0<=k)(hm:0<m):∃r,JO [scr ns,.int k,.int m]=some (.int r)/\0<=r/\r<m:=by
 obtain⟨c,hc⟩:=amR ns hn k hk;generalize h1:(c % 2147483563*69069+104723*(k+1)) % 2147483563=a;generalize h2:(a*a+a / 3) % 2147483399=d;have ha:0<=a/\a<2147483563:=by rw[←h1];exact⟨Int.emod_nonneg _ (by omega),Int.emod_lt_of_pos _ (by omega)⟩
 have hd:0<=d/\d<2147483399:=by rw[←h2];exact⟨Int.emod_nonneg _ (by omega),Int.emod_lt_of_pos _ (by omega)⟩
 have hc':0<=c % 2147483563/\c % 2147483563<2147483563:=⟨Int.emod_nonneg _ (by omega),Int.emod_lt_of_pos _ (by omega)⟩;refine⟨(d*d+d / 7) % 2147483647 / 11 % m,?_,Int.emod_nonneg _ (by omega),Int.emod_lt_of_pos _ hm⟩;have m1:Qo (.int (c % 2147483563)) (.int 69069)=some (.int (c % 2147483563*69069)):=zd (by omega);have m2:Qo (.int 104723) (.int (k+1))=some (.int (104723*(k+1))):=zd (by omega);have m3:Qo (.int a) (.int a)=some (.int (a*a)):=zd (by omega);have m4:Qo (.int d) (.int d)=some (.int (d*d)):=zd (by omega);simp[JO,jE,aii,jM,jX,zk,j9,op2,lkp,jF,qq,cst,qz,jL,jr,hc,m1,m2,m3,m4,afX,adq,add_int,h1,h2,hm]
theorem amS(w:Int)(h0:0<=w)(h:w<12):∃u e l b,dIx (.list (abn++abo)) (.int w)=some (jo u e l b)/\okM u e l b=true:=by
 obtain⟨n,rfl⟩:=Int.eq_ofNat_of_zero_le h0;have hn:n<12:=by omega
 have:∀n<12,∃u e l b,dIx (.list (abn++abo)) (.int (n:Nat))=some (jo u e l b)/\okM u e l b=true:=by
  intro n hn
  match n,hn with
  |0,_=>exact⟨_,_,_,_,rfl,by decide⟩
  |1,_=>exact⟨_,_,_,_,rfl,by decide⟩
  |2,_=>exact⟨_,_,_,_,rfl,by decide⟩
  |3,_=>exact⟨_,_,_,_,rfl,by decide⟩
  |4,_=>exact⟨_,_,_,_,rfl,by decide⟩
  |5,_=>exact⟨_,_,_,_,rfl,by decide⟩
  |6,_=>exact⟨_,_,_,_,rfl,by decide⟩
  |7,_=>exact⟨_,_,_,_,rfl,by decide⟩
  |8,_=>exact⟨_,_,_,_,rfl,by decide⟩
  |9,_=>exact⟨_,_,_,_,rfl,by decide⟩
  |10,_=>exact⟨_,_,_,_,rfl,by decide⟩
  |11,_=>exact⟨_,_,_,_,rfl,by decide⟩
  |k+12,h=>omega
 exact this n hn
theorem aiF(ns:List Int)(hn:ns.length<1000000)(k:Int)(hk:0<=k):∃u e l b,ZB [scr ns,.int k]=some (jo u e l b)/\okM u e l b=true:=by
 obtain⟨w,hw,hw0,hw1⟩:=qr ns hn k 24 hk (by omega);have a1:qS (.list abn) (.list abo)=some (.list (abn++abo)):=rfl;have a2:JE [.list (abn++abo)]=some (.int 12):=rfl;have a3:Qo (.int 2) (.int 12)=some (.int 24):=rfl;by_cases hlt:w<12
 ·obtain⟨u,e,l,b,h1,h2⟩:=amS w hw0 hlt
  refine⟨u,e,l,b,?_,h2⟩;simp[ZB,jE,ab9,jM,jX,zk,j9,op2,lkp,jF,qq,cst,qz,jL,jr,ifS,tst,asB,a1,a2,a3,hw,zJ,hlt,h1]
 ·obtain⟨r1,e1,p1,q1⟩:=qr ns hn (k+1) 5 (by omega) (by omega)
  obtain⟨r2,e2,p2,q2⟩:=qr ns hn (k+2) 4 (by omega) (by omega);obtain⟨r3,e3,p3,q3⟩:=qr ns hn (k+3) 4 (by omega) (by omega);generalize hlo:(if (1:Int)>1+r1-1 then 1 else 1+r1-1)+r3=lo
  have hlo1:1<=lo/\r1<=lo/\lo<=10:=by
   rw[←hlo];split<;>omega
  have hue:0<=r2*(1+r1)/\r2*(1+r1)<=3*5:=⟨Int.mul_nonneg p2 (by omega),Int.mul_le_mul (by omega) (by omega) (by omega) (by omega)⟩;generalize hmn:(if r2*(1+r1)+lo<15 then r2*(1+r1)+lo else 15)=mn
  have hmn1:0<mn/\mn<=15/\mn<=r2*(1+r1)+lo:=by
   rw[←hmn];split<;>omega
  obtain⟨r4,e4,p4,q4⟩:=qr ns hn (k+4) mn (by omega) (by omega);refine⟨r2,1+r1,lo,2+r4,?_,?_⟩
  ·have m1:Qo (.int r2) (.int (1+r1))=some (.int (r2*(1+r1))):=zd (by omega)
   have x1:alG [.int (1+r1-1),.int 1]=some (.int (if (1:Int)>1+r1-1 then 1 else 1+r1-1)):=rfl;have x2:ajf [.int 15,.int (r2*(1+r1)+lo)]=some (.int (if r2*(1+r1)+lo<15 then r2*(1+r1)+lo else 15)):=rfl;have x3:ahJ (.int (1+r1)) (.int 1)=some (.int (1+r1-1)):=rfl;simp only[ZB,jE,ab9,jM,jX,zk,j9,op2,lkp,jF,qq,cst,qz,jL,jr,ifS,tst,asB,a1,a2,a3,hw,zJ,hlt,zzD,zzE,zzF,zzG,List.replicate,List.length_cons,List.length_nil,zzM,List.map_cons,List.map_nil,List.cons_append,List.nil_append,zzA,zzB,zzC,add_int,e1,e2,e3,m1,x1,x2,x3,decide_false,hlo,hmn,e4];simp[e1,e2,e3,m1,x1,x2,x3,hlo,hmn,e4,add_int,lkp,aad,jr,jF,few,jo];simp only[aad,jr,jF,lkp,op2,jL,cst,zzD,zzE,zzA,zzB,zzC,add_int,m1,x2,hmn,e4];simp
  ·have:=hue.1
   simp[okM];omega
noncomputable def isInt(t:Int):PyData->Bool
 |.int x=>x==t
 |_=>false
noncomputable def aqJ(u e l:Int):Bool:=
 isInt (u*e+l) (aqp none ((qD u l).map (j0 e))) &&
 ((List.range (u*e+l+1).toNat).all fun n=>(qD u l).any fun r=>j0 e r==(n:Int)) &&
 ((qD u l).all fun r=>decide (0<=j0 e r)&&decide (j0 e r<=u*e+l)) &&
 decide (ar6 u e l=(List.range (u*e+l+1).toNat).map fun (n:Nat)=>cnt u e l n)
noncomputable def zG:Bool:=(List.range 4).all fun (i:Nat)=>(List.range 5).all fun (j:Nat)=>(List.range 11).all fun (k:Nat)=>decide (k+1<j)||aqJ i (j+1) (k+1)
structure Chk(u e l:Int):Prop where
 most:aqp none ((qD u l).map (j0 e))= .int (u*e+l)
 dig:∀n:Nat,n<(u*e+l+1).toNat->((qD u l).any fun r=>j0 e r==(n:Int))=true
 rng:∀r∈qD u l,0<=j0 e r/\j0 e r<=u*e+l
 lst:ar6 u e l=(List.range (u*e+l+1).toNat).map fun (n:Nat)=>cnt u e l n
theorem aqK{u e l:Int}(h:aqJ u e l=true):Chk u e l:=by
 simp only[aqJ,Bool.and_eq_true,List.all_eq_true,decide_eq_true_eq]at h;obtain⟨⟨⟨h1,h2⟩,h3⟩,h4⟩:=h;refine⟨?_,fun n hn=>h2 n (List.mem_range.mpr hn),fun r hr=>h3 r hr,h4⟩;generalize aqp none ((qD u l).map (j0 e))=x at h1;cases x<;>simp[isInt]at h1
 rw[h1]
theorem qo{u e l b:Int}(h:okN u e l b=true):0<=u/\u<=3/\1<=e/\e<=5/\e-1<=l/\1<=l/\l<=11/\2<=b/\b<=16/\b<=u*e+l+1:=by
 simp only[okN,Bool.and_eq_true,decide_eq_true_eq]at h;omega
theorem aqL{u e l b:Int}(H:zG=true)(h:okN u e l b=true):Chk u e l:=by
 obtain⟨a1,a2,a3,a4,a5,a6,a7,_⟩:=qo h;simp only[zG,List.all_eq_true,Bool.or_eq_true,decide_eq_true_eq]at H;have:=H u.toNat (List.mem_range.mpr (by omega)) (e-1).toNat (List.mem_range.mpr (by omega)) (l-1).toNat (List.mem_range.mpr (by omega));rcases this with z | z
 ·exfalso;omega
 ·rw[show((u.toNat:Nat):Int)=u by omega,show(((e-1).toNat:Nat):Int)+1=e by omega,show(((l-1).toNat:Nat):Int)+1=l by omega]at z
  exact aqK z
theorem aoS{u e l b:Int}(h:okM u e l b=true):okN u e l b=true:=by
 simp only[okM,okN,Bool.and_eq_true,decide_eq_true_eq]at h ⊢;omega
theorem aiG{u e l b:Int}(H:zG=true)(h:okN u e l b=true){n:Int}(h0:0<=n)(hn:n<b):((qD u l).any fun r=>j0 e r==n)=true:=by
 obtain⟨a1,a2,a3,a4,a5,a6,a7,a8,a9,a10⟩:=qo h;have:=(aqL H h).dig n.toNat (by omega);rw[show((n.toNat:Nat):Int)=n by omega]at this;exact this
noncomputable def zM(u e l w:Int):LP:=(qD u l).filter fun r=>j0 e r==w
theorem aaT{u e l b w:Int}(hu:0<=u)(hu':u<100)(hl:0<=l)(hl':l<100):Zv [jo u e l b,.int w]=some (.list (zM u e l w)):=by
 have h1:=abO (e:=e) (b:=b) hu hu' hl hl';have h2:=ado hu' hl';simp only[Zv,jE,abk,jM,jX,qq,ze,itL,jL,jr,jF,lkp,Q6,List.length_cons,List.length_nil,zzM,List.map_cons,List.map_nil,List.cons_append,List.nil_append,zzA,zzC,zzD,zzE,h1,h2,ZL];rw[aah (fun d=>j0 e d==w) id]
 ·simp[zM]
 ·intro d hd
  simp[tst,op2,jL,jr,jF,lkp,aem (b:=b) (e:=e) hu' hd,dEq,Jv,PyData.eqv,asB]
 ·intro d hd _
  simp[lkp]
theorem abw(kf:PyData->Int):∀(r:LP) (d:PyData),Qq kf d r=d∨Qq kf d r∈r
 | [],d=> .inl rfl
 | x::r,d=>by
  unfold Qq;split
  ·rcases abw kf r x with z | z
   ·exact .inr (by rw[z];exact List.mem_cons_self)
   ·exact .inr (List.mem_cons_of_mem _ z)
  ·rcases abw kf r d with z | z
   ·exact .inl z
   ·exact .inr (List.mem_cons_of_mem _ z)
noncomputable def ajG(m:PyData)(d:Int):PyData:=pr (fpr m d)
theorem aen{u e l b:Int}(H:zG=true)(h:okN u e l b=true){d:Int}(h0:0<=d)(hd:d<b):
  J1 [jo u e l b,.int d]=some (ajG (jo u e l b) d)/\wt e (fpr (jo u e l b) d)=d/\okP u l (fpr (jo u e l b) d)=true:=by
 obtain⟨a1,a2,a3,a4,a5,a6,a7,a8,a9,a10⟩:=qo h;have hw:=aaT (e:=e) (b:=b) (w:=d) a1 (show u<100 by omega) (show 0<=l by omega) (show l<100 by omega);have any:=aiG H h h0 hd
 have rods:∀r∈zM u e l d,∃i j:Nat,r= .tuple [.int i,.int j]/\(i:Int)*e+j=d/\(i:Int)<=u/\(j:Int)<=l:=fun r hr=>by
  obtain⟨h1,h2⟩:=List.mem_filter.mp hr;obtain⟨i,j,q1,q2,rfl⟩:=ael h1;exact⟨i,j,rfl,by simpa[j0]using h2,by omega,by omega⟩
 have kb:∀i j:Nat,qO [.tuple [.int i,.int j]]=some (.int (i+j)):=fun i j=>abv i j
 have hk:ZX qO (zM u e l d)=true:=List.all_eq_true.mpr fun r hr=>by
  obtain⟨i,j,rfl,_,_⟩:=rods r hr;rw[kb];rfl
 have mem:acM (Qr qO) none (zM u e l d)∈zM u e l d:=by
  cases hr:zM u e l d with
  | nil=>
   exfalso;obtain⟨r,h1,h2⟩:=List.any_eq_true.mp any;have:r∈zM u e l d:=List.mem_filter.mpr ⟨h1,h2⟩;rw[hr]at this;cases this
  | cons r rs=>
   show Qq (Qr qO) r rs∈r::rs;rcases abw (Qr qO) rs r with z | z
   ·rw[z];exact List.mem_cons_self
   ·exact List.mem_cons_of_mem _ z
 obtain⟨i,j,e1,e2,e3,e4⟩:=rods _ mem
 have g:J1 [jo u e l b,.int d]=some (.tuple [.int i,.int j]):=by
  have hm:ZY qO (.list (zM u e l d))=some (.tuple [.int i,.int j]):=by
   show(if ZX qO (zM u e l d)=true then some (acM (Qr qO) none (zM u e l d)) else none)=_;rw[if_pos hk,e1]
  simp[J1,jE,ab5,jM,jX,jL,jr,jF,lkp,qq,hw,hm]
 have f:fpr (jo u e l b) d=((i:Int),(j:Int)):=by unfold fpr;rw[g]
 unfold ajG;rw[f];refine⟨g,e2,?_⟩;simp only[okP,Bool.and_eq_true,decide_eq_true_eq];exact⟨⟨⟨by omega,e3⟩,by omega⟩,e4⟩
end Rods
theorem Rods.allN_true:Rods.zG=true:=by decide +kernel
namespace Rods
open PySem L2 BX
open PyProof.Rows hiding St
theorem ZI{tc:Rho->Option Bool}{F:RO}{n:Nat}{ρ ρ':Rho}(h:tc ρ=some true)(h':F ρ=some (.nx ρ')):zC tc F (n+1) ρ=zC tc F n ρ':=by
 show(tc ρ).bind _=_;rw[h,h'];rfl
theorem acr{tc:Rho->Option Bool}{F:RO}{n:Nat}{ρ:Rho}(h:tc ρ=some false):zC tc F (n+1) ρ=some (.nx ρ):=by
 show(tc ρ).bind _=_;rw[h];rfl
theorem qd{F G:RO}{ρ ρ1:Rho}(h:F ρ=some (.nx ρ1)):jX F G ρ=G ρ1:=by
 unfold jX;rw[h];rfl
theorem qw{N:List Str}{n:Nat}{B:RO}{ds:LP}{d:PyData}(hl:ds.length=n)(h:B (jM N ds)=some (.rt d)):jE N n B ds=some d:=by
 unfold jE;rw[if_pos hl,h]
noncomputable def tcD:Rho->Option Bool:=tst (op2 (zJ fun i j=>decide (i<j)) (jL JE (jr (lkp 3) jF)) (op2 ahJ (lkp 1) (cst (.int 1))))
theorem aeo{b k:Int}{r n:OP}{ds:LP}(hb:0<b)(hb':b<=16)(hl:ds.length<1000):
  Z6.1 [some (.int b),r,n,some (.list ds),some (.int k)]=some (.nx [some (.int b),r,n,some (.list (.int (k % b)::ds)),some (.int (k / b))]):=by
 have m1:∀i:Int,ahK (.int i) (.int b)=some (.int (i % b)):=fun i=>afX hb;have m2:∀i:Int,acK (.int i) (.int b)=some (.int (i / b)):=fun i=>adq hb (by omega);have hl':ds.length<1000000:=by omega
 simp[Z6,jX,aoe,arR,aoh,op2,lkp,cst,m1,m2,noL,hl',zk,j9,brw,hid,qz]
theorem Ql{b:OP}{r:Int}{n k:OP}{ds:LP}:tcD [b,some (.int r),n,some (.list ds),k]=some (decide ((ds.length:Int)<r-1)):=by
 simp[tcD,tst,op2,jL,jr,jF,lkp,cst,JE,ahJ,zJ,asB]
theorem afY{b r n:Int}{ds:LP}{k:Int}(hl:zC tcD Z6.1 10 [some (.int b),some (.int r),some (.int n),some (.list []),some (.int n)]=some (.nx [some (.int b),some (.int r),some (.int n),some (.list ds),some (.int k)]))
  (hd:ds.length<100) (hn:noLs ds=true):amt [.int b,.int r,.int n]=some (.list (.int k::ds)):=by
 have f0:few []=true:=aoR;have f1:few [PyData.int k]=true:=by rw[few];exact decide_eq_true (by show 1<1000000;decide)
 have f2:few ([PyData.int k]++ds)=true:=by
  rw[few];refine decide_eq_true ?_;rw[List.length_append,List.length_singleton];omega
 have e:aoO.1 [some (.int b),some (.int r),some (.int n),none,none]=some (.rt (.list (.int k::ds))):=by
  simp only[aoO];show abV 3 (QY jF) (jX (zk (brw (some 3) (lkp 2)) (j9 4)) (jX (zC tcD Z6.1 10) (jX (qq (op2 qS (QY (jr (lkp 4) jF)) (lkp 3))) qz))) _=_
  have h2:jX (zC tcD Z6.1 10) (jX (qq (op2 qS (QY (jr (lkp 4) jF)) (lkp 3))) qz) [some (.int b),some (.int r),some (.int n),some (.list []),some (.int n)]=some (.rt (.list (.int k::ds))):=by
   unfold jX;rw[hl];simp only[zzD,qq,op2,QY,jr,jF,lkp,zzA,zzB,zzC,zzE,f1,zzM,qS,f2];rfl
  have h1:zk (brw (some 3) (lkp 2)) (j9 4) [some (.int b),some (.int r),some (.int n),some (.list []),none]=some (.nx [some (.int b),some (.int r),some (.int n),some (.list []),some (.int n)]):=rfl
  have h3:jX (zk (brw (some 3) (lkp 2)) (j9 4)) (jX (zC tcD Z6.1 10) (jX (qq (op2 qS (QY (jr (lkp 4) jF)) (lkp 3))) qz)) [some (.int b),some (.int r),some (.int n),some (.list []),none]=some (.rt (.list (.int k::ds))):=by
   rw[←h2]
   conv=>lhs;unfold jX
   rw[h1];rfl
  unfold abV;simp only[QY,jF,zzD,f0,zzM,List.length_cons,List.length_nil];rw[if_pos (by decide)];simp only[zzF,zzG,h3,zzD]
 exact qw rfl e
theorem aoT{b n:Int}(hb:0<b)(hb':b<=16){r:Nat}(h1:1<=r)(h4:r<=4):amt [.int b,.int (r:Int),.int n]=some (.list ((dgl b r n).map .int)):=by
 have:r=1∨r=2∨r=3∨r=4:=by omega
 rcases this with e | e | e | e<;>subst e
 ·refine afY (ds:=[]) (k:=n) ?_ (by simp) (by simp[noLs,noL])
  rw[acr (Ql.trans (by rfl))]
 ·refine afY (ds:=[.int (n % b)]) (k:=n / b) ?_ (by simp) (by simp[noLs,noL])
  rw[ZI (Ql.trans (by rfl)) (aeo hb hb' (by simp)),acr (Ql.trans (by rfl))]
 ·refine afY (ds:=[.int (n / b % b),.int (n % b)]) (k:=n / b / b) ?_ (by simp) (by simp[noLs,noL])
  rw[ZI (Ql.trans (by rfl)) (aeo hb hb' (by simp)),ZI (Ql.trans (by rfl)) (aeo hb hb' (by simp)),acr (Ql.trans (by rfl))]
 ·refine afY (ds:=[.int (n / b / b % b),.int (n / b % b),.int (n % b)]) (k:=n / b / b / b) ?_ (by simp) (by simp[noLs,noL])
  rw[ZI (Ql.trans (by rfl)) (aeo hb hb' (by simp)),ZI (Ql.trans (by rfl)) (aeo hb hb' (by simp)),ZI (Ql.trans (by rfl)) (aeo hb hb' (by simp)),acr (Ql.trans (by rfl))]
theorem pw1(b:Int):b ^ 1=b:=by rw[Int.pow_succ,Int.pow_zero,Int.one_mul]
theorem ads{b:Int}(hb:0<b):∀r:Nat,0<b ^ r
 |0=>by simp
 |r+1=>by rw[Int.pow_succ];exact Int.mul_pos (ads hb r) hb
theorem apD{b:Int}(h0:0<b)(h:b<=16):∀r:Nat,b ^ r<=16 ^ r
 |0=>by simp
 | r+1=>by
  rw[Int.pow_succ,Int.pow_succ];exact Int.mul_le_mul (apD h0 h r) h (by omega) (Int.le_of_lt (ads (by decide) r))
theorem aqM{b:Int}(h0:0<b)(h:b<=16){r:Nat}(hr:r<=4):b ^ r<=65536:=by
 have:r=0∨r=1∨r=2∨r=3∨r=4:=by omega
 have:=apD h0 h r;rcases ‹r=0∨_› with e | e | e | e | e<;>subst e<;>first | (exact Int.le_trans this (by decide))
theorem adt(b:Int)(k:Nat)(n:Int):dgl b (k+2) n=dgl b (k+1) (n / b)++[n % b]:=rfl
theorem acs(b:Int):∀(r:Nat) (n:Int),(dgl b r n).length=r
 |0,_=>rfl
 |1,_=>rfl
 |k+2,n=>by rw[adt,List.length_append,acs b (k+1)];rfl
theorem abx{b n:Int}(hb:0<b){k:Nat}(h:n<b ^ (k+1)):n / b<b ^ k:=
 Int.ediv_lt_of_lt_mul hb (by rw[←Int.pow_succ];exact h)
theorem afZ{b:Int}(hb:0<b):∀(r:Nat) (n:Int),0<=n->n<b ^ r->∀d∈dgl b r n,0<=d/\d<b
 |0,n,_,_,d,hd=>by cases hd
 | 1,n,h0,h1,d,hd=>by
  rw[show dgl b 1 n=[n] from rfl,List.mem_singleton]at hd;subst hd;exact⟨h0,by rw[pw1]at h1;exact h1⟩
 | k+2,n,h0,h1,d,hd=>by
  rw[adt]at hd;rcases List.mem_append.mp hd with q | q
  ·exact afZ hb (k+1) (n / b) (Int.ediv_nonneg h0 (by omega)) (abx hb h1) d q
  ·rw[List.mem_singleton]at q
   subst q;exact⟨Int.emod_nonneg _ (by omega),Int.emod_lt_of_pos _ hb⟩
theorem ag6{b:Int}(hb:0<b):∀(k:Nat) (n:Int),0<=n->∃x r,dgl b (k+1) n=x::r/\(n<b ^ (k+1)->x<b)/\(b ^ (k+1)<=n->b<=x)
 |0,n,h0=>⟨n,[],rfl,fun h=>by rw[Nat.zero_add,pw1]at h;exact h,fun h=>by rw[Nat.zero_add,pw1]at h;exact h⟩
 | k+1,n,h0=>by
  obtain⟨x,r,e,h1,h2⟩:=ag6 hb k (n / b) (Int.ediv_nonneg h0 (by omega));refine⟨x,r++[n % b],?_,fun h=>h1 (abx hb h),fun h=>h2 ?_⟩
  ·rw[adt,e];rfl
  ·refine Int.le_ediv_of_mul_le hb ?_
   rw[←Int.pow_succ];exact h
section
variable {u e l b:Int}
theorem af0(m:PyData)(b:Int)(r:Nat)(n:Int):(pln m b r n).length=r:=by rw[pln,List.length_map,acs]
theorem amT(H:zG=true)(h:okN u e l b=true){r:Nat}{n:Int}(h1:1<=r)(h4:r<=4)(h0:0<=n)(hn:n<b ^ r):okS u l (pln (jo u e l b) b r n)=true:=by
 obtain⟨a1,a2,a3,a4,a5,a6,a7,a8,a9,a10⟩:=qo h;simp only[okS,Bool.and_eq_true,decide_eq_true_eq,af0];refine⟨⟨h1,h4⟩,List.all_eq_true.mpr fun p hp=>?_⟩;obtain⟨d,hd,rfl⟩:=List.mem_map.mp hp;obtain⟨d0,d1⟩:=afZ (show 0<b by omega) r n h0 hn d hd;exact(aen H h d0 d1).2.2
theorem Qz{u l:Int}{p:Int×Int}(h:okP u l p=true):0<=p.1/\p.1<=u/\0<=p.2/\p.2<=l:=by
 simp only[okP,Bool.and_eq_true,decide_eq_true_eq]at h;exact⟨h.1.1.1,h.1.1.2,h.1.2,h.2⟩
theorem apE{e u l:Int}(he:1<=e){p:Int×Int}(h:okP u l p=true):0<=wt e p:=by
 obtain⟨h1,h2,h3,h4⟩:=Qz h;have:=Int.mul_nonneg h1 (show 0<=e by omega);unfold wt;omega
theorem apF{e u l:Int}(he:1<=e)(he5:e<=5)(hu:u<=3)(hl:l<=11){p:Int×Int}(h:okP u l p=true):wt e p<=26:=by
 obtain⟨h1,h2,h3,h4⟩:=Qz h;have:p.1*e<=3*5:=Int.mul_le_mul (by omega) he5 (by omega) (by omega);unfold wt;omega
theorem ajH{b e u l:Int}(h2:2<=b)(hb:b<=16)(he:1<=e)(he5:e<=5)(hu:u<=3)(hl:l<=11):∀(ps:List (Int×Int)) (acc:Int),ps.all (okP u l)=true->0<=acc->0<=ps.foldl (fun n p=>n*b+wt e p) acc/\ps.foldl (fun n p=>n*b+wt e p) acc+30<=(acc+30)*16 ^ ps.length
 | [],acc,_,h=>⟨h,by simp⟩
 | p::ps,acc,hp,h=>by
  rw[List.all_cons,Bool.and_eq_true]at hp;have w0:=apE he hp.1;have w1:=apF he he5 hu hl hp.1;have ha:0<=acc*b:=Int.mul_nonneg h (by omega);have hb2:acc*b<=acc*16:=Int.mul_le_mul_of_nonneg_left hb h;obtain⟨h1,h3⟩:=ajH h2 hb he he5 hu hl ps (acc*b+wt e p) hp.2 (by omega);refine⟨h1,Int.le_trans h3 ?_⟩;rw[List.length_cons,Int.pow_succ,Int.mul_comm (16 ^ ps.length) 16,←Int.mul_assoc];refine Int.mul_le_mul_of_nonneg_right ?_ (Int.le_of_lt (ads (by decide) _));omega
theorem aqN(h:okN u e l b=true){ps:List (Int×Int)}(hp:ps.all (okP u l)=true):0<=val b e ps:=by
 obtain⟨a1,a2,a3,a4,a5,a6,a7,a8,a9,a10⟩:=qo h;exact(ajH a8 a9 a3 a4 a2 a7 ps 0 hp (by omega)).1
end
theorem zH{ds:LP}(h:ds.length<10000):few ds=true:=by
 rw[few];refine decide_eq_true ?_;omega
theorem amU{u e l b:Int}(H:zG=true)(h:okN u e l b=true):qM [jo u e l b]=some (.bool true):=by
 obtain⟨a1,a2,a3,a4,a5,a6,a7,a8,a9,a10⟩:=qo h;rw[afW a1 a2 a3 (by omega) (by omega) (by omega) a8 a9,adp a1 (by omega) (by omega) (by omega) (by omega) (by omega)]
 congr 2
 refine List.all_eq_true.mpr fun d hd=>?_;have:=aiG H h (n:=(d:Int)) (by omega) (by have:=List.mem_range.mp hd;omega);simpa[List.any_map,Function.comp_def]using this
theorem QA{u l:Int}{ps:List (Int×Int)}(h:okS u l ps=true):1<=ps.length/\ps.length<=4/\ps.all (okP u l)=true:=by
 simp only[okS,Bool.and_eq_true,decide_eq_true_eq]at h;exact⟨h.1.1,h.1.2,h.2⟩
theorem aqO{u l:Int}{ps:List (Int×Int)}(h1:1<=ps.length)(h2:ps.length<=4)(h3:ps.all (okP u l)=true):okS u l ps=true:=by
 simp only[okS,Bool.and_eq_true,decide_eq_true_eq];exact⟨⟨h1,h2⟩,h3⟩
section
variable {u e l b:Int}{ps qs:List (Int×Int)}
theorem ag7(h:okN u e l b=true){S:PyData}:∀(qs:List (Int×Int)) (acc:Int) (x:OP),qs.all (okP u l)=true->0<=acc->(acc+30)*16 ^ qs.length<=1000000000->
  ∃y,qK (j9 3) afi.1 (qs.map pr) [some (jo u e l b),some S,some (.int acc),x]=some (.nx [some (jo u e l b),some S,some (.int (qs.foldl (fun n p=>n*b+wt e p) acc)),y])
 | [],acc,x,_,_,_=>⟨x,rfl⟩
 | q::qs,acc,x,hq,h0,hB=>by
  obtain⟨a1,a2,a3,a4,a5,a6,a7,a8,a9,a10⟩:=qo h;rw[List.all_cons,Bool.and_eq_true]at hq;obtain⟨q1,q2,q3,q4⟩:=Qz hq.1;have w0:=apE a3 hq.1;have w1:=apF a3 a4 a2 a7 hq.1;have hp:=ads (b:=16) (by decide) qs.length;rw[List.length_cons,Int.pow_succ,Int.mul_comm (16 ^ qs.length) 16,←Int.mul_assoc]at hB;have ha:0<=acc*b:=Int.mul_nonneg h0 (by omega);have hb2:acc*b<=acc*16:=Int.mul_le_mul_of_nonneg_left a9 h0;have hB':(acc*b+wt e q+30)*16 ^ qs.length<=1000000000:=Int.le_trans (Int.mul_le_mul_of_nonneg_right (by omega) (Int.le_of_lt hp)) hB
  have hacc:acc<=1000000000:=by
   have h1:(acc+30)*16*1<=(acc+30)*16*16 ^ qs.length:=Int.mul_le_mul_of_nonneg_left (by omega) (by omega);omega
  have m1:Qo (.int acc) (.int b)=some (.int (acc*b)):=zd ⟨by omega,by omega⟩;have w':zz [jo u e l b,pr q]=some (.int (wt e q)):=aaR u e l b q.1 q.2 (by omega)
  have step:afi.1 [some (jo u e l b),some S,some (.int acc),some (pr q)]=some (.nx [some (jo u e l b),some S,some (.int (acc*b+wt e q)),some (pr q)]):=by
   simp only[afi,jX,zk,op2,jL,jr,jF,lkp,cst,j9,zzA,zzB,zzC,zzD,zzE,ix3,m1,w',add_int,zzF,zzG,qz]
  obtain⟨y,hy⟩:=ag7 h (S:=S) qs (acc*b+wt e q) (some (pr q)) hq.2 (by omega) hB';refine⟨y,?_⟩;rw[List.map_cons];simp only[qK,j9,zzD,zzF,zzG,step];exact hy
theorem ajI(h:okN u e l b=true)(h4:ps.length<=4)(hp:ps.all (okP u l)=true):zS [jo u e l b,jv ps]=some (.int (val b e ps)):=by
 have hB:(0+30:Int)*16 ^ ps.length<=1000000000:=by
  have:=aqM (b:=16) (by decide) (by decide) h4;omega
 obtain⟨y,hy⟩:=ag7 h (S:=jv ps) ps 0 none hp (by omega) hB;refine qw rfl ?_;show aoM.1 [some (jo u e l b),some (jv ps),none,none]=_;simp only[aoM];refine(qd (ρ1:=[some (jo u e l b),some (jv ps),some (.int 0),none]) ?_).trans ?_
 ·simp only[zk,cst,j9,zzD,zzE,zzF,zzG]
 refine(qd (ρ1:=[some (jo u e l b),some (jv ps),some (.int (val b e ps)),y]) ?_).trans ?_
 ·show(itT (lkp 1) _).bind _=_
  rw[show itT (lkp 1) [some (jo u e l b),some (jv ps),some (.int 0),none]=some (ps.map pr) from rfl];exact hy
 rfl
theorem akK{p:Int×Int}(hp:okP u l p=true):Qj [jo u e l b,pr p]=some (.bool true):=by
 obtain⟨q1,q2,q3,q4⟩:=Qz hp;have w1:jS [.int p.1,.int 0,.int u]=some (.bool true):=by rw[j2];simp[q1,q2]
 have w2:jS [.int p.2,.int 0,.int l]=some (.bool true):=by rw[j2];simp[q3,q4]
 simp[Qj,jE,abl,jM,jX,ifS,orB,zI,tst,JG,tyn,asB,lkp,op2,jL,jr,jF,JE,cst,dNe,Jv,QT,qz,qq,ae2,pr,jo,dIx,atI,ixN,w1,w2]
theorem akL(H:zG=true)(h:okN u e l b=true)(hs:okS u l ps=true):ac7 [jo u e l b,jv ps]=some (.bool true):=by
 obtain⟨h1,h4,hp⟩:=QA hs;have g0:=ZH (amU H h);have hf:few (ps.map pr)=true:=zH (by rw[List.length_map];omega)
 have c1:zJ (fun i j=>decide (i<=j)) (.int 1) (.int ((ps.map pr).length:Int))=some (.bool true):=by
  show some (PyData.bool (decide ((1:Int)<=((ps.map pr).length:Int))))=_;rw[decide_eq_true (by rw[List.length_map];omega)]
 have c2:zJ (fun i j=>decide (i<=j)) (.int ((ps.map pr).length:Int)) (.int 4)=some (.bool true):=by
  show some (PyData.bool (decide (((ps.map pr).length:Int)<=4)))=_;rw[decide_eq_true (by rw[List.length_map];omega)]
 refine qw rfl ?_;show abm.1 [some (jo u e l b),some (jv ps)]=_;simp only[abm];refine(qd (ρ1:=[some (jo u e l b),some (jv ps)]) ?_).trans ?_
 ·simp only[aeQ,jL,jr,jF,lkp,zzA,zzB,zzC,zzD,zzE,g0]
 refine(qd (ρ1:=[some (jo u e l b),some (jv ps)]) ?_).trans ?_
 ·simp[ifS,orB,zI,tst,JG,tyn,asB,lkp,jv,chn,jL,jr,jF,JE,cst,qz]
  simp[List.length_map]at c1 c2;simp[c1,c2];rfl
 simp only[jX,qq,jL,jr,jF,ze,itT,lkp,jv,aa9,zzA,zzB,zzC,zzD,zzE,hf,zzM,ZL,List.map_cons,List.map_nil,zzH];rw[Jw (fun _=> .bool true)]
 ·have:bls ((ps.map pr).map fun _=>PyData.bool true)=some ((ps.map pr).map fun _=>true):=acq (fun _=>true) _
  simp only[zzE,zzD,alH,this];simp
 ·intro d hd
  obtain⟨p,hp',rfl⟩:=List.mem_map.mp hd;simp[jL,jr,jF,lkp,akK (e:=e) (b:=b) (List.all_eq_true.mp hp p hp')]
theorem amV(H:zG=true)(h:okN u e l b=true)(hs:okS u l ps=true):Jd [jo u e l b,jv ps]=some .none:=by
 have g:=akL H h hs;simp[Jd,jE,afm,jM,jX,ifS,zI,tst,asB,jL,jr,jF,lkp,g,qz]
end
theorem amW{n:Int}(h0:0<=n)(h1:n<=99999):Jc [.int n]=some .none:=by
 have w:jS [.int n,.int 0,.int 99999]=some (.bool true):=by rw[j2];simp[h0,h1]
 simp[Jc,jE,ab6,jM,jX,ifS,zI,tst,asB,jL,jr,jF,lkp,cst,w,qz]
theorem amX{n:Int}(h0:1<=n)(h1:n<=4):Ji [.int n]=some .none:=by
 have w:jS [.int n,.int 1,.int 4]=some (.bool true):=by rw[j2];simp[h0,h1]
 simp[Ji,jE,aay,jM,jX,ifS,zI,tst,asB,jL,jr,jF,lkp,cst,w,qz]
section
variable {u e l b:Int}{ps qs:List (Int×Int)}
theorem af1(i j:Int):dEq (.int i) (.int j)=some (.bool (decide (i=j))):=by
 have:(i==j)=decide (i=j):=rfl;simp only[dEq,Jv,QT,and_self,zzM,this]
theorem ar7{b:Int}{r:Nat}{n x:Int}{xs:List Int}(h4:r<=4)(hx:dgl b r n=x::xs):dIx (.list ((dgl b r n).map .int)) (.int 0)=some (.int x):=by
 have hl:=acs b r n;have hlt:((dgl b r n).map PyData.int).length<1000000:=by rw[List.length_map,hl];omega
 show(if ((dgl b r n).map PyData.int).length<1000000 then atI ((dgl b r n).map PyData.int) 0 else none)=_;rw[if_pos hlt,hx];simp[atI,ixN]
theorem adu(H:zG=true)(h:okN u e l b=true){r:Nat}{n:Int}(h1:1<=r)(h4:r<=4)(h0:0<=n)(hn:n<b ^ r):ZA [jo u e l b,.int (r:Int),.int n]=some (jv (pln (jo u e l b) b r n)):=by
 obtain⟨a1,a2,a3,a4,a5,a6,a7,a8,a9,a10⟩:=qo h;have hb:0<b:=by omega
 have hd:=aoT (n:=n) hb a9 h1 h4;have hg:=afZ hb r n h0 hn;have hl:=acs b r n;obtain⟨k,rfl⟩:∃k,r=k+1:=⟨r-1,by omega⟩;obtain⟨x,xs,hx,hx1,_⟩:=ag6 hb k n h0;have hi:=ar7 h4 hx
 have hc:zJ (fun i j=>decide (j<=i)) (.int x) (.int b)=some (.bool false):=by
  show some (PyData.bool (decide (b<=x)))=_;rw[decide_eq_false (by have:=hx1 hn;omega)]
 have hf:few ((dgl b (k+1) n).map .int)=true:=zH (by rw[List.length_map,hl];omega);generalize hr:((k+1:Nat):Int)=rr at hd ⊢;refine qw rfl ?_;show ab7.1 [some (jo u e l b),some (.int rr),some (.int n),none]=_;simp only[ab7];refine(qd (ρ1:=[some (jo u e l b),some (.int rr),some (.int n),some (.list ((dgl b (k+1) n).map .int))]) ?_).trans ?_
 ·simp only[zk,jL,jr,jF,op2,lkp,cst,j9,zzA,zzB,zzC,zzD,zzE,ix3,hd,zzF,zzG]
 refine(qd (ρ1:=[some (jo u e l b),some (.int rr),some (.int n),some (.list ((dgl b (k+1) n).map .int))]) ?_).trans ?_
 ·simp only[ifS,tst,op2,lkp,cst,zzA,zzB,zzC,zzD,hi,ix3,hc,asB,zzL,zzN,qz]
 simp only[jX,qq,jL,jr,jF,ze,itL,lkp,Q6,zzA,zzB,zzC,zzD,zzE,hf,zzM,ZL,List.map_cons,List.map_nil,zzH];rw[Jw (fun d=>ajG (jo u e l b) ((QZ d).getD 0))]
 ·simp[ae3,jv,pln,ajG,QZ,Function.comp_def]
 ·intro d hd
  obtain⟨i,hi,rfl⟩:=List.mem_map.mp hd;simp[jL,jr,jF,lkp,QZ,(aen H h (hg i hi).1 (hg i hi).2).1]
theorem Zj(ps:List (Int×Int)):JE [jv ps]=some (.int (ps.length:Int)):=by
 show some (PyData.int ((ps.map pr).length:Int))=_;rw[List.length_map]
end
end Rods
namespace BX
open PySem PySem.Spec L2
open PyProof.Rows hiding St
theorem adv{ga:PyData->Rho->Option Rho}{F:RO}(Iv:Nat->Rho->Prop):∀(ds:LP) (i:Nat) (ρ:Rho),Iv i ρ->
  (∀j d ρ,ds[j]?=some d->Iv (i+j) ρ->∃ρ1 ρ2,ga d ρ=some ρ1/\F ρ1=some (.nx ρ2)/\Iv (i+j+1) ρ2)->∃ρ',qK ga F ds ρ=some (.nx ρ')/\Iv (i+ds.length) ρ'
 | [],i,ρ,h,_=>⟨ρ,rfl,h⟩
 | d::ds,i,ρ,h,hs=>by
  obtain⟨ρ1,ρ2,h1,h2,h3⟩:=hs 0 d ρ rfl h
  obtain⟨ρ',h4,h5⟩:=adv Iv ds (i+1) ρ2 h3 fun j d ρ hd hi=>by
   have:=hs (j+1) d ρ (by simpa using hd) (by rw[show i+(j+1)=i+1+j by omega];exact hi);rw[show i+1+j+1=i+(j+1)+1 by omega];exact this
  refine⟨ρ',?_,by rw[List.length_cons,show i+(ds.length+1)=i+1+ds.length by omega];exact h5⟩;simp[qK,h1,h2,h4]
theorem adw{n j:Nat}{d:PyData}(h:(zl 0 n)[j]?=some d):j<n/\d= .int j:=by
 simp only[zl,List.getElem?_map]at h;cases hj:(List.range n)[j]? with
 |none=>rw[hj]at h;cases h
 | some k=>
  rw[hj]at h;obtain⟨h1,h2⟩:=List.getElem?_eq_some_iff.mp hj;simp at h1 h2;subst h2;simp at h;exact⟨h1,h.symm⟩
theorem aaU(n:Nat):(zl 0 n).length=n:=by simp[zl]
end BX
namespace Rods
open PySem L2 BX
open PyProof.Rows hiding St
section
variable {u e l b:Int}
theorem akM(H:zG=true)(h:okN u e l b=true){r n:Int}(h1:1<=r)(h4:r<=4)(h0:0<=n)(hn:n<=99999):Z5 [jo u e l b,.int r,.int n]=some .none:=by
 have g1:=ZH (amU H h);have g2:Ji [.int r]=some .none:=amX h1 h4;have g3:Jc [.int n]=some .none:=amW h0 hn;simp[Z5,jE,aih,jM,jX,aeQ,jL,jr,jF,lkp,g1,g2,g3,qz]
theorem amY{n:Nat}(hn:n<=1000):ZV [.int (n:Int)]=some (zl 0 n):=by
 have:=aaS (j:=(n:Int)) (by omega) (by omega);rw[show((n:Int)).toNat=n by omega]at this;exact this
end
section
variable {u e l b:Int}{ps qs:List (Int×Int)}
theorem af2{xs ys:LP}(hx:xs≠[]∨True)(hl:xs.length+ys.length<10000):qS (.tuple xs) (.tuple ys)=some (.tuple (xs++ys)):=by
 cases xs with
 |nil=>rfl
 | cons x xs=>
  have hf:few ((x::xs)++ys)=true:=zH (by rw[List.length_append];exact hl);show(if few ((x::xs)++ys)=true then some (PyData.tuple ((x::xs)++ys)) else none)=_;rw[if_pos hf]
theorem aby(i j:Int):dNe (.int i) (.int j)=some (.bool (!decide (i=j))):=by
 have:(i==j)=decide (i=j):=rfl;simp only[dNe,Jv,QT,and_self,zzM,this]
theorem aaV{N:List Str}{n:Nat}{F:Rho->Option Str}{ds:LP}(hl:ds.length=n):Jq N n F ds=F (jM N ds):=by
 unfold Jq;rw[if_pos hl]
end
section
variable {u e l b:Int}
end
section
variable {u e l b:Int}{ps qs:List (Int×Int)}
end
theorem ar8(ds:LP)(k:Nat):ae4 ds none (some (k:Int))=ds.take k:=by
 unfold ae4;rw[HT.sIx_none,HT.sIx_nat,List.drop_zero,Nat.sub_zero];by_cases h:k<=ds.length
 ·rw[Nat.min_eq_left h]
 ·rw[Nat.min_eq_right (by omega),List.take_of_length_le (by omega),List.take_of_length_le (by omega)]
theorem aoU(ds:LP)(k:Nat):ae4 ds (some (k:Int)) none=ds.drop k:=by
 unfold ae4;rw[HT.sIx_none,HT.sIx_nat];by_cases h:k<=ds.length
 ·rw[Nat.min_eq_left h,List.take_of_length_le (by rw[List.length_drop];omega)]
 ·rw[Nat.min_eq_right (by omega),List.drop_of_length_le (by omega),List.drop_of_length_le (by omega),List.take_nil]
noncomputable def whB(a b:Int):PyData->Bool
 |.int i=>decide (a<=i)&&decide (i<=b)
 |_=>false
theorem abP(d:PyData)(hd:noD d=true)(a b:Int):jS [d,.int a,.int b]=some (.bool (whB a b d)):=by
 cases d with
 |int i=>exact j2 i a b
 |dict k=>simp[noD]at hd
 |_=>simp[jS,jE,aav,jM,jX,ifS,orB,tst,lkp,JG,tyn,asB,zI,chn,zJ,qq,qz,whB,cst]
noncomputable def adM(u l:Int):PyData->Bool
 |.tuple [x,y]=>whB 0 u x&&whB 0 l y
 |_=>false
theorem amZ{ds:LP}(h:noDs ds=true):∀d∈ds,noD d=true:=by
 induction ds with
 |nil=>intro d hd;cases hd
 | cons x xs ih=>
  have h':noD x=true/\noDs xs=true:=by simpa[noDs]using h
  intro d hd;rcases List.mem_cons.mp hd with rfl | q
  ·exact h'.1
  ·exact ih h'.2 d q
section
variable {u e l b:Int}
theorem akN(d:PyData)(hd:noD d=true)(h:∀x y,d ≠ .tuple [x,y]):Qj [jo u e l b,d]=some (.bool false):=by
 cases d with
 |dict k=>simp[noD]at hd
 | tuple ds=>
  have hl:¬ (ds.length:Int)=2:=fun z=>by
   have z':ds.length=2:=by omega
   match ds,z' with
   | [x,y],_=>exact h x y rfl
  simp[Qj,jE,abl,jM,jX,ifS,orB,zI,tst,JG,tyn,asB,lkp,op2,jL,jr,jF,JE,cst,dNe,Jv,QT,qz,qq,hl]
 |_=>simp[Qj,jE,abl,jM,jX,ifS,orB,zI,tst,JG,tyn,asB,lkp,op2,jL,jr,jF,JE,cst,dNe,Jv,QT,qz,qq]
theorem aep(d:PyData)(hd:noD d=true):Qj [jo u e l b,d]=some (.bool (adM u l d)):=by
 by_cases h:∃x y,d= .tuple [x,y]
 ·obtain⟨x,y,rfl⟩:=h
  have hx:noD x=true/\noD y=true:=by simpa[noD,noDs]using hd
  have w1:=abP x hx.1 0 u;have w2:=abP y hx.2 0 l;cases c1:whB 0 u x<;>rw[c1]at w1<;>simp[Qj,jE,abl,jM,jX,ifS,orB,zI,tst,JG,tyn,asB,lkp,op2,jL,jr,jF,JE,cst,dNe,Jv,QT,qz,qq,ae2,jo,dIx,atI,ixN,w1,w2,adM,c1]
 ·rw[akN d hd fun x y z=>h ⟨x,y,z⟩]
  congr 2
  unfold adM;split
  ·exact absurd ⟨_,_,rfl⟩ h
  ·rfl
noncomputable def ag8(u l:Int):PyData->Bool
 |.tuple ds=>decide (1<=ds.length)&&decide (ds.length<=4)&&ds.all (adM u l)
 |_=>false
theorem akO(hm:Z4 [jo u e l b]=some .none)(d:PyData)(hd:noD d=true):ac7 [jo u e l b,d]=some (.bool (ag8 u l d)):=by
 refine qw rfl ?_;show abm.1 [some (jo u e l b),some d]=_;simp only[abm];refine(qd (ρ1:=[some (jo u e l b),some d]) ?_).trans ?_
 ·simp only[aeQ,jL,jr,jF,lkp,zzA,zzB,zzC,zzD,zzE,hm]
 cases d with
 |dict k=>simp[noD]at hd
 | tuple ds=>
  by_cases h1:1<=ds.length
  ·by_cases h4:ds.length<=4
   ·have hf:few ds=true:=zH (by omega)
    have c1:zJ (fun i j=>decide (i<=j)) (.int 1) (.int (ds.length:Int))=some (.bool true):=by
     show some (PyData.bool (decide ((1:Int)<=(ds.length:Int))))=_;rw[decide_eq_true (by omega)]
    have c2:zJ (fun i j=>decide (i<=j)) (.int (ds.length:Int)) (.int 4)=some (.bool true):=by
     show some (PyData.bool (decide ((ds.length:Int)<=4)))=_;rw[decide_eq_true (by omega)]
    refine(qd (ρ1:=[some (jo u e l b),some (.tuple ds)]) ?_).trans ?_
    ·simp[ifS,orB,zI,tst,JG,tyn,asB,lkp,chn,jL,jr,jF,JE,cst,qz,c1,c2]
    simp only[jX,qq,jL,jr,jF,ze,itT,lkp,aa9,zzA,zzB,zzC,zzD,zzE,hf,zzM,ZL,List.map_cons,List.map_nil,zzH];rw[Jw (fun d=> .bool (adM u l d))]
    ·have:bls (ds.map fun d=>PyData.bool (adM u l d))=some (ds.map (adM u l)):=acq (adM u l) _
     simp only[zzE,zzD,alH,this,ag8,decide_eq_true h1,decide_eq_true h4,Bool.true_and,List.all_map,Function.comp_def,id]
    ·intro d hd'
     simp[jL,jr,jF,lkp,aep (e:=e) (b:=b) d (amZ (by simpa[noD]using hd) d hd')]
   ·have c1:zJ (fun i j=>decide (i<=j)) (.int 1) (.int (ds.length:Int))=some (.bool true):=by
     show some (PyData.bool (decide ((1:Int)<=(ds.length:Int))))=_;rw[decide_eq_true (by omega)]
    have c2:zJ (fun i j=>decide (i<=j)) (.int (ds.length:Int)) (.int 4)=some (.bool false):=by
     show some (PyData.bool (decide ((ds.length:Int)<=4)))=_;rw[decide_eq_false (by omega)]
    simp[jX,ifS,orB,zI,tst,JG,tyn,asB,lkp,chn,jL,jr,jF,JE,cst,qz,c1,c2,qq,ag8,h4]
  ·have c1:zJ (fun i j=>decide (i<=j)) (.int 1) (.int (ds.length:Int))=some (.bool false):=by
    show some (PyData.bool (decide ((1:Int)<=(ds.length:Int))))=_;rw[decide_eq_false (by omega)]
   simp[jX,ifS,orB,zI,tst,JG,tyn,asB,lkp,chn,jL,jr,jF,JE,cst,qz,c1,qq,ag8,h1]
 |_=>simp[jX,ifS,orB,zI,tst,JG,tyn,asB,lkp,chn,jL,jr,jF,cst,qz,qq,ag8]
end
theorem aeq{d:PyData}(h:qM [d]=some (.bool true)):afs [d]=none:=by
 refine(aaV rfl).trans ?_;show afr.1 [some d]=_;simp[afr,ifX,zI,tst,asB,jL,jr,jF,lkp,h,akp]
theorem akP{m d:PyData}(h:qM [m]=some (.bool true)):aik [m,d]=none:=by
 have g:=aeq h;refine(aaV rfl).trans ?_;show aft.1 [some m,some d]=_;simp[aft,jL,jr,jF,lkp,g]
theorem aiH{u e l b:Int}(hM:qM [jo u e l b]=some (.bool true)){d:PyData}(hd:noD d=true)(hs:ag8 u l d=true):aaE [jo u e l b,d]=none:=by
 have g:=akO (e:=e) (ZH hM) d hd;rw[hs]at g;have g2:=akP (d:=d) hM;refine(aaV rfl).trans ?_;show acf.1 [some (jo u e l b),some d]=_;simp[acf,orX,ifX,zI,tst,asB,jL,jr,jF,lkp,g,g2,akp]
theorem ajJ{u l:Int}(p:Int×Int):adM u l (pr p)=okP u l p:=by
 simp[adM,pr,whB,okP,Bool.and_assoc]
theorem akQ{u l:Int}(ps:List (Int×Int)):ag8 u l (jv ps)=okS u l ps:=by
 simp only[ag8,jv,okS,List.length_map,List.all_map]
 congr 2
 funext p;exact ajJ p
theorem ajK:∀ps:List (Int×Int),noDs (ps.map pr)=true
 | []=>rfl
 |p::ps=>by simp[noDs,noD,pr,ajK ps]
theorem aaW(ps:List (Int×Int)):noD (jv ps)=true:=by
 simp[noD,jv,ajK]
theorem asW{i j:Int}(h:-1000<=i/\i<=1000):Qo (.int i) (.int j)=some (.int (i*j)):=by
 show(if (-(2 ^ 64)<i/\i<2 ^ 64)∨(-(2 ^ 64)<j/\j<2 ^ 64) then some (PyData.int (i*j)) else none)=_;rw[if_pos (.inl ⟨by omega,by omega⟩)]
theorem ar9{i j:Int}(h:-1000<=j/\j<=1000):Qo (.int i) (.int j)=some (.int (i*j)):=by
 show(if (-(2 ^ 64)<i/\i<2 ^ 64)∨(-(2 ^ 64)<j/\j<2 ^ 64) then some (PyData.int (i*j)) else none)=_;rw[if_pos (.inr ⟨by omega,by omega⟩)]
section
variable {u e l b:Int}
theorem abQ(h:okN u e l b=true){S:PyData}:∀(qs:List (Int×Int)) (acc:Int) (x y:OP),
  ∃x' y',qK (ago 2 (zB (j9 3) (zB (j9 4) acI))) aaK.1 (qs.map pr) [some (jo u e l b),some S,some (.int acc),x,y]=some (.nx [some (jo u e l b),some S,some (.int (qs.foldl (fun n p=>n*b+wt e p) acc)),x',y'])
 | [],acc,x,y=>⟨x,y,rfl⟩
 | q::qs,acc,x,y=>by
  obtain⟨a1,a2,a3,a4,a5,a6,a7,a8,a9,a10⟩:=qo h;have m1:Qo (.int b) (.int acc)=some (.int (b*acc)):=asW (by omega);have m2:Qo (.int q.1) (.int e)=some (.int (q.1*e)):=ar9 (by omega)
  have step:aaK.1 [some (jo u e l b),some S,some (.int acc),some (.int q.1),some (.int q.2)]=some (.nx [some (jo u e l b),some S,some (.int (acc*b+wt e q)),some (.int q.1),some (.int q.2)]):=by
   have:acc*b+wt e q=b*acc+q.1*e+q.2:=by unfold wt;rw[Int.mul_comm acc b];omega
   rw[this];simp only[aaK,jX,zk,op2,lkp,cst,j9,zzA,zzB,zzC,zzD,zzE,ix3,ix1,m1,m2,add_int,zzF,zzG,qz]
  obtain⟨x',y',hy⟩:=abQ h (S:=S) qs (acc*b+wt e q) (some (.int q.1)) (some (.int q.2));refine⟨x',y',?_⟩;rw[List.map_cons];have ga:ago 2 (zB (j9 3) (zB (j9 4) acI)) (pr q) [some (jo u e l b),some S,some (.int acc),x,y]=some [some (jo u e l b),some S,some (.int acc),some (.int q.1),some (.int q.2)]:=rfl;simp only[qK,ga,zzD,step];exact hy
theorem aiI(h:okN u e l b=true)(ps:List (Int×Int)):Ju [jo u e l b,jv ps]=some (.int (val b e ps)):=by
 obtain⟨x',y',hy⟩:=abQ h (S:=jv ps) ps 0 none none;refine qw rfl ?_;show aco.1 [some (jo u e l b),some (jv ps),none,none,none]=_;simp only[aco];refine(qd (ρ1:=[some (jo u e l b),some (jv ps),some (.int 0),none,none]) rfl).trans ?_;refine(qd (ρ1:=[some (jo u e l b),some (jv ps),some (.int (val b e ps)),x',y']) ?_).trans rfl;show(itS (lkp 1) _).bind _=_;rw[show itS (lkp 1) [some (jo u e l b),some (jv ps),some (.int 0),none,none]=some (ps.map pr) from rfl];exact hy
theorem aoV(i n:Nat):(zl 0 n).map (fun d=>PyData.tuple [.int (i:Int),d])=qW i n:=by
 simp[zl,qW]
theorem akR(hu:0<=u)(hu':u<50)(hl:0<=l)(hl':l<50):afS [jo u e l b]=some (.list (qD u l)):=by
 have r1:ZV [.int (u+1)]=some (zl 0 (u+1).toNat):=aaS (by omega) (by omega);have r2:ZV [.int (l+1)]=some (zl 0 (l+1).toNat):=aaS (by omega) (by omega);have f2:few (zl 0 (l+1).toNat)=true:=zH (by simp[zl];omega)
 obtain⟨ρ',hl1,hI⟩:=adv (ga:=j9 2) (F:=afQ.1) (fun i ρ=>i<=(u+1).toNat->∃x,ρ=[some (jo u e l b),some (.list (zA i (l+1).toNat)),x]) (zl 0 (u+1).toNat) 0 [some (jo u e l b),some (.list []),none] (fun _=>⟨none,rfl⟩) (fun j d ρ hd hi=>by
  obtain ⟨hj,rfl⟩:=adw hd;rw [Nat.zero_add] at hi ⊢;obtain ⟨x,rfl⟩:=hi (by omega)
  have cm:qp (j9 0) aqg (aad (jr (lkp 1) (jr (lkp 0) jF))) (zl 0 (l+1).toNat) [none,some (.int (j:Int))]=some (qW j (l+1).toNat):=by
   rw [Jw (fun d=>PyData.tuple [.int (j:Int),d]),aoV];intro d hd;have f1:few [PyData.int (j:Int),d]=true:=zH (by simp);simp only [aad,jr,jF,lkp,zzG,zzA,zzB,zzC,zzD,zzE,f1,zzM]
  have ad:qS (.list (zA j (l+1).toNat)) (.list (qW j (l+1).toNat))=some (.list (zA (j+1) (l+1).toNat)):=by
   rw [QP];show (if few (zA j (l+1).toNat++qW j (l+1).toNat)=true then some (PyData.list (zA j (l+1).toNat++qW j (l+1).toNat)) else none)=_;rw [if_pos];refine zH ?_;rw [List.length_append,aaw,aff];have:j*(l+1).toNat<=50*50:=Nat.mul_le_mul (by omega) (by omega);omega
  refine ⟨_,_,rfl,?_,fun _=>⟨some (.int (j:Int)),rfl⟩⟩;simp only [afQ,jX,zk,op2,ze,lkp,cst,jr,jF,j9,ZL,List.map_cons,List.map_nil,zzA,zzB,zzC,zzD,zzH,zzE,ix2,add_int,r2,f2,zzM,cm,ad,zzF,zzG,qz])
 rw[aaU,Nat.zero_add]at hI;obtain⟨x,rfl⟩:=hI (Nat.le_refl _);refine qw rfl ?_;show afR.1 [some (jo u e l b),none,none]=_;simp only[afR];refine(qd (ρ1:=[some (jo u e l b),some (.list []),none]) rfl).trans ?_;refine(qd (ρ1:=[some (jo u e l b),some (.list (zA (u+1).toNat (l+1).toNat)),x]) ?_).trans rfl;simp only[agp,jr,jF,op2,lkp,cst,zzA,zzB,zzC,zzD,zzE,ix0,add_int,r1];exact hl1
end
theorem aoW(x:PyData)(xs:LP)(h:xs.length<9999):dIx (.list (x::xs)) (.int 0)=some x:=by
 have e1:ixN (xs.length+1) 0=some 0:=afV (by omega) (by omega);simp only[dIx,atI,List.length_cons,e1];rw[if_pos (by omega)];rfl
noncomputable def bdP(p:Int×Int):Int:=p.1+p.2
noncomputable abbrev JR(p:Int×Int):aan:=(bdP p,p)
noncomputable def Q1:Int×Int->List (Int×Int)->Int×Int
 |p,[]=>p
 |p,x::r=>if bdP x<bdP p then Q1 x r else Q1 p r
theorem adx{kf:PyData->Int}(hk:∀p,kf (pr p)=bdP p):∀(r:List (Int×Int)) (p:Int×Int),Qq kf (pr p) (r.map pr)=pr (Q1 p r)
 | [],p=>rfl
 | x::r,p=>by
  rw[List.map_cons];unfold Qq Q1;rw[hk,hk];split
  ·exact adx hk r x
  ·exact adx hk r p
noncomputable def akS(p q:Int×Int):Prop:=p.1<q.1∨(p.1=q.1/\p.2<q.2)
theorem abz:∀(r:List (Int×Int)) (p:Int×Int),(∀y∈p::r,inT (JR y)=true)->(p::r).Pairwise akS->(Q1 p r∈p::r)/\∀y∈p::r,qi (JR (Q1 p r))<=qi (JR y)
 | [],p,_,_=>⟨List.mem_cons_self,fun y hy=>by rw[List.mem_singleton.mp hy];exact Int.le_refl _⟩
 | x::r,p,hB,hs=>by
  have hp:=hB p List.mem_cons_self;have hx:=hB x (List.mem_cons_of_mem _ List.mem_cons_self);have s1:=List.pairwise_cons.mp hs;have hpx:=s1.1 x List.mem_cons_self;simp only[inT,inB,JR,Bool.and_eq_true,decide_eq_true_eq]at hp hx;unfold Q1;split
  ·rename_i hlt
   obtain⟨m1,m2⟩:=abz r x (fun y hy=>hB y (List.mem_cons_of_mem _ hy)) s1.2;refine⟨List.mem_cons_of_mem _ m1,fun y hy=>?_⟩;rcases List.mem_cons.mp hy with rfl | hy
   ·refine Int.le_trans (m2 x List.mem_cons_self) ?_
    simp only[qi,JR];omega
   ·exact m2 y hy
  ·rename_i hge
   have s2:(p::r).Pairwise akS:=List.pairwise_cons.mpr ⟨fun y hy=>s1.1 y (List.mem_cons_of_mem _ hy),(List.pairwise_cons.mp s1.2).2⟩;obtain⟨m1,m2⟩:=abz r p (fun y hy=>hB y (by rcases List.mem_cons.mp hy with rfl | q;exact List.mem_cons_self;exact List.mem_cons_of_mem _ (List.mem_cons_of_mem _ q))) s2;refine⟨by rcases List.mem_cons.mp m1 with q | q;rw[q];exact List.mem_cons_self;exact List.mem_cons_of_mem _ (List.mem_cons_of_mem _ q),fun y hy=>?_⟩;rcases List.mem_cons.mp hy with rfl | hy
   ·exact m2 _ List.mem_cons_self
   ·rcases List.mem_cons.mp hy with rfl | hy
    ·refine Int.le_trans (m2 p List.mem_cons_self) ?_
     simp only[qi,JR];rcases hpx with q | ⟨q1,q2⟩<;>omega
    ·exact m2 y (List.mem_cons_of_mem _ hy)
theorem akT{p:Int×Int}{r:List (Int×Int)}(hB:∀y∈p::r,inT (JR y)=true)(hs:(p::r).Pairwise akS):∃j1,JW qi ((p::r).map JR)=JR (Q1 p r)::j1/\j1.length=r.length:=by
 obtain⟨m1,m2⟩:=abz r p hB hs;have pm:=zt qi ((p::r).map JR);have so:=Jr qi ((p::r).map JR);cases hq:JW qi ((p::r).map JR)with
 |nil=>rw[hq]at pm;have:=pm.length_eq;simp at this
 | cons t ts=>
  rw[hq]at pm so;refine⟨ts,?_⟩;have ht:t∈(p::r).map JR:=pm.mem_iff.mp List.mem_cons_self;obtain⟨y,hy,rfl⟩:=List.mem_map.mp ht;have hm:JR (Q1 p r)∈JR y::ts:=pm.mem_iff.mpr (List.mem_map.mpr ⟨_,m1,rfl⟩)
  have le1:qi (JR y)<=qi (JR (Q1 p r)):=by
   rcases List.mem_cons.mp hm with q | q
   ·rw[q];exact Int.le_refl _
   ·exact(List.pairwise_cons.mp so).1 _ q
  have:=ad9 (hB y hy) (hB _ m1) (Int.le_antisymm le1 (m2 y hy));rw[this];refine⟨rfl,?_⟩;have:=pm.length_eq;simpa using this
noncomputable def ag9(i m:Nat):List (Int×Int):=(List.range m).map fun (j:Nat)=>((i:Int),(j:Int))
noncomputable def QB(n m:Nat):List (Int×Int):=(List.range n).flatMap fun (i:Nat)=>ag9 i m
theorem ady(n m:Nat):zA n m=(QB n m).map pr:=by
 unfold zA QB;rw[List.map_flatMap]
 congr 1
 funext i;simp[qW,ag9,pr]
theorem aer{n m:Nat}{p:Int×Int}(h:p∈QB n m):0<=p.1/\p.1<n/\0<=p.2/\p.2<m:=by
 obtain⟨i,hi,hp⟩:=List.mem_flatMap.mp h;obtain⟨j,hj,rfl⟩:=List.mem_map.mp hp;have:=List.mem_range.mp hi;have:=List.mem_range.mp hj;simp only;omega
theorem aha(i:Nat):∀m,(ag9 i m).Pairwise akS
 |0=>by simp[ag9]
 | m+1=>by
  have:ag9 i (m+1)=ag9 i m++[((i:Int),(m:Int))]:=by simp[ag9,List.range_succ]
  rw[this];refine List.pairwise_append.mpr ⟨aha i m,List.pairwise_singleton _ _,fun a ha c hc=>?_⟩;rw[List.mem_singleton.mp hc];obtain⟨j,hj,rfl⟩:=List.mem_map.mp ha;have:=List.mem_range.mp hj;exact .inr ⟨rfl,by simp only;omega⟩
theorem aes(m:Nat):∀n,(QB n m).Pairwise akS
 |0=>by simp[QB]
 | n+1=>by
  have:QB (n+1) m=QB n m++ag9 n m:=by simp[QB,List.range_succ]
  rw[this];refine List.pairwise_append.mpr ⟨aes m n,aha n m,fun a ha c hc=>?_⟩;have h1:=aer ha;obtain⟨j,hj,rfl⟩:=List.mem_map.mp hc;exact .inl (by simp only;omega)
section
variable {u e l b:Int}
noncomputable def qP(u e l w:Int):List (Int×Int):=(QB (u+1).toNat (l+1).toNat).filter fun p=>wt e p==w
theorem adz(w:Int):zM u e l w=(qP u e l w).map pr:=by
 unfold zM qP qD;rw[ady,List.filter_map];rfl
theorem am0(p:Int×Int):Qr qO (pr p)=bdP p:=by
 unfold Qr pr;rw[abv];rfl
theorem af3(hu:0<=u)(hu':u<100)(hl:0<=l)(hl':l<100){d:Int}{p:Int×Int}{r:List (Int×Int)}(hw:qP u e l d=p::r):J1 [jo u e l b,.int d]=some (pr (Q1 p r)):=by
 have h1:=aaT (e:=e) (b:=b) (w:=d) hu hu' hl hl'
 have hk:ZX qO (zM u e l d)=true:=by
  rw[adz];refine List.all_eq_true.mpr fun x hx=>?_;obtain⟨y,_,rfl⟩:=List.mem_map.mp hx;unfold pr;rw[abv];rfl
 have hm:ZY qO (.list (zM u e l d))=some (pr (Q1 p r)):=by
  show(if ZX qO (zM u e l d)=true then some (acM (Qr qO) none (zM u e l d)) else none)=_;rw[if_pos hk,adz,hw,List.map_cons];show some (Qq (Qr qO) (pr p) (r.map pr))=_;rw[adx am0]
 simp[J1,jE,ab5,jM,jX,jL,jr,jF,lkp,qq,h1,hm]
theorem aqP(p:Int×Int):alI [pr p]=some (.int (bdP p)):=by
 show some (PyData.int ([p.1,p.2].sum))=_;simp[bdP]
theorem asX(p:Int×Int):dIx (pr p) (.int 0)=some (.int p.1):=rfl
theorem asY(p:Int×Int):dIx (pr p) (.int 1)=some (.int p.2):=rfl
theorem asZ(x y:PyData):few [x,y]=true:=zH (by simp)
noncomputable def adN(p:Int×Int):PyData:= .tuple [.int (bdP p),pr p]
theorem aoX(he:1<=e/\e<=5){d:Int}(p:Int×Int):tst (op2 dEq (op2 qS (op2 Qo (op2 dIx (lkp 0) (cst (.int 0))) (op2 dIx (lkp 2) (cst (.int 1)))) (op2 dIx (lkp 0) (cst (.int 1)))) (lkp 1)) [some (pr p),some (.int d),some (jo u e l b)]=some (wt e p==d):=by
 have m1:Qo (.int p.1) (.int e)=some (.int (p.1*e)):=ar9 (by omega);have dq:dEq (.int (p.1*e+p.2)) (.int d)=some (.bool (decide (p.1*e+p.2=d))):=af1 _ _;simp only[tst,op2,lkp,cst,zzA,zzB,zzC,zzD,zzE,asX,asY,ix1,m1,add_int,dq,asB];rw[Bool.beq_eq_decide_eq];rfl
theorem asa{d:Int}(p:Int×Int):aad (jr (jL alI (jr (lkp 0) jF)) (jr (lkp 0) jF)) [some (pr p),some (.int d),some (jo u e l b)]=some (adN p):=by
 simp only[aad,jL,jr,jF,lkp,zzA,zzB,zzC,zzD,zzE,aqP,asZ,zzM];rfl
theorem ahb{ft:Rho->Option Bool}{fe:RP}(t:Int×Int->Bool)(g:Int×Int->PyData){τ:Rho}(h1:∀p,ft (some (pr p)::τ)=some (t p))(h2:∀p,fe (some (pr p)::τ)=some (g p)):∀(ps:List (Int×Int)) (x:OP),qp (j9 0) ft fe (ps.map pr) (x::τ)=some ((ps.filter t).map g)
 | [],x=>rfl
 | p::ps,x=>by
  have ih:=ahb t g h1 h2 ps (some (pr p));simp only[List.map_cons,qp,j9,zzD,zzG,h1,h2,ih];by_cases hp:t p=true
  ·simp[hp,List.filter_cons]
  ·simp[hp,List.filter_cons]
theorem am1:qD u l=(QB (u+1).toNat (l+1).toNat).map pr:=ady _ _
theorem aqQ(hu:u<=3)(hl:l<=11)(d:Int):(qP u e l d).length<=48:=by
 have h1:(qP u e l d).length<=(QB (u+1).toNat (l+1).toNat).length:=List.length_filter_le _ _
 have h2:(QB (u+1).toNat (l+1).toNat).length=(u+1).toNat*(l+1).toNat:=by
  rw[←List.length_map (f:=pr),←ady,aaw]
 have h3:(u+1).toNat*(l+1).toNat<=4*12:=Nat.mul_le_mul (by omega) (by omega);omega
theorem aoY(hu:u<=3)(hl:l<=11){d:Int}{p:Int×Int}{r:List (Int×Int)}(hw:qP u e l d=p::r):∃j1,ah1 [.list ((qP u e l d).map adN)]=some (.list (adN (Q1 p r)::j1))/\j1.length<100:=by
 have mem:∀y∈qP u e l d,0<=y.1/\y.1<((u+1).toNat:Int)/\0<=y.2/\y.2<((l+1).toNat:Int):=fun y hy=>aer (List.mem_filter.mp hy).1
 have hB:∀y∈p::r,inT (JR y)=true:=fun y hy=>by
  have:=mem y (by rw[hw];exact hy);simp only[inT,inB,JR,Bool.and_eq_true,decide_eq_true_eq];omega
 have hs:(p::r).Pairwise akS:=by
  rw[←hw];exact(aes _ _).filter _
 obtain⟨j1,hsort,hrl⟩:=akT hB hs;have hlen:=aqQ (e:=e) hu hl d
 have tr:Jn ((qP u e l d).map adN)=some ((qP u e l d).map JR):=by
  have:=ad8 ((qP u e l d).map JR);rw[List.map_map]at this;exact this
 refine⟨j1.map ZO,?_,by rw[List.length_map,hrl];rw[hw,List.length_cons]at hlen;omega⟩;show(Jn _).bind _=_;rw[tr,zzD]
 have c1:(decide (((qP u e l d).map JR).length<64)&&((qP u e l d).map JR).all inT)=true:=by
  rw[Bool.and_eq_true];refine⟨decide_eq_true (by rw[List.length_map];omega),List.all_eq_true.mpr fun t ht=>?_⟩;obtain⟨y,hy,rfl⟩:=List.mem_map.mp ht;exact hB y (by rw[←hw];exact hy)
 rw[if_pos c1,hw,hsort];rfl
theorem aoZ(h:okN u e l b=true){d:Int}:zk (ze (itS (jL afS (jr (lkp 0) jF))) [none,some 1,some 0] (j9 0) (tst (op2 dEq (op2 qS (op2 Qo (op2 dIx (lkp 0) (cst (.int 0))) (op2 dIx (lkp 2) (cst (.int 1)))) (op2 dIx (lkp 0) (cst (.int 1)))) (lkp 1))) (aad (jr (jL alI (jr (lkp 0) jF)) (jr (lkp 0) jF)))) (j9 2) [some (jo u e l b),some (.int d),none]=some (.nx [some (jo u e l b),some (.int d),some (.list ((qP u e l d).map adN))]):=by
 obtain⟨a1,a2,a3,a4,a5,a6,a7,a8,a9,a10⟩:=qo h;have lr:=akR (e:=e) (b:=b) a1 (show u<50 by omega) (show 0<=l by omega) (show l<50 by omega);have fw:=ado (u:=u) (l:=l) (by omega) (by omega);have cp:=ahb (τ:=[some (.int d),some (jo u e l b)]) (fun p=>wt e p==d) adN (fun p=>aoX (u:=u) (l:=l) (b:=b) ⟨a3,a4⟩ p) (fun p=>asa p) (QB (u+1).toNat (l+1).toNat) none;rw[←am1]at cp;simp only[zk,ze,itS,items,jL,jr,jF,lkp,zzA,zzB,zzC,zzD,zzE,lr,fw,zzM,ZL,List.map_cons,List.map_nil,zzH,cp,j9,zzG,zzF];rfl
theorem asb(H:zG=true)(h:okN u e l b=true){d:Int}(h0:0<=d)(hd:d<b):∃p r,qP u e l d=p::r:=by
 have any:=aiG H h h0 hd;cases hq:qP u e l d with
 | nil=>
  obtain⟨r,h1,h2⟩:=List.any_eq_true.mp any;have:r∈zM u e l d:=List.mem_filter.mpr ⟨h1,h2⟩;rw[adz,hq]at this;cases this
 |cons p r=>exact⟨p,r,rfl⟩
theorem ao0(h:okN u e l b=true){d:Int}{p:Int×Int}{r:List (Int×Int)}(hw:qP u e l d=p::r):fpr (jo u e l b) d=Q1 p r:=by
 obtain⟨a1,a2,a3,a4,a5,a6,a7,a8,a9,a10⟩:=qo h;have gf:=af3 (e:=e) (b:=b) a1 (show u<100 by omega) (show 0<=l by omega) (show l<100 by omega) hw;unfold fpr;rw[gf];rfl
theorem ahc(H:zG=true)(h:okN u e l b=true){d:Int}(h0:0<=d)(hd:d<b):adm [jo u e l b,.int d]=some (pr (fpr (jo u e l b) d)):=by
 obtain⟨a1,a2,a3,a4,a5,a6,a7,a8,a9,a10⟩:=qo h;obtain⟨p,r,hw⟩:=asb H h h0 hd;obtain⟨j1,so,hr⟩:=aoY (u:=u) (e:=e) (l:=l) a2 a7 hw;have ls:=aoZ h (d:=d);have hd0:=aoW (adN (Q1 p r)) j1 (by omega);have hd1:dIx (adN (Q1 p r)) (.int 1)=some (pr (Q1 p r)):=rfl;rw[ao0 h hw];refine qw rfl ?_;show aaN.1 [some (jo u e l b),some (.int d),none]=_;simp only[aaN];refine(qd ls).trans ?_;generalize PyData.list ((qP u e l d).map adN)=L at*;generalize PyData.list (adN (Q1 p r)::j1)=M at*;simp only[jX,qq,op2,jL,jr,jF,lkp,cst,zzA,zzB,zzC,zzD,zzE,so,hd0,hd1]
end
theorem aiJ{i j:Int}(h:0<j/\j<1073741824):ahK (.int i) (.int j)=some (.int (i % j)):=by
 show(if 0<j then some (PyData.int (i % j)) else none)=_;rw[if_pos h.1]
theorem ahd{i j:Int}(h:0<j/\j<1073741824):acK (.int i) (.int j)=some (.int (i / j)):=by
 show(if 0<j/\j<1073741824 then some (PyData.int (i / j)) else none)=_;rw[if_pos h]
section
variable {u e l b:Int}
noncomputable def dgm(b:Int):Nat->Int->List Int
 |0,_=>[]
 |k+1,n=>dgm b k (n / b)++[n % b]
theorem ajL{b:Int}(hb:0<b):∀(r:Nat) (n:Int),1<=r->0<=n->n<b ^ r->dgm b r n=dgl b r n
 |0,n,h1,_,_=>by omega
 | 1,n,_,h0,hn=>by
  rw[pw1]at hn;show []++[n % b]=[n];rw[Int.emod_eq_of_lt h0 hn];rfl
 | k+2,n,_,h0,hn=>by
  show dgm b (k+1) (n / b)++[n % b]=dgl b (k+1) (n / b)++[n % b];rw[ajL hb (k+1) (n / b) (by omega) (Int.ediv_nonneg h0 (by omega)) (abx hb hn)]
theorem abR(H:zG=true)(h:okN u e l b=true){R:PyData}:∀(ds:LP) (n:Int) (acc:List (Int×Int)) (x:OP),acc.length+ds.length<1000->
  ∃x',qK (j9 4) Zi.1 ds [some (jo u e l b),some R,some (.int n),some (jv acc),x]=some (.nx [some (jo u e l b),some R,some (.int (n / b ^ ds.length)),some (jv ((dgm b ds.length n).map (fpr (jo u e l b))++acc)),x'])
 | [],n,acc,x,_=>⟨x,by
  have:n / b ^ ([]:LP).length=n:=by simp
  rw [this]; rfl⟩
 | d::ds,n,acc,x,hl=>by
  obtain⟨a1,a2,a3,a4,a5,a6,a7,a8,a9,a10⟩:=qo h;have hb:0<b:=by omega
  have hm:ahK (.int n) (.int b)=some (.int (n % b)):=aiJ ⟨hb,by omega⟩;have hf:acK (.int n) (.int b)=some (.int (n / b)):=ahd ⟨hb,by omega⟩;have gf:=ahc H h (d:=n % b) (Int.emod_nonneg _ (by omega)) (Int.emod_lt_of_pos _ hb);rw[List.length_cons]at hl
  have ad:qS (.tuple [pr (fpr (jo u e l b) (n % b))]) (jv acc)=some (jv (fpr (jo u e l b) (n % b)::acc)):=by
   have:=af2 (xs:=[pr (fpr (jo u e l b) (n % b))]) (ys:=acc.map pr) (.inr trivial) (by rw[List.length_map];simp;omega);exact this
  have f1:few [pr (fpr (jo u e l b) (n % b))]=true:=zH (by simp)
  have step:Zi.1 [some (jo u e l b),some R,some (.int n),some (jv acc),some d]=some (.nx [some (jo u e l b),some R,some (.int (n / b)),some (jv (fpr (jo u e l b) (n % b)::acc)),some d]):=by
   simp only[Zi,jX,zk,op2,aad,jL,jr,jF,lkp,cst,j9,zzA,zzB,zzC,zzD,zzE,ix3,hm,hf,gf,f1,zzM,ad,zzF,zzG,qz]
  obtain⟨x',hx⟩:=abR H h (R:=R) ds (n / b) (fpr (jo u e l b) (n % b)::acc) (some d) (by rw[List.length_cons];omega);refine⟨x',?_⟩;have ga:j9 4 d [some (jo u e l b),some R,some (.int n),some (jv acc),x]=some [some (jo u e l b),some R,some (.int n),some (jv acc),some d]:=rfl
  have e1:n / b ^ (d::ds).length=n / b / b ^ ds.length:=by
   rw[List.length_cons,Int.pow_succ,Int.mul_comm,Int.ediv_ediv_of_nonneg (by omega)]
  have e2:(dgm b (d::ds).length n).map (fpr (jo u e l b))++acc=(dgm b ds.length (n / b)).map (fpr (jo u e l b))++fpr (jo u e l b) (n % b)::acc:=by
   rw[List.length_cons,dgm,List.map_append,List.append_assoc];rfl
  rw[e1,e2];simp only[qK,ga,zzD,step];exact hx
theorem aqR{b n:Int}(hb:0<b)(r:Nat)(h0:0<=n):n / b ^ r=0↔n<b ^ r:=by
 have hp:=ads hb r;constructor
 ·intro hz
  exact Int.lt_of_not_ge fun hge=>by
   have:1<=n / b ^ r:=Int.le_ediv_of_mul_le hp (by omega);omega
 ·intro hlt
  exact Int.ediv_eq_zero_of_lt h0 hlt
noncomputable def lpl(m:PyData)(b:Int)(r:Nat)(n:Int):PyData:=if n<b ^ r then jv (pln m b r n) else .none
theorem aiK{m R:PyData}{k:Int}{s:List (Int×Int)}{x:OP}{c:Bool}(dq:dEq (.int k) (.int 0)=some (.bool c)):jX (qq (ifD (tst (op2 dEq (lkp 2) (cst (.int 0)))) (lkp 3) (cst .none))) qz [some m,some R,some (.int k),some (jv s),x]=some (.rt (if c=true then jv s else .none)):=by
 cases c with
 |true=>simp only[jX,qq,ifD,tst,op2,lkp,cst,zzA,zzB,zzC,zzD,zzE,dq,asB,zzM]
 |false=>simp only[jX,qq,ifD,tst,op2,lkp,cst,zzA,zzB,zzC,zzD,zzE,dq,asB,zzL,zzN]
theorem af4{m:PyData}{r n:Int}{RR:LP}{ρ':Rho}{o:Option Out}(rg:ZV [.int r]=some RR)(hx:qK (j9 4) Zi.1 RR [some m,some (.int r),some (.int n),some (jv []),none]=some (.nx ρ'))(he:jX (qq (ifD (tst (op2 dEq (lkp 2) (cst (.int 0)))) (lkp 3) (cst .none))) qz ρ'=o):aaO.1 [some m,some (.int r),some (.int n),none,none]=o:=by
 simp only[aaO];refine(qd (ρ1:=[some m,some (.int r),some (.int n),some (jv []),none]) rfl).trans ?_;refine(qd (ρ1:=ρ') ?_).trans he;simp only[agp,jr,jF,lkp,zzA,zzB,zzC,zzD,zzE,rg];exact hx
theorem aiL(H:zG=true)(h:okN u e l b=true){r:Nat}{n:Int}(h1:1<=r)(h4:r<=4)(h0:0<=n):afT [jo u e l b,.int (r:Int),.int n]=some (lpl (jo u e l b) b r n):=by
 obtain⟨a1,a2,a3,a4,a5,a6,a7,a8,a9,a10⟩:=qo h;have hb:0<b:=by omega
 have hlen:(zl 0 r).length=r:=aaU r;obtain⟨x',hx⟩:=abR H h (R:= .int (r:Int)) (zl 0 r) n [] none (by rw[hlen,List.length_nil];omega);rw[hlen,List.append_nil]at hx
 have dq:dEq (.int (n / b ^ r)) (.int 0)=some (.bool (decide (n<b ^ r))):=by
  rw[af1,decide_eq_decide.mpr (aqR hb r h0)]
 have key:=af4 (amY (show r<=1000 by omega)) hx (aiK dq);generalize (r:Int)=rr at key ⊢;refine(qw (d:=if decide (n<b ^ r)=true then jv ((dgm b r n).map (fpr (jo u e l b))) else .none) rfl ?_).trans ?_
 ·show aaO.1 [some (jo u e l b),some (.int rr),some (.int n),none,none]=_
  exact key
 unfold lpl;by_cases hlt:n<b ^ r
 ·rw[if_pos hlt,decide_eq_true hlt,if_pos rfl,pln,ajL hb r n h1 h0 hlt]
 ·rw[if_neg hlt,decide_eq_false hlt,if_neg Bool.false_ne_true]
end
theorem ZJ{N:List Str}{n:Nat}{F:Rho->Option Str}{ds:LP}{c:Option Str}(hl:ds.length=n)(h:F (jM N ds)=c):Jq N n F ds=c:=(aaV hl).trans h
section
variable {u e l b:Int}{ps qs:List (Int×Int)}
end
theorem am2{i:Int}(h:0<=i/\i<=99999):Jc [.int i]=some .none/\ach [.int i]=none:=by
 have gw:=j2 i 0 99999;rw[decide_eq_true h.1,decide_eq_true h.2]at gw;constructor
 ·simp[Jc,jE,ab6,jM,jX,ifS,zI,tst,asB,cst,jL,jr,jF,lkp,gw,qz]
 ·refine ZJ rfl ?_
  show acg.1 [some (.int i)]=_;simp[acg,orX,ifX,zI,tst,asB,cst,jL,jr,jF,lkp,gw,akp]
theorem ao1{i:Int}(h:1<=i/\i<=4):Ji [.int i]=some .none/\adc [.int i]=none:=by
 have gw:=j2 i 1 4;rw[decide_eq_true h.1,decide_eq_true h.2]at gw;constructor
 ·simp[Ji,jE,aay,jM,jX,ifS,zI,tst,asB,cst,jL,jr,jF,lkp,gw,qz]
 ·refine ZJ rfl ?_
  show aaF.1 [some (.int i)]=_;simp[aaF,orX,ifX,zI,tst,asB,cst,jL,jr,jF,lkp,gw,akp]
theorem asc{ds:LP}(h:ds.length<50):few ds=true:=zH (by omega)
theorem fw1{a:PyData}:few [a]=true:=asc (by simp)
theorem fw2{a b:PyData}:few [a,b]=true:=asc (by simp)
theorem ng1:aqr (.int 1)=some (.int (-1)):=rfl
noncomputable def shl(n:Nat)(d:PyData):Prop:=d.canLay0=true/\d.depth<=n
theorem act{ds:LP}:PyData.canLayAll0 ds=true↔∀d∈ds,d.canLay0=true:=by
 induction ds with
 |nil=>simp[PyData.canLayAll0]
 |cons x xs ih=>simp[PyData.canLayAll0,ih]
theorem acu{ds:LP}{n:Nat}:PyData.depthAll ds<=n↔∀d∈ds,d.depth<=n:=by
 induction ds with
 |nil=>simp[PyData.depthAll]
 |cons x xs ih=>simp only[PyData.depthAll,List.mem_cons,forall_eq_or_imp,←ih];omega
theorem ajM{n:Nat}{ds:LP}:shl (n+1) (.tuple ds)↔∀d∈ds,shl n d:=by
 constructor
 ·rintro⟨h1,h2⟩ d hd
  refine⟨act.mp (by simpa[PyData.canLay0]using h1) d hd,acu.mp ?_ d hd⟩;simp only[PyData.depth]at h2;omega
 ·intro h
  refine⟨by simp only[PyData.canLay0];exact act.mpr fun d hd=>(h d hd).1,?_⟩;have:=acu.mpr fun d hd=>(h d hd).2;simp only[PyData.depth];omega
theorem ao2{n:Nat}{ds:LP}:shl (n+1) (.list ds)↔∀d∈ds,shl n d:=by
 constructor
 ·rintro⟨h1,h2⟩ d hd
  refine⟨act.mp (by simpa[PyData.canLay0]using h1) d hd,acu.mp ?_ d hd⟩;simp only[PyData.depth]at h2;omega
 ·intro h
  refine⟨by simp only[PyData.canLay0];exact act.mpr fun d hd=>(h d hd).1,?_⟩;have:=acu.mpr fun d hd=>(h d hd).2;simp only[PyData.depth];omega
theorem am3{n:Nat}{d:PyData}(h:shl n d)(hn:n<30):okD d=true:=by
 unfold okD;rw[h.1,decide_eq_true (show d.depth<30 by have:=h.2;omega)];rfl
theorem ao3(i:Int):shl 1 (.int i):=⟨rfl,by simp[PyData.depth]⟩
theorem aqS(p:Int×Int):shl 2 (pr p):=ajM.mpr fun d hd=>by
 simp only[List.mem_cons,List.not_mem_nil,or_false]at hd;rcases hd with rfl|rfl<;>exact ao3 _
theorem ao4(ps:List (Int×Int)):shl 3 (jv ps):=ajM.mpr fun d hd=>by
 obtain⟨p,_,rfl⟩:=List.mem_map.mp hd;exact aqS p
theorem am4{ds:LP}{k:Int}(h0:0<=k)(hk:k<ds.length)(hl:ds.length<9999):∃v,dIx (.list ds) (.int k)=some v/\v∈ds:=by
 have hlt:k.toNat<ds.length:=by omega
 refine⟨ds[k.toNat],?_,List.getElem_mem _⟩;have e1:ixN ds.length k=some k.toNat:=afV h0 hlt;show(if ds.length<1000000 then atI ds k else none)=_;rw[if_pos (by omega)];unfold atI;rw[e1];show ds[k.toNat]?=_;rw[List.getElem?_eq_getElem hlt]
theorem ao5{ps:List (Int×Int)}{i:Nat}{p:Int×Int}(h4:ps.length<=4)(hd:ps[i]?=some p):dIx (jv ps) (.int (i:Int))=some (pr p):=by
 have hi:i<ps.length:=(List.getElem?_eq_some_iff.mp hd).1;show(if (ps.map pr).length<1000000 then atI (ps.map pr) (i:Int) else none)=_;rw[if_pos (by rw[List.length_map];omega)];unfold atI;rw[afV (by omega) (by rw[List.length_map];simpa using hi),zzD,List.getElem?_map];rw[show((i:Int)).toNat=i by simp,hd];rfl
section
variable {m s t:PyData}{c:Str}
theorem am5{d:PyData}(g:Jd [m,s]=some .none)(k:Zf [m,s,t]=some (.bool true))(bm:Qc [s,t]=some d):Qk [m,s,t]=some d:=by
 refine qw rfl ?_;show afq.1 [some m,some s,some t]=_;dsimp? [afq,g,k,bm]
end
noncomputable def oD:Option (List (Int×Int))->PyData
 |some qs=>jv qs
 |none=> .none
structure Th(u e l b:Int)(ps:List (Int×Int))(d:PyData)(o:Option (List (Int×Int))):Prop where
 lb:Jj [jo u e l b,jv ps,d]=some (oD o)
 cm:Zf [jo u e l b,jv ps,d]=some (.bool o.isSome)
 bm:∀qs,o=some qs->Qc [jv ps,d]=some (jv qs)/\okS u l qs=true
noncomputable def shP(p:Int×Int)(k:Bool)(c:Int):Int×Int:=if k=true then (p.1,p.2+c) else (p.1+c,p.2)
theorem as0{x y z:PyData}:dIx (.tuple [x,y,z]) (.int 0)=some x:=rfl
theorem as1{x y z:PyData}:dIx (.tuple [x,y,z]) (.int 1)=some y:=rfl
theorem as2{x y z:PyData}:dIx (.tuple [x,y,z]) (.int 2)=some z:=rfl
theorem lnt{x y z:PyData}:JE [.tuple [x,y,z]]=some (.int 3):=rfl
theorem itt{xs:LP}:Q0 "tuple" (.tuple xs)=some (.bool true):=rfl
theorem am6:dNe (.int 3) (.int 3)=some (.bool false):=by kernel_rfl
theorem am7(k:Bool):dIn true (JP k) (.tuple [.str "upper",.str "lower"])=some (.bool false):=by cases k<;>kernel_rfl
theorem ao6{c:Int}(hc:c=1∨c=-1):jS [.int c,.int (-1),.int 1]=some (.bool true)/\dNe (.int c) (.int 0)=some (.bool true)/\dIn true (.int c) (.tuple [.int 1,.int (-1)])=some (.bool false)/\Q0 "bool" (.int c)=some (.bool false):=by
 rcases hc with rfl|rfl<;>exact⟨by kernel_rfl,by kernel_rfl,by kernel_rfl,rfl⟩
section
variable {u e l b:Int}{ps:List (Int×Int)}
theorem am8(x y z:PyData){X Y Z N:Bool}(ln:JE [jv ps]=some (.int (ps.length:Int)))(wx:jS [x,.int 0,.int ((ps.length:Int)-1)]=some (.bool X))(iy:X=true->dIn true y (.tuple [.str "upper",.str "lower"])=some (.bool !Y))(wz:X=true->Y=true->jS [z,.int (-1),.int 1]=some (.bool Z))(nz:X=true->Y=true->Z=true->dNe z (.int 0)=some (.bool N)):J9 [jv ps,.tuple [x,y,z]]=some (.bool (X&&Y&&Z&&N)):=by
 have sb:ahJ (.int (ps.length:Int)) (.int 1)=some (.int ((ps.length:Int)-1)):=rfl;have e0:=as0 (x:=x) (y:=y) (z:=z);have e1:=as1 (x:=x) (y:=y) (z:=z);have e2:=as2 (x:=x) (y:=y) (z:=z);have e3:=lnt (x:=x) (y:=y) (z:=z);have e4:=itt (xs:=[x,y,z]);generalize PyData.tuple [x,y,z]=D at*;generalize (ps.length:Int)=n at*;refine qw rfl ?_;show qX.1 [some (jv ps),some D]=_;cases X with
 |false=>dsimp? [qX,e0,e3,e4,am6,ln,sb,wx,Bool.false_and]
 | true=>
  have iy:=iy rfl;cases Y with
  |false=>dsimp? [qX,e0,e1,e3,e4,am6,ln,sb,wx,iy,Bool.false_and,Bool.true_and]
  | true=>
   have wz:=wz rfl rfl;cases Z with
   |false=>dsimp? [qX,ae2,e0,e1,e2,e3,e4,am6,ln,sb,wx,iy,wz,ng1,Bool.false_and,Bool.true_and]
   | true=>
    have nz:=nz rfl rfl rfl;dsimp? [qX,ae2,e0,e1,e2,e3,e4,am6,ln,sb,wx,iy,wz,nz,ng1,Bool.false_and,Bool.true_and]
theorem as3{r:Nat}(hr:r<ps.length):jS [.int (r:Int),.int 0,.int ((ps.length:Int)-1)]=some (.bool true):=by
 rw[j2,decide_eq_true (by omega),decide_eq_true (by omega)];rfl
end
theorem aqT{F:RO}{ρ:Rho}{d:PyData}(h:F ρ=some (.rt d)):agL F ρ=some (.rt d):=by
 unfold agL;rw[h]
theorem ajN{M T D K R Q A1 A2 A3 A4:PyData}{fl fl':LP}{n rr c s z u l hi:Int}{k B1 B2:Bool}
  (e3:JE [D]=some (.int 3)) (e4:Q0 "tuple" D=some (.bool true)) (ga:∀ρ:Rho,(ago 3 (zB (j9 3) (zB (j9 4) (zB (j9 5) acI)))) D ρ=some (((ρ.set 3 (some (.int rr))).set 4 (some K)).set 5 (some (.int c))))
  (ln:JE [T]=some (.int n)) (c1:zJ (fun i j=>decide (i<=j)) (.int 0) (.int rr)=some (.bool true)) (c2:zJ (fun i j=>decide (i<j)) (.int rr) (.int n)=some (.bool true))
  (ik:dIn true K (.tuple [.str "upper",.str "lower"])=some (.bool false)) (ic:dIn true (.int c) (.tuple [.int 1,.int (-1)])=some (.bool false))
  (ek:dEq K (.str "lower")=some (.bool k)) (sd:ah2 [.bool k]=some (.int s)) (ixT:dIx T (.int rr)=some R) (lo:aak [R]=some (.list fl)) (ixf:dIx (.list fl) (.int s)=some (.int z)) (st:al1 (some (.list fl)) (some (.int (z+c))) (some (.int s))=some (.list fl')) (ixg:dIx (.list fl') (.int s)=some (.int (z+c)))
  (m0:dIx M (.int 0)=some (.int u)) (m2:dIx M (.int 2)=some (.int l)) (ixh:dIx (.tuple [.int u,.int l]) (.int s)=some (.int hi)) (d1:zJ (fun i j=>decide (i<=j)) (.int 0) (.int (z+c))=some (.bool B1)) (d2:zJ (fun i j=>decide (i<=j)) (.int (z+c)) (.int hi)=some (.bool B2))
  (tp:ae3 [.list fl']=some Q) (sl2:adJ T none (some rr)=some A1) (ad1:qS A1 (.tuple [Q])=some A2) (sl3:adJ T (some (rr+1)) none=some A3) (ad2:qS A2 A3=some A4):
  Jj [M,T,D]=some (if (B1&&B2)=true then A4 else .none):=by
 have t1:Q0 "int" (.int rr)=some (.bool true):=rfl;have t2:Q0 "bool" (.int rr)=some (.bool false):=rfl;have t3:Q0 "bool" (.int c)=some (.bool false):=rfl;have az:qS (.int z) (.int c)=some (.int (z+c)):=rfl;have a1:qS (.int rr) (.int 1)=some (.int (rr+1)):=rfl;have nl:noL (.int (z+c))=true:=rfl;refine qw rfl ?_;show aaQ.1 [some M,some T,some D,none,none,none,none,none]=_;simp only[aaQ];refine(qd (ρ1:=[some M,some T,some D,none,none,none,none,none]) ?_).trans ?_
 ·dsimp? [e3,e4,am6]
 refine(qd (ρ1:=[some M,some T,some D,some (.int rr),some K,some (.int c),none,none]) ?_).trans ?_
 ·dsimp? [ga]
 refine(qd (ρ1:=[some M,some T,some D,some (.int rr),some K,some (.int c),none,none]) ?_).trans ?_
 ·dsimp? [ln,t1,t2,c1,c2]
 refine(qd (ρ1:=[some M,some T,some D,some (.int rr),some K,some (.int c),none,none]) ?_).trans ?_
 ·dsimp? [ik,t3,ng1,fw2,ic]
 refine(qd (ρ1:=[some M,some T,some D,some (.int rr),some K,some (.int c),some (.int s),none]) ?_).trans ?_
 ·dsimp? [ek,sd]
 have key:∀{Y:RO} {d:PyData},Y [some M,some T,some D,some (.int rr),some K,some (.int c),some (.int s),some (.list fl)]=some (.rt d)->abV 7 (jL aak (jr (op2 dIx (lkp 1) (lkp 3)) jF)) Y [some M,some T,some D,some (.int rr),some K,some (.int c),some (.int s),none]=some (.rt d):=fun {Y d} hy=>by
  have l8:7<[some M,some T,some D,some (.int rr),some K,some (.int c),some (.int s),none].length:=by simp
  dsimp? [abV,ixT,lo,hy];rw[if_pos l8]
 refine key ?_;refine(qd (ρ1:=[some M,some T,some D,some (.int rr),some K,some (.int c),some (.int s),some (.list fl')]) ?_).trans ?_
 ·dsimp? [aoi,brw,hid,okB,Option.join_none,ixf,az,nl,st]
 refine aqT ?_;cases B1 with
 |false=>dsimp? [ixg,m0,m2,fw2,ixh,d1,d2,Bool.false_and]
 | true=>
  cases B2 with
  |false=>dsimp? [ixg,m0,m2,fw2,ixh,d1,d2,Bool.true_and]
  |true=>dsimp? [acU,QN,inI,ixg,m0,m2,fw1,fw2,ixh,d1,d2,Bool.true_and,sl2,tp,ad1,a1,sl3,ad2]
theorem aet(p:Int×Int)(k:Bool)(c:Int):ace [pr p,JP k,.int c]=some (pr (shP p k c)):=by
 have i0:dIx (pr p) (.int 0)=some (.int p.1):=rfl;have i1:dIx (pr p) (.int 1)=some (.int p.2):=rfl;have a1:qS (.int p.1) (.int c)=some (.int (p.1+c)):=rfl;have a2:qS (.int p.2) (.int c)=some (.int (p.2+c)):=rfl;refine qw rfl ?_;show aaB.1 [some (pr p),some (JP k),some (.int c)]=_;cases k with
 | false=>
  have q:dEq (JP false) (.str "upper")=some (.bool true):=by kernel_rfl
  dsimp? [aaB,q,i0,i1,a1,fw2];rfl
 | true=>
  have q:dEq (JP true) (.str "upper")=some (.bool false):=by kernel_rfl
  dsimp? [aaB,q,i0,i1,a2,fw2];rfl
theorem aeu{α:Type}:∀(ps:List α) (r:Nat) (q:α),r<ps.length->ps.set r q=ps.take r++[q]++ps.drop (r+1)
 | [],r,q,h=>by simp at h
 |p::ps,0,q,h=>rfl
 | p::ps,r+1,q,h=>by
  simp only[zzF,List.take_succ_cons,List.drop_succ_cons,List.cons_append];rw[aeu ps r q (by simpa using h)]
section
variable {u e l b:Int}{ps:List (Int×Int)}
theorem as4{r:Nat}(hr:r<ps.length)(h4:ps.length<=4)(q:Int×Int):∃A1 A2 A3,adJ (jv ps) none (some (r:Int))=some A1/\qS A1 (.tuple [pr q])=some A2/\adJ (jv ps) (some ((r:Int)+1)) none=some A3/\qS A2 A3=some (jv (ps.set r q)):=by
 refine⟨.tuple ((ps.map pr).take r),.tuple ((ps.map pr).take r++[pr q]),.tuple ((ps.map pr).drop (r+1)),?_,?_,?_,?_⟩
 ·show some (PyData.tuple (ae4 _ none (some (r:Int))))=_
  rw[ar8]
 ·exact af2 (.inr trivial) (by rw[List.length_take,List.length_map];simp;omega)
 ·show some (PyData.tuple (ae4 _ (some ((r:Int)+1)) none))=_
  rw[show(r:Int)+1=((r+1:Nat):Int) by omega,aoU]
 ·rw[af2 (.inr trivial) (by rw[List.length_append,List.length_take,List.length_drop,List.length_map];simp only[List.length_cons,List.length_nil];omega),aeu ps r q hr]
  show some (PyData.tuple _)=some (PyData.tuple (List.map pr _));rw[List.map_append,List.map_append,List.map_take,List.map_drop];rfl
theorem ajO(hs:okS u l ps=true)(r:Nat){q:Int×Int}(hq:okP u l q=true):okS u l (ps.set r q)=true:=by
 obtain⟨h1,h4,hp⟩:=QA hs;refine aqO (by rw[List.length_set];exact h1) (by rw[List.length_set];exact h4) (List.all_eq_true.mpr fun x hx=>?_);rcases List.mem_or_eq_of_mem_set hx with z|rfl
 ·exact List.all_eq_true.mp hp x z
 ·exact hq
theorem am9(hs:okS u l ps=true){r:Nat}{p:Int×Int}(hp:ps[r]?=some p)(k:Bool){c:Int}(hc:c=1∨c=-1):Th u e l b ps (mv (r:Int) k c) (if okP u l (shP p k c)=true then some (ps.set r (shP p k c)) else none):=by
 obtain⟨h1,h4,hall⟩:=QA hs;obtain⟨hr,hpe⟩:=List.getElem?_eq_some_iff.mp hp;have hpo:okP u l p=true:=List.all_eq_true.mp hall p (by rw[←hpe];exact List.getElem_mem _);have hpo':0<=p.1/\p.1<=u/\0<=p.2/\p.2<=l:=by simp only[okP,Bool.and_eq_true,decide_eq_true_eq]at hpo;omega
 obtain⟨f1,f2,f3,f4⟩:=ao6 hc;have ixT:=ao5 h4 hp;have k1:=am8 (X:=true) (Y:=true) (Z:=true) (N:=true) (.int (r:Int)) (JP k) (.int c) (Zj ps) (as3 hr) (fun _=>am7 k) (fun _ _=>f1) (fun _ _ _=>f2);obtain⟨A1,A2,A3,s1,s2,s3,s4⟩:=as4 hr h4 (shP p k c);have gr:=aep (u:=u) (e:=e) (l:=l) (b:=b) (pr (shP p k c)) rfl;rw[ajJ]at gr;refine⟨?_,?_,fun qs z=>?_⟩
 ·have hc1:zJ (fun i j=>decide (i<=j)) (.int 0) (.int (r:Int))=some (.bool true):=by
   show some (PyData.bool (decide ((0:Int)<=(r:Int))))=_;rw[decide_eq_true (by omega)]
  have hc2:zJ (fun i j=>decide (i<j)) (.int (r:Int)) (.int (ps.length:Int))=some (.bool true):=by
   show some (PyData.bool (decide ((r:Int)<(ps.length:Int))))=_;rw[decide_eq_true (by omega)]
  have oe:(if okP u l (shP p k c)=true then some (ps.set r (shP p k c)) else none)=if okP u l (shP p k c)=true then some (ps.set r (shP p k c)) else none:=rfl
  cases k with
  | false=>
   have q:=ajN (M:=jo u e l b) (T:=jv ps) (D:=mv (r:Int) false c) (K:=JP false) (fl:=[.int p.1,.int p.2]) (fl':=[.int (p.1+c),.int p.2]) (z:=p.1) (s:=0) (hi:=u) (B1:=decide (0<=p.1+c)) (B2:=decide (p.1+c<=u)) rfl rfl (fun ρ=>rfl) (Zj ps) hc1 hc2 (am7 false) f3 (k:=false) (by kernel_rfl) rfl ixT rfl rfl rfl rfl (ix0 _ _ _ _) (ix2 _ _ _ _) rfl rfl rfl (Q:=pr (p.1+c,p.2)) rfl s1 s2 s3 s4;rw[q]
   have ob:okP u l (shP p false c)=(decide (0<=p.1+c)&&decide (p.1+c<=u)):=by
    show(decide (0<=p.1+c)&&decide (p.1+c<=u)&&decide (0<=p.2)&&decide (p.2<=l))=_;rw[decide_eq_true hpo'.2.2.1,decide_eq_true hpo'.2.2.2,Bool.and_true,Bool.and_true]
   rw[ob];split<;>rfl
  | true=>
   have q:=ajN (M:=jo u e l b) (T:=jv ps) (D:=mv (r:Int) true c) (K:=JP true) (fl:=[.int p.1,.int p.2]) (fl':=[.int p.1,.int (p.2+c)]) (z:=p.2) (s:=1) (hi:=l) (B1:=decide (0<=p.2+c)) (B2:=decide (p.2+c<=l)) rfl rfl (fun ρ=>rfl) (Zj ps) hc1 hc2 (am7 true) f3 (k:=true) (by kernel_rfl) rfl ixT rfl rfl rfl rfl (ix0 _ _ _ _) (ix2 _ _ _ _) rfl rfl rfl (Q:=pr (p.1,p.2+c)) rfl s1 s2 s3 s4;rw[q]
   have ob:okP u l (shP p true c)=(decide (0<=p.2+c)&&decide (p.2+c<=l)):=by
    show(decide (0<=p.1)&&decide (p.1<=u)&&decide (0<=p.2+c)&&decide (p.2+c<=l))=_;rw[decide_eq_true hpo'.1,decide_eq_true hpo'.2.1,Bool.true_and,Bool.true_and]
   rw[ob];split<;>rfl
 ·have e0:dIx (mv (r:Int) k c) (.int 0)=some (.int (r:Int)):=rfl
  have e1:dIx (mv (r:Int) k c) (.int 1)=some (JP k):=rfl;have e2:dIx (mv (r:Int) k c) (.int 2)=some (.int c):=rfl;have pu:=aet p k c;have k1':J9 [jv ps,mv (r:Int) k c]=some (.bool true):=k1;have io:(if okP u l (shP p k c)=true then some (ps.set r (shP p k c)) else none).isSome=okP u l (shP p k c):=by split<;>simp_all
  rw[io];generalize mv (r:Int) k c=D at*;generalize okP u l (shP p k c)=OK at*;generalize pr (shP p k c)=Q at*;refine qw rfl ?_;show aaD.1 [some (jo u e l b),some (jv ps),some D]=_;dsimp? [aaD,k1',e0,e1,e2,ixT,pu,gr]
 ·by_cases ho:okP u l (shP p k c)=true
  ·rw[if_pos ho]at z
   cases z;refine⟨?_,ajO hs r ho⟩;have e0:dIx (mv (r:Int) k c) (.int 0)=some (.int (r:Int)):=rfl;have e1:dIx (mv (r:Int) k c) (.int 1)=some (JP k):=rfl;have e2:dIx (mv (r:Int) k c) (.int 2)=some (.int c):=rfl;have a1:qS (.int (r:Int)) (.int 1)=some (.int ((r:Int)+1)):=rfl;have pu:=aet p k c;generalize mv (r:Int) k c=D at*;generalize pr (shP p k c)=Q at*;generalize jv (ps.set r (shP p k c))=R at*;refine qw rfl ?_;show Qb.1 [some (jv ps),some D,none]=_;dsimp? [Qb,acU,QN,inI,e0,e1,e2,a1,ixT,pu,s1,fw1,s2,s3,s4]
  ·rw[if_neg ho]at z;cases z
end
theorem Z1{i:Nat}{f:RP}{ρ:Rho}{d:PyData}(h:f ρ=some d):zk f (j9 i) ρ=some (.nx (ρ.set i (some d))):=by
 show(f ρ).bind _=_;rw[h];rfl
theorem qZ{g:PyData->PyData->OP}{f1 f2:RP}{ρ:Rho}{x y z:PyData}(h1:f1 ρ=some x)(h2:f2 ρ=some y)(h3:g x y=some z):op2 g f1 f2 ρ=some z:=by
 show(f1 ρ).bind _=_;rw[h1,zzD,h2,zzD,h3]
theorem Jp{g:LP->OP}{fs:Rho->Option (LP)}{ρ:Rho}{ds:LP}{d:PyData}(h1:fs ρ=some ds)(h2:g ds=some d):jL g fs ρ=some d:=by
 show(fs ρ).bind _=_;rw[h1,zzD,h2]
theorem qx{f:RP}{fs:Rho->Option (LP)}{ρ:Rho}{d:PyData}{ds:LP}(h1:f ρ=some d)(h2:fs ρ=some ds):jr f fs ρ=some (d::ds):=by
 unfold jr;rw[h1,zzD,h2];rfl
theorem aaa{f:RP}{ρ:Rho}{c:Bool}(h:f ρ=some (.bool c)):tst f ρ=some c:=by
 show(f ρ).bind _=_;rw[h];rfl
theorem aqU{f:RP}{G:RO}{ρ:Rho}{d:PyData}(h:f ρ=some d):jX (qq f) G ρ=some (.rt d):=by
 unfold jX qq;rw[h];rfl
section
variable {u e l b:Int}
end
section
variable {m s t d C:PyData}{c:Str}
end
section
variable {u e l b:Int}
theorem ana(H:zG=true)(h:okN u e l b=true){r n:Int}(h1:1<=r)(h4:r<=4)(h0:0<=n)(hn:n<=99999):Z5 [jo u e l b,.int r,.int n]=some .none/\ail [jo u e l b,.int r,.int n]=none:=by
 refine⟨akM H h h1 h4 h0 hn,?_⟩;have g:=ZH (amU H h);have x:=aeq (amU H h);obtain⟨g2,x2⟩:=ao1 ⟨h1,h4⟩;obtain⟨g3,x3⟩:=am2 ⟨h0,hn⟩;refine ZJ rfl ?_;show afu.1 [some (jo u e l b),some (.int r),some (.int n)]=_;simp[afu,orX,nxX,aeQ,jL,jr,jF,lkp,g,x,g2,x2,g3,x3]
end
section
variable {u e l b:Int}{ps:PL}
theorem ZK(hs:okS u l ps=true):1<=ps.length/\ps.length<=4/\ps.all (okP u l)=true:=by
 unfold okS at hs;simp only[Bool.and_eq_true,decide_eq_true_eq]at hs;exact⟨hs.1.1,hs.1.2,hs.2⟩
theorem ao7{N:List Str}{n:Nat}{B:RO}{ds:LP}{ρ:Rho}(hl:ds.length=n)(h:B (jM N ds)=some (.nx ρ)):jE N n B ds=some .none:=by
 unfold jE;rw[if_pos hl,h]
theorem akU{M S:PyData}{n v:Int}(g:zS [M,S]=some (.int v))(hv:n<=v):acb [M,S,.int n]=some .none/\afx [M,S,.int n]=none:=by
 have c1:zJ (fun i j=>decide (j<i)) (.int n) (.int v)=some (.bool false):=by
  show some (PyData.bool (decide (v<n)))=_;rw[decide_eq_false (by omega)]
 constructor
 ·refine ao7 (ρ:=[some M,some S,some (.int n)]) rfl ?_
  show aca.1 [some M,some S,some (.int n)]=_;dsimp? [aca,g,c1]
 ·refine ZJ rfl ?_
  show aci.1 [some M,some S,some (.int n)]=_;dsimp? [aci,g,c1]
theorem ao8{M S D:PyData}{n v:Int}{r:PyData}(ck:Jd [M,S]=some .none)(gn:Jc [.int n]=some .none)(g:zS [M,S]=some (.int v))(hv:n<=v)(ln:JE [S]=some r)(p1:ZA [M,r,.int (v-n)]=some D):abN [M,S,.int n]=some D:=by
 obtain⟨e1,e2⟩:=akU g hv;have s1:ahJ (.int v) (.int n)=some (.int (v-n)):=rfl;refine qw rfl ?_;show ajC.1 [some M,some S,some (.int n)]=_;dsimp? [ajC,ck,gn,e1,g,ln,s1,p1]
end
section
variable {m r n:PyData}{c:Str}
end
section
variable {u e l b:Int}{ps:PL}
theorem ck2(H:zG=true)(h:okN u e l b=true)(hs:okS u l ps=true):Jd [jo u e l b,jv ps]=some .none/\aaE [jo u e l b,jv ps]=none:=
 ⟨amV H h hs,aiH (amU H h) (aaW ps) (by rw[akQ];exact hs)⟩
end
noncomputable def sh(n:Nat)(d:PyData):Prop:=shl n d/\noD d=true
theorem anb{ds:LP}(h:∀d∈ds,noD d=true):noDs ds=true:=by
 induction ds with
 |nil=>rfl
 | cons d ds ih=>
  show(noD d&&noDs ds)=true;rw[h d List.mem_cons_self,ih fun x hx=>h x (List.mem_cons_of_mem _ hx)];rfl
theorem aqV{n:Nat}{ds:LP}(h:∀d∈ds,sh n d):sh (n+1) (.list ds):=⟨ao2.mpr fun d hd=>(h d hd).1,anb fun d hd=>(h d hd).2⟩
theorem ajP(ps:List (Int×Int)):sh 3 (jv ps):=⟨ao4 ps,aaW ps⟩
noncomputable def ahe(M s K:PyData)(p q:Addr):Cell:= .ins "Bench" [("now",s),("manner",M),("kept",K),("done",jV p),("undone",jV q)]
structure Bn(μ:jD)(a p q:Addr)(M s K:PyData)(D U:LP):Prop where
 ap:a≠p
 aq:a≠q
 pq:p≠q
 ha:μ a=some (ahe M s K p q)
 hp:μ p=some (.lst D)
 hq:μ q=some (.lst U)
noncomputable def aiM(μ μ':jD)(a p q:Addr):Prop:=∀x,x≠a->x≠p->x≠q->μ' x=μ x
noncomputable def stp(w:Str)(s K:PyData):PyData:= .tuple [.str w,s,K]
section
variable {M s s' v n r K K':PyData}{a p q:Addr}{μ:jD}{R:Res PyData->jD->Prop}{D U:LP}{c w:Str}
theorem apG{tc:Rho->Option Bool}{ρ:Rho}(h:tc ρ=some true):zI tc ρ=some false:=by simp[zI,h]
theorem m_value(b:Bn μ a p q M s K D U)(g:zS [M,s]=some v)(hR:R (.ok v) μ):QR [jV a] μ R:=by
 simp only[QR,qv,afB,qC,qB,BX.bindC,jP,qj,zo,abf,rtC];exact⟨_,rfl,a,_,M,rfl,b.ha,rfl,_,rfl,a,_,s,rfl,b.ha,rfl,_,rfl,_,rfl,_,rfl,v,g,hR⟩
theorem m_setting(b:Bn μ a p q M s K D U)(hR:R (.ok s) μ):zV [jV a] μ R:=by
 simp only[zV,qv,abq,qC,qB,BX.bindC,jP,qj,zo,abf,rtC];exact⟨_,rfl,a,_,s,rfl,b.ha,rfl,hR⟩
theorem m_names(b:Bn μ a p q M s K D U)(g:Qi [K]=some v)(hR:R (.ok v) μ):ZD [jV a] μ R:=by
 simp only[ZD,qv,afI,qC,qB,BX.bindC,jP,qj,zo,abf,rtC];exact⟨_,rfl,a,_,K,rfl,b.ha,rfl,_,rfl,_,rfl,v,g,hR⟩
theorem m_go_on(b:Bn μ a p q M s K D U)(hl:D.length<1000000)(g:zS [M,s']=some v)(k:∀μ',Bn μ' a p q M s' K' (D++[stp w s K]) []->aiM μ μ' a p q->R (.ok v) μ'):Z7 [jV a,.str w,s',K'] μ R:=by
 have h1:zQ μ p (.lst (D++[stp w s K])) a=some (ahe M s K p q):=by rw[jA b.ap];exact b.ha
 have h2:zQ μ p (.lst (D++[stp w s K])) q=some (.lst U):=by rw[jA (Ne.symm b.pq)];exact b.hq
 have h3:zQ (zQ μ p (.lst (D++[stp w s K]))) q (.lst []) a=some (ahe M s K p q):=by rw[jA b.aq];exact h1
 simp only[Z7,qv,aiq,qC,qB,BX.bindC,jP,qj,zo,abf,rtC,aku,aqA,ajs,amg,aqz,zg,ZP];refine⟨_,rfl,a,_,_,rfl,b.ha,rfl,⟨p,D,rfl,b.hp⟩,_,rfl,_,rfl,a,_,s,rfl,b.ha,rfl,_,rfl,a,_,K,rfl,b.ha,rfl,_,rfl,_,rfl,_,rfl,_,rfl,_,rfl,p,D,rfl,b.hp,hl,?_⟩;refine⟨_,rfl,a,_,_,rfl,h1,rfl,q,U,rfl,h2,?_⟩;refine⟨_,rfl,_,rfl,a,_,rfl,h3,(by show 5<1000;omega),_,rfl,_,rfl,a,_,rfl,jB,(by show 5<1000;omega),_,rfl,⟨a,_,rfl,jB,rfl⟩,_,rfl,rfl,?_⟩
 have B:Bn (zQ (zQ (zQ (zQ μ p (.lst (D++[stp w s K]))) q (.lst [])) a (ahe M s' K p q)) a (ahe M s' K' p q)) a p q M s' K' (D++[stp w s K]) []:=by
  refine⟨b.ap,b.aq,b.pq,jB,?_,?_⟩
  ·rw[jA (Ne.symm b.ap),jA (Ne.symm b.ap),jA b.pq];exact jB
  ·rw[jA (Ne.symm b.aq),jA (Ne.symm b.aq)];exact jB
 exact m_value B g (k _ B fun x x1 x2 x3=>by rw[jA x1,jA x1,jA x3,jA x2])
theorem m_take(b:Bn μ a p q M s K D U)(hl:D.length<1000000)(f:abN [M,s,n]=some s')(g:zS [M,s']=some v)(k:∀μ',Bn μ' a p q M s' K (D++[stp "take" s K]) []->aiM μ μ' a p q->R (.ok v) μ'):add [jV a,n] μ R:=by
 simp only[add,qv,ais,qC,qB,BX.bindC,jP,qj,zo,abf,rtC,zg,ZP,ah5];exact⟨_,rfl,⟨a,_,rfl,b.ha,rfl⟩,_,rfl,_,rfl,a,_,M,rfl,b.ha,rfl,_,rfl,a,_,s,rfl,b.ha,rfl,_,rfl,_,rfl,_,rfl,_,rfl,_,rfl,rfl,.inl ⟨s',f,_,rfl,a,_,K,rfl,b.ha,rfl,_,rfl,_,rfl,_,rfl,_,rfl,rfl,m_go_on b hl g k⟩⟩
theorem m_push(b:Bn μ a p q M s K D U)(hl:D.length<1000000)(f:Qk [M,s,n]=some s')(g:zS [M,s']=some v)(k:∀μ',Bn μ' a p q M s' K (D++[stp "push" s K]) []->aiM μ μ' a p q->R (.ok v) μ'):abr [jV a,n] μ R:=by
 simp only[abr,qv,aiu,qC,qB,BX.bindC,jP,qj,zo,abf,rtC,zg,ZP,ah5];exact⟨_,rfl,⟨a,_,rfl,b.ha,rfl⟩,_,rfl,_,rfl,a,_,M,rfl,b.ha,rfl,_,rfl,a,_,s,rfl,b.ha,rfl,_,rfl,_,rfl,_,rfl,_,rfl,_,rfl,rfl,.inl ⟨s',f,_,rfl,a,_,K,rfl,b.ha,rfl,_,rfl,_,rfl,_,rfl,_,rfl,rfl,m_go_on b hl g k⟩⟩
noncomputable def dk(r:List (PyData×PyData)):PyData:= .dict ((.none,.none)::r)
theorem m_keep{kv:List (PyData×PyData)}{nm:Str}(b:Bn μ a p q M s (dk kv) D U)(hl:D.length<1000000)(hk:kv.length<1000000)(f:Qd [.str nm]=some (.bool true))(g:zS [M,s]=some v)(k:∀μ',Bn μ' a p q M s (dk (acR kv (Sum.inr nm) s)) (D++[stp "keep" s (dk kv)]) []->aiM μ μ' a p q->R (.ok v) μ'):ade [jV a,.str nm] μ R:=by
 show afG.1 [some (jV a),some (.str nm),none] μ (akw R);simp only[afG];refine⟨false,?_,a,_,kv,s,nm,rfl,b.ha,rfl,rfl,rfl,hk,by decide,by decide,(by show 2<3;omega),?_⟩
 ·exact apG (aaa (Jp rfl f))
 ·simp only[qC,qB,BX.bindC,jP,qj,zo,abf,rtC,zg,ZP,ah5]
  exact⟨_,rfl,⟨a,_,rfl,b.ha,rfl⟩,_,rfl,_,rfl,a,_,s,rfl,b.ha,rfl,_,rfl,_,rfl,_,rfl,_,rfl,_,rfl,rfl,m_go_on b hl g k⟩
theorem m_recall{kv:List (PyData×PyData)}{nm:Str}(b:Bn μ a p q M s (dk kv) D U)(hl:D.length<1000000)(f:Qd [.str nm]=some (.bool true))(h:zw kv (Sum.inr nm)=some s')(g:zS [M,s']=some v)(k:∀μ',Bn μ' a p q M s' (dk kv) (D++[stp "recall" s (dk kv)]) []->aiM μ μ' a p q->R (.ok v) μ'):aaJ [jV a,.str nm] μ R:=by
 show aaI.1 [some (jV a),some (.str nm)] μ (akw R);simp only[aaI];refine⟨false,apG (aaa (Jp rfl f)),?_⟩
 have hh:ajw true (.str nm) (dk kv)=some (.bool false):=by
  show some (PyData.bool (!(zw kv (Sum.inr nm)).isSome))=_;rw[h];rfl
 refine⟨.str nm,rfl,_,rfl,a,_,dk kv,rfl,b.ha,rfl,_,hh,false,rfl,?_⟩;refine⟨_,rfl,⟨a,_,rfl,b.ha,rfl⟩,_,rfl,_,rfl,a,_,dk kv,rfl,b.ha,rfl,.str nm,rfl,s',h,_,rfl,a,_,dk kv,rfl,b.ha,rfl,_,rfl,_,rfl,_,rfl,_,rfl,rfl,m_go_on b hl g k⟩
noncomputable def Ext(μ μ':jD):Prop:=∀x c,μ x=some c->μ' x=some c
theorem anc{ρ:Rho}(f:J4 [M,r,.int 0]=some s)(k:∀(a p q:Addr) (μ':jD),Bn μ' a p q M s (dk []) [] []->μ a=none->μ p=none->μ q=none->Ext μ μ'->R (.ok (jV a)) μ'):aow "Bench" aio 3 [M,r] ρ μ R:=by
 refine⟨rfl,fun a ha=>?_⟩;show afz.1 [some (jV a),some M,some r] _ (akw _);simp only[afz];refine⟨_,rfl,_,rfl,_,rfl,_,rfl,_,rfl,_,rfl,_,rfl,rfl,.inl ⟨s,f,_,rfl,a,_,rfl,jB,(by show 0<1000;omega),?_⟩⟩;refine⟨_,rfl,_,rfl,a,_,rfl,jB,(by show 1<1000;omega),?_⟩;refine⟨_,rfl,_,rfl,a,_,rfl,jB,(by show 2<1000;omega),?_⟩;refine⟨[],rfl,fun p hp=>⟨_,rfl,a,_,rfl,(jA (fun z=>?_)).trans jB,(by show 3<1000;omega),?_⟩⟩
 ·subst z;rw[jB]at hp;cases hp
 have ap:a≠p:=fun z=>by subst z;rw[jB]at hp;cases hp
 refine⟨[],rfl,fun q hq=>⟨_,rfl,a,_,rfl,(jA (fun z=>?_)).trans jB,(by show 4<1000;omega),rfl,?_⟩⟩
 ·subst z;rw[jB]at hq;cases hq
 have aq:a≠q:=fun z=>by subst z;rw[jB]at hq;cases hq
 have pq:p≠q:=fun z=>by subst z;rw[jA (Ne.symm ap),jB]at hq;cases hq
 have hp':μ p=none:=by simp only[jA (Ne.symm ap)]at hp;exact hp
 have hq':μ q=none:=by simp only[jA (Ne.symm aq),jA (Ne.symm pq)]at hq;exact hq
 refine k a p q _ ⟨ap,aq,pq,jB,?_,?_⟩ ha hp' hq' fun x c hx=>?_
 ·rw[jA (Ne.symm ap),jA pq,jA (Ne.symm ap)];exact jB
 ·rw[jA (Ne.symm aq)];exact jB
 ·have n1:x≠a:=fun z=>by subst z;rw[ha]at hx;cases hx
  have n2:x≠p:=fun z=>by subst z;rw[hp']at hx;cases hx
  have n3:x≠q:=fun z=>by subst z;rw[hq']at hx;cases hx
  simp only[jA n1,jA n2,jA n3];exact hx
noncomputable def aqW(M s:PyData)(p:Addr):Cell:= .ins "Hand" [("now",s),("manner",M),("past",jV p)]
structure Hd(μ:jD)(a p:Addr)(M s:PyData)(past:LP):Prop where
 ne:a≠p
 ha:μ a=some (aqW M s p)
 hp:μ p=some (.lst past)
noncomputable def Els(μ μ':jD)(a p:Addr):Prop:=∀x,x≠a->x≠p->μ' x=μ x
variable {past:LP}
theorem aaX(b:Hd μ a p M s past)(g:zS [M,s]=some v)(hR:R (.ok v) μ):Jt [jV a] μ R:=by
 simp only[Jt,qv,afM,qC,qB,BX.bindC,jP,qj,zo,abf,rtC];exact⟨_,rfl,a,_,M,rfl,b.ha,rfl,_,rfl,a,_,s,rfl,b.ha,rfl,_,rfl,_,rfl,_,rfl,v,g,hR⟩
theorem abA(b:Hd μ a p M s past)(hR:R (.ok s) μ):zW [jV a] μ R:=by
 simp only[zW,qv,abu,qC,qB,BX.bindC,jP,qj,zo,abf,rtC];exact⟨_,rfl,a,_,s,rfl,b.ha,rfl,hR⟩
theorem ajQ(b:Hd μ a p M s past)(hl:past.length<1000000)(g:zS [M,s']=some v)(k:∀μ',Hd μ' a p M s' (past++[s])->Els μ μ' a p->R (.ok v) μ'):adg [jV a,s'] μ R:=by
 have h1:zQ μ p (.lst (past++[s])) a=some (aqW M s p):=by rw[jA b.ne];exact b.ha
 simp only[adg,qv,aiA,qC,qB,BX.bindC,jP,qj,zo,abf,rtC,aku,ajs,amg,aqz,zg,ZP];refine⟨_,rfl,a,_,_,rfl,b.ha,rfl,⟨p,past,rfl,b.hp⟩,_,rfl,a,_,s,rfl,b.ha,rfl,p,past,rfl,b.hp,hl,?_⟩;refine⟨_,rfl,_,rfl,a,_,rfl,h1,(by show 3<1000;omega),_,rfl,⟨a,_,rfl,jB,rfl⟩,_,rfl,rfl,?_⟩
 have B:Hd (zQ (zQ μ p (.lst (past++[s]))) a (aqW M s' p)) a p M s' (past++[s]):=by
  refine⟨b.ne,jB,?_⟩;rw[jA (Ne.symm b.ne)];exact jB
 exact aaX B g (k _ B fun x x1 x2=>by rw[jA x1,jA x2])
theorem aqX(b:Hd μ a p M s past)(hl:past.length<1000000)(f:abN [M,s,n]=some s')(g:zS [M,s']=some v)(k:∀μ',Hd μ' a p M s' (past++[s])->Els μ μ' a p->R (.ok v) μ'):adh [jV a,n] μ R:=by
 simp only[adh,qv,aiC,qC,qB,BX.bindC,jP,qj,zo,abf,rtC,zg,ZP,ah5];exact⟨_,rfl,⟨a,_,rfl,b.ha,rfl⟩,_,rfl,a,_,M,rfl,b.ha,rfl,_,rfl,a,_,s,rfl,b.ha,rfl,_,rfl,_,rfl,_,rfl,_,rfl,_,rfl,rfl,.inl ⟨s',f,_,rfl,_,rfl,rfl,ajQ b hl g k⟩⟩
theorem aqY(b:Hd μ a p M s past)(hl:past.length<1000000)(f:Qk [M,s,n]=some s')(g:zS [M,s']=some v)(k:∀μ',Hd μ' a p M s' (past++[s])->Els μ μ' a p->R (.ok v) μ'):adi [jV a,n] μ R:=by
 simp only[adi,qv,aiE,qC,qB,BX.bindC,jP,qj,zo,abf,rtC,zg,ZP,ah5];exact⟨_,rfl,⟨a,_,rfl,b.ha,rfl⟩,_,rfl,a,_,M,rfl,b.ha,rfl,_,rfl,a,_,s,rfl,b.ha,rfl,_,rfl,_,rfl,_,rfl,_,rfl,_,rfl,rfl,.inl ⟨s',f,_,rfl,_,rfl,rfl,ajQ b hl g k⟩⟩
theorem ao9{ρ:Rho}(f:J4 [M,r,.int 0]=some s)(k:∀(a p:Addr) (μ':jD),Hd μ' a p M s []->μ a=none->μ p=none->Ext μ μ'->R (.ok (jV a)) μ'):aow "Hand" aiy 3 [M,r] ρ μ R:=by
 refine⟨rfl,fun a ha=>?_⟩;show afK.1 [some (jV a),some M,some r] _ (akw _);simp only[afK];refine⟨_,rfl,_,rfl,_,rfl,_,rfl,_,rfl,_,rfl,_,rfl,rfl,.inl ⟨s,f,_,rfl,a,_,rfl,jB,(by show 0<1000;omega),?_⟩⟩;refine⟨_,rfl,_,rfl,a,_,rfl,jB,(by show 1<1000;omega),?_⟩;refine⟨[],rfl,fun p hp=>⟨_,rfl,a,_,rfl,(jA (fun z=>?_)).trans jB,(by show 2<1000;omega),rfl,?_⟩⟩
 ·subst z;rw[jB]at hp;cases hp
 have ap:a≠p:=fun z=>by subst z;rw[jB]at hp;cases hp
 have hp':μ p=none:=by simp only[jA (Ne.symm ap)]at hp;exact hp
 refine k a p _ ⟨ap,jB,?_⟩ ha hp' fun x c hx=>?_
 ·rw[jA (Ne.symm ap)];exact jB
 ·have n1:x≠a:=fun z=>by subst z;rw[ha]at hx;cases hx
  have n2:x≠p:=fun z=>by subst z;rw[hp']at hx;cases hx
  simp only[jA n1,jA n2];exact hx
end
mutual
theorem adA:∀d:PyData,noD d=true->PyData.eqv d d=true
 |.none,_=>by simp[PyData.eqv]
 |.bool _,_=>by simp[PyData.eqv]
 |.int _,_=>by simp[PyData.eqv]
 |.str _,_=>by simp[PyData.eqv]
 |.tuple ds,h=>by rw[PyData.eqv];exact eqvA_self ds (by simpa[noD]using h)
 |.list ds,h=>by rw[PyData.eqv];exact eqvA_self ds (by simpa[noD]using h)
 |.dict _,h=>by simp[noD]at h
theorem eqvA_self:∀ds:LP,noDs ds=true->PyData.eqvAll ds ds=true
 | [],_=>by simp[PyData.eqvAll]
 | d::ds,h=>by
  have h':noD d=true/\noDs ds=true:=by simpa[noDs]using h
  rw[PyData.eqvAll,adA d h'.1,eqvA_self ds h'.2];rfl
end
theorem ane{n:Nat}{d:PyData}(h:sh n d)(hn:n<30):dNe d d=some (.bool false):=by
 have ok:=am3 h.1 hn;unfold dNe;rw[if_pos ⟨ok,ok⟩,adA d h.2];rfl
theorem asd{n:Nat}{d:PyData}(h:sh n d)(hn:n<30)(hl:dEq d d=if okD d=true/\okD d=true then some (.bool (PyData.eqv d d)) else none):dEq d d=some (.bool true):=by
 have ok:=am3 h.1 hn;rw[hl,if_pos ⟨ok,ok⟩,adA d h.2]
section
variable {ρ ρ1:Rho}{μ:jD}{R:OutC->jD->Prop}{S S' S0:TRS}{tc:Rho->Option Bool}{F:RO}{f:RP}{d:PyData}{i:Nat}{T:TR PyData}
theorem ase(h:tc ρ=some false)(k:qC S0 S' ρ μ R):qC (ifC (jP tc) S S0) S' ρ μ R:=⟨false,h,k⟩
theorem aqZ(h:tc ρ=some true)(k:qC S S' ρ μ R):qC (ifC (jP tc) S S0) S' ρ μ R:=⟨true,h,k⟩
theorem ajR(h:F ρ=some (.nx ρ1))(k:S' ρ1 μ R):qC (ac0 F) S' ρ μ R:=⟨.nx ρ1,h,k⟩
end
section
variable {ρ ρ1:Rho}{μ:jD}{R:OutC->jD->Prop}{A B S S' S0:TRS}
theorem ahf(h:qC A (qC B S') ρ μ R):qC (qC A B) S' ρ μ R:=by
 have e:(fun (o:OutC) (μ':jD)=>match o with
   | .nx ρ'=>B ρ' μ' fun o μ'=>match o with
    | .nx ρ'=>S' ρ' μ' R
    | o=>R o μ'
   | o=>(match o with
    | .nx ρ'=>S' ρ' μ' R
    | o=>R o μ'))=fun o μ'=>match o with
   |.nx ρ'=>qC B S' ρ' μ' R
   |o=>R o μ':=by
  funext o μ';cases o<;>rfl
 show A ρ μ _;exact e▸h
theorem anf(h:S' ρ μ R):qC Z2 S' ρ μ R:=h
end
theorem abB{ga:PyData->Rho->Option Rho}{S:TRS}{R:OutC->jD->Prop}(I:Nat->Rho->jD->Prop):∀(ds:LP) (j:Nat) (ρ:Rho) (μ:jD),I j ρ μ->
  (∀(i:Nat) (d:PyData) (ρ:Rho) (μ:jD) (R':OutC->jD->Prop),ds[i]?=some d->I (j+i) ρ μ->(∀ρ' μ',I (j+i+1) ρ' μ'->R' (.nx ρ') μ')->∃ρ1,ga d ρ=some ρ1/\S ρ1 μ R')->(∀ρ' μ',I (j+ds.length) ρ' μ'->R (.nx ρ') μ')->aas ga S ds ρ μ R
 | [],j,ρ,μ,h,_,k=>k ρ μ h
 | d::ds,j,ρ,μ,h,st,k=>by
  obtain⟨ρ1,g1,g2⟩:=st 0 d ρ μ (apx (fun ρ2 μ2=>aas ga S ds ρ2 μ2 R) R) rfl h fun ρ' μ' h'=>abB I ds (j+1) ρ' μ' h' (fun i d' ρ μ R' hd hi kk=>st (i+1) d' ρ μ R' (by simpa using hd) (by rw[show j+(i+1)=j+1+i by omega];exact hi) (fun ρ' μ' z=>kk ρ' μ' (by rw[show j+1+i+1=j+(i+1)+1 by omega];exact z))) fun ρ' μ' z=>k ρ' μ' (by rw[List.length_cons,show j+(ds.length+1)=j+1+ds.length by omega];exact z);exact⟨ρ1,g1,g2⟩
section
variable {u e l b:Int}{ps:PL}
section
variable {m r n d:PyData}{c:Str}
theorem aq0(g:Z5 [m,r,n]=some .none)(g2:ZA [m,r,n]=some d):J4 [m,r,n]=some d:=by
 simp[J4,jE,afl,jM,jX,aeQ,qq,jL,jr,jF,lkp,g,g2]
end
theorem ang(H:zG=true)(h:okN u e l b=true){r:Nat}(h1:1<=r)(h4:r<=4):J4 [jo u e l b,.int (r:Int),.int 0]=some (jv (pln (jo u e l b) b r 0)):=by
 obtain⟨a1,a2,a3,a4,a5,a6,a7,a8,a9,a10⟩:=qo h;obtain⟨k1,k2⟩:=ana H h (r:=(r:Int)) (n:=0) (by omega) (by omega) (by omega) (by omega);exact aq0 k1 (adu H h h1 h4 (by omega) (Int.pow_pos (by omega)))
end
noncomputable abbrev Ks:=List (Str×PL)
noncomputable def kd(ks:Ks):List (PyData×PyData):=ks.map fun x=>(.str x.1,jv x.2)
noncomputable def adB(ks:Ks)(nm:Str):Option (Str×PL):=ks.find? fun x=>decide (x.1=nm)
noncomputable def abC(ks:Ks)(nm:Str)(ps:PL):Ks:=if (adB ks nm).isSome=true then ks.map (fun x=>if x.1=nm then (x.1,ps) else x) else ks++[(nm,ps)]
structure K3(u l:Int)(r n:Nat)(ks:Ks):Prop where
 len:ks.length<=n
 abc:∀x∈ks,x.1="a" ∨ x.1="b" ∨ x.1="c"
 ok:∀x∈ks,okS u l x.2=true/\x.2.length=r
 nd:(ks.map (·.1)).Nodup
section
variable {u l:Int}{r n:Nat}{ks:Ks}{nm:Str}{ps:PL}
theorem Zk(nm t:Str):acQ (Sum.inr nm) (.str t)=decide (t=nm):=by
 have:=Qt (Sum.inr nm) (Sum.inr t);simpa[adG]using this
theorem anh:∀(ks:Ks) (nm:Str),zw (kd ks) (Sum.inr nm)=(adB ks nm).map fun x=>jv x.2
 | [],nm=>rfl
 | x::ks,nm=>by
  have ih:=anh ks nm;unfold zw adB kd at*;rw[List.map_cons,List.find?_cons,List.find?_cons];by_cases h:x.1=nm
  ·simp only[Zk,h,decide_true];rfl
  ·simp only[Zk,h,decide_false];exact ih
theorem ajS:∀(ks:Ks) (nm:Str),((kd ks).any fun p=>acQ (Sum.inr nm) p.1)=(adB ks nm).isSome
 | [],nm=>rfl
 | x::ks,nm=>by
  have ih:=ajS ks nm;unfold adB kd at*;rw[List.map_cons,List.any_cons,List.find?_cons,ih];by_cases h:x.1=nm
  ·simp[Zk,h]
  ·simp[Zk,h]
theorem ani(ks:Ks)(nm:Str)(ps:PL):acR (kd ks) (Sum.inr nm) (jv ps)=kd (abC ks nm ps):=by
 unfold acR abC;rw[ajS];by_cases h:(adB ks nm).isSome=true
 ·rw[if_pos h,if_pos h]
  unfold kd;rw[List.map_map,List.map_map];refine List.map_congr_left fun x _=>?_;simp only[Function.comp,Zk,decide_eq_true_eq];by_cases hx:x.1=nm
  ·rw[if_pos hx,if_pos hx]
  ·rw[if_neg hx,if_neg hx]
 ·rw[if_neg h,if_neg h]
  unfold kd;rw[List.map_append];rfl
theorem anj{x:Str×PL}(h:adB ks nm=some x):x∈ks/\x.1=nm:=⟨List.mem_of_find?_eq_some h,by simpa using List.find?_some h⟩
theorem K3.put(k:K3 u l r n ks)(hn:nm="a" ∨ nm="b" ∨ nm="c")(ok:okS u l ps=true)(hl:ps.length=r):K3 u l r (n+1) (abC ks nm ps):=by
 unfold abC;by_cases h:(adB ks nm).isSome=true
 ·rw[if_pos h]
  have e1:(ks.map fun x=>if x.1=nm then (x.1,ps) else x).map (·.1)=ks.map (·.1):=by
   rw[List.map_map];refine List.map_congr_left fun x _=>?_;simp only[Function.comp];by_cases z:x.1=nm
   ·rw[if_pos z]
   ·rw[if_neg z]
  refine⟨by rw[List.length_map];exact Nat.le_succ_of_le k.len,fun x hx=>?_,fun x hx=>?_,by rw[e1];exact k.nd⟩
  ·obtain⟨y,hy,rfl⟩:=List.mem_map.mp hx
   by_cases z:y.1=nm
   ·rw[if_pos z];exact k.abc y hy
   ·rw[if_neg z];exact k.abc y hy
  ·obtain⟨y,hy,rfl⟩:=List.mem_map.mp hx
   by_cases z:y.1=nm
   ·rw[if_pos z];exact⟨ok,hl⟩
   ·rw[if_neg z];exact k.ok y hy
 ·rw[if_neg h]
  refine⟨by rw[List.length_append];have:=k.len;simp;omega,fun x hx=>?_,fun x hx=>?_,?_⟩
  ·rcases List.mem_append.mp hx with z | z
   ·exact k.abc x z
   ·rw[List.mem_singleton.mp z];exact hn
  ·rcases List.mem_append.mp hx with z | z
   ·exact k.ok x z
   ·rw[List.mem_singleton.mp z];exact⟨ok,hl⟩
  ·rw[List.map_append,List.nodup_append]
   refine⟨k.nd,by simp,fun y hy w hw e=>?_⟩;obtain⟨x,hx,rfl⟩:=List.mem_map.mp hy;have hw':w=nm:=by simpa using hw
   refine h ?_;unfold adB;rw[List.find?_isSome];exact⟨x,hx,by simp[e,hw']⟩
theorem af5:∀ks:Ks,JJ ((kd ks).map (·.1))=some (ks.map (·.1))
 | []=>rfl
 | x::ks=>by
  show(JJ ((kd ks).map (·.1))).map (x.1::·)=_;rw[af5 ks];rfl
theorem K3.srt(k:K3 u l r n ks)(hn:n<64):∃ts:List Str,Qi [dk (kd ks)]=some (.list (ts.map .str))/\∀t∈ts,t="a" ∨ t="b" ∨ t="c":=by
 refine⟨JW (rkT (ks.map (·.1))) (ks.map (·.1)),?_,fun t ht=>?_⟩
 ·show(JJ ((kd ks).map (·.1))).bind _=_
  rw[af5,zzD,if_pos (by rw[List.length_map];have:=k.len;omega)]
 ·have:=(zt (rkT (ks.map (·.1))) (ks.map (·.1))).mem_iff.mp ht
  obtain⟨x,hx,rfl⟩:=List.mem_map.mp this;exact k.abc x hx
end
section
variable {u e l b:Int}{r n:Nat}{ps:PL}{ks:Ks}{d N:PyData}
theorem add_list{xs ys:LP}(h:xs.length+ys.length<9999):qS (.list xs) (.list ys)=some (.list (xs++ys)):=by
 show(if few (xs++ys)=true then some (PyData.list (xs++ys)) else none)=_;rw[if_pos (zH (by rw[List.length_append];omega))]
theorem ank(H:zG=true)(h:okN u e l b=true){qs:PL}(hs:okS u l ps=true)(t:Th u e l b ps d (some qs)):Qk [jo u e l b,jv ps,d]=some (jv qs):=am5 (ck2 H h hs).1 t.cm (t.bm _ rfl).1
noncomputable def VMv(u l:Int)(ps:PL)(x:PyData):Prop:=∃(i:Nat) (k:Bool) (c:Int) (p:Int×Int),x=mv (i:Int) k c/\ps[i]?=some p/\(c=1∨c=-1)/\okP u l (shP p k c)=true
theorem aiN(H:zG=true)(h:okN u e l b=true)(hs:okS u l ps=true){i:Nat}{k:Bool}{c:Int}{p:Int×Int}(hp:ps[i]?=some p)(hc:c=1∨c=-1)(ho:okP u l (shP p k c)=true):Qk [jo u e l b,jv ps,mv (i:Int) k c]=some (jv (ps.set i (shP p k c)))/\okS u l (ps.set i (shP p k c))=true:=by
 have t:=am9 (e:=e) (b:=b) hs hp k hc;rw[if_pos ho]at t;exact⟨ank H h hs t,ajO hs i ho⟩
theorem apa(H:zG=true)(h:okN u e l b=true)(hs:okS u l ps=true){n:Int}(n0:0<=n)(n1:n<=99999)(hv:n<=val b e ps)(hp:val b e ps-n<b ^ ps.length):∃qs:PL,abN [jo u e l b,jv ps,.int n]=some (jv qs)/\okS u l qs=true/\qs.length=ps.length:=by
 obtain⟨h1,h4,hk⟩:=ZK hs;obtain⟨ck,tk⟩:=ck2 H h hs;obtain⟨gn,xn⟩:=am2 (i:=n) ⟨n0,n1⟩;exact⟨_,ao8 ck gn (ajI h h4 hk) hv (Zj ps) (adu H h h1 h4 (by omega) hp),amT H h h1 h4 (by omega) hp,af0 _ _ _ _⟩
noncomputable def pM(M T:PyData)(d:PyData):Bool:=match Jj [M,T,d]with
 |some x=>!aog x
 |none=>false
theorem apH(hs:okS u l ps=true){i:Nat}(hi:i<ps.length)(k:Bool){F:LP}(hF:F.length<1000){x5:OP}:∃(G:LP) (y5:OP),Qe.1 [some (jo u e l b),some (jv ps),some (.list F),some (.int (i:Int)),some (JP k),x5]=some (.nx [some (jo u e l b),some (jv ps),some (.list (F++G)),some (.int (i:Int)),some (JP k),y5])/\G.length<=2/\(∀x∈G,VMv u l ps x)/\∀(c:Int) (p:Int×Int),(c=1∨c=-1)->ps[i]?=some p->okP u l (shP p k c)=true->mv (i:Int) k c∈G:=by
 have mm:∀x∈[mv (i:Int) k 1,mv (i:Int) k (-1)],∃c:Int,x=mv (i:Int) k c/\(c=1∨c=-1):=fun x hx=>by
  simp only[List.mem_cons,List.not_mem_nil,or_false]at hx;rcases hx with rfl|rfl
  ·exact⟨1,rfl,.inl rfl⟩
  ·exact⟨-1,rfl,.inr rfl⟩
 have pm:∀(c:Int) (p:Int×Int),(c=1∨c=-1)->ps[i]?=some p->pM (jo u e l b) (jv ps) (mv (i:Int) k c)=okP u l (shP p k c):=fun c p hc hp=>by
  have t:=am9 (e:=e) (b:=b) hs hp k hc;unfold pM;rw[t.lb];cases okP u l (shP p k c)<;>rfl
 have cp:=aah (ft:=tst (op2 agC (jL Jj (jr (lkp 1) (jr (lkp 2) (jr (lkp 0) jF)))) (cst .none))) (fe:=lkp 0) (i:=0) (pM (jo u e l b) (jv ps)) id [mv (i:Int) k 1,mv (i:Int) k (-1)] [none,some (jo u e l b),some (jv ps)] (fun d hd=>by
   obtain ⟨c,rfl,hc⟩:=mm d hd;have t:=am9 (e:=e) (b:=b) hs (List.getElem?_eq_getElem hi) k hc;have e1:=(show pM (jo u e l b) (jv ps) (mv (i:Int) k c)=!aog _ by unfold pM; rw [t.lb]);rw [e1];exact aaa (qZ (Jp rfl t.lb) rfl rfl)) (fun d hd _=>rfl)
 rw[List.map_id]at cp;refine⟨[mv (i:Int) k 1,mv (i:Int) k (-1)].filter (pM (jo u e l b) (jv ps)),some (.list [mv (i:Int) k 1,mv (i:Int) k (-1)]),?_,List.length_filter_le _ _,fun x hx=>?_,fun c p hc hp ho=>?_⟩
 ·simp only[Qe]
  refine(qd (ρ1:=[some (jo u e l b),some (jv ps),some (.list F),some (.int (i:Int)),some (JP k),some (.list [mv (i:Int) k 1,mv (i:Int) k (-1)])]) rfl).trans ?_
  have e2:ze (itS (lkp 5)) [none,some 0,some 1] (j9 0) (tst (op2 agC (jL Jj (jr (lkp 1) (jr (lkp 2) (jr (lkp 0) jF)))) (cst .none))) (lkp 0) [some (jo u e l b),some (jv ps),some (.list F),some (.int (i:Int)),some (JP k),some (.list [mv (i:Int) k 1,mv (i:Int) k (-1)])]=some (.list ([mv (i:Int) k 1,mv (i:Int) k (-1)].filter (pM (jo u e l b) (jv ps)))):=by
   have e3:itS (lkp 5) [some (jo u e l b),some (jv ps),some (.list F),some (.int (i:Int)),some (JP k),some (.list [mv (i:Int) k 1,mv (i:Int) k (-1)])]=some [mv (i:Int) k 1,mv (i:Int) k (-1)]:=rfl;have cp':qp (j9 0) (tst (op2 agC (jL Jj (jr (lkp 1) (jr (lkp 2) (jr (lkp 0) jF)))) (cst .none))) (lkp 0) [mv (i:Int) k 1,mv (i:Int) k (-1)] (ZL [none,some 0,some 1] [some (jo u e l b),some (jv ps),some (.list F),some (.int (i:Int)),some (JP k),some (.list [mv (i:Int) k 1,mv (i:Int) k (-1)])])=_:=cp;unfold ze;rw[e3,zzD,if_pos fw2,cp'];rfl
  have al:qS (.list F) (.list ([mv (i:Int) k 1,mv (i:Int) k (-1)].filter (pM (jo u e l b) (jv ps))))=some (.list (F++[mv (i:Int) k 1,mv (i:Int) k (-1)].filter (pM (jo u e l b) (jv ps)))):=add_list (by have:=List.length_filter_le (pM (jo u e l b) (jv ps)) [mv (i:Int) k 1,mv (i:Int) k (-1)];simp only[List.length_cons,List.length_nil]at this;omega);exact(qd (Z1 (i:=2) (qZ rfl e2 al))).trans rfl
 ·obtain⟨c,e,hc⟩:=mm x (List.mem_filter.mp hx).1
  have hp:=List.getElem?_eq_getElem hi;have z:=(List.mem_filter.mp hx).2;rw[e,pm c _ hc hp]at z;exact⟨i,k,c,_,e,hp,hc,z⟩
 ·refine List.mem_filter.mpr ⟨?_,by rw[pm c p hc hp];exact ho⟩
  rcases hc with rfl|rfl<;>simp
theorem aq1(h:okN u e l b=true)(hs:okS u l ps=true){i:Nat}(hi:i<ps.length){F:LP}(hF:F.length<900)(mF:(∀x∈F,VMv u l ps x)){x4 x5:OP}:∃(G:LP) (y4 y5:OP),Qf.1 [some (jo u e l b),some (jv ps),some (.list F),some (.int (i:Int)),x4,x5]=some (.nx [some (jo u e l b),some (jv ps),some (.list G),some (.int (i:Int)),y4,y5])/\G.length<=F.length+4/\(∀x∈G,VMv u l ps x)/\∃x,x∈G:=by
 obtain⟨G1,y1,e1,l1,m1,_⟩:=apH (e:=e) (b:=b) hs hi false (F:=F) (by omega) (x5:=x5);obtain⟨G2,y2,e2,l2,m2,m3⟩:=apH (e:=e) (b:=b) hs hi true (F:=F++G1) (by rw[List.length_append];omega) (x5:=y1);refine⟨F++G1++G2,some (JP true),y2,?_,by rw[List.length_append,List.length_append];omega,fun x hx=>?_,?_⟩
 ·simp only[Qf]
  have lp:qK (j9 4) Qe.1 [.str "upper",.str "lower"] [some (jo u e l b),some (jv ps),some (.list F),some (.int (i:Int)),x4,x5]=some (.nx [some (jo u e l b),some (jv ps),some (.list (F++G1++G2)),some (.int (i:Int)),some (JP true),y2]):=by
   have a1:j9 4 (.str "upper") [some (jo u e l b),some (jv ps),some (.list F),some (.int (i:Int)),x4,x5]=some [some (jo u e l b),some (jv ps),some (.list F),some (.int (i:Int)),some (JP false),x5]:=rfl;have a2:j9 4 (.str "lower") [some (jo u e l b),some (jv ps),some (.list (F++G1)),some (.int (i:Int)),some (JP false),y1]=some [some (jo u e l b),some (jv ps),some (.list (F++G1)),some (.int (i:Int)),some (JP true),y1]:=rfl;simp only[qK,a1,a2,e1,e2,zzD]
  refine(qd (ρ1:=[some (jo u e l b),some (jv ps),some (.list (F++G1++G2)),some (.int (i:Int)),some (JP true),y2]) ?_).trans rfl;exact lp
 ·rcases List.mem_append.mp hx with z | z
  ·rcases List.mem_append.mp z with z | z
   ·exact mF x z
   ·exact m1 x z
  ·exact m2 x z
 ·obtain⟨a1,a2,a3,a4,a5,a6,a7,a8,a9,a10⟩:=qo h
  have hp:=List.getElem?_eq_getElem hi;obtain⟨_,_,hall⟩:=QA hs;obtain⟨q1,q2,q3,q4⟩:=Qz (List.all_eq_true.mp hall _ (List.mem_of_getElem? hp));by_cases c:ps[i].2<l
  ·exact⟨_,List.mem_append_right _ (m3 1 _ (.inl rfl) hp (by simp only[shP,okP,zzM,Bool.and_eq_true,decide_eq_true_eq];omega))⟩
  ·exact⟨_,List.mem_append_right _ (m3 (-1) _ (.inr rfl) hp (by simp only[shP,okP,zzM,Bool.and_eq_true,decide_eq_true_eq];omega))⟩
theorem aev(h:okN u e l b=true)(hs:okS u l ps=true):∃ds:LP,Z9 [jo u e l b,jv ps]=some (.list ds)/\ds.length<=16/\(∀x∈ds,VMv u l ps x)/\1<=ds.length:=by
 obtain⟨h1,h4,hk⟩:=ZK hs;have ln:=Zj ps
 have rg:ZV [.int (ps.length:Int)]=some (zl 0 ps.length):=by
  have:ZV [.int (ps.length:Int)]=some (zl 0 (ps.length:Int).toNat):=aaS (by omega) (by omega);rw[Int.toNat_natCast]at this;exact this
 obtain⟨ρ',lp,F,x3,x4,x5,e',l',m',n'⟩:=adv (ga:=j9 3) (F:=Qf.1) (fun j ρ=>∃(F:LP) (x3 x4 x5:OP),ρ=[some (jo u e l b),some (jv ps),some (.list F),x3,x4,x5]/\F.length<=4*j/\(∀x∈F,VMv u l ps x)/\(0<j->∃x,x∈F)) (zl 0 ps.length) 0 [some (jo u e l b),some (jv ps),some (.list []),none,none,none] ⟨[],none,none,none,rfl,by simp,(fun x hx=>nomatch hx),fun z=>absurd z (by omega)⟩ (fun j d ρ hd ⟨F,x3,x4,x5,e,hl,hm,_⟩=>by
  obtain ⟨hj,rfl⟩:=adw hd;subst e;obtain ⟨G,y4,y5,e1,l1,m1,n1⟩:=aq1 (e:=e) (b:=b) h hs hj (F:=F) (by omega) hm (x4:=x4) (x5:=x5);exact ⟨_,_,rfl,e1,⟨G,some (.int (j:Int)),y4,y5,rfl,by omega,m1,fun _=>n1⟩⟩)
 rw[aaU,Nat.zero_add]at l' n';obtain⟨x0,hx0⟩:=n' (by omega);refine⟨F,?_,by omega,m',List.length_pos_of_mem hx0⟩;refine qw rfl ?_;show QS.1 [some (jo u e l b),some (jv ps),none,none,none,none]=_;simp only[QS];refine(qd (ρ1:=[some (jo u e l b),some (jv ps),some (.list []),none,none,none]) rfl).trans ?_;subst e';refine(qd (ρ1:=[some (jo u e l b),some (jv ps),some (.list F),x3,x4,x5]) ?_).trans (aqU rfl);show agp _ _ _ _=_;unfold agp
 have it:(fun ρ=>(jr (jL JE (jr (lkp 1) jF)) jF ρ).bind ZV) [some (jo u e l b),some (jv ps),some (.list []),none,none,none]=some (zl 0 ps.length):=by
  show(jr _ jF _).bind ZV=_;rw[qx (Jp rfl ln) rfl,zzD,rg]
 rw[it,zzD];exact lp
end
end Rods
end
section
namespace Rods
open PySem L2 BX
open PyProof.Rows hiding St
structure Ds(a p q h g k:Addr):Prop where
 ha:h≠a
 hp:h≠p
 hq:h≠q
 ga:g≠a
 gp:g≠p
 gq:g≠q
 ka:k≠a
 kp:k≠p
 kq:k≠q
 kh:k≠h
 kg:k≠g
structure Wd(μ:jD)(a p q h g k:Addr)(M s:PyData)(ks:Ks)(D U past:LP):Prop where
 bn:Bn μ a p q M s (dk (kd ks)) D U
 hd:Hd μ h g M s past
 kn:μ k=some (.dct (kd ks))
section
variable {M s s' d v:PyData}{a p q h g k:Addr}{μ μ':jD}{R:Res PyData->jD->Prop}{RB:Res Bool->jD->Prop}{D U past:LP}{ks:Ks}{ρ:Rho}{n:Int}
theorem Bn.els{K:PyData}(b:Bn μ a p q M s K D U)(e:Els μ μ' h g)(ds:Ds a p q h g k):Bn μ' a p q M s K D U:=
 ⟨b.ap,b.aq,b.pq,(e a (Ne.symm ds.ha) (Ne.symm ds.ga)).trans b.ha,(e p (Ne.symm ds.hp) (Ne.symm ds.gp)).trans b.hp,(e q (Ne.symm ds.hq) (Ne.symm ds.gq)).trans b.hq⟩
theorem Hd.els(b:Hd μ h g M s past)(e:aiM μ μ' a p q)(ds:Ds a p q h g k):Hd μ' h g M s past:=⟨b.ne,(e h ds.ha ds.hp ds.hq).trans b.ha,(e g ds.ga ds.gp ds.gq).trans b.hp⟩
theorem aq2(W:Wd μ a p q h g k M s ks D U past)(ds:Ds a p q h g k)(hD:D.length<1000000)(hP:past.length<1000000)(f:Qk [M,s,d]=some s')(gn:zS [M,s']=some (.int n))(l3:lkp 3 ρ=some (jV a))(l4:lkp 4 ρ=some (jV h))(l9:lkp 9 ρ=some d)
  (kk:∀μ',Wd μ' a p q h g k M s' ks (D++[stp "push" s (dk (kd ks))]) [] (past++[s])->RB (.ok false) μ'):
  ZM (opC dNe (BX.bindC (jP (lkp 3)) (zg "Bench" "push" abr 2 (zo (jP (lkp 9)) (qj (some []))))) (BX.bindC (jP (lkp 4)) (zg "Hand" "push" adi 2 (zo (jP (lkp 9)) (qj (some [])))))) ρ μ RB:=by
 have nn:dNe (.int n) (.int n)=some (.bool false):=by rw[aby];simp
 refine⟨_,l3,⟨a,_,rfl,W.bn.ha,rfl⟩,_,l9,_,rfl,_,rfl,rfl,m_push W.bn hD f gn fun μ1 b1 e1=>?_⟩;have h1:=W.hd.els e1 ds;refine⟨_,l4,⟨h,_,rfl,h1.ha,rfl⟩,_,l9,_,rfl,_,rfl,rfl,aqY h1 hP f gn fun μ2 h2 e2=>?_⟩;exact⟨_,nn,_,rfl,kk μ2 ⟨b1.els e2 ds,h2,((e2 k ds.kh ds.kg).trans (e1 k ds.ka ds.kp ds.kq)).trans W.kn⟩⟩
theorem aq3(W:Wd μ a p q h g k M s ks D U past)(ds:Ds a p q h g k)(hD:D.length<1000000)(hP:past.length<1000000)(f:abN [M,s,d]=some s')(gn:zS [M,s']=some (.int n))(l3:lkp 3 ρ=some (jV a))(l4:lkp 4 ρ=some (jV h))(l9:lkp 10 ρ=some d)
  (kk:∀μ',Wd μ' a p q h g k M s' ks (D++[stp "take" s (dk (kd ks))]) [] (past++[s])->RB (.ok false) μ'):
  ZM (opC dNe (BX.bindC (jP (lkp 3)) (zg "Bench" "take" add 2 (zo (jP (lkp 10)) (qj (some []))))) (BX.bindC (jP (lkp 4)) (zg "Hand" "take" adh 2 (zo (jP (lkp 10)) (qj (some [])))))) ρ μ RB:=by
 have nn:dNe (.int n) (.int n)=some (.bool false):=by rw[aby];simp
 refine⟨_,l3,⟨a,_,rfl,W.bn.ha,rfl⟩,_,l9,_,rfl,_,rfl,rfl,m_take W.bn hD f gn fun μ1 b1 e1=>?_⟩;have h1:=W.hd.els e1 ds;refine⟨_,l4,⟨h,_,rfl,h1.ha,rfl⟩,_,l9,_,rfl,_,rfl,rfl,aqX h1 hP f gn fun μ2 h2 e2=>?_⟩;exact⟨_,nn,_,rfl,kk μ2 ⟨b1.els e2 ds,h2,((e2 k ds.kh ds.kg).trans (e1 k ds.ka ds.kp ds.kq)).trans W.kn⟩⟩
theorem aq4(W:Wd μ a p q h g k M s ks D U past)(gn:zS [M,s]=some (.int n))(ns:dNe s s=some (.bool false))(l3:lkp 3 ρ=some (jV a))(l4:lkp 4 ρ=some (jV h))(kk:RB (.ok false) μ):
  orC (ZM (opC dNe (BX.bindC (jP (lkp 3)) (zg "Bench" "setting" zV 1 (qj (some [])))) (BX.bindC (jP (lkp 4)) (zg "Hand" "setting" zW 1 (qj (some []))))))
   (ZM (opC dNe (BX.bindC (jP (lkp 3)) (zg "Bench" "value" QR 1 (qj (some [])))) (BX.bindC (jP (lkp 4)) (zg "Hand" "value" Jt 1 (qj (some [])))))) ρ μ RB:=by
 have nn:dNe (.int n) (.int n)=some (.bool false):=by rw[aby];simp
 refine⟨_,l3,⟨a,_,rfl,W.bn.ha,rfl⟩,_,rfl,rfl,m_setting W.bn ⟨_,l4,⟨h,_,rfl,W.hd.ha,rfl⟩,_,rfl,rfl,abA W.hd ⟨_,ns,_,rfl,?_⟩⟩⟩;exact⟨_,l3,⟨a,_,rfl,W.bn.ha,rfl⟩,_,rfl,rfl,m_value W.bn gn ⟨_,l4,⟨h,_,rfl,W.hd.ha,rfl⟩,_,rfl,rfl,aaX W.hd gn ⟨_,nn,_,rfl,kk⟩⟩⟩
theorem aq5{nm:Str}{ps:PL}{v:PyData}(W:Wd μ a p q h g k M (jv ps) ks D U past)(ds:Ds a p q h g k)(hD:D.length<1000000)(hk:(kd ks).length<1000000)(f:Qd [.str nm]=some (.bool true))(gn:zS [M,jv ps]=some (.int n))(l3:lkp 3 ρ=some (jV a))(l4:lkp 4 ρ=some (jV h))(l5:lkp 5 ρ=some (jV k))(l12:lkp 12 ρ=some (.str nm))(lt:5 < ρ.length)
  (so:Qi [dk (kd (abC ks nm ps))]=some v) (nv:noD v=true) (ne:dNe v v=some (.bool false)) (kk:∀μ',Wd μ' a p q h g k M (jv ps) (abC ks nm ps) (D++[stp "keep" (jv ps) (dk (kd ks))]) [] past->RB (.ok false) μ'):
  orC (ZM (opC dNe (BX.bindC (jP (lkp 3)) (zg "Bench" "keep" ade 2 (zo (jP (lkp 12)) (qj (some []))))) (BX.bindC (jP (lkp 4)) (zg "Hand" "value" Jt 1 (qj (some []))))))
   (ZM (opC dNe (BX.bindC (jP (lkp 3)) (zg "Bench" "names" ZD 1 (qj (some [])))) (akB 5 (jL Qi (jr (lkp 5) jF))))) ρ (zQ μ k (.dct (kd (abC ks nm ps)))) RB:=by
 have nn:dNe (.int n) (.int n)=some (.bool false):=by rw[aby];simp
 have b0:Bn (zQ μ k (.dct (kd (abC ks nm ps)))) a p q M (jv ps) (dk (kd ks)) D U:=⟨W.bn.ap,W.bn.aq,W.bn.pq,(jA (Ne.symm ds.ka)).trans W.bn.ha,(jA (Ne.symm ds.kp)).trans W.bn.hp,(jA (Ne.symm ds.kq)).trans W.bn.hq⟩;have h0:Hd (zQ μ k (.dct (kd (abC ks nm ps)))) h g M (jv ps) past:=⟨W.hd.ne,(jA (Ne.symm ds.kh)).trans W.hd.ha,(jA (Ne.symm ds.kg)).trans W.hd.hp⟩;refine⟨_,l3,⟨a,_,rfl,b0.ha,rfl⟩,_,l12,_,rfl,_,rfl,rfl,m_keep b0 hD hk f gn fun μ1 b1 e1=>?_⟩;rw[ani]at b1;have h1:=h0.els e1 ds;have k1:μ1 k=some (.dct (kd (abC ks nm ps))):=(e1 k ds.ka ds.kp ds.kq).trans jB;refine⟨_,l4,⟨h,_,rfl,h1.ha,rfl⟩,_,rfl,rfl,aaX h1 gn ⟨_,nn,_,rfl,?_⟩⟩;refine⟨_,l3,⟨a,_,rfl,b1.ha,rfl⟩,_,rfl,rfl,m_names b1 so ⟨k,_,v,l5,k1,?_,nv,_,ne,_,rfl,kk μ1 ⟨b1,h1,k1⟩⟩⟩;refine Jp (ds:=[dk (kd (abC ks nm ps))]) (qx ?_ rfl) so;show((ρ.set 5 (some (dcD (kd (abC ks nm ps)))))[5]?).join=_;rw[List.getElem?_set_self lt];rfl
end
section
variable {u e l b:Int}{r n:Nat}{ps:PL}{ks:Ks}
theorem K3.up(k:K3 u l r n ks):K3 u l r (n+1) ks:=⟨Nat.le_succ_of_le k.len,k.abc,k.ok,k.nd⟩
theorem abD(h:okN u e l b=true)(ok:okS u l ps=true):zS [jo u e l b,jv ps]=some (.int (val b e ps)):=by
 obtain⟨h1,h4,hk⟩:=ZK ok;exact ajI h h4 hk
theorem ahg{nm:Str}(hn:nm="a" ∨ nm="b" ∨ nm="c"):Qd [.str nm]=some (.bool true):=by
 rcases hn with rfl|rfl|rfl<;>kernel_rfl
theorem aq6{i:Int}(h0:0<=i)(h3:i<3):∃nm:Str,aoB (.str "abc") (.int i)=some (.str nm)/\(nm="a" ∨ nm="b" ∨ nm="c"):=by
 rcases (show i=0∨i=1∨i=2 by omega)with rfl|rfl|rfl
 ·exact⟨"a",by kernel_rfl,.inl rfl⟩
 ·exact⟨"b",by kernel_rfl,.inr (.inl rfl)⟩
 ·exact⟨"c",by kernel_rfl,.inr (.inr rfl)⟩
theorem aq7{t:Str}(h:t="a" ∨ t="b" ∨ t="c"):sh 1 (.str t):=by
 rcases h with rfl|rfl|rfl<;>exact⟨⟨by decide +kernel,by simp[PyData.depth]⟩,rfl⟩
theorem af6{ts:List Str}(h:∀t∈ts,t="a" ∨ t="b" ∨ t="c"):sh 2 (.list (ts.map .str)):=aqV fun d hd=>by
 obtain⟨t,ht,rfl⟩:=List.mem_map.mp hd;exact aq7 (h t ht)
end
theorem QU{T:TR Bool}{S S':TRS}{ρ:Rho}{μ:jD}{R:OutC->jD->Prop}{P:jD->Prop}(h:∀RB:Res Bool->jD->Prop,(∀μ',P μ'->RB (.ok false) μ')->T ρ μ RB)(k:∀μ',P μ'->S' ρ μ' R):qC (ifC T S Z2) S' ρ μ R:=h _ fun μ' p=>k μ' p
noncomputable abbrev Fr(S M:PyData)(r:Nat)(a h k:Addr)(x6 x7 x8 x9 x10 x11 x12 x13 x14 x15:OP):Rho:=[some S,some M,some (.int (r:Int)),some (jV a),some (jV h),some (jV k),x6,x7,x8,x9,x10,x11,x12,x13,x14,x15]
noncomputable def l1R:TRS:=qC (ifC (orC (ZM (opC dNe (BX.bindC (jP (lkp 3)) (zg "Bench" "setting" zV 1 (qj (some [])))) (BX.bindC (jP (lkp 4)) (zg "Hand" "setting" zW 1 (qj (some []))))))
   (ZM (opC dNe (BX.bindC (jP (lkp 3)) (zg "Bench" "value" QR 1 (qj (some [])))) (BX.bindC (jP (lkp 4)) (zg "Hand" "value" Jt 1 (qj (some []))))))) (qC (ac0 (qq (cst (.bool false)))) Z2) Z2)
 (qC (ifC (jP (tst (op2 dEq (jL JO (jr (lkp 0) (jr (op2 qS (lkp 7) (cst (.int 3))) (jr (cst (.int 3)) jF)))) (cst (.int 0)))))
  (qC (ac0 (zk (op2 aoB (cst (.str "abc")) (jL JO (jr (lkp 0) (jr (op2 qS (lkp 7) (cst (.int 4))) (jr (cst (.int 3)) jF))))) (j9 12)))
  (qC (qB (BX.bindC (jP (lkp 4)) (zg "Hand" "setting" zW 1 (qj (some [])))) (apA 5 (jP (lkp 12))))
  (qC (ifC (orC (ZM (opC dNe (BX.bindC (jP (lkp 3)) (zg "Bench" "keep" ade 2 (zo (jP (lkp 12)) (qj (some []))))) (BX.bindC (jP (lkp 4)) (zg "Hand" "value" Jt 1 (qj (some []))))))
   (ZM (opC dNe (BX.bindC (jP (lkp 3)) (zg "Bench" "names" ZD 1 (qj (some [])))) (akB 5 (jL Qi (jr (lkp 5) jF)))))) (qC (ac0 (qq (cst (.bool false)))) Z2) Z2) Z2))) Z2) Z2)
section
variable {u e l b:Int}{r j:Nat}{ps:PL}{ks:Ks}{a p q h g k:Addr}{μ:jD}{R:OutC->jD->Prop}{D U past:LP}{x6 x8 x9 x10 x11 x12 x13 x14 x15:OP}{ns:List Int}{hr:Int}
theorem aiO(hN:okN u e l b=true)(W:Wd μ a p q h g k (jo u e l b) (jv ps) ks D U past)(ds:Ds a p q h g k)(hs:okS u l ps=true)(hl:ps.length=r)(K:K3 u l r j ks)(hj:j<40)(hD:D.length<999)(hn:ns.length<1000000)(h0:0<=hr)
  (kk:∀ks' D' U' μ' x12',K3 u l r (j+1) ks'->D'.length<=D.length+1->Wd μ' a p q h g k (jo u e l b) (jv ps) ks' D' U' past->R (.nx (Fr (scr ns) (jo u e l b) r a h k x6 (some (.int hr)) x8 x9 x10 x11 x12' x13 x14 x15)) μ'):
  l1R (Fr (scr ns) (jo u e l b) r a h k x6 (some (.int hr)) x8 x9 x10 x11 x12 x13 x14 x15) μ R:=by
 have gn:=abD hN hs;have a3:qS (.int hr) (.int 3)=some (.int (hr+3)):=rfl;have a4:qS (.int hr) (.int 4)=some (.int (hr+4)):=rfl;obtain⟨i3,g3,_,_⟩:=qr ns hn (hr+3) 3 (by omega) (by omega);obtain⟨i4,g4,b1,b2⟩:=qr ns hn (hr+4) 3 (by omega) (by omega);obtain⟨nm,en,hnm⟩:=aq6 b1 b2;refine QU (P:=fun μ'=>μ=μ') (fun RB k2=>aq4 W gn (ane (ajP ps) (by omega)) rfl rfl (k2 _ rfl)) fun μ' e=>?_;subst e;have tt:=aaa (qZ (Jp (qx (f:=lkp 0) (ρ:=Fr (scr ns) (jo u e l b) r a h k x6 (some (.int hr)) x8 x9 x10 x11 x12 x13 x14 x15) rfl (qx (f:=op2 qS (lkp 7) (cst (.int 3))) (qZ rfl rfl a3) (qx (f:=cst (.int 3)) rfl (show jF _=some [] from rfl)))) g3) (show cst (.int 0) _=some (.int 0) from rfl) (af1 i3 0));by_cases c:i3=0
 ·rw[decide_eq_true c]at tt
  refine⟨true,tt,?_⟩;refine⟨.nx (Fr (scr ns) (jo u e l b) r a h k x6 (some (.int hr)) x8 x9 x10 x11 (some (.str nm)) x13 x14 x15),Z1 (qZ rfl (Jp (qx rfl (qx (qZ rfl rfl a4) rfl)) g4) en),?_⟩;have K':=K.put hnm hs hl;obtain⟨ts,so,hts⟩:=K'.srt (by omega);have st:=af6 hts
  have lk:(kd ks).length<1000000:=by
   have:=K.len;simp only[kd,List.length_map];omega
  refine⟨_,rfl,⟨h,_,rfl,W.hd.ha,rfl⟩,_,rfl,rfl,abA W.hd ⟨k,rfl,_,rfl,_,nm,W.kn,rfl,lk,?_⟩⟩;rw[ani];show qC (ifC _ _ Z2) Z2 _ _ _;refine QU (P:=fun μ'=>Wd μ' a p q h g k (jo u e l b) (jv ps) (abC ks nm ps) (D++[stp "keep" (jv ps) (dk (kd ks))]) [] past) (fun RB k2=>aq5 W ds (by omega) lk (ahg hnm) gn rfl rfl rfl rfl (show 5<16 by omega) so st.2 (ane st (by omega)) k2) fun μ' W'=>?_;exact kk _ _ _ _ _ K' (by simp) W'
 ·rw[decide_eq_false c]at tt
  exact⟨false,tt,kk ks D U μ x12 K.up (Nat.le_succ _) W⟩
end
section
variable {u e l b:Int}{r j:Nat}{ps:PL}{ks:Ks}{a p q h g k:Addr}{μ:jD}{R:OutC->jD->Prop}{D U past:LP}{x7 x8 x9 x10 x11 x12 x13 x14 x15:OP}{ns:List Int}
theorem aaY{S:PyData}{ρ:Rho}{fk fm:RP}{i m v:PyData}(h0:lkp 0 ρ=some S)(h1:fk ρ=some i)(h2:fm ρ=some m)(g:JO [S,i,m]=some v):jL JO (jr (lkp 0) (jr fk (jr fm jF))) ρ=some v:=Jp (qx h0 (qx h1 (qx h2 (show jF ρ=some [] from rfl)))) g
theorem asf(v:Int):ajf [.int 40,.int v]=some (.int (if v<40 then v else 40)):=rfl
theorem asg(H:zG=true)(hN:okN u e l b=true)(W:Wd μ a p q h g k (jo u e l b) (jv ps) ks D U past)(ds:Ds a p q h g k)(hs:okS u l ps=true)(hl:ps.length=r)(h3:r<=3)(K:K3 u l r j ks)(hj:j<40)(hD:D.length<=2*j)(hP:past.length<=j)(hn:ns.length<1000000)
  (kk:∀ps' ks' D' U' past' μ' y7 y8 y9 y10 y11 y12,okS u l ps'=true->ps'.length=r->K3 u l r (j+1) ks'->D'.length<=2*(j+1)->past'.length<=j+1->Wd μ' a p q h g k (jo u e l b) (jv ps') ks' D' U' past'->R (.nx (Fr (scr ns) (jo u e l b) r a h k (some (.int (j:Int))) y7 y8 y9 y10 y11 y12 x13 x14 x15)) μ'):
  apC.1 (Fr (scr ns) (jo u e l b) r a h k (some (.int (j:Int))) x7 x8 x9 x10 x11 x12 x13 x14 x15) μ R:=by
 obtain⟨a1,a2,a3,a4,a5,a6,a7,a8,a9,a10⟩:=qo hN;obtain⟨h1,h4,hall⟩:=ZK hs;obtain⟨mvs,gA,lA,vA,nA⟩:=aev hN hs;have hh:(0:Int)<=10+10*(j:Int):=by omega
 obtain⟨i0,g0,b0,c0⟩:=qr ns hn (10+10*(j:Int)) (mvs.length:Int) hh (by omega);obtain⟨i1,g1,_,_⟩:=qr ns hn (10+10*(j:Int)+1) 3 (by omega) (by omega);obtain⟨m0,em,hm⟩:=am4 (ds:=mvs) b0 c0 (by omega);have lm:JE [.list mvs]=some (.int (mvs.length:Int)):=rfl;have ml:Qo (.int 10) (.int (j:Int))=some (.int (10*(j:Int))):=zd (by omega);have v0:=aqN (e:=e) hN hall;have gn:=abD hN hs;show qC (ac0 _) (qC _ (qC (ac0 _) (qC (ifC (jP _) _ _) l1R))) _ _ _;refine ajR (ρ1:=Fr (scr ns) (jo u e l b) r a h k (some (.int (j:Int))) (some (.int (10+10*(j:Int)))) x8 x9 x10 x11 x12 x13 x14 x15) (Z1 (qZ rfl (qZ rfl rfl ml) rfl)) ?_;refine⟨_,rfl,_,rfl,⟨h,_,rfl,W.hd.ha,rfl⟩,_,rfl,rfl,abA W.hd ⟨_,rfl,_,rfl,_,rfl,_,(if_pos rfl).trans gA,?_⟩⟩;refine ajR (ρ1:=Fr (scr ns) (jo u e l b) r a h k (some (.int (j:Int))) (some (.int (10+10*(j:Int)))) (some (.list mvs)) (some m0) x10 x11 x12 x13 x14 x15) (Z1 (qZ rfl (aaY rfl rfl (Jp (qx rfl rfl) lm) g0) em)) ?_
 have tt:tst (op2 (zJ fun i j=>decide (j<i)) (jL JO (jr (lkp 0) (jr (op2 qS (lkp 7) (cst (.int 1))) (jr (cst (.int 3)) jF)))) (cst (.int 0))) (Fr (scr ns) (jo u e l b) r a h k (some (.int (j:Int))) (some (.int (10+10*(j:Int)))) (some (.list mvs)) (some m0) x10 x11 x12 x13 x14 x15)=some (decide (0<i1)):=
  aaa (qZ (aaY rfl (qZ rfl rfl rfl) rfl g1) rfl rfl)
 by_cases c1:0<i1
 ·rw[decide_eq_true c1]at tt
  obtain⟨i,kb,c,pp,rfl,hp,hc,ho⟩:=vA m0 hm;obtain⟨gm,oks⟩:=aiN (e:=e) (b:=b) H hN hs hp hc ho;refine aqZ tt ?_;refine ahf (QU (P:=fun μ'=>Wd μ' a p q h g k (jo u e l b) (jv (ps.set i (shP pp kb c))) ks (D++[stp "push" (jv ps) (dk (kd ks))]) [] (past++[jv ps])) (fun RB k2=>aq2 W ds (by omega) (by omega) gm (abD hN oks) rfl rfl rfl k2) fun μ' W'=>?_);refine anf ?_;exact aiO hN W' ds oks (by rw[List.length_set];exact hl) K hj (by simp;omega) hn hh fun ks' D' U' μ2 y12 K' hD' W2=>kk _ _ _ _ _ _ _ _ _ _ _ _ oks (by rw[List.length_set];exact hl) K' (by simp at hD';omega) (by simp;omega) W2
 ·rw[decide_eq_false c1]at tt
  refine ase tt ?_;have mb:0<1+(if val b e ps<40 then val b e ps else 40)/\(if val b e ps<40 then val b e ps else 40)<=val b e ps/\(if val b e ps<40 then val b e ps else 40)<=40:=by split<;>omega
  obtain⟨n2,g2,b2,c2⟩:=qr ns hn (10+10*(j:Int)+2) (1+(if val b e ps<40 then val b e ps else 40)) (by omega) mb.1;have gp:=aiL H hN (r:=r) (n:=val b e ps-n2) (by omega) (by omega) (by omega);refine ahf ?_;refine⟨_,rfl,_,rfl,_,rfl,_,rfl,_,rfl,⟨h,_,rfl,W.hd.ha,rfl⟩,_,rfl,rfl,aaX W.hd gn ⟨_,rfl,_,rfl,_,rfl,_,asf _,_,rfl,_,rfl,_,rfl,_,rfl,_,rfl,_,(if_pos rfl).trans g2,?_⟩⟩;refine ahf ?_;refine⟨_,rfl,_,rfl,_,rfl,⟨h,_,rfl,W.hd.ha,rfl⟩,_,rfl,rfl,aaX W.hd gn ⟨_,rfl,_,rfl,_,rfl,_,rfl,_,rfl,_,rfl,_,(if_pos rfl).trans gp,?_⟩⟩;by_cases c2':val b e ps-n2<b ^ r
  ·have pl:lpl (jo u e l b) b r (val b e ps-n2)=jv (pln (jo u e l b) b r (val b e ps-n2)):=if_pos c2'
   obtain⟨qs,gl,oks,lqs⟩:=apa (e:=e) H hN hs (n:=n2) b2 (by omega) (by omega) (by rw[hl];exact c2');refine ahf (QU (P:=fun μ'=>Wd μ' a p q h g k (jo u e l b) (jv qs) ks (D++[stp "take" (jv ps) (dk (kd ks))]) [] (past++[jv ps])) (fun RB k2=>⟨true,aaa (qZ rfl rfl (by rw[pl];rfl)),aq3 W ds (by omega) (by omega) gl (abD hN oks) rfl rfl rfl k2⟩) fun μ' W'=>?_);refine anf ?_;exact aiO hN W' ds oks (by omega) K hj (by simp;omega) hn hh fun ks' D' U' μ2 y12 K' hD' W2=>kk _ _ _ _ _ _ _ _ _ _ _ _ oks (by omega) K' (by simp at hD';omega) (by simp;omega) W2
  ·have pl:lpl (jo u e l b) b r (val b e ps-n2)= .none:=if_neg c2'
   refine ahf (QU (P:=fun μ'=>μ=μ') (fun RB k2=>⟨false,aaa (qZ rfl rfl (by rw[pl];rfl)),_,rfl,k2 _ rfl⟩) fun μ' W'=>?_);subst W';refine anf ?_;exact aiO hN W ds hs hl K hj (by omega) hn hh fun ks' D' U' μ2 y12 K' hD' W2=>kk _ _ _ _ _ _ _ _ _ _ _ _ hs hl K' (by omega) (by omega) W2
end
section
variable {u e l b:Int}{r j:Nat}{ps qs:PL}{ks:Ks}{a p q h g k:Addr}{μ:jD}{R:OutC->jD->Prop}{RB:Res Bool->jD->Prop}{D U past:LP}{x6 x7 x8 x9 x10 x11 x12 x13 x14 x15:OP}{ns:List Int}{M s s' d:PyData}{ρ:Rho}{nm:Str}{n:Int}
structure Wk(μ:jD)(a p q k:Addr)(M s:PyData)(ks:Ks)(D U:LP):Prop where
 bn:Bn μ a p q M s (dk (kd ks)) D U
 kn:μ k=some (.dct (kd ks))
 ka:k≠a
 kp:k≠p
 kq:k≠q
theorem at5(lt:5 < ρ.length):lkp 5 (ρ.set 5 (some (dcD (kd ks))))=some (dcD (kd ks)):=by
 show((ρ.set 5 (some (dcD (kd ks))))[5]?).join=_;rw[List.getElem?_set_self lt];rfl
theorem ne5{i:Nat}{x:PyData}(hi:lkp i ρ=some x)(h5:5≠i):lkp i (ρ.set 5 (some (dcD (kd ks))))=some x:=by
 show((ρ.set 5 (some (dcD (kd ks))))[i]?).join=_;rw[List.getElem?_set_ne h5];exact hi
theorem apI(lt:5 < ρ.length)(l12:lkp 12 ρ=some (.str nm))(hv:zw (kd ks) (Sum.inr nm)=some s):op2 ZQ (lkp 5) (lkp 12) (ρ.set 5 (some (dcD (kd ks))))=some s:=qZ (at5 lt) (ne5 l12 (by omega)) hv
theorem ash(lt:5 < ρ.length)(l1:lkp 1 ρ=some M)(l12:lkp 12 ρ=some (.str nm))(hv:zw (kd ks) (Sum.inr nm)=some s)(gv:Ju [M,s]=some (.int n)):jL Ju (jr (lkp 1) (jr (op2 ZQ (lkp 5) (lkp 12)) jF)) (ρ.set 5 (some (dcD (kd ks))))=some (.int n):=
 Jp (qx (ne5 l1 (by omega)) (qx (apI lt l12 hv) (show jF _=some [] from rfl))) gv
theorem Wk.step{K':PyData}{D' U':LP}{μ':jD}(W:Wk μ a p q k M s ks D U)(b':Bn μ' a p q M s' (dk (kd ks)) D' U')(e:aiM μ μ' a p q):Wk μ' a p q k M s' ks D' U':=⟨b',(e k W.ka W.kp W.kq).trans W.kn,W.ka,W.kp,W.kq⟩
theorem anl(W:Wk μ a p q k M s ks D U)(hD:D.length<1000000)(f:Qd [.str nm]=some (.bool true))(hv:zw (kd ks) (Sum.inr nm)=some s')(gn:zS [M,s']=some (.int n))(gv:Ju [M,s']=some (.int n))(lt:5 < ρ.length)(l1:lkp 1 ρ=some M)(l3:lkp 3 ρ=some (jV a))(l5:lkp 5 ρ=some (jV k))(l12:lkp 12 ρ=some (.str nm))
  (kk:∀μ',Wk μ' a p q k M s' ks (D++[stp "recall" s (dk (kd ks))]) []->RB (.ok false) μ'):
  ZM (opC dNe (BX.bindC (jP (lkp 3)) (zg "Bench" "recall" aaJ 2 (zo (jP (lkp 12)) (qj (some []))))) (akB 5 (jL Ju (jr (lkp 1) (jr (op2 ZQ (lkp 5) (lkp 12)) jF))))) ρ μ RB:=by
 have nn:dNe (.int n) (.int n)=some (.bool false):=by rw[aby];simp
 refine⟨_,l3,⟨a,_,rfl,W.bn.ha,rfl⟩,_,l12,_,rfl,_,rfl,rfl,m_recall W.bn hD f hv gn fun μ1 b1 e1=>?_⟩;have W1:=W.step (K':= .none) b1 e1;exact⟨k,_,_,l5,W1.kn,ash lt l1 l12 hv gv,rfl,_,nn,_,rfl,kk μ1 W1⟩
theorem apJ(W:Wk μ a p q k M s ks D U)(hv:zw (kd ks) (Sum.inr nm)=some s)(nd:noD s=true)(ne:dNe s s=some (.bool false))(lt:5 < ρ.length)(l3:lkp 3 ρ=some (jV a))(l5:lkp 5 ρ=some (jV k))(l12:lkp 12 ρ=some (.str nm))(kk:RB (.ok false) μ):
  ZM (opC dNe (BX.bindC (jP (lkp 3)) (zg "Bench" "setting" zV 1 (qj (some [])))) (akB 5 (op2 ZQ (lkp 5) (lkp 12)))) ρ μ RB:=
 ⟨_,l3,⟨a,_,rfl,W.bn.ha,rfl⟩,_,rfl,rfl,m_setting W.bn ⟨k,_,_,l5,W.kn,apI lt l12 hv,nd,_,ne,_,rfl,kk⟩⟩
theorem apb{ft:RP}(W:Wk μ a p q k M s ks D U)(hD:D.length<1000000)(hf:ft ρ=some d)(f:Qk [M,s,d]=some s')(hv:zw (kd ks) (Sum.inr nm)=some s')(gn:zS [M,s']=some (.int n))(gv:Ju [M,s']=some (.int n))(lt:5 < ρ.length)(l1:lkp 1 ρ=some M)(l3:lkp 3 ρ=some (jV a))(l5:lkp 5 ρ=some (jV k))(l12:lkp 12 ρ=some (.str nm))
  (kk:∀μ',Wk μ' a p q k M s' ks (D++[stp "push" s (dk (kd ks))]) []->RB (.ok false) μ'):
  ZM (opC dNe (BX.bindC (jP (lkp 3)) (zg "Bench" "push" abr 2 (zo (jP ft) (qj (some []))))) (akB 5 (jL Ju (jr (lkp 1) (jr (op2 ZQ (lkp 5) (lkp 12)) jF))))) ρ μ RB:=by
 have nn:dNe (.int n) (.int n)=some (.bool false):=by rw[aby];simp
 refine⟨_,l3,⟨a,_,rfl,W.bn.ha,rfl⟩,_,hf,_,rfl,_,rfl,rfl,m_push W.bn hD f gn fun μ1 b1 e1=>?_⟩;have W1:=W.step (K':= .none) b1 e1;exact⟨k,_,_,l5,W1.kn,ash lt l1 l12 hv gv,rfl,_,nn,_,rfl,kk μ1 W1⟩
theorem ajT(pp:Int×Int)(kb:Bool)(c:Int):shP (shP pp kb c) kb (0-c)=pp:=by
 obtain⟨x,y⟩:=pp;cases kb<;>simp[shP]<;>omega
theorem aq8{T:TR PyData}{S':TRS}{P:jD->Prop}(h:∀R1:Res PyData->jD->Prop,(∀d μ',P μ'->R1 (.ok d) μ')->T ρ μ R1)(k:∀μ',P μ'->S' ρ μ' R):qC (qB T amg) S' ρ μ R:=h _ fun d μ' p=>k μ' p
theorem asi(H:zG=true)(hN:okN u e l b=true)(W:Wk μ a p q k (jo u e l b) s ks D U)(hD:D.length<900)(hq:okS u l qs=true)(hv:zw (kd ks) (Sum.inr nm)=some (jv qs))(hnm:nm="a" ∨ nm="b" ∨ nm="c")
  (kk:∀s' D' U' μ' y13 y14 y15,D'.length<=D.length+3->Wk μ' a p q k (jo u e l b) s' ks D' U'->R (.nx (Fr (scr ns) (jo u e l b) r a h k x6 x7 x8 x9 x10 x11 (some (.str nm)) y13 y14 y15)) μ'):
  amN.1 (Fr (scr ns) (jo u e l b) r a h k x6 x7 x8 x9 x10 x11 (some (.str nm)) x13 x14 x15) μ R:=by
 have gn:=abD hN hq;have gv:=aiI (e:=e) hN qs;have lt:5<16:=by omega
 have nS:=ane (ajP qs) (by omega);obtain⟨mvs,gA,lA,vA,nA⟩:=aev hN hq;obtain⟨m0,em,hm⟩:=am4 (ds:=mvs) (k:=0) (by omega) (by omega) (by omega);obtain⟨i,kb,c,pp,rfl,hp,hc,ho⟩:=vA m0 hm;obtain⟨gm,oks⟩:=aiN (e:=e) (b:=b) H hN hq hp hc ho;have hi:=(List.getElem?_eq_some_iff.mp hp).1;have hp':(qs.set i (shP pp kb c))[i]?=some (shP pp kb c):=by rw[List.getElem?_set_self hi]
 have okp:okP u l pp=true:=by
  obtain⟨_,_,hall⟩:=QA hq;exact List.all_eq_true.mp hall pp (List.mem_of_getElem? hp)
 obtain⟨gm2,_⟩:=aiN (e:=e) (b:=b) H hN oks hp' (k:=kb) (c:=0-c) (by omega) (by rw[ajT];exact okp);rw[ajT,List.set_set]at gm2
 have same:qs.set i pp=qs:=by
  apply List.ext_getElem?;intro j;by_cases hj:i=j
  ·subst hj;rw[List.getElem?_set_self hi,hp]
  ·rw[List.getElem?_set_ne hj]
 rw[same]at gm2;simp only[amN];refine QU (P:=fun μ'=>Wk μ' a p q k (jo u e l b) (jv qs) ks (D++[stp "recall" s (dk (kd ks))]) []) (fun RB k2=>anl W (by omega) (ahg hnm) hv gn gv lt rfl rfl rfl rfl k2) fun μ1 W1=>?_;refine QU (P:=fun μ'=>μ1=μ') (fun RB k2=>apJ W1 hv (aaW qs) nS lt rfl rfl rfl (k2 _ rfl)) fun μ1' e1=>?_;subst e1;refine⟨_,rfl,_,rfl,⟨a,_,rfl,W1.bn.ha,rfl⟩,_,rfl,rfl,m_setting W1.bn ⟨_,rfl,_,rfl,_,rfl,_,(if_pos rfl).trans gA,_,rfl,_,em,_,rfl,?_⟩⟩;show qC (qB _ amg) (qC (ifC _ _ Z2) (qC (ifC _ _ Z2) Z2)) _ _ _;refine aq8 (P:=fun μ'=>Wk μ' a p q k (jo u e l b) (jv (qs.set i (shP pp kb c))) ks (D++[stp "recall" s (dk (kd ks))]++[stp "push" (jv qs) (dk (kd ks))]) []) (fun R1 k2=>⟨_,rfl,⟨a,_,rfl,W1.bn.ha,rfl⟩,_,rfl,_,rfl,_,rfl,rfl,m_push W1.bn (by simp;omega) gm (abD hN oks) fun μ2 b2 e2=>k2 _ _ (W1.step (K':= .none) b2 e2)⟩) fun μ2 W2=>?_;refine QU (P:=fun μ'=>Wk μ' a p q k (jo u e l b) (jv qs) ks (D++[stp "recall" s (dk (kd ks))]++[stp "push" (jv qs) (dk (kd ks))]++[stp "push" (jv (qs.set i (shP pp kb c))) (dk (kd ks))]) []) (fun RB k2=>apb W2 (by simp;omega) rfl gm2 hv gn gv lt rfl rfl rfl rfl k2) fun μ3 W3=>?_;refine QU (P:=fun μ'=>μ3=μ') (fun RB k2=>apJ W3 hv (aaW qs) nS lt rfl rfl rfl (k2 _ rfl)) fun μ3' e3=>?_;subst e3;exact kk _ _ _ _ _ _ _ (by simp) W3
end
section
variable {u e l b:Int}{r j n:Nat}{ps qs:PL}{ks:Ks}
noncomputable def nms(ks:Ks):List Str:=JW (rkT (ks.map (·.1))) (ks.map (·.1))
theorem K3.srtN(k:K3 u l r n ks)(hn:n<64):Qi [dk (kd ks)]=some (.list ((nms ks).map .str)):=by
 show(JJ ((kd ks).map (·.1))).bind _=_;rw[af5,zzD,if_pos (by rw[List.length_map];have:=k.len;omega)];rfl
theorem apc{t:Str}(h:t∈nms ks):∃x∈ks,x.1=t:=by
 have:=(zt (rkT (ks.map (·.1))) (ks.map (·.1))).mem_iff.mp h;exact List.mem_map.mp this
theorem apd:(nms ks).length=ks.length:=by
 unfold nms;rw[(zt _ _).length_eq,List.length_map]
theorem K3.at(k:K3 u l r n ks){t:Str}(h:t∈nms ks):∃qs:PL,zw (kd ks) (Sum.inr t)=some (jv qs)/\okS u l qs=true/\(t="a" ∨ t="b" ∨ t="c"):=by
 obtain⟨x,hx,rfl⟩:=apc h
 have:(adB ks x.1).isSome=true:=by
  unfold adB;rw[List.find?_isSome];exact⟨x,hx,by simp⟩
 obtain⟨y,hy⟩:=Option.isSome_iff_exists.mp this;obtain⟨my,_⟩:=anj hy;exact⟨y.2,by rw[anh,hy];rfl,(k.ok y my).1,k.abc x hx⟩
theorem anm(H:zG=true)(h:okN u e l b=true){ns:List Int}(hn:ns.length<1000000){r:Nat}(h1:1<=r)(h3:r<=3)(mn:ZB [scr ns,.int 0]=some (jo u e l b))(d5:JO [scr ns,.int 5,.int 3]=some (.int ((r:Int)-1)))
  {R:Res PyData->jD->Prop} (hR:∀μ,R (.ok (.bool true)) μ):amO [scr ns] (fun _=>none) R:=by
 obtain⟨a1,a2,a3,a4,a5,a6,a7,a8,a9,a10⟩:=qo h;have s0:=ang H h h1 (by omega:r<=4);have okp:=amT H h h1 (by omega:r<=4) (Int.le_refl _) (Int.pow_pos (show(0:Int)<b by omega));have lenp:=af0 (jo u e l b) b r 0;generalize pln (jo u e l b) b r 0=ps at*;have ad:qS (.int 1) (.int ((r:Int)-1))=some (.int (r:Int)):=by rw[add_int];congr 2;omega
 obtain⟨i6,g6,b6,c6⟩:=qr ns hn 6 8 (by omega) (by omega);obtain⟨N,hNn⟩:∃N:Nat,(N:Int)=3+i6:=⟨(3+i6).toNat,by omega⟩;have rg:ZV [.int (3+i6)]=some (zl 0 N):=by rw[←hNn];exact amY (by omega)
 show aoQ.1 [some (scr ns),none,none,none,none,none,none,none,none,none,none,none,none,none,none,none] _ (akw R);simp only[aoQ];refine ajR (ρ1:=[some (scr ns),some (jo u e l b),none,none,none,none,none,none,none,none,none,none,none,none,none,none]) (Z1 (Jp rfl mn)) ?_;refine ajR (ρ1:=[some (scr ns),some (jo u e l b),some (.int (r:Int)),none,none,none,none,none,none,none,none,none,none,none,none,none]) (Z1 (qZ rfl (aaY rfl rfl rfl d5) ad)) ?_;refine⟨_,rfl,_,rfl,_,rfl,_,rfl,_,rfl,anc s0 fun a p q μ1 bn na np nq _=>?_⟩;refine⟨_,rfl,_,rfl,_,rfl,_,rfl,_,rfl,ao9 s0 fun hh g μ2 hd nh ng ex=>fun k nk=>?_⟩;have bn2:Bn μ2 a p q (jo u e l b) (jv ps) (dk []) [] []:=⟨bn.ap,bn.aq,bn.pq,ex _ _ bn.ha,ex _ _ bn.hp,ex _ _ bn.hq⟩;have ne:∀{μ:jD} {x y:Addr} {c:Cell},μ x=none->μ y=some c->x≠y:=fun h1 h2 z=>by rw[z,h2]at h1;cases h1
 have ds:Ds a p q hh g k:=⟨ne nh bn.ha,ne nh bn.hp,ne nh bn.hq,ne ng bn.ha,ne ng bn.hp,ne ng bn.hq,ne nk bn2.ha,ne nk bn2.hp,ne nk bn2.hq,ne nk hd.ha,ne nk hd.hp⟩
 have W:Wd (zQ μ2 k (.dct [])) a p q hh g k (jo u e l b) (jv ps) [] [] [] []:=
  ⟨⟨bn2.ap,bn2.aq,bn2.pq,(jA (Ne.symm ds.ka)).trans bn2.ha,(jA (Ne.symm ds.kp)).trans bn2.hp,(jA (Ne.symm ds.kq)).trans bn2.hq⟩,⟨hd.ne,(jA (Ne.symm ds.kh)).trans hd.ha,(jA (Ne.symm ds.kg)).trans hd.hp⟩,jB⟩
 refine⟨zl 0 N,?_,?_⟩
 ·show(jr _ jF _).bind ZV=_
  rw[qx (qZ rfl (aaY rfl rfl rfl g6) rfl) rfl,zzD,rg]
 refine abB (fun j ρ μ=>∃ps ks D U past x6 x7 x8 x9 x10 x11 x12,ρ=Fr (scr ns) (jo u e l b) r a hh k x6 x7 x8 x9 x10 x11 x12 none none none/\okS u l ps=true/\ps.length=r/\K3 u l r j ks/\D.length<=2*j/\past.length<=j/\Wd μ a p q hh g k (jo u e l b) (jv ps) ks D U past) (zl 0 N) 0 _ _ ⟨ps,[],[],[],[],none,none,none,none,none,none,none,rfl,okp,lenp,⟨Nat.le_refl _,(fun _ z=>nomatch z),(fun _ z=>nomatch z),List.nodup_nil⟩,Nat.le_refl _,Nat.le_refl _,W⟩ (fun j d ρ μ R' hd' hi kk=>?_) fun ρ μ hi=>?_
 ·obtain⟨hj,rfl⟩:=adw hd'
  obtain⟨ps,ks,D,U,past,x6,x7,x8,x9,x10,x11,x12,rfl,o1,o2,o3,o4,o5,o6⟩:=hi;rw[Nat.zero_add]at o3 o4 o5;refine⟨_,rfl,asg H h o6 ds o1 o2 h3 o3 (by omega) o4 o5 hn fun ps' ks' D' U' past' μ' y7 y8 y9 y10 y11 y12 p1 p2 p3 p4 p5 p6=>kk _ _ ⟨ps',ks',D',U',past',_,y7,y8,y9,y10,y11,y12,rfl,p1,p2,by rw[Nat.zero_add];exact p3,by rw[Nat.zero_add];exact p4,by rw[Nat.zero_add];exact p5,p6⟩⟩
 obtain⟨ps,ks,D,U,past,x6,x7,x8,x9,x10,x11,x12,rfl,o1,o2,o3,o4,o5,o6⟩:=hi;rw[aaU,Nat.zero_add]at o3 o4;have so:=o3.srtN (by omega);have st:=af6 (ts:=nms ks) fun t ht=>by obtain⟨_,_,_,z⟩:=o3.at ht;exact z
 have st2:=af6 (ts:=(nms ks).reverse++nms ks) fun t ht=>by obtain⟨_,_,_,z⟩:=o3.at (t:=t) (by simpa using ht);exact z
 have lk:=o3.len;have ln:=apd (ks:=ks);have Wk0:Wk μ a p q k (jo u e l b) (jv ps) ks D U:=⟨o6.bn,o6.kn,ds.ka,ds.kp,ds.kq⟩;have sv:∀{x13 x14 x15 y12:OP},jL Qi (jr (lkp 5) jF) ((Fr (scr ns) (jo u e l b) r a hh k x6 x7 x8 x9 x10 x11 y12 x13 x14 x15).set 5 (some (dcD (kd ks))))=some (.list ((nms ks).map .str)):=fun {_ _ _ _}=>Jp (ds:=[dk (kd ks)]) rfl so
 have adl:qS (.list ((nms ks).map PyData.str).reverse) (.list ((nms ks).map .str))=some (.list (((nms ks).reverse++nms ks).map .str)):=by
  rw[add_list (by simp;omega),List.map_append,List.map_reverse]
 refine⟨k,_,.list (((nms ks).reverse++nms ks).map .str),rfl,o6.kn,qZ (show(jL Qi (jr (lkp 5) jF) _).bind aos=some (.list ((nms ks).map PyData.str).reverse) by rw[sv];rfl) sv adl,st2.2,_,rfl,?_⟩;refine abB (fun i ρ μ=>∃s D U x12 x13 x14 x15,ρ=Fr (scr ns) (jo u e l b) r a hh k x6 x7 x8 x9 x10 x11 x12 x13 x14 x15/\D.length<=2*N+3*i/\Wk μ a p q k (jo u e l b) s ks D U) _ 0 _ _ ⟨_,D,U,x12,none,none,none,rfl,by omega,Wk0⟩ (fun i d ρ μ R' hd' hi kk=>?_) fun ρ μ hi=>?_
 ·obtain⟨s,D,U,x12,x13,x14,x15,rfl,q1,q2⟩:=hi
  have hil:=(List.getElem?_eq_some_iff.mp hd').1;rw[List.length_map,List.length_append,List.length_reverse]at hil;have md:=List.mem_of_getElem? hd';obtain⟨t,ht,rfl⟩:=List.mem_map.mp md;obtain⟨qs,v1,v2,v3⟩:=o3.at (t:=t) (by simpa using ht);refine⟨_,rfl,asi H h q2 (by omega) v2 v1 v3 fun s' D' U' μ' y13 y14 y15 z1 z2=>kk _ _ ⟨s',D',U',_,y13,y14,y15,rfl,by omega,z2⟩⟩
 obtain⟨s,D,U,x12,x13,x14,x15,rfl,q1,q2⟩:=hi;refine⟨_,rfl,⟨a,_,rfl,q2.bn.ha,rfl⟩,_,rfl,rfl,m_names q2.bn so ⟨k,_,_,rfl,q2.kn,sv,st.2,_,asd st (by omega) rfl,?_⟩⟩;exact hR _
theorem akV(H:zG=true)(ns:List Int)(hn:ns.length<1000000):amO [scr ns] (fun _=>none) (fun o _=>o= .ok (.bool true)):=by
 obtain⟨u,e,l,b,mn,hm⟩:=aiF ns hn 0 (Int.le_refl _);have h:=aoS hm;obtain⟨k5,d5,p5,q5⟩:=qr ns hn 5 3 (by omega) (by omega);exact anm (r:=(k5+1).toNat) H h hn (by omega) (by omega) mn (by rw[show(((k5+1).toNat:Nat):Int)-1=k5 by omega];exact d5) fun _=>rfl
end
end Rods
end
section
namespace BX
open PySem L2
open PyProof.Rows hiding St
theorem j4.thr{P:Program}{w:World}{K:Fg}{mg:SV}{base h:Heap}{x:Str}{st:Stmt}{ps:List Str}{k n:Nat}{g:LP->Option Str}(T:j4 K x st)(X:K.In h)(G:h.Ns mainGlobals mg)
  (pa:ju x st ps) (ok:∀f fd,Fun K x x st f fd->FnOk P w K mg base (CXt P w) k f fd ps (akq K mg n g)):zn P w K mg base x ps k n g:=by
 obtain⟨f,oc,od,an,kV,doc,pm,Kc,ct,osl,a,l,c,kp⟩:=T;have F1:=acE (st:=st) l c kp;exact⟨f,_,ok f _ F1,PySem.W.mg_of X G a,kp,F1.binds pa⟩
end BX
namespace Rods
open PySem L2 BX
open PyProof.Rows hiding St
structure Tops(K:Fg):Prop where
 isWhole:j4 K "is_whole" aat
 rodWorth:j4 K "rod_worth" Zs
 beads:j4 K "beads" afe
 allRods:j4 K "all_rods" aau
 hasAll:j4 K "has_all_digits" Zt
 isManner:j4 K "is_manner" Zu
 check:j4 K "check_manner" ac5
 rodsWith:j4 K "rods_with" Qw
 fewest:j4 K "fewest_beads" ab4
 chkRods:j4 K "check_rods" JN
 chkNum:j4 K "check_number" zF
 asked:j4 K "check_asked" Jh
 num:j4 K "number_on" JA
 digits:j4 K "digits_by_rods" Zx
 plainR:j4 K "plain_rods" Zw
 plainS:j4 K "plain_setting" aaz
 isRod:j4 K "is_rod" afj
 isSet:j4 K "is_setting" zT
 chkSet:j4 K "check_setting" zp
 cell:j4 K "_law_cell" ajz
 drawn:j4 K "_law_drawn" afn
 manner:j4 K "_law_manner" ab8
 enough:j4 K "check_enough" aaA
 less:j4 K "less" ag1
 NamesBeads:j4 K "names_beads" J5
 Pushed:j4 K "pushed" acd
 CanMove:j4 K "can_move" aaC
 BehindMove:j4 K "behind_move" Qa
 Moved:j4 K "moved" ada
 IsName:j4 K "is_name" aaG
 LValue:j4 K "_law_value" ZF
 LRods:j4 K "_law_rods" Z8
 LFewest:j4 K "_law_fewest" Zh
 LPlain:j4 K "_law_plain" ZG
 LBehind:j4 K "_law_behind" aaP
 LAllMoves:j4 K "_law_all_moves" qy
 law:j4 K "law" afU
 MInit:zy K "Bench" "__init__" "Bench.__init__" afy
 MSetting:zy K "Bench" "setting" "Bench.setting" ZC
 MValue:zy K "Bench" "value" "Bench.value" ack
 MGoOn:zy K "Bench" "go_on" "Bench.go_on" afC
 MTake:zy K "Bench" "take" "Bench.take" afD
 MPush:zy K "Bench" "push" "Bench.push" afE
 MKeep:zy K "Bench" "keep" "Bench.keep" afF
 MRecall:zy K "Bench" "recall" "Bench.recall" aaH
 MNames:zy K "Bench" "names" "Bench.names" acl
 HInit:zy K "Hand" "__init__" "Hand.__init__" afJ
 HSetting:zy K "Hand" "setting" "Hand.setting" ZE
 HValue:zy K "Hand" "value" "Hand.value" acm
 HGoOn:zy K "Hand" "go_on" "Hand.go_on" afN
 HTake:zy K "Hand" "take" "Hand.take" afO
 HPush:zy K "Hand" "push" "Hand.push" afP
 cls:ah6 K "Bench"
 clsh:ah6 K "Hand"
 fd_done:ac2 K "Bench" "done"
 fd_kept:ac2 K "Bench" "kept"
 fd_manner:ac2 K "Bench" "manner"
 fd_now:ac2 K "Bench" "now"
 fd_undone:ac2 K "Bench" "undone"
 fdh_manner:ac2 K "Hand" "manner"
 fdh_now:ac2 K "Hand" "now"
 fdh_past:ac2 K "Hand" "past"
structure Consts(K:Fg)(mg:SV):Prop where
 b:Bare mg
 least:GC K mg "LEAST_PARTS" (.tuple [.int 0,.int 1,.int 0,.int 2])
 most:GC K mg "MOST_PARTS" (.tuple [.int 3,.int 16,.int 12,.int 16])
 mostRods:GC K mg "MOST_RODS" (.int 4)
 mostNumber:GC K mg "MOST_NUMBER" (.int 99999)
 decks:GC K mg "DECKS" (.tuple [.str "upper",.str "lower"])
 mostLetters:GC K mg "MOST_LETTERS" (.int 6)
 errT:ErrT K mg "BeadError" amv
theorem aiP:ju "is_whole" aat ["thing","least","most"]:=fun _ _ _ _ _ _ us hl=>by obtain⟨v0,v1,v2,rfl⟩:=aa4 us hl;rfl
theorem ahh:ju "rod_worth" Zs ["manner","rod"]:=fun _ _ _ _ _ _ us hl=>by obtain⟨v0,v1,rfl⟩:=ZU us hl;rfl
theorem ann:ju "beads" afe ["rod"]:=fun _ _ _ _ _ _ us hl=>by obtain⟨v0,rfl⟩:=adD us hl;rfl
theorem aiQ:ju "all_rods" aau ["manner"]:=fun _ _ _ _ _ _ us hl=>by obtain⟨v0,rfl⟩:=adD us hl;rfl
theorem akW:ju "has_all_digits" Zt ["manner"]:=fun _ _ _ _ _ _ us hl=>by obtain⟨v0,rfl⟩:=adD us hl;rfl
theorem ahi:ju "is_manner" Zu ["thing"]:=fun _ _ _ _ _ _ us hl=>by obtain⟨v0,rfl⟩:=adD us hl;rfl
theorem ahj:ju "check_manner" ac5 ["thing"]:=fun _ _ _ _ _ _ us hl=>by obtain⟨v0,rfl⟩:=adD us hl;rfl
theorem ahk:ju "rods_with" Qw ["manner","worth"]:=fun _ _ _ _ _ _ us hl=>by obtain⟨v0,v1,rfl⟩:=ZU us hl;rfl
theorem akX:ju "fewest_beads" ab4 ["manner","worth"]:=fun _ _ _ _ _ _ us hl=>by obtain⟨v0,v1,rfl⟩:=ZU us hl;rfl
theorem adC:ju "check_rods" JN ["rods"]:=fun _ _ _ _ _ _ us hl=>by obtain⟨v0,rfl⟩:=adD us hl;rfl
theorem aew:ju "check_number" zF ["number"]:=fun _ _ _ _ _ _ us hl=>by obtain⟨v0,rfl⟩:=adD us hl;rfl
theorem ahl:ju "check_asked" Jh ["manner","rods","number"]:=fun _ _ _ _ _ _ us hl=>by obtain⟨v0,v1,v2,rfl⟩:=aa4 us hl;rfl
theorem aq9:ju "number_on" JA ["manner","setting"]:=fun _ _ _ _ _ _ us hl=>by obtain⟨v0,v1,rfl⟩:=ZU us hl;rfl
theorem akY:ju "digits_by_rods" Zx ["base","rods","number"]:=fun _ _ _ _ _ _ us hl=>by obtain⟨v0,v1,v2,rfl⟩:=aa4 us hl;rfl
theorem aex:ju "plain_rods" Zw ["manner","rods","number"]:=fun _ _ _ _ _ _ us hl=>by obtain⟨v0,v1,v2,rfl⟩:=aa4 us hl;rfl
theorem aey:ju "plain_setting" aaz ["manner","rods","number"]:=fun _ _ _ _ _ _ us hl=>by obtain⟨v0,v1,v2,rfl⟩:=aa4 us hl;rfl
theorem ano:ju "is_rod" afj ["manner","thing"]:=fun _ _ _ _ _ _ us hl=>by obtain⟨v0,v1,rfl⟩:=ZU us hl;rfl
theorem ahm:ju "is_setting" zT ["manner","thing"]:=fun _ _ _ _ _ _ us hl=>by obtain⟨v0,v1,rfl⟩:=ZU us hl;rfl
theorem aez:ju "check_setting" zp ["manner","thing"]:=fun _ _ _ _ _ _ us hl=>by obtain⟨v0,v1,rfl⟩:=ZU us hl;rfl
theorem ape:ju "_law_cell" ajz ["_law_script","_law_k"]:=fun _ _ _ _ _ _ us hl=>by obtain⟨v0,v1,rfl⟩:=ZU us hl;rfl
theorem anp:ju "_law_drawn" afn ["_law_script","_law_k","_law_many"]:=fun _ _ _ _ _ _ us hl=>by obtain⟨v0,v1,v2,rfl⟩:=aa4 us hl;rfl
theorem akZ:ju "_law_manner" ab8 ["_law_script","_law_at"]:=fun _ _ _ _ _ _ us hl=>by obtain⟨v0,v1,rfl⟩:=ZU us hl;rfl
theorem aeA:ju "check_enough" aaA ["manner","setting","number"]:=fun _ _ _ _ _ _ us hl=>by obtain⟨v0,v1,v2,rfl⟩:=aa4 us hl;rfl
theorem ajU:ju "less" ag1 ["manner","setting","number"]:=fun _ _ _ _ _ _ us hl=>by obtain⟨v0,v1,v2,rfl⟩:=aa4 us hl;rfl
theorem adO:ju "names_beads" J5 ["setting","thing"]:=fun _ _ _ _ _ _ us hl=>by obtain⟨v0,v1,rfl⟩:=ZU us hl;rfl
theorem ak0:ju "pushed" acd ["rod","deck","by"]:=fun _ _ _ _ _ _ us hl=>by obtain⟨v0,v1,v2,rfl⟩:=aa4 us hl;rfl
theorem aiR:ju "can_move" aaC ["manner","setting","thing"]:=fun _ _ _ _ _ _ us hl=>by obtain⟨v0,v1,v2,rfl⟩:=aa4 us hl;rfl
theorem adP:ju "behind_move" Qa ["setting","move"]:=fun _ _ _ _ _ _ us hl=>by obtain⟨v0,v1,rfl⟩:=ZU us hl;rfl
theorem ahn:ju "moved" ada ["manner","setting","move"]:=fun _ _ _ _ _ _ us hl=>by obtain⟨v0,v1,v2,rfl⟩:=aa4 us hl;rfl
theorem ak1:ju "is_name" aaG ["thing"]:=fun _ _ _ _ _ _ us hl=>by obtain⟨v0,rfl⟩:=adD us hl;rfl
theorem ak2:ju "_law_value" ZF ["_law_manner_here","_law_setting"]:=fun _ _ _ _ _ _ us hl=>by obtain⟨v0,v1,rfl⟩:=ZU us hl;rfl
theorem anq:ju "_law_rods" Z8 ["_law_manner_here"]:=fun _ _ _ _ _ _ us hl=>by obtain⟨v0,rfl⟩:=adD us hl;rfl
theorem aiS:ju "_law_fewest" Zh ["_law_manner_here","_law_digit"]:=fun _ _ _ _ _ _ us hl=>by obtain⟨v0,v1,rfl⟩:=ZU us hl;rfl
theorem ak3:ju "_law_plain" ZG ["_law_manner_here","_law_rods_here","_law_number"]:=fun _ _ _ _ _ _ us hl=>by obtain⟨v0,v1,v2,rfl⟩:=aa4 us hl;rfl
theorem aiT:ju "_law_behind" aaP ["_law_manner_here","_law_setting","_law_move"]:=fun _ _ _ _ _ _ us hl=>by obtain⟨v0,v1,v2,rfl⟩:=aa4 us hl;rfl
theorem af7:ju "_law_all_moves" qy ["_law_manner_here","_law_setting"]:=fun _ _ _ _ _ _ us hl=>by obtain⟨v0,v1,rfl⟩:=ZU us hl;rfl
theorem anr:jU "__init__" "Bench.__init__" afy ["self","manner","rods"]:=fun _ _ _ _ _ _ us hl=>match us,hl with | [_,_,_],_=>rfl
theorem aho:jU "setting" "Bench.setting" ZC ["self"]:=fun _ _ _ _ _ _ us hl=>match us,hl with | [_],_=>rfl
theorem ak4:jU "value" "Bench.value" ack ["self"]:=fun _ _ _ _ _ _ us hl=>match us,hl with | [_],_=>rfl
theorem ans:jU "go_on" "Bench.go_on" afC ["self","word","fresh","kept"]:=fun _ _ _ _ _ _ us hl=>match us,hl with | [_,_,_,_],_=>rfl
theorem ant:jU "take" "Bench.take" afD ["self","number"]:=fun _ _ _ _ _ _ us hl=>match us,hl with | [_,_],_=>rfl
theorem anu:jU "push" "Bench.push" afE ["self","move"]:=fun _ _ _ _ _ _ us hl=>match us,hl with | [_,_],_=>rfl
theorem anv:jU "keep" "Bench.keep" afF ["self","name"]:=fun _ _ _ _ _ _ us hl=>match us,hl with | [_,_],_=>rfl
theorem aiU:jU "recall" "Bench.recall" aaH ["self","name"]:=fun _ _ _ _ _ _ us hl=>match us,hl with | [_,_],_=>rfl
theorem ak5:jU "names" "Bench.names" acl ["self"]:=fun _ _ _ _ _ _ us hl=>match us,hl with | [_],_=>rfl
theorem anw:jU "__init__" "Hand.__init__" afJ ["self","manner","rods"]:=fun _ _ _ _ _ _ us hl=>match us,hl with | [_,_,_],_=>rfl
theorem ahp:jU "setting" "Hand.setting" ZE ["self"]:=fun _ _ _ _ _ _ us hl=>match us,hl with | [_],_=>rfl
theorem ak6:jU "value" "Hand.value" acm ["self"]:=fun _ _ _ _ _ _ us hl=>match us,hl with | [_],_=>rfl
theorem anx:jU "go_on" "Hand.go_on" afN ["self","fresh"]:=fun _ _ _ _ _ _ us hl=>match us,hl with | [_,_],_=>rfl
theorem anz:jU "take" "Hand.take" afO ["self","number"]:=fun _ _ _ _ _ _ us hl=>match us,hl with | [_,_],_=>rfl
theorem anA:jU "push" "Hand.push" afP ["self","move"]:=fun _ _ _ _ _ _ us hl=>match us,hl with | [_,_],_=>rfl
theorem as5(HT:zG=true){P:Program}{w:World}{K:Fg}{h:Heap}{mg:SV}{base:Heap}(X:K.In h)(G:h.Ns mainGlobals mg)(T:Tops K)(C:Consts K mg):CLaw P w K mg base:=by
 have f_done:qg K "Bench" "done":=T.fd_done.cls T.cls;have f_kept:qg K "Bench" "kept":=T.fd_kept.cls T.cls;have f_manner:qg K "Bench" "manner":=T.fd_manner.cls T.cls;have f_now:qg K "Bench" "now":=T.fd_now.cls T.cls;have f_undone:qg K "Bench" "undone":=T.fd_undone.cls T.cls;have fh_manner:qg K "Hand" "manner":=T.fdh_manner.cls T.clsh;have fh_now:qg K "Hand" "now":=T.fdh_now.cls T.clsh;have fh_past:qg K "Hand" "past":=T.fdh_past.cls T.clsh;have c_isWhole:jj P w K mg base "is_whole" ["thing","least","most"] 1 3 jS:=T.isWhole.callee X G aiP fun f fd F=>jJ F aid fun Kc A Ko s H E hr=>aav.2 P w K mg base f Kc A Ko s H E C.b hr;have c_rodWorth:jj P w K mg base "rod_worth" ["manner","rod"] 1 2 zz:=T.rodWorth.callee X G ahh fun f fd F=>jJ F agT fun Kc A Ko s H E hr=>abi.2 P w K mg base f Kc A Ko s H E trivial hr;have c_beads:jj P w K mg base "beads" ["rod"] 1 1 qO:=T.beads.callee X G ann fun f fd F=>jJ F ams fun Kc A Ko s H E hr=>aie.2 P w K mg base f Kc A Ko s H E trivial hr;have c_allRods:jj P w K mg base "all_rods" ["manner"] 1 1 JM:=T.allRods.callee X G aiQ fun f fd F=>aif F C.b;have c_hasAll:jj P w K mg base "has_all_digits" ["manner"] 2 1 aax:=T.hasAll.callee X G akW fun f fd F=>jJ F aef fun Kc A Ko s H E hr=>afg.2 P w K mg base f Kc A Ko s H E ⟨C.b,c_allRods,c_rodWorth⟩ hr;have c_isManner:jj P w K mg base "is_manner" ["thing"] 3 1 qM:=T.isManner.callee X G ahi fun f fd F=>jJ F JZ fun Kc A Ko s H E hr=>abj.2 P w K mg base f Kc A Ko s H E ⟨C.b,C.least,C.most,c_isWhole,c_hasAll⟩ hr;have c_check:jj P w K mg base "check_manner" ["thing"] 4 1 Z4:=T.check.callee X G ahj fun f fd F=>jJ F agW fun Kc A Ko s H E hr=>aig.2 P w K mg base f Kc A Ko s H E ⟨c_isManner⟩ hr;have c_rodsWith:jj P w K mg base "rods_with" ["manner","worth"] 2 2 Zv:=T.rodsWith.callee X G ahk fun f fd F=>jJ F agX fun Kc A Ko s H E hr=>abk.2 P w K mg base f Kc A Ko s H E ⟨c_allRods,c_rodWorth⟩ hr;have c_fewest:jj P w K mg base "fewest_beads" ["manner","worth"] 3 2 J1:=T.fewest.callee X G akX fun f fd F=>jJ F akD fun Kc A Ko s H E hr=>ab5.2 P w K mg base f Kc A Ko s H E ⟨C.b,c_rodsWith,c_beads⟩ hr
 have c_chkRods:jj P w K mg base "check_rods" ["rods"] 2 1 Ji:=T.chkRods.callee X G adC fun f fd F=>jJ F ac6 fun Kc A Ko s H E hr=>aay.2 P w K mg base f Kc A Ko s H E ⟨c_isWhole,C.mostRods⟩ hr;have c_chkNum:jj P w K mg base "check_number" ["number"] 2 1 Jc:=T.chkNum.callee X G aew fun f fd F=>jJ F aeh fun Kc A Ko s H E hr=>ab6.2 P w K mg base f Kc A Ko s H E ⟨c_isWhole,C.mostNumber⟩ hr;have c_asked:jj P w K mg base "check_asked" ["manner","rods","number"] 5 3 Z5:=T.asked.callee X G ahl fun f fd F=>jJ F agY fun Kc A Ko s H E hr=>aih.2 P w K mg base f Kc A Ko s H E ⟨c_check,c_chkRods,c_chkNum⟩ hr;have c_num:jj P w K mg base "number_on" ["manner","setting"] 2 2 zS:=T.num.callee X G aq9 fun f fd F=>jJ F afh fun Kc A Ko s H E hr=>aoM.2 P w K mg base f Kc A Ko s H E ⟨c_rodWorth⟩ hr;have c_digits:jj P w K mg base "digits_by_rods" ["base","rods","number"] 1 3 amt:=T.digits.callee X G akY fun f fd F=>jJ F afk fun Kc A Ko s H E hr=>aoO.2 P w K mg base f Kc A Ko s H E C.b hr;have c_plainR:jj P w K mg base "plain_rods" ["manner","rods","number"] 4 3 ZA:=T.plainR.callee X G aex fun f fd F=>jJ F Zz fun Kc A Ko s H E hr=>ab7.2 P w K mg base f Kc A Ko s H E ⟨C.b,c_digits,c_fewest⟩ hr;have c_plainS:jj P w K mg base "plain_setting" ["manner","rods","number"] 6 3 J4:=T.plainS.callee X G aey fun f fd F=>jJ F aei fun Kc A Ko s H E hr=>afl.2 P w K mg base f Kc A Ko s H E ⟨c_asked,c_plainR⟩ hr;have c_isRod:jj P w K mg base "is_rod" ["manner","thing"] 2 2 Qj:=T.isRod.callee X G ano fun f fd F=>jJ F amu fun Kc A Ko s H E hr=>abl.2 P w K mg base f Kc A Ko s H E ⟨C.b,c_isWhole⟩ hr;have c_isSet:jj P w K mg base "is_setting" ["manner","thing"] 5 2 ac7:=T.isSet.callee X G ahm fun f fd F=>jJ F agZ fun Kc A Ko s H E hr=>abm.2 P w K mg base f Kc A Ko s H E ⟨C.b,c_check,c_isRod,C.mostRods⟩ hr;have c_chkSet:jj P w K mg base "check_setting" ["manner","thing"] 6 2 Jd:=T.chkSet.callee X G aez fun f fd F=>jJ F aej fun Kc A Ko s H E hr=>afm.2 P w K mg base f Kc A Ko s H E ⟨c_isSet⟩ hr;have c_cell:jj P w K mg base "_law_cell" ["_law_script","_law_k"] 1 2 ag0:=T.cell.callee X G ape fun f fd F=>jJ F aoP fun Kc A Ko s H E hr=>ajA.2 P w K mg base f Kc A Ko s H E C.b hr
 have c_drawn:jj P w K mg base "_law_drawn" ["_law_script","_law_k","_law_many"] 2 3 JO:=T.drawn.callee X G anp fun f fd F=>jJ F ac8 fun Kc A Ko s H E hr=>aii.2 P w K mg base f Kc A Ko s H E ⟨c_cell⟩ hr;have c_manner:jj P w K mg base "_law_manner" ["_law_script","_law_at"] 3 2 ZB:=T.manner.callee X G akZ fun f fd F=>jJ F zU fun Kc A Ko s H E hr=>ab9.2 P w K mg base f Kc A Ko s H E ⟨C.b,c_drawn⟩ hr;have c_enough:jj P w K mg base "check_enough" ["manner","setting","number"] 3 3 acb:=T.enough.callee X G aeA fun f fd F=>jJ F aek fun Kc A Ko s H E hr=>aca.2 P w K mg base f Kc A Ko s H E ⟨c_num⟩ hr;have c_less:jj P w K mg base "less" ["manner","setting","number"] 7 3 abN:=T.less.callee X G ajU fun f fd F=>jJ F ajB fun Kc A Ko s H E hr=>ajC.2 P w K mg base f Kc A Ko s H E ⟨C.b,c_chkSet,c_chkNum,c_enough,c_plainR,c_num⟩ hr;have x_check:zn P w K mg base "check_manner" ["thing"] 4 1 afs:=T.check.thr X G ahj fun f fd F=>JH F agW fun Kc A Ko s H E hr=>afr.2 P w K mg base f Kc A Ko s H E ⟨c_isManner,(C.errT.err (by decide))⟩ hr;have x_isSet:zn P w K mg base "is_setting" ["manner","thing"] 5 2 aik:=T.isSet.thr X G ahm fun f fd F=>JH F agZ fun Kc A Ko s H E hr=>aft.2 P w K mg base f Kc A Ko s H E ⟨x_check⟩ hr;have x_chkSet:zn P w K mg base "check_setting" ["manner","thing"] 6 2 aaE:=T.chkSet.thr X G aez fun f fd F=>JH F aej fun Kc A Ko s H E hr=>acf.2 P w K mg base f Kc A Ko s H E ⟨c_isSet,x_isSet,(C.errT.err (by decide))⟩ hr;have x_chkRods:zn P w K mg base "check_rods" ["rods"] 2 1 adc:=T.chkRods.thr X G adC fun f fd F=>JH F ac6 fun Kc A Ko s H E hr=>aaF.2 P w K mg base f Kc A Ko s H E ⟨c_isWhole,C.mostRods,(C.errT.err (by decide))⟩ hr;have x_chkNum:zn P w K mg base "check_number" ["number"] 2 1 ach:=T.chkNum.thr X G aew fun f fd F=>JH F aeh fun Kc A Ko s H E hr=>acg.2 P w K mg base f Kc A Ko s H E ⟨c_isWhole,C.mostNumber,(C.errT.err (by decide))⟩ hr;have x_asked:zn P w K mg base "check_asked" ["manner","rods","number"] 5 3 ail:=T.asked.thr X G ahl fun f fd F=>JH F agY fun Kc A Ko s H E hr=>afu.2 P w K mg base f Kc A Ko s H E ⟨c_chkRods,c_check,x_check,x_chkRods,x_chkNum⟩ hr;have x_plainR:zn P w K mg base "plain_rods" ["manner","rods","number"] 4 3 afv:=T.plainR.thr X G aex fun f fd F=>JH F Zz fun Kc A Ko s H E hr=>ajD.2 P w K mg base f Kc A Ko s H E ⟨c_digits,(C.errT.err (by decide))⟩ hr
 have x_plainS:zn P w K mg base "plain_setting" ["manner","rods","number"] 6 3 afw:=T.plainS.thr X G aey fun f fd F=>JH F aei fun Kc A Ko s H E hr=>ajE.2 P w K mg base f Kc A Ko s H E ⟨c_asked,x_asked,x_plainR⟩ hr;have x_enough:zn P w K mg base "check_enough" ["manner","setting","number"] 3 3 afx:=T.enough.thr X G aeA fun f fd F=>JH F aek fun Kc A Ko s H E hr=>aci.2 P w K mg base f Kc A Ko s H E ⟨c_num,(C.errT.err (by decide))⟩ hr;have x_less:zn P w K mg base "less" ["manner","setting","number"] 7 3 amw:=T.less.thr X G ajU fun f fd F=>JH F ajB fun Kc A Ko s H E hr=>apB.2 P w K mg base f Kc A Ko s H E ⟨C.b,c_num,c_enough,c_chkNum,c_chkSet,x_chkSet,x_chkNum,x_enough,x_plainR⟩ hr;have c_NamesBeads:jj P w K mg base "names_beads" ["setting","thing"] 2 2 J9:=T.NamesBeads.callee X G adO fun f fd F=>jJ F adL fun Kc A Ko s H E hr=>qX.2 P w K mg base f Kc A Ko s H E ⟨C.b,c_isWhole,C.decks⟩ hr;have c_Pushed:jj P w K mg base "pushed" ["rod","deck","by"] 1 3 ace:=T.Pushed.callee X G ak0 fun f fd F=>jJ F akF fun Kc A Ko s H E hr=>aaB.2 P w K mg base f Kc A Ko s H E ⟨trivial⟩ hr;have c_CanMove:jj P w K mg base "can_move" ["manner","setting","thing"] 3 3 Zf:=T.CanMove.callee X G aiR fun f fd F=>jJ F aij fun Kc A Ko s H E hr=>aaD.2 P w K mg base f Kc A Ko s H E ⟨c_NamesBeads,c_isRod,c_Pushed⟩ hr;have c_BehindMove:jj P w K mg base "behind_move" ["setting","move"] 2 2 Qc:=T.BehindMove.callee X G adP fun f fd F=>jJ F ZS fun Kc A Ko s H E hr=>Qb.2 P w K mg base f Kc A Ko s H E ⟨c_Pushed⟩ hr;have c_Moved:jj P w K mg base "moved" ["manner","setting","move"] 7 3 Qk:=T.Moved.callee X G ahn fun f fd F=>jJ F ag2 fun Kc A Ko s H E hr=>afq.2 P w K mg base f Kc A Ko s H E ⟨c_chkSet,c_CanMove,c_BehindMove⟩ hr;have x_Moved:zn P w K mg base "moved" ["manner","setting","move"] 7 3 aim:=T.Moved.thr X G ahn fun f fd F=>JH F ag2 fun Kc A Ko s H E hr=>amx.2 P w K mg base f Kc A Ko s H E ⟨c_CanMove,c_chkSet,x_chkSet,(C.errT.err (by decide))⟩ hr;have c_IsName:jj P w K mg base "is_name" ["thing"] 1 1 Qd:=T.IsName.callee X G ak1 fun f fd F=>jJ F akG fun Kc A Ko s H E hr=>ajF.2 P w K mg base f Kc A Ko s H E ⟨C.b,C.mostLetters⟩ hr
 have mk_Bench:akt P w K mg base "Bench" ["self","manner","rods"] 7 3 aio:=T.MInit.mak T.cls X G anr fun f fd F=>Z3 F amA fun Kc A Ko s H E hr=>afz.2 P w K mg base f Kc A Ko s H E ⟨f_now,f_manner,f_kept,f_done,f_undone,c_plainS,x_plainS⟩ hr;have m_setting:qU P w K mg base "Bench" "setting" ["self"] 1 1 zV:=T.MSetting.met T.cls aho fun f fd F=>Z3 F ag3 fun Kc A Ko s H E hr=>abq.2 P w K mg base f Kc A Ko s H E ⟨f_now⟩ hr;have m_value:qU P w K mg base "Bench" "value" ["self"] 3 1 QR:=T.MValue.met T.cls ak4 fun f fd F=>Z3 F akH fun Kc A Ko s H E hr=>afB.2 P w K mg base f Kc A Ko s H E ⟨f_manner,f_now,c_num⟩ hr;have m_go_on:qU P w K mg base "Bench" "go_on" ["self","word","fresh","kept"] 4 4 Z7:=T.MGoOn.met T.cls ans fun f fd F=>Z3 F amB fun Kc A Ko s H E hr=>aiq.2 P w K mg base f Kc A Ko s H E ⟨f_done,f_now,f_kept,f_undone,m_value⟩ hr;have m_take:qU P w K mg base "Bench" "take" ["self","number"] 8 2 add:=T.MTake.met T.cls ant fun f fd F=>Z3 F amC fun Kc A Ko s H E hr=>ais.2 P w K mg base f Kc A Ko s H E ⟨f_manner,f_now,f_kept,m_go_on,c_less,x_less⟩ hr;have m_push:qU P w K mg base "Bench" "push" ["self","move"] 8 2 abr:=T.MPush.met T.cls anu fun f fd F=>Z3 F amD fun Kc A Ko s H E hr=>aiu.2 P w K mg base f Kc A Ko s H E ⟨f_manner,f_now,f_kept,m_go_on,c_Moved,x_Moved⟩ hr;have m_keep:qU P w K mg base "Bench" "keep" ["self","name"] 5 2 ade:=T.MKeep.met T.cls anv fun f fd F=>Z3 F ag4 fun Kc A Ko s H E hr=>afG.2 P w K mg base f Kc A Ko s H E ⟨f_kept,f_now,m_go_on,C.b,c_IsName,(C.errT.err (by decide))⟩ hr;have m_recall:qU P w K mg base "Bench" "recall" ["self","name"] 5 2 aaJ:=T.MRecall.met T.cls aiU fun f fd F=>Z3 F aiw fun Kc A Ko s H E hr=>aaI.2 P w K mg base f Kc A Ko s H E ⟨f_kept,m_go_on,c_IsName,(C.errT.err (by decide))⟩ hr;have m_names:qU P w K mg base "Bench" "names" ["self"] 1 1 ZD:=T.MNames.met T.cls ak5 fun f fd F=>Z3 F akI fun Kc A Ko s H E hr=>afI.2 P w K mg base f Kc A Ko s H E ⟨f_kept,C.b⟩ hr;have mk_Hand:akt P w K mg base "Hand" ["self","manner","rods"] 7 3 aiy:=T.HInit.mak T.clsh X G anw fun f fd F=>Z3 F amE fun Kc A Ko s H E hr=>afK.2 P w K mg base f Kc A Ko s H E ⟨fh_now,fh_manner,fh_past,c_plainS,x_plainS⟩ hr
 have mh_setting:qU P w K mg base "Hand" "setting" ["self"] 1 1 zW:=T.HSetting.met T.clsh ahp fun f fd F=>Z3 F ag5 fun Kc A Ko s H E hr=>abu.2 P w K mg base f Kc A Ko s H E ⟨fh_now⟩ hr;have mh_value:qU P w K mg base "Hand" "value" ["self"] 3 1 Jt:=T.HValue.met T.clsh ak6 fun f fd F=>Z3 F akJ fun Kc A Ko s H E hr=>afM.2 P w K mg base f Kc A Ko s H E ⟨fh_manner,fh_now,c_num⟩ hr;have mh_go_on:qU P w K mg base "Hand" "go_on" ["self","fresh"] 4 2 adg:=T.HGoOn.met T.clsh anx fun f fd F=>Z3 F amF fun Kc A Ko s H E hr=>aiA.2 P w K mg base f Kc A Ko s H E ⟨fh_past,fh_now,mh_value⟩ hr;have mh_take:qU P w K mg base "Hand" "take" ["self","number"] 8 2 adh:=T.HTake.met T.clsh anz fun f fd F=>Z3 F amG fun Kc A Ko s H E hr=>aiC.2 P w K mg base f Kc A Ko s H E ⟨fh_manner,fh_now,mh_go_on,c_less,x_less⟩ hr;have mh_push:qU P w K mg base "Hand" "push" ["self","move"] 8 2 adi:=T.HPush.met T.clsh anA fun f fd F=>Z3 F amH fun Kc A Ko s H E hr=>aiE.2 P w K mg base f Kc A Ko s H E ⟨fh_manner,fh_now,mh_go_on,c_Moved,x_Moved⟩ hr;have c_LValue:jj P w K mg base "_law_value" ["_law_manner_here","_law_setting"] 1 2 Ju:=T.LValue.callee X G ak2 fun f fd F=>jJ F Qx fun Kc A Ko s H E hr=>aco.2 P w K mg base f Kc A Ko s H E ⟨trivial⟩ hr;have c_LRods:jj P w K mg base "_law_rods" ["_law_manner_here"] 1 1 afS:=T.LRods.callee X G anq fun f fd F=>jJ F aaL fun Kc A Ko s H E hr=>afR.2 P w K mg base f Kc A Ko s H E ⟨C.b⟩ hr;have c_LFewest:jj P w K mg base "_law_fewest" ["_law_manner_here","_law_digit"] 2 2 adm:=T.LFewest.callee X G aiS fun f fd F=>jJ F adk fun Kc A Ko s H E hr=>aaN.2 P w K mg base f Kc A Ko s H E ⟨C.b,c_LRods⟩ hr;have c_LPlain:jj P w K mg base "_law_plain" ["_law_manner_here","_law_rods_here","_law_number"] 3 3 afT:=T.LPlain.callee X G ak3 fun f fd F=>jJ F Qy fun Kc A Ko s H E hr=>aaO.2 P w K mg base f Kc A Ko s H E ⟨C.b,c_LFewest⟩ hr;have c_LBehind:jj P w K mg base "_law_behind" ["_law_manner_here","_law_setting","_law_move"] 1 3 Jj:=T.LBehind.callee X G aiT fun f fd F=>jJ F zX fun Kc A Ko s H E hr=>aaQ.2 P w K mg base f Kc A Ko s H E ⟨C.b⟩ hr;have c_LAllMoves:jj P w K mg base "_law_all_moves" ["_law_manner_here","_law_setting"] 2 2 Z9:=T.LAllMoves.callee X G af7 fun f fd F=>jJ F zc fun Kc A Ko s H E hr=>QS.2 P w K mg base f Kc A Ko s H E ⟨C.b,c_LBehind⟩ hr
 exact⟨mh_setting,m_push,mh_push,mh_value,m_take,mh_take,m_value,m_setting,m_names,m_keep,m_recall,mk_Bench,mk_Hand,C.b,c_manner,c_drawn,c_LAllMoves,c_LPlain,c_LValue⟩
theorem ara(HT:zG=true){P:Program}{w:World}{K:Fg}{h:Heap}{mg:SV}{fa:Addr}(X:K.In h)(G:h.Ns mainGlobals mg)(hfa:mg "law"=some (.ref fa))(T:Tops K)(C:Consts K mg):
  ∃fd:FuncData,(∀(s:Shared) (v:Value),BindsTo s fd ⟨[v],[]⟩ [("_law_script",v)])/\∀base:Heap,K.In base->base.Ns mainGlobals mg->FnOk P w K mg base CX0 9 fa fd ["_law_script"] (aju P w K 1 amO):=by
 have Q:∀base:Heap,CLaw P w K mg base:=fun base=>as5 HT X G T C;obtain⟨f,oc,od,an,kV,doc,pm,Kc,ct,osl,a,l,c,kp⟩:=T.law;have e:=hfa.symm.trans (PySem.W.mg_of X G a);cases e;have F1:=acE (st:=afU) l c kp;exact⟨_,fun s v=> .of_eq rfl,fun base _ _=>arX F1 qY fun Kc A Ko s H E hr=>aoQ.2 P w K mg base fa Kc A Ko s H E (Q base) hr⟩
theorem asj(HT:zG=true){P:Program}{w:World}(K:Fg)(H:Hp)(a:Addr)(ns:List Int)(hl:ns.length<=63)(hS:SqL K H a (ns.map V.int)):aju P w K 1 amO [.ref a] H (fun v _=>v= .bl true) fun _ _ _=>False:=
 ⟨[scr ns],fun _=>none,fun o _=>o= .ok (.bool true),rfl,⟨_,_,rfl,⟨a,rfl,.inl ⟨ns,hS,rfl⟩⟩,rfl⟩,(fun a c z=>nomatch z),akV HT ns (by omega),(fun d μ' r v H' _ rv _=>by cases r;exact rv),fun c μ' r=>nomatch r⟩
theorem as6(HT:zG=true){l:PySem.W.OpenLaw}{q:Program}{loose:List Str}{XP:(SV)->Heap->Prop}{YP:World->Heap->Prop}{d:DefRec}{K:Params->Fg}(hn:l.most=some 63)(hdf:d.params.defaults=[])
  (hY:∀(w:World) (h:Heap),YP w h->(K w.params).In h) (hnm:d.name="law")
  (F:∀(w:World) (mg:SV) (h:Heap),(K w.params).In h->h.Ns mainGlobals mg->Tops (K w.params)/\Consts (K w.params) mg):
  PySem.W.WalkO q loose XP YP l.row.toRowW d [] (fun f vs=>PySem.call f vs):=
 L2.anT (n:=63) (k:=9) (x:="_law_script") (CX:=fun _=>CX0) (sp:=fun w=>aju l.prog w (K w.params) 1 amO) hn (by decide) hdf ⟨rfl,by decide,by decide⟩ hY (fun w mg fa h KX G hm=>by
  obtain ⟨T,C⟩:=F w mg h KX G;rw [hnm] at hm;exact ara HT KX G hm T C) (fun w H a ns hl _ hS=>asj HT (K w.params) H a ns hl hS) fun _ _ _ _ _ z=>z
theorem apf{K:Fg}{mg:SV}{h:Heap}(X:K.In h)(G:h.Ns mainGlobals mg)(z1:PySem.W.nsIn K mainGlobals "isinstance"=some none)(z2:PySem.W.nsIn K mainGlobals "bool"=some none)(z3:PySem.W.nsIn K mainGlobals "int"=some none)(z4:PySem.W.nsIn K mainGlobals "tuple"=some none)(z5:PySem.W.nsIn K mainGlobals "zip"=some none)(z6:PySem.W.nsIn K mainGlobals "range"=some none)(z7:PySem.W.nsIn K mainGlobals "all"=some none)(z8:PySem.W.nsIn K mainGlobals "len"=some none)(z9:PySem.W.nsIn K mainGlobals "max"=some none)(z10:PySem.W.nsIn K mainGlobals "min"=some none)(z11:PySem.W.nsIn K mainGlobals "sum"=some none)(z12:PySem.W.nsIn K mainGlobals "sorted"=some none)(z13:PySem.W.nsIn K mainGlobals "abs"=some none)(z14:PySem.W.nsIn K mainGlobals "list"=some none)(z15:PySem.W.nsIn K mainGlobals "enumerate"=some none)(z16:PySem.W.nsIn K mainGlobals "ValueError"=some none)(z17:PySem.W.nsIn K mainGlobals "str"=some none)(z18:PySem.W.nsIn K mainGlobals "set"=some none)(z19:PySem.W.nsIn K mainGlobals "dict"=some none):Bare mg:=
 have f:∀{x:Str},PySem.W.nsIn K mainGlobals x=some none->mg x=none:=fun z=>PySem.W.mg_none_of X G z
 ⟨f z1,f z2,f z3,f z4,f z5,f z6,f z7,f z8,f z9,f z10,f z11,f z12,f z13,f z14,f z15,f z16,f z17,f z18,f z19⟩
theorem gc4{K:Fg}{mg:SV}{h:Heap}{x:Str}{a:Addr}{od:Option Addr}{n:Nat}{osl:Array (Option Value)}{i1 i2 i3 i4:Int}{t1 t2 t3 t4:Tok}(X:K.In h)(G:h.Ns mainGlobals mg)(e:PySem.W.nsIn K mainGlobals x=some (some (.ref a)))
  (l:K.lookup a=some ⟨.type "tuple",od,.seq #[.int i1 t1,.int i2 t2,.int i3 t3,.int i4 t4] n,osl⟩):GC K mg x (.tuple [.int i1,.int i2,.int i3,.int i4]):=
 agx X G e l rfl ⟨_,_,[.int i1,.int i2,.int i3,.int i4],rfl,(by show 4<=sizeLine;rw[sizeLine_eq];decide),.cons ⟨_,rfl⟩ (.cons ⟨_,rfl⟩ (.cons ⟨_,rfl⟩ (.cons ⟨_,rfl⟩ .nil))),fun H=>⟨_,_,rfl,rfl,_,_,rfl,rfl,_,_,rfl,rfl,_,_,rfl,rfl,rfl⟩⟩
theorem gcI{K:Fg}{mg:SV}{h:Heap}{x:Str}{i:Int}{t:Tok}(X:K.In h)(G:h.Ns mainGlobals mg)(e:PySem.W.nsIn K mainGlobals x=some (some (.int i t))):GC K mg x (.int i):=
 ⟨.int i,_,PySem.W.mg_of X G e,⟨t,rfl⟩,fun H=>rfl⟩
theorem anB{K:Fg}{mg:SV}{h:Heap}{x:Str}{a:Addr}{od:Option Addr}{n:Nat}{osl:Array (Option Value)}{i1 i2:Str}{t1 t2:Tok}(X:K.In h)(G:h.Ns mainGlobals mg)(e:PySem.W.nsIn K mainGlobals x=some (some (.ref a)))
  (l:K.lookup a=some ⟨.type "tuple",od,.seq #[.str i1 t1,.str i2 t2] n,osl⟩):GC K mg x (.tuple [.str i1,.str i2]):=
 agx X G e l rfl ⟨_,_,[.str i1,.str i2],rfl,(by show 2<=sizeLine;rw[sizeLine_eq];decide),.cons ⟨_,rfl⟩ (.cons ⟨_,rfl⟩ .nil),fun H=>⟨_,_,rfl,rfl,_,_,rfl,rfl,rfl⟩⟩
theorem apg{K:Fg}{mg:SV}{h:Heap}{y:Str}{cs:List Str}(X:K.In h)(G:h.Ns mainGlobals mg)(q:ae6 K y cs=true):ErrT K mg y cs:=
 ⟨q,fun c C e=>PySem.W.mg_of X G (aom e)⟩
end Rods
def PySem.W.Fast.tw7992345720003682088:Unit:=()
def PySem.W.Fast.tw1856108792639584285:Unit:=()
def PySem.W.Fast.tw12342599276805091350:Unit:=()
def PySem.W.Fast.tw10078712295437925992:Unit:=()
def PySem.W.Fast.tw5743067551054990080:Unit:=()
def PySem.W.Fast.tw11371134430905411199:Unit:=()
def PySem.W.Fast.tw121422491672431150:Unit:=()
def PySem.W.Fast.tw1140089741413078072:Unit:=()
def PySem.W.Fast.tw6776738191124227814:Unit:=()
def PySem.W.Fast.tw7841482998207558247:Unit:=()
def PySem.W.Fast.tw8583086279884479436:Unit:=()
def PySem.W.Fast.tw3607022683468827519:Unit:=()
def PySem.W.Fast.tw13327788647809029527:Unit:=()
def PySem.W.Fast.tw8128970119033628017:Unit:=()
def PySem.W.Fast.tw2627907983637988035:Unit:=()
def PySem.W.Fast.tw12268738163464714518:Unit:=()
def PySem.W.Fast.tw3414119030135426053:Unit:=()
def PySem.W.Fast.tw10779447061530306505:Unit:=()
def PySem.W.Fast.tw7093143356116389961:Unit:=()
def PySem.W.Fast.tw17661489597118159513:Unit:=()
def PySem.W.Fast.tw480668390936851740:Unit:=()
def PySem.W.Fast.tw5378442896996975399:Unit:=()
def PySem.W.Fast.tw3922257865045956605:Unit:=()
def PySem.W.Fast.tw6754437016562095944:Unit:=()
def PySem.W.Fast.tw1669143707485255469:Unit:=()
def PySem.W.Fast.tw17756875525062734585:Unit:=()
def PySem.W.Fast.tw2302384936673267156:Unit:=()
def PySem.W.Fast.tw2324293715022105574:Unit:=()
def PySem.W.Fast.tw10000167988300827844:Unit:=()
def PySem.W.Fast.tw11514304170627233699:Unit:=()
def PySem.W.Fast.tw13322905610475329902:Unit:=()
def PySem.W.Fast.tw14220498617044666672:Unit:=()
open PySem PySem.W PyProof.Rows
set_option maxRecDepth 100000 in
set_option maxHeartbeats 0 in
theorem PySem.Challenge.cw_beadrods_k71_whole_benches_holds : PySem.Challenge.rw_beadrods_k71_whole_benches.Holds := by
  w_on; o_law; k_head; (case hw => w_witness2)
  k_fill
  refine Rods.as6 Rods.allN_true (l := PySem.Challenge.rw_beadrods_k71_whole_benches) rfl rfl (fun w h Y => PySem.W.kIn_of Y) rfl ?F
  case F =>
    intro w mg h KX G
    refine ⟨⟨?f1, ?f2, ?f3, ?f4, ?f5, ?f6, ?f7, ?f8, ?f9, ?f10, ?f11, ?f12, ?f13, ?f14, ?f15, ?f16, ?f17, ?f18, ?f19, ?f20, ?f21, ?f22, ?f23, ?f24, ?f25, ?f26, ?f27, ?f28, ?f29, ?f30, ?f31, ?f32, ?f33, ?f34, ?f35, ?f36, ?f37, ?m1, ?m2, ?m3, ?m4, ?m5, ?m6, ?m7, ?m8, ?m9, ?m10, ?m11, ?m12, ?m13, ?m14, ?m15, ?cl, ?clh, ?d1, ?d2, ?d3, ?d4, ?d5, ?d6, ?d7, ?d8⟩, ⟨?b, ?c1, ?c2, ?c3, ?c4, ?c5, ?c6, ?et⟩⟩
    case b => refine' Rods.apf KX G ?_ ?_ ?_ ?_ ?_ ?_ ?_ ?_ ?_ ?_ ?_ ?_ ?_ ?_ ?_ ?_ ?_ ?_ ?_ <;> k_is
    case c1 =>
      refine' Rods.gc4 KX G ?a ?l
      (case a => k_is); (case l => k_is)
    case c2 =>
      refine' Rods.gc4 KX G ?a ?l
      (case a => k_is); (case l => k_is)
    case c3 =>
      refine' Rods.gcI KX G ?a
      (case a => k_is)
    case c4 =>
      refine' Rods.gcI KX G ?a
      (case a => k_is)
    case c5 =>
      refine' Rods.anB KX G ?a ?l
      (case a => k_is); (case l => k_is)
    case c6 =>
      refine' Rods.gcI KX G ?a
      (case a => k_is)
    case et => exact Rods.apg KX G (by kernel_rfl)
    case m1 =>
      refine' BX.qk ?a ?b ?i ?l ?c ?k
      (case a => k_is); (case b => k_is); (case i => k_is); (case l => k_is); (case c => k_is); (case k => k_is)
    case m2 =>
      refine' BX.qk ?a ?b ?i ?l ?c ?k
      (case a => k_is); (case b => k_is); (case i => k_is); (case l => k_is); (case c => k_is); (case k => k_is)
    case m3 =>
      refine' BX.qk ?a ?b ?i ?l ?c ?k
      (case a => k_is); (case b => k_is); (case i => k_is); (case l => k_is); (case c => k_is); (case k => k_is)
    case m4 =>
      refine' BX.qk ?a ?b ?i ?l ?c ?k
      (case a => k_is); (case b => k_is); (case i => k_is); (case l => k_is); (case c => k_is); (case k => k_is)
    case m5 =>
      refine' BX.qk ?a ?b ?i ?l ?c ?k
      (case a => k_is); (case b => k_is); (case i => k_is); (case l => k_is); (case c => k_is); (case k => k_is)
    case m6 =>
      refine' BX.qk ?a ?b ?i ?l ?c ?k
      (case a => k_is); (case b => k_is); (case i => k_is); (case l => k_is); (case c => k_is); (case k => k_is)
    case m7 =>
      refine' BX.qk ?a ?b ?i ?l ?c ?k
      (case a => k_is); (case b => k_is); (case i => k_is); (case l => k_is); (case c => k_is); (case k => k_is)
    case m8 =>
      refine' BX.qk ?a ?b ?i ?l ?c ?k
      (case a => k_is); (case b => k_is); (case i => k_is); (case l => k_is); (case c => k_is); (case k => k_is)
    case m9 =>
      refine' BX.qk ?a ?b ?i ?l ?c ?k
      (case a => k_is); (case b => k_is); (case i => k_is); (case l => k_is); (case c => k_is); (case k => k_is)
    case m10 =>
      refine' BX.qk ?a ?b ?i ?l ?c ?k
      (case a => k_is); (case b => k_is); (case i => k_is); (case l => k_is); (case c => k_is); (case k => k_is)
    case m11 =>
      refine' BX.qk ?a ?b ?i ?l ?c ?k
      (case a => k_is); (case b => k_is); (case i => k_is); (case l => k_is); (case c => k_is); (case k => k_is)
    case m12 =>
      refine' BX.qk ?a ?b ?i ?l ?c ?k
      (case a => k_is); (case b => k_is); (case i => k_is); (case l => k_is); (case c => k_is); (case k => k_is)
    case m13 =>
      refine' BX.qk ?a ?b ?i ?l ?c ?k
      (case a => k_is); (case b => k_is); (case i => k_is); (case l => k_is); (case c => k_is); (case k => k_is)
    case m14 =>
      refine' BX.qk ?a ?b ?i ?l ?c ?k
      (case a => k_is); (case b => k_is); (case i => k_is); (case l => k_is); (case c => k_is); (case k => k_is)
    case m15 =>
      refine' BX.qk ?a ?b ?i ?l ?c ?k
      (case a => k_is); (case b => k_is); (case i => k_is); (case l => k_is); (case c => k_is); (case k => k_is)
    case cl =>
      refine' BX.ajv ?a ?b ?c ?d ?e ?f ?g
      (case a => k_is); (case b => k_is); (case c => k_is); (case d => k_is); (case e => k_is); (case f => k_is); (case g => k_is)
    case clh =>
      refine' BX.ajv ?a ?b ?c ?d ?e ?f ?g
      (case a => k_is); (case b => k_is); (case c => k_is); (case d => k_is); (case e => k_is); (case f => k_is); (case g => k_is)
    case d1 =>
      refine' BX.JY ?a ?b
      (case a => k_is); (case b => k_is)
    case d2 =>
      refine' BX.JY ?a ?b
      (case a => k_is); (case b => k_is)
    case d3 =>
      refine' BX.JY ?a ?b
      (case a => k_is); (case b => k_is)
    case d4 =>
      refine' BX.JY ?a ?b
      (case a => k_is); (case b => k_is)
    case d5 =>
      refine' BX.JY ?a ?b
      (case a => k_is); (case b => k_is)
    case d6 =>
      refine' BX.JY ?a ?b
      (case a => k_is); (case b => k_is)
    case d7 =>
      refine' BX.JY ?a ?b
      (case a => k_is); (case b => k_is)
    case d8 =>
      refine' BX.JY ?a ?b
      (case a => k_is); (case b => k_is)
    all_goals
      refine' BX.alV ?a ?l ?c ?k
      (case a => k_is); (case l => k_is); (case c => k_is); (case k => k_is)
#print axioms PySem.Challenge.cw_beadrods_k71_whole_benches_holds
end
