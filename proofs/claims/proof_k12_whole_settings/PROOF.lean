import PyProof.Rows.All
import Wide.All
import OpenK.AllK
import Wide.FinOn
import Lean
import PyProof.EqAt
import PyProof.EqKinds
import PyProof.TupleCall
import PyProof.DictWalks
import PyProof.ListMulRoad
import PyProof.Rows.Range3
import PySem.Challenge.RW_beadrods_k12_whole_settings
set_option Elab.async false
set_option linter.all false
set_option maxRecDepth 100000
set_option maxHeartbeats 4000000
section
theorem zzA {α : Type _} {a : α} {l : List α} : (a :: l)[0]? = some a := rfl
theorem zzB {α : Type _} {a : α} {i : Nat} {l : List α} : (a :: l)[i + 1]? = l[i]? := rfl
theorem zzC {α : Type _} {o : Option α} : (some o).join = o := rfl
theorem zzD {α β : Type _} (a : α) (f : α → Option β) : (some a).bind f = f a := rfl
theorem zzE {α β : Type _} (a : α) (f : α → β) : Option.map f (some a) = some (f a) := rfl
theorem zzF {α : Type _} {x : α} {xs : List α} {i : Nat} {a : α} : (x :: xs).set (i + 1) a = x :: xs.set i a := rfl
theorem zzG {α : Type _} {x : α} {xs : List α} {a : α} : (x :: xs).set 0 a = a :: xs := rfl
theorem zzH {α β : Type _} (f : α → Option β) : (none : Option α).bind f = none := rfl
theorem zzI {α β : Type _} (f : α → β) : Option.map f (none : Option α) = none := rfl
theorem zzJ : (!true) = false := rfl
theorem zzK : (!false) = true := rfl
namespace L2
open PySem PySem.Spec PyProof.Rows
noncomputable abbrev Key := Sum Int Str
noncomputable def keyIs : Key → Value → Bool
 | .inl k, v => Value.isInt k v
 | .inr x, v => Value.isStrOf x v
noncomputable def keyH (w : World) : Key → Int
 | .inl k => hashInt k
 | .inr x => hashStr w x
theorem keyIs_shape : ∀ {k : Key} {v : Value}, keyIs k v = true → (∃ i t, k = Sum.inl i ∧ v = Value.int i t) ∨ (∃ x t, k = Sum.inr x ∧ v = Value.str x t)
 | .inl i, v, h => by
  obtain ⟨t, e⟩ := Value.isInt_shape (k := i) (v := v) h
  exact .inl ⟨i, t, rfl, e⟩
 | .inr x, v, h => by
  obtain ⟨t, e⟩ := Value.isStrOf_shape (x := x) (v := v) h
  exact .inr ⟨x, t, rfl, e⟩
theorem keyIs_int (i : Int) (t : Tok) : keyIs (.inl i) (.int i t) = true := by simp [keyIs, Value.isInt]
theorem keyIs_str (x : Str) (t : Tok) : keyIs (.inr x) (.str x t) = true := by simp [keyIs, Value.isStrOf]
theorem key_ll (a b : Int) : decide ((Sum.inl a : Key) = Sum.inl b) = (a == b) := by
 by_cases e : a = b
 ·subst e; simp
 ·have h : ¬ (Sum.inl a : Key) = Sum.inl b := fun q => e (Sum.inl.inj q)
  rw [decide_eq_false h]
  exact (beq_eq_false_iff_ne.mpr e).symm
theorem key_rr (a b : Str) : decide ((Sum.inr a : Key) = Sum.inr b) = decide (a = b) := by
 by_cases e : a = b
 ·subst e; simp
 ·have h : ¬ (Sum.inr a : Key) = Sum.inr b := fun q => e (Sum.inr.inj q)
  rw [decide_eq_false h, decide_eq_false e]
theorem key_lr (a : Int) (b : Str) : decide ((Sum.inl a : Key) = Sum.inr b) = false := decide_eq_false (fun q => nomatch q)
theorem key_rl (a : Str) (b : Int) : decide ((Sum.inr a : Key) = Sum.inl b) = false := decide_eq_false (fun q => nomatch q)
noncomputable def mixKind (prog : Program) (w : World) : PySem.KeyKind prog w Key where
 is := keyIs
 hash := keyH w
 inj := fun v a b ha hb => by
  rcases keyIs_shape ha with ⟨i, t, rfl, rfl⟩ | ⟨x, t, rfl, rfl⟩
  ·rcases keyIs_shape hb with ⟨j, u, rfl, e⟩ | ⟨y, u, rfl, e⟩
   ·injection e with e1 _; rw [e1]
   ·exact nomatch e
  ·rcases keyIs_shape hb with ⟨j, u, rfl, e⟩ | ⟨y, u, rfl, e⟩
   ·exact nomatch e
   ·injection e with e1 _; rw [e1]
 byValue := fun k v h => by
  rcases keyIs_shape h with ⟨i, t, rfl, rfl⟩ | ⟨x, t, rfl, rfl⟩ <;> rfl
 pyHash := fun hv h => by
  rcases keyIs_shape hv with ⟨i, t, rfl, rfl⟩ | ⟨x, t, rfl, rfl⟩
  ·exact wpAny_pyHash_int h
  ·exact wpAny_pyHash_str h
 eqBool := fun hu hv h => by
  rcases keyIs_shape hu with ⟨i, t, rfl, rfl⟩ | ⟨x, t, rfl, rfl⟩
  ·rcases keyIs_shape hv with ⟨j, u, rfl, rfl⟩ | ⟨y, u, rfl, rfl⟩
   ·rw [key_ll] at h; exact wpAny_eqBool_int h
   ·rw [key_lr] at h; exact SeqAt.EqAt.int_str i t y u _ _ _ _ h
  ·rcases keyIs_shape hv with ⟨j, u, rfl, rfl⟩ | ⟨y, u, rfl, rfl⟩
   ·rw [key_rl] at h; exact SeqAt.EqAt.str_int x t j u _ _ _ _ h
   ·rw [key_rr] at h; exact wpAny_eqBool_str h
 «strs» := fun k x t v h => by
  rcases keyIs_shape h with ⟨i, u, rfl, e⟩ | ⟨y, u, rfl, e⟩
  ·exact nomatch e
  ·injection e with e1 _
   subst e1
   cases v <;> rfl
theorem mixKind_int (prog : Program) (w : World) (i : Int) (t : Tok) : (mixKind prog w).is (.inl i) (.int i t) = true := keyIs_int i t
theorem mixKind_str (prog : Program) (w : World) (x : Str) (t : Tok) : (mixKind prog w).is (.inr x) (.str x t) = true := keyIs_str x t
end L2
namespace L2
open PySem PySem.Spec PyProof.Rows
inductive V where
 | non | bl (b : Bool) | int (i : Int) | str (x : Str) | byt (b : Array UInt8) | flt (b : UInt64) | ref (a : Addr) | ty (n : String)
 deriving DecidableEq
noncomputable def RelV : V → Value → Prop
 | .non, u => u = Value.none
 | .bl b, u => u = Value.bool b
 | .int i, u => ∃ t, u = Value.int i t
 | .str x, u => ∃ t, u = Value.str x t
 | .byt b, u => ∃ t, u = Value.bytes b t
 | .flt b, u => ∃ t, u = Value.float b t
 | .ref a, u => u = Value.ref a
 | .ty n, u => u = Value.type n
noncomputable abbrev Vals : List V → List Value → Prop := Paired RelV
theorem Vals.length {xs : List V} {us : List Value} (r : Vals xs us) : xs.length = us.length := Paired.length r
theorem Vals.get : ∀ {xs : List V} {us : List Value} {i : Nat} {x : V}, Vals xs us → xs[i]? = some x → ∃ u, us[i]? = some u ∧ RelV x u
 | _, _, _, _, .nil, e => by simp at e
 | _, _, 0, _, .cons r _, e => by simp at e; subst e; exact ⟨_, rfl, r⟩
 | _, _, i + 1, x, .cons _ t, e => by
  obtain ⟨u, h1, h2⟩ := Vals.get (i := i) (x := x) t (by simpa using e)
  exact ⟨u, by simpa using h1, h2⟩
theorem Vals.set {x : V} {u : Value} (r : RelV x u) : ∀ {xs : List V} {us : List Value} (i : Nat), Vals xs us → Vals (xs.set i x) (us.set i u)
 | _, _, _, .nil => .nil
 | _, _, 0, .cons _ t => .cons r t
 | _, _, i + 1, .cons q t => .cons q (Vals.set r i t)
theorem Vals.append : ∀ {xs ys : List V} {us ws : List Value}, Vals xs us → Vals ys ws → Vals (xs ++ ys) (us ++ ws)
 | _, _, _, _, .nil, s => s
 | _, _, _, _, .cons r t, s => .cons r (Vals.append t s)
theorem Vals.take : ∀ {xs : List V} {us : List Value} (n : Nat), Vals xs us → Vals (xs.take n) (us.take n)
 | _, _, 0, _ => .nil
 | _, _, _ + 1, .nil => .nil
 | _, _, n + 1, .cons r t => .cons r (Vals.take n t)
theorem Vals.drop : ∀ {xs : List V} {us : List Value} (n : Nat), Vals xs us → Vals (xs.drop n) (us.drop n)
 | _, _, 0, r => r
 | _, _, _ + 1, .nil => .nil
 | _, _, n + 1, .cons _ t => Vals.drop n t
noncomputable def RelO : Option V → Option Value → Prop
 | some v, some u => RelV v u
 | none, none => True
 | _, _ => False
noncomputable def KV {κ : Type} : List (κ × V) → List (κ × Value) → Prop := Paired fun (p : κ × V) (q : κ × Value) => p.1 = q.1 ∧ RelV p.2 q.2
noncomputable def kV : Key → V
 | .inl i => .int i
 | .inr x => .str x
inductive HO where
 | lst (xs : List V)
 | tup (xs : List V)
 | dK (kvs : List (Key × V)) | dT (kvs : List (List Key × V))
 | set (S : Int → Bool) (n : Nat)
 | ins (C dx : Addr) (fs : List (Str × V))
 | own (x : Addr)
 | xd (fs : List (Str × V))
 | met (f x : Addr)
 | rng (lo hi : Int)
 | frz (o : Obj) (u : HO)
 | tbl (ps : Array Value)
 | ext (φ : Heap → Prop)
noncomputable abbrev Hp := Addr → Option HO
noncomputable def upd (H : Hp) (a : Addr) (o : HO) : Hp := fun b => if b = a then some o else H b
theorem upd_same {H : Hp} {a : Addr} {o : HO} : upd H a o a = some o := by unfold upd; rw [if_pos rfl]
theorem upd_ne {H : Hp} {a b : Addr} {o : HO} (h : b ≠ a) : upd H a o b = H b := by unfold upd; rw [if_neg h]
theorem upd_upd {H : Hp} {a : Addr} {o u : HO} : upd (upd H a o) a u = upd H a u := by
 funext b; unfold upd; split <;> rfl
theorem ne_of {H : Hp} {a b : Addr} {o u : HO} (h : H a = some o) (h' : H b = some u) (d : o ≠ u) : a ≠ b := by
 intro e; subst e; rw [h] at h'; exact d (Option.some.inj h')
theorem ne_of_none {H : Hp} {a b : Addr} {o : HO} (h : H a = some o) (h' : H b = none) : a ≠ b := by
 intro e; subst e; rw [h] at h'; cases h'
section
variable (P : Program) (w : World)
noncomputable def ObjOk (H : Hp) (h : Heap) (a : Addr) : HO → Prop
 | .lst xs => xs.length ≤ sizeLine ∧ ∃ (its : List Value) (n : Nat), Vals xs its ∧ h.get? a = some { cls := .type "list", data := .seq its.toArray n }
 | .tup xs => xs.length ≤ sizeLine ∧ ∃ its : List Value, Vals xs its ∧ IsTup h a its.toArray
 | .dK kvs => kvs.length ≤ sizeLine ∧ (a == sysModules) = false ∧ ∃ vs, KV kvs vs ∧ h.DictOf (mixKind P w) a vs
 | .dT kvs => kvs.length ≤ sizeLine ∧ (a == sysModules) = false ∧ ∃ xs : List (List Key × Addr × Value),
   Paired (fun (p : List Key × V) (q : List Key × Addr × Value) => p.1 = q.1 ∧ H q.2.1 = some (.tup (p.1.map kV)) ∧ RelV p.2 q.2.2) kvs xs ∧
   ∃ o es ep, h.get? a = some o ∧ o.ExactDict ∧ o.data = .dict es ep ∧ es.toList = xs.map (entryOfKey (tupleKind (mixKind P w))) ∧ (xs.map (·.1)).Nodup
 | .set S n => h.SetOf (intKind P w) a S n
 | .ins C dx fs => H dx = some (.own a) ∧ fs.length ≤ 1000 ∧ dx ≠ a ∧ h.get? a = some (PySem.W.instObj C dx) ∧
   ∃ mA, h.Ns1 dx mA ∧ (∀ f, RelO (fs.lookup f) (mA f)) ∧ PySem.Within mA (fs.map (·.1))
 | .own _ => ∃ o, h.get? a = some o
 | .xd fs => ∃ mA, h.Ns1 a mA ∧ ∀ f, RelO (fs.lookup f) (mA f)
 | .rng lo hi => ∃ t u v, h.get? a = some { cls := .type "range", data := .fields #[.int lo t, .int hi u, .int 1 v] }
 | .frz o u => h.get? a = some o ∧ ObjOk H h a u
 | .tbl ps => h.get? a = some { cls := .none, data := .fields ps }
 | .met f x => h.get? a = some (PySem.W.methodObj (.ref f) (.ref x))
 | .ext φ => φ h ∧ (∃ o, h.get? a = some o) ∧ ∀ h1 h2 : Heap, φ h1 → (∀ o, h1.get? a = some o → h2.get? a = some o) → φ h2
noncomputable def HOk (H : Hp) (h : Heap) : Prop := ∀ a o, H a = some o → ObjOk P w H h a o
end
section
variable {P : Program} {w : World} {H H' : Hp} {h h' : Heap} {a : Addr} {o : HO}
theorem ObjOk.lt (x : ObjOk P w H h a o) : a < h.objs.size := by
 cases o with
 | lst xs => obtain ⟨_, _, _, _, e⟩ := x; exact Heap.lt_size e
 | tup xs => obtain ⟨_, _, _, p⟩ := x; exact p.lt
 | dK kvs => obtain ⟨_, _, _, _, o, _, _, e, _⟩ := x; exact Heap.lt_size e
 | dT kvs => obtain ⟨_, _, _, _, o, _, _, e, _⟩ := x; exact Heap.lt_size e
 | set S n => obtain ⟨o, _, _, _, e, _⟩ := x; exact Heap.lt_size e
 | ins C dx fs => obtain ⟨_, _, _, e, _⟩ := x; exact Heap.lt_size e
 | own y => obtain ⟨_, e⟩ := x; exact Heap.lt_size e
 | xd fs => obtain ⟨_, ⟨_, _, _, e, _⟩, _⟩ := x; exact Heap.lt_size e
 | rng lo hi => obtain ⟨_, _, _, e⟩ := x; exact Heap.lt_size e
 | frz ob u => obtain ⟨e, _⟩ := x; exact Heap.lt_size e
 | tbl ps => exact Heap.lt_size (show h.get? a = some _ from x)
 | met f y => exact Heap.lt_size (show h.get? a = some _ from x)
 | ext φ => obtain ⟨_, ⟨_, e⟩, _⟩ := x; exact Heap.lt_size e
theorem Paired.mapP {α β : Type} {F G : α → β → Prop} : ∀ {l₁ : List α} {l₂ : List β}, Paired F l₁ l₂ → (∀ a b, F a b → G a b) → Paired G l₁ l₂
 | _, _, .nil, _ => .nil
 | _, _, .cons r t, f => .cons (f _ _ r) (Paired.mapP t f)
theorem ObjOk.stay (x : ObjOk P w H h a o) (k : ∀ b u, (b = a ∨ H b = some (.own a)) → h.get? b = some u → h'.get? b = some u)
  (ho : ∀ b, H b = some (.own a) → H' b = some (.own a)) (ht : ∀ b xs, H b = some (.tup xs) → H' b = some (.tup xs)) : ObjOk P w H' h' a o := by
 induction o with
 | lst xs => obtain ⟨z, its, n, r, e⟩ := x; exact ⟨z, its, n, r, k _ _ (.inl rfl) e⟩
 | tup xs => obtain ⟨z, its, r, ob, e, c⟩ := x; exact ⟨z, its, r, ob, k _ _ (.inl rfl) e, c⟩
 | dK kvs => obtain ⟨z, y, vs, r, ob, es, ep, e, c⟩ := x; exact ⟨z, y, vs, r, ob, es, ep, k _ _ (.inl rfl) e, c⟩
 | dT kvs =>
  obtain ⟨z, y, xs, r, ob, es, ep, e, c⟩ := x
  exact ⟨z, y, xs, Paired.mapP r fun p q z => ⟨z.1, ht _ _ z.2.1, z.2.2⟩, ob, es, ep, k _ _ (.inl rfl) e, c⟩
 | set S n => obtain ⟨ob, es, ep, t, e, c⟩ := x; exact ⟨ob, es, ep, t, k _ _ (.inl rfl) e, c⟩
 | ins C dx fs =>
  obtain ⟨d, z, ne, e, mA, ⟨od, es, ep, e2, c⟩, r⟩ := x
  exact ⟨ho _ d, z, ne, k _ _ (.inl rfl) e, mA, ⟨od, es, ep, k _ _ (.inr d) e2, c⟩, r⟩
 | own y => obtain ⟨ob, e⟩ := x; exact ⟨ob, k _ _ (.inl rfl) e⟩
 | xd fs => obtain ⟨mA, ⟨od, es, ep, e, c⟩, r⟩ := x; exact ⟨mA, ⟨od, es, ep, k _ _ (.inl rfl) e, c⟩, r⟩
 | rng lo hi => obtain ⟨t, u, v, e⟩ := x; exact ⟨t, u, v, k _ _ (.inl rfl) e⟩
 | frz ob u ih => obtain ⟨e, q⟩ := x; exact ⟨k _ _ (.inl rfl) e, ih q⟩
 | tbl ps =>
  have e : h.get? a = some { cls := .none, data := .fields ps } := x
  show h'.get? a = some { cls := .none, data := .fields ps }
  exact k a _ (.inl rfl) e
 | met f y =>
  have e : h.get? a = some (PySem.W.methodObj (.ref f) (.ref y)) := x
  show h'.get? a = some (PySem.W.methodObj (.ref f) (.ref y))
  exact k a _ (.inl rfl) e
 | ext φ => obtain ⟨p, ⟨o, e⟩, st⟩ := x; exact ⟨st _ _ p fun o q => k _ _ (.inl rfl) q, ⟨o, k _ _ (.inl rfl) e⟩, st⟩
theorem HOk.lt (x : HOk P w H h) (e : H a = some o) : a < h.objs.size := (x a o e).lt
theorem HOk.fresh (x : HOk P w H h) (e : h.objs.size ≤ a) : H a = none := by
 cases q : H a with
 | none => rfl
 | some u => exact absurd (Nat.lt_of_lt_of_le (x.lt q) e) (Nat.lt_irrefl _)
theorem HOk.kept (x : HOk P w H h) (k : ∀ b u, h.get? b = some u → h'.get? b = some u) : HOk P w H h' := fun a o e =>
 (x a o e).stay (fun b u _ q => k b u q) (fun _ q => q) fun _ _ q => q
theorem HOk.laid (x : HOk P w H h) (k : ∀ b u, h.get? b = some u → h'.get? b = some u) (hp : h.objs.size ≤ a) (new : ObjOk P w (upd H a o) h' a o) : HOk P w (upd H a o) h' := fun b u e => by
 have hn := x.fresh hp
 by_cases hb : b = a
 ·subst hb; rw [upd_same] at e; cases e; exact new
 ·rw [upd_ne hb] at e
  exact (x b u e).stay (fun c v _ q => k c v q) (fun c q => by rw [upd_ne (ne_of_none q hn)]; exact q) fun c xs q => by rw [upd_ne (ne_of_none q hn)]; exact q
end
noncomputable def Rd (H : Hp) (a : Addr) (u : HO) : Prop := H a = some u ∨ ∃ o, H a = some (.frz o u)
theorem Rd.of {H : Hp} {a : Addr} {u : HO} (h : H a = some u) : Rd H a u := .inl h
theorem Rd.ok {P : Program} {w : World} {H : Hp} {h : Heap} {a : Addr} {u : HO} (r : Rd H a u) (x : HOk P w H h) : ObjOk P w H h a u := by
 rcases r with r | ⟨o, r⟩
 ·exact x a u r
 ·obtain ⟨_, q⟩ := x a _ r
  exact q
noncomputable def Mut : Option HO → Prop
 | some (.lst _) => True
 | some (.dK _) => True
 | some (.dT _) => True
 | some (.set _ _) => True
 | some (.ins _ _ _) => True
 | some (.ext _) => True
 | _ => False
section
variable {P : Program} {w : World} {H : Hp} {h h' : Heap} {x e : Addr} {o' : HO}
theorem HOk.write (ok : HOk P w H h) (mu : Mut (H x)) (he : e = x ∨ H e = some (.own x)) (k : ∀ b u, b ≠ e → h.get? b = some u → h'.get? b = some u) (heo : ∃ u, h'.get? e = some u)
  (new : ObjOk P w (upd H x o') h' x o') : HOk P w (upd H x o') h' := fun b u q => by
 have nown : ∀ c y, H c = some (.own y) → c ≠ x := fun c y r z => by subst z; rw [r] at mu; exact mu
 have ntup : ∀ c xs, H c = some (.tup xs) → c ≠ x := fun c xs r z => by subst z; rw [r] at mu; exact mu
 by_cases hb : b = x
 ·subst hb; rw [upd_same] at q; cases q; exact new
 ·rw [upd_ne hb] at q
  by_cases hbe : b = e
  ·have q' : H b = some (.own x) := by
    rcases he with z | z
    ·exact absurd (hbe.trans z) hb
    ·rw [hbe]; exact z
   rw [q] at q'; cases q'
   obtain ⟨v, hv⟩ := heo
   exact ⟨v, by rw [hbe]; exact hv⟩
  ·refine (ok b u q).stay (fun c v hc r => k c v ?_ r) (fun c r => by rw [upd_ne (nown c b r)]; exact r) fun c xs r => by rw [upd_ne (ntup c xs r)]; exact r
   rcases hc with rfl | hc
   ·exact hbe
   ·rintro rfl
    rcases he with z | z
    ·exact nown c b hc z
    ·rw [hc] at z; cases z; exact hb rfl
end
structure Un (fs ex : List Addr) (H H' : Hp) (h h' : Heap) : Prop where
 keep : ∀ b o, h.get? b = some o → H b = none → b ∉ fs → b ∉ ex → h'.get? b = some o
 slot : ∀ b o, h.get? b = some o → H b = none → b ∈ fs → b ∉ ex → ∃ sl, h'.get? b = some { o with slots := sl }
 free : ∀ b o, h.get? b = some o → H b = none → b ∉ ex → H' b = none
 there : ∀ b o, h.get? b = some o → b ∉ ex → ∃ o', h'.get? b = some o'
 tups : ∀ b xs, H b = some (.tup xs) → H' b = some (.tup xs)
 frzs : ∀ b o u, H b = some (.frz o u) → H' b = some (.frz o u)
 tbls : ∀ b ps, H b = some (.tbl ps) → ∃ more, H' b = some (.tbl (ps ++ more))
section
variable {fs fs' ex ex' : List Addr} {H H1 H2 : Hp} {h h1 h2 h' : Heap} {a x e : Addr} {o : HO}
theorem Un.any (u : Un fs ex H H1 h h1) {b : Addr} {ob : Obj} (q : h.get? b = some ob) (n : H b = none) (hx : b ∉ ex) : ∃ sl, h1.get? b = some { ob with slots := sl } := by
 by_cases hb : b ∈ fs
 ·exact u.slot b ob q n hb hx
 ·exact ⟨ob.slots, u.keep b ob q n hb hx⟩
theorem Un.trans (a : Un fs ex H H1 h h1) (b : Un fs ex H1 H2 h1 h2) : Un fs ex H H2 h h2 where
 keep := fun c ob q n hc hx => b.keep c ob (a.keep c ob q n hc hx) (a.free c ob q n hx) hc hx
 slot := fun c ob q n hc hx => by
  obtain ⟨sl, e1⟩ := a.slot c ob q n hc hx
  obtain ⟨sl', e2⟩ := b.slot c _ e1 (a.free c ob q n hx) hc hx
  exact ⟨sl', e2⟩
 free := fun c ob q n hx => by
  obtain ⟨o', e1⟩ := a.there c ob q hx
  exact b.free c o' e1 (a.free c ob q n hx) hx
 there := fun c ob q hx => by
  obtain ⟨o', e1⟩ := a.there c ob q hx
  exact b.there c o' e1 hx
 tups := fun c xs q => b.tups c xs (a.tups c xs q)
 frzs := fun c ob xs q => b.frzs c ob xs (a.frzs c ob xs q)
 tbls := fun c ps q => by
  obtain ⟨m1, e1⟩ := a.tbls c ps q
  obtain ⟨m2, e2⟩ := b.tbls c _ e1
  exact ⟨m1 ++ m2, by rw [e2, Array.append_assoc]⟩
theorem Un.kept (k : ∀ b u, h.get? b = some u → h'.get? b = some u) : Un fs ex H H h h' :=
 ⟨fun b ob q _ _ _ => k b ob q, fun b ob q _ _ _ => ⟨ob.slots, k b ob q⟩, fun _ _ _ n _ => n, fun b ob q _ => ⟨ob, k b ob q⟩, fun _ _ q => q, fun _ _ _ q => q, fun _ ps q => ⟨#[], by rw [q]; simp⟩⟩
theorem Un.refl : Un fs ex H H h h := Un.kept fun _ _ q => q
theorem Un.laid (k : ∀ b u, h.get? b = some u → h'.get? b = some u) (hp : h.objs.size ≤ a) (hn : H a = none) : Un fs ex H (upd H a o) h h' where
 keep := fun b u q _ _ _ => k b u q
 slot := fun b u q _ _ _ => ⟨u.slots, k b u q⟩
 free := fun b u q n _ => by rw [upd_ne (Nat.ne_of_lt (Nat.lt_of_lt_of_le (Heap.lt_size q) hp))]; exact n
 there := fun b u q _ => ⟨u, k b u q⟩
 tups := fun b xs q => by rw [upd_ne (ne_of_none q hn)]; exact q
 frzs := fun b u xs q => by rw [upd_ne (ne_of_none q hn)]; exact q
 tbls := fun b ps q => ⟨#[], by rw [upd_ne (ne_of_none q hn), q]; simp⟩
theorem Un.write (mu : Mut (H x)) (he : e = x ∨ H e = some (.own x)) (k : ∀ b u, b ≠ e → h.get? b = some u → h'.get? b = some u) (heo : ∃ u, h'.get? e = some u) : Un fs ex H (upd H x o) h h' := by
 have hx : ∀ b, H b = none → b ≠ x := fun b n z => by subst z; rw [n] at mu; exact mu
 have hb : ∀ b, H b = none → b ≠ e := fun b n z => by
  subst z
  rcases he with r | r
  ·exact hx b n r
  ·rw [n] at r; cases r
 have hm : ∀ b u, H b = some u → ¬ Mut (some u) → b ≠ x := fun b u q nm z => by subst z; rw [q] at mu; exact nm mu
 refine ⟨fun b u q n _ _ => k b u (hb b n) q, fun b u q n _ _ => ⟨u.slots, k b u (hb b n) q⟩, fun b u q n _ => by rw [upd_ne (hx b n)]; exact n, fun b u q _ => ?_,
  fun b xs q => by rw [upd_ne (hm b _ q fun z => z)]; exact q, fun b u xs q => by rw [upd_ne (hm b _ q fun z => z)]; exact q, fun b ps q => ⟨#[], by rw [upd_ne (hm b _ q fun z => z), q]; simp⟩⟩
 by_cases hbe : b = e
 ·subst hbe; exact heo
 ·exact ⟨u, k b u hbe q⟩
theorem Un.mono (u : Un fs ex H H1 h h1) (hs : ∀ b ∈ fs, b ∈ fs') (hx : ∀ b ∈ ex, b ∈ ex') : Un fs' ex' H H1 h h1 :=
 ⟨fun b ob q n hb he => u.keep b ob q n (fun z => hb (hs b z)) fun z => he (hx b z), fun _ _ q n _ he => u.any q n fun z => he (hx _ z), fun b ob q n he => u.free b ob q n fun z => he (hx b z), fun b ob q he => u.there b ob q fun z => he (hx b z), u.tups, u.frzs, u.tbls⟩
end
noncomputable def trk (h : Heap) (H : Hp) : List Addr := (List.range h.objs.size).filter fun a => (H a).isSome
noncomputable def hidT (h : Heap) (H : Hp) : Heap := PySem.W.hideAll h (trk h H)
theorem hidT_size (h : Heap) (H : Hp) : (hidT h H).objs.size = h.objs.size := PySem.W.hideAll_size _ _
theorem hidT_get {h : Heap} {H : Hp} {b : Addr} {o : Obj} (e : h.get? b = some o) (n : H b = none) : (hidT h H).get? b = some o :=
 PySem.W.hideAll_get _ e fun hm => by
  have q : (H b).isSome = true := (List.mem_filter.mp hm).2
  rw [n] at q; simp at q
theorem of_hidT {h : Heap} {H : Hp} {b : Addr} {o : Obj} (e : (hidT h H).get? b = some o) : h.get? b = some o ∧ H b = none := by
 have e' : h.get? b = some o := PySem.W.of_hideAll (trk h H) e
 refine ⟨e', ?_⟩
 cases q : H b with
 | none => rfl
 | some x =>
  have hm : b ∈ trk h H := List.mem_filter.mpr ⟨List.mem_range.mpr (Heap.lt_size e'), by simp [q]⟩
  have z : (hidT h H).get? b = none := PySem.W.hideAll_none (trk h H) hm
  rw [z] at e; cases e
noncomputable def allNews (g h : Heap) (L : Addr) : List (Addr × Obj) := (List.range h.objs.size).filterMap fun a => if a = L ∨ (g.get? a).isSome = true then none else (h.get? a).map fun o => (a, o)
theorem mem_allNews {g h : Heap} {L a : Addr} {o : Obj} (h1 : a ≠ L) (h2 : g.get? a = none) (h3 : h.get? a = some o) : (a, o) ∈ allNews g h L :=
 List.mem_filterMap.mpr ⟨a, List.mem_range.mpr (Heap.lt_size h3), by simp [h1, h2, h3]⟩
theorem of_mem_allNews {g h : Heap} {L : Addr} {p : Addr × Obj} (hp : p ∈ allNews g h L) : p.1 ≠ L ∧ g.get? p.1 = none ∧ h.get? p.1 = some p.2 := by
 obtain ⟨b, _, e⟩ := List.mem_filterMap.mp hp
 split at e
 ·cases e
 ·rename_i hn
  cases q : h.get? b with
  | none => rw [q] at e; simp at e
  | some u =>
   rw [q] at e
   simp only [zzE, Option.some.injEq] at e
   subst e
   refine ⟨fun z => hn (.inl z), ?_, q⟩
   show g.get? b = none
   cases r : g.get? b with
   | none => rfl
   | some v => exact (hn (.inr (by simp [r]))).elim
noncomputable def rest (g h : Heap) (L d : Addr) : List (Addr × Obj) := (allNews g h L).filter fun p => decide (p.1 ≠ d)
theorem news_all {g h : Heap} {L : Addr} : News g L h (allNews g h L) := fun p hp => let ⟨a, b, c⟩ := of_mem_allNews hp; ⟨c, a, b⟩
end L2
namespace L2
open PySem PySem.Spec PyProof.Rows
structure Mod (K : PySem.W.Frag) (mg : Str → Option Value) (base : Heap) : Prop where
 kin : K.In base
 glob : base.Ns mainGlobals mg
 blt : ∃ mb, base.Ns builtinsNs mb ∧ ∀ x : Str, x ≠ "__name__" → mb x = bootBuiltins x
 nolimit : base.NoLimit
structure Cx where
 prog : Program
 w : World
 K : PySem.W.Frag
 mg : Str → Option Value
 base : Heap
 A : Around
 N : List Str
 s₀ : Shared
 H₀ : Hp
 env : Env
 outer : List Env
 stack : List Env
 ex : List Addr
 fn : Str → Bool
 calm : Bool
 pn : List (Addr × Obj)
 xe : Value → Shared → Prop
noncomputable def frs (l : List Env) : List Addr := l.filterMap (·.frame)
noncomputable abbrev Cx.fs (X : Cx) : List Addr := frs X.outer
noncomputable def Vis (sc : Scope) (x : Str) : Prop := sc.names.lookup x = some .local ∨ sc.names.lookup x = some .cell ∨ sc.names.lookup x = some .free
noncomputable def Loc (sc : Scope) (x : Str) : Prop := sc.names.lookup x = some .local ∨ sc.names.lookup x = some .cell
noncomputable def Look (env : Env) (h : Heap) (m : Str → Option Value) (x : Str) (u : Value) : Prop :=
 (env.kindOf x = some .local ∧ m x = some u) ∨ ((env.kindOf x = some .cell ∨ env.kindOf x = some .free) ∧ ∃ c, env.cells.lookup x = some c ∧ h.IsCell c (some u))
structure Cx.Ok (X : Cx) : Prop where
 mod : Mod X.K X.mg X.base
 kind : X.env.scope.kind = .function
 glob : X.env.globals = mainGlobals
 blt : X.env.builtins = builtinsNs
 above : X.s₀.heap.objs.size ≤ X.env.locals
 inj : ∀ x y c, X.env.cells.lookup x = some c → X.env.cells.lookup y = some c → x = y
 has : ∀ x, (X.env.kindOf x = some .cell ∨ X.env.kindOf x = some .free) → ∃ c, X.env.cells.lookup x = some c
 cab : ∀ x c, X.fn x = true → X.env.cells.lookup x = some c → X.s₀.heap.objs.size ≤ c
 hd : X.calm = true → X.A.handled = none
 frames : X.A.frames = some X.stack
 stk : X.stack = X.outer ∨ (X.stack = X.env :: X.outer ∧ X.env.frame = some X.env.locals)
 exf : ∀ b ∈ X.ex, b ≠ X.env.locals ∧ ∀ x c, X.env.cells.lookup x = some c → c ≠ b
 bs : ∀ b o, X.base.get? b = some o → X.s₀.heap.get? b = some o ∧ X.H₀ b = none
 bsz : X.base.objs.size ≤ X.s₀.heap.objs.size
 noex : ∀ b o, X.base.get? b = some o → b ∉ X.ex
 exfs : ∀ b ∈ X.ex, b ∉ X.fs
 funs : X.s₀.heap.FunFrames X.base X.outer
 frf : ∀ b ∈ X.fs, X.H₀ b = none
structure Inv (X : Cx) (pins : List (Addr × Obj)) (σ : List (Option V)) (H : Hp) (s : Shared) : Prop where
 ok : X.Ok
 os : s.os = X.s₀.os
 bare : AllBare s.gens
 base : Un X.fs X.ex X.H₀ H X.s₀.heap s.heap
 loc : ∃ m, s.heap.Ns X.env.locals m ∧ ∀ (i : Nat) (x : Str) (v : V), X.N[i]? = some x → σ[i]? = some (some v) → Vis X.env.scope x → ∃ u, RelV v u ∧ Look X.env s.heap m x u
 cell : ∀ x c, X.env.cells.lookup x = some c → ∃ v, s.heap.IsCell c v
 free : H X.env.locals = none
 freeC : ∀ x c, X.env.cells.lookup x = some c → H c = none
 pin : ∀ p ∈ X.pn ++ pins, s.heap.get? p.1 = some p.2 ∧ H p.1 = none ∧ p.1 ≠ X.env.locals ∧ p.1 ∉ X.fs ∧ ∀ v, p.2.data ≠ .cell v
 hok : HOk X.prog X.w H s.heap
 len : σ.length = X.N.length
section
variable {X : Cx} {pins : List (Addr × Obj)} {σ : List (Option V)} {H H' : Hp} {s : Shared} {h' : Heap}
theorem Cx.Ok.nofr (ok : X.Ok) {b : Addr} {o : Obj} (e : X.base.get? b = some o) : b ∉ X.fs := fun hb => by
 have := (ok.funs.mem hb).1
 rw [e] at this; cases this
theorem Inv.bs (I : Inv X pins σ H s) : ∀ b o, X.base.get? b = some o → s.heap.get? b = some o ∧ H b = none := fun b o e =>
 ⟨I.base.keep b o (I.ok.bs b o e).1 (I.ok.bs b o e).2 (I.ok.nofr e) (I.ok.noex b o e), I.base.free b o (I.ok.bs b o e).1 (I.ok.bs b o e).2 (I.ok.noex b o e)⟩
theorem Inv.bk (I : Inv X pins σ H s) : ∀ b o, X.base.get? b = some o → s.heap.get? b = some o := fun b o e => (I.bs b o e).1
theorem Inv.mod (I : Inv X pins σ H s) : Mod X.K X.mg X.base := I.ok.mod
theorem Inv.kIn (I : Inv X pins σ H s) : X.K.In s.heap := I.ok.mod.kin.keeps I.bk
theorem Inv.nolimit (I : Inv X pins σ H s) : s.heap.NoLimit := I.ok.mod.nolimit.keeps I.bk
theorem Inv.fr (I : Inv X pins σ H s) : ∃ m, Fr X.base X.env.locals s.heap m :=
 let ⟨m, hn, _⟩ := I.loc
 ⟨m, hn, I.bk, Nat.le_trans I.ok.bsz I.ok.above⟩
theorem Inv.lt (I : Inv X pins σ H s) : X.env.locals < s.heap.objs.size := let ⟨_, hn, _⟩ := I.loc; hn.lt
theorem Inv.sz (I : Inv X pins σ H s) : X.s₀.heap.objs.size ≤ s.heap.objs.size := Nat.le_trans I.ok.above (Nat.le_of_lt I.lt)
theorem Inv.nofs (I : Inv X pins σ H s) {a : Addr} (h : s.heap.objs.size ≤ a) : a ∉ X.fs := fun hb => by
 obtain ⟨_, o, ho, _⟩ := I.ok.funs.mem hb
 exact absurd (Nat.lt_of_lt_of_le (Heap.lt_size ho) (Nat.le_trans I.sz h)) (Nat.lt_irrefl _)
theorem Inv.cne (I : Inv X pins σ H s) : ∀ x c, X.env.cells.lookup x = some c → c ≠ X.env.locals := fun x c e z => by
 obtain ⟨v, o, ho, hd⟩ := I.cell x c e
 obtain ⟨m, ⟨o', es, ep, ho', hd', _⟩, _⟩ := I.loc
 rw [z, ho'] at ho; cases ho; rw [hd'] at hd; cases hd
theorem Inv.funs (I : Inv X pins σ H s) : s.heap.FunFrames X.base X.outer := by
 have all : ∀ (l : List Env), (∀ b ∈ frs l, b ∈ X.fs) → X.s₀.heap.FunFrames X.base l → s.heap.FunFrames X.base l := by
  intro l
  induction l with
  | nil => intro _ _; trivial
  | cons env r ih =>
   intro hs hl
   obtain ⟨hk, ⟨L, o, hf, hn, ho, hd⟩, hr⟩ := hl
   have hL : L ∈ X.fs := hs L (by unfold frs; rw [List.filterMap_cons, hf]; exact List.mem_cons_self)
   obtain ⟨sl, e⟩ := I.base.slot L o ho (I.ok.frf L hL) hL fun z => I.ok.exfs L z hL
   exact ⟨hk, ⟨L, _, hf, hn, e, hd⟩, ih (fun b hb => hs b (by unfold frs; rw [List.filterMap_cons, hf]; exact List.mem_cons_of_mem _ hb)) hr⟩
 exact all X.outer (fun _ hb => hb) I.ok.funs
theorem Inv.stack (I : Inv X pins σ H s) : s.heap.FunFrames X.base X.stack := by
 rcases I.ok.stk with e | ⟨e, hf⟩
 ·rw [e]; exact I.funs
 ·rw [e]
  obtain ⟨m, hn, _⟩ := I.loc
  refine .cons (by rw [I.ok.kind]; decide) hf hn ?_ I.funs
  exact Heap.get?_none_of_le (Nat.le_trans I.ok.bsz I.ok.above)
theorem Inv.stkSub (I : Inv X pins σ H s) : ∀ b ∈ frs X.stack, b ∈ X.env.locals :: X.fs := fun b hb => by
 rcases I.ok.stk with e | ⟨e, hf⟩
 ·rw [e] at hb; exact List.mem_cons_of_mem _ hb
 ·rw [e] at hb
  unfold frs at hb
  rw [List.filterMap_cons, hf] at hb
  exact hb
theorem Inv.stkFree (I : Inv X pins σ H s) : ∀ b ∈ frs X.stack, H b = none := fun b hb => by
 rcases List.mem_cons.mp (I.stkSub b hb) with e | hb
 ·rw [e]; exact I.free
 ·obtain ⟨_, o, ho, _⟩ := I.ok.funs.mem hb
  exact I.base.free b o ho (I.ok.frf b hb) fun z => I.ok.exfs b z hb
theorem Inv.step {g' : Array GenState} {t' : Nat} {d' : Drawn} {ch : List Addr} (I : Inv X pins σ H s)
  (hch : ∀ b ∈ ch, (b ∈ X.ex ∨ X.s₀.heap.objs.size ≤ b) ∧ b ≠ X.env.locals ∧ (∀ x c, X.env.cells.lookup x = some c → c ≠ b) ∧ ∀ p ∈ X.pn ++ pins, p.1 ≠ b)
  (keep : ∀ b o, b ≠ X.env.locals → b ∉ X.fs → b ∉ ch → s.heap.get? b = some o → H b = none → h'.get? b = some o)
  (slot : ∀ b o, b ≠ X.env.locals → b ∈ X.fs → b ∉ ch → s.heap.get? b = some o → H b = none → ∃ sl, h'.get? b = some { o with slots := sl }) (free : ∀ b o, b ∉ ch → s.heap.get? b = some o → H b = none → H' b = none)
  (there : ∀ b o, b ∉ ch → s.heap.get? b = some o → ∃ o', h'.get? b = some o')
  (tups : ∀ b xs, H b = some (.tup xs) → H' b = some (.tup xs)) (frzs : ∀ b o u, H b = some (.frz o u) → H' b = some (.frz o u)) (tbls : ∀ b ps, H b = some (.tbl ps) → ∃ more, H' b = some (.tbl (ps ++ more)))
  (ns : ∀ m, s.heap.Ns X.env.locals m → h'.Ns X.env.locals m) (hok : HOk X.prog X.w H' h') (hg : AllBare g') :
  Inv X pins σ H' { s with heap := h', gens := g', drawn := d', toks := t' } := by
 have neL : ∀ b o, X.s₀.heap.get? b = some o → b ≠ X.env.locals := fun b o e => Nat.ne_of_lt (Nat.lt_of_lt_of_le (Heap.lt_size e) I.ok.above)
 have neC : ∀ b o, X.s₀.heap.get? b = some o → b ∉ X.ex → b ∉ ch := fun b o e hx hb => by
  rcases (hch b hb).1 with z | z
  ·exact hx z
  ·exact absurd (Nat.lt_of_lt_of_le (Heap.lt_size e) z) (Nat.lt_irrefl _)
 have cellK : ∀ x c, X.env.cells.lookup x = some c → ∀ v, s.heap.IsCell c v → h'.IsCell c v := fun x c e v ⟨o, ho, hd⟩ => by
  have nch : c ∉ ch := fun z => (hch c z).2.2.1 x c e rfl
  by_cases hc : c ∈ X.fs
  ·obtain ⟨sl, q⟩ := slot c o (I.cne x c e) hc nch ho (I.freeC x c e)
   exact ⟨_, q, hd⟩
  ·exact ⟨o, keep c o (I.cne x c e) hc nch ho (I.freeC x c e), hd⟩
 refine ⟨I.ok, I.os, hg, ⟨fun b o e n hb hx => ?_, fun b o e n hb hx => ?_, fun b o e n hx => ?_, fun b o e hx => ?_, fun b xs e => tups b xs (I.base.tups b xs e), fun b o xs e => frzs b o xs (I.base.frzs b o xs e), fun b ps e => ?_⟩, ?_, fun x c e => ?_, ?_, fun x c e => ?_, fun p hp => ?_, hok, I.len⟩
 ·exact keep b o (neL b o e) hb (neC b o e hx) (I.base.keep b o e n hb hx) (I.base.free b o e n hx)
 ·obtain ⟨sl, e1⟩ := I.base.slot b o e n hb hx
  obtain ⟨sl', e2⟩ := slot b _ (neL b o e) hb (neC b o e hx) e1 (I.base.free b o e n hx)
  exact ⟨sl', e2⟩
 ·obtain ⟨o', e1⟩ := I.base.there b o e hx
  exact free b o' (neC b o e hx) e1 (I.base.free b o e n hx)
 ·obtain ⟨o', e1⟩ := I.base.there b o e hx
  exact there b o' (neC b o e hx) e1
 ·obtain ⟨m1, e1⟩ := I.base.tbls b ps e
  obtain ⟨m2, e2⟩ := tbls b _ e1
  exact ⟨m1 ++ m2, by rw [e2, Array.append_assoc]⟩
 ·obtain ⟨m, hn, hl⟩ := I.loc
  refine ⟨m, ns m hn, fun i x v e1 e2 e3 => ?_⟩
  obtain ⟨u, r, l⟩ := hl i x v e1 e2 e3
  refine ⟨u, r, ?_⟩
  rcases l with l | ⟨k, c, e, z⟩
  ·exact .inl l
  ·exact .inr ⟨k, c, e, cellK x c e _ z⟩
 ·obtain ⟨v, z⟩ := I.cell x c e
  exact ⟨v, cellK x c e v z⟩
 ·obtain ⟨m, ⟨o, _, _, ho, _⟩, _⟩ := I.loc
  exact free _ o (fun z => (hch _ z).2.1 rfl) ho I.free
 ·obtain ⟨v, o, ho, hd⟩ := I.cell x c e
  exact free c o (fun z => (hch c z).2.2.1 x c e rfl) ho (I.freeC x c e)
 ·obtain ⟨e, n, ne, nf, d⟩ := I.pin p hp
  have nch : p.1 ∉ ch := fun z => (hch p.1 z).2.2.2 p hp rfl
  exact ⟨keep p.1 p.2 ne nf nch e n, free p.1 p.2 nch e n, ne, nf, d⟩
theorem Inv.un {t' : Nat} (I : Inv X pins σ H s) (u : Un X.fs [] H H' s.heap h') (hok : HOk X.prog X.w H' h') : Inv X pins σ H' { s with heap := h', toks := t' } := by
 obtain ⟨m, ⟨o, es, ep, ho, r⟩, _⟩ := id I.loc
 obtain ⟨sl, hL⟩ := u.any ho I.free (by simp)
 exact I.step (g' := s.gens) (d' := s.drawn) (ch := []) (fun _ z => nomatch z) (fun b o _ hb _ e n => u.keep b o e n hb (by simp)) (fun b o _ hb _ e n => u.slot b o e n hb (by simp)) (fun b o _ e n => u.free b o e n (by simp)) (fun b o _ e => u.there b o e (by simp)) u.tups u.frzs u.tbls (fun m' hm => by
  obtain ⟨o', es', ep', ho', r'⟩ := hm
  rw [ho] at ho'; cases ho'
  exact ⟨_, es', ep', hL, r'⟩) hok I.bare
theorem Inv.call {g' : Array GenState} {t' : Nat} {d' : Drawn} {ch : List Addr} (I : Inv X pins σ H s) (u : Un (frs X.stack) ch H H' s.heap h') (hok : HOk X.prog X.w H' h') (hg : AllBare g')
  (hch : ∀ b ∈ ch, (b ∈ X.ex ∨ X.s₀.heap.objs.size ≤ b) ∧ b ≠ X.env.locals ∧ (∀ x c, X.env.cells.lookup x = some c → c ≠ b) ∧ ∀ p ∈ X.pn ++ pins, p.1 ≠ b) :
  Inv X pins σ H' { s with heap := h', gens := g', drawn := d', toks := t' } := by
 obtain ⟨m, ⟨o, es, ep, ho, r⟩, _⟩ := id I.loc
 obtain ⟨sl, hL⟩ := u.any ho I.free fun z => (hch _ z).2.1 rfl
 exact I.step (ch := ch) hch (fun b o hL hb hc e n => u.keep b o e n (fun z => (List.mem_cons.mp (I.stkSub b z)).elim hL hb) hc) (fun b o _ _ hc e n => u.any e n hc) (fun b o hc e n => u.free b o e n hc) (fun b o hc e => u.there b o e hc) u.tups u.frzs u.tbls (fun m' hm => by
  obtain ⟨o', es', ep', ho', r'⟩ := hm
  rw [ho] at ho'; cases ho'
  exact ⟨_, es', ep', hL, r'⟩) hok hg
theorem Inv.turned {t' : Nat} {it : Addr} (I : Inv X pins σ H s) (k : ∀ b o, b ≠ it → s.heap.get? b = some o → h'.get? b = some o) (hn : H it = none) (hL : it ≠ X.env.locals)
  (h1 : it ∈ X.ex ∨ X.s₀.heap.objs.size ≤ it) (h2 : ∀ x c, X.env.cells.lookup x = some c → c ≠ it) (h3 : ∀ p ∈ X.pn ++ pins, p.1 ≠ it) : Inv X pins σ H { s with heap := h', toks := t' } := by
 have nit : ∀ b u, H b = some u → b ≠ it := fun b u e z => by rw [z, hn] at e; cases e
 refine I.step (g' := s.gens) (d' := s.drawn) (ch := [it]) (fun b hb => ?_) (fun b o _ _ hc e _ => k b o (fun z => hc (by simp [z])) e) (fun b o _ _ hc e _ => ⟨o.slots, k b o (fun z => hc (by simp [z])) e⟩) (fun _ _ _ _ n => n)
  (fun b o hc e => ⟨o, k b o (fun z => hc (by simp [z])) e⟩) (fun _ _ e => e) (fun _ _ _ e => e) (fun b ps e => ⟨#[], by rw [e]; simp⟩) (fun m hm => ?_) (fun b u e => ?_) I.bare
 ·have e : b = it := by simpa using hb
  subst e
  exact ⟨h1, hL, h2, h3⟩
 ·obtain ⟨o, es, ep, ho, r⟩ := hm
  exact ⟨o, es, ep, k _ o (Ne.symm hL) ho, r⟩
 ·refine (I.hok b u e).stay (fun c v hc q => k c v ?_ q) (fun _ q => q) fun _ _ q => q
  rcases hc with z | z
  ·rw [z]; exact nit b u e
  ·exact nit c _ z
theorem Inv.tok (I : Inv X pins σ H s) (t : Nat) : Inv X pins σ H { s with toks := t } := I.un (h' := s.heap) (t' := t) Un.refl I.hok
theorem Inv.kept {t' : Nat} (I : Inv X pins σ H s) (k : ∀ b u, s.heap.get? b = some u → h'.get? b = some u) : Inv X pins σ H { s with heap := h', toks := t' } := I.un (Un.kept k) (I.hok.kept k)
theorem Inv.laid {a : Addr} {o : HO} {t' : Nat} (I : Inv X pins σ H s) (k : ∀ b u, s.heap.get? b = some u → h'.get? b = some u) (hp : s.heap.objs.size ≤ a) (new : ObjOk X.prog X.w (upd H a o) h' a o) :
  Inv X pins σ (upd H a o) { s with heap := h', toks := t' } := I.un (Un.laid k hp (I.hok.fresh hp)) (I.hok.laid k hp new)
theorem Inv.write {x e : Addr} {o : HO} {t' : Nat} (I : Inv X pins σ H s) (mu : Mut (H x)) (he : e = x ∨ H e = some (.own x)) (k : ∀ b u, b ≠ e → s.heap.get? b = some u → h'.get? b = some u) (heo : ∃ u, h'.get? e = some u)
  (new : ObjOk X.prog X.w (upd H x o) h' x o) : Inv X pins σ (upd H x o) { s with heap := h', toks := t' } := I.un (Un.write mu he k heo) (I.hok.write mu he k heo new)
theorem Inv.pins_of {pins' : List (Addr × Obj)} (I : Inv X pins σ H s) (h : ∀ p ∈ pins', s.heap.get? p.1 = some p.2 ∧ H p.1 = none ∧ p.1 ≠ X.env.locals ∧ p.1 ∉ X.fs ∧ ∀ v, p.2.data ≠ .cell v) : Inv X pins' σ H s :=
 ⟨I.ok, I.os, I.bare, I.base, I.loc, I.cell, I.free, I.freeC, fun p hp => (List.mem_append.mp hp).elim (fun z => I.pin p (List.mem_append_left _ z)) (h p), I.hok, I.len⟩
theorem nodup_ix {N : List Str} (hN : N.Nodup) {i j : Nat} {x : Str} (a : N[i]? = some x) (b : N[j]? = some x) : i = j := by
 obtain ⟨h1, e1⟩ := List.getElem?_eq_some_iff.mp a
 obtain ⟨h2, e2⟩ := List.getElem?_eq_some_iff.mp b
 exact (List.getElem_inj hN).mp (e1.trans e2.symm)
theorem store_ok2 {M : Model} {A : Around} {E : Value → Shared → Prop} {i : Nat} {x : Str} {v : V} {u : Value} {Q : Unit → Shared → Prop} (I : Inv X pins σ H s) (hN : X.N.Nodup) (hi : X.N[i]? = some x) (hx : Loc X.env.scope x) (r : RelV v u)
  (h : ∀ s', Inv X pins (σ.set i (some v)) H s' → (∃ a, Heap.SameBut a s.heap s'.heap ∧ (a = X.env.locals ∨ X.env.cells.lookup x = some a)) → Q () s') (hf : X.fn x = true ∨ X.env.scope.names.lookup x = some .local := by first | exact .inl rfl | exact .inr rfl | assumption) : wpAny M A (storeName X.env x u) Q E s := by
 obtain ⟨m, hn, hl⟩ := id I.loc
 have hcls : (X.env.scope.kind == .class || (X.env.scope.kind == .module && X.env.locals != X.env.globals)) = false := by rw [I.ok.kind]; rfl
 have hiσ : i < σ.length := by rw [I.len]; exact (List.getElem?_eq_some_iff.mp hi).1
 have cne := I.cne
 have tracked : ∀ {a : Addr} {h' : Heap}, (∃ o, s.heap.get? a = some o ∧ H a = none) → Heap.SameBut a s.heap h' → HOk X.prog X.w H h' := fun {a h'} ha hs b ob e => by
  obtain ⟨_, _, hfree⟩ := ha
  refine (I.hok b ob e).stay (fun c w' hc q => (hs.2 c ?_).trans q) (fun _ q => q) fun _ _ q => q
  rintro rfl
  rcases hc with rfl | hc
  ·rw [hfree] at e; cases e
  ·rw [hfree] at hc; cases hc
 rcases hx with hk | hk
 ·refine wpAny_storeName_local hk hn (fun h' hn' hs => ?_) hcls
  obtain ⟨oL, _, _, hoL, _⟩ := id hn
  refine h _ ⟨I.ok, I.os, I.bare, ⟨fun b o e n hb hx => ?_, fun b o e n hb hx => ?_, I.base.free, fun b o e hx => ?_, I.base.tups, I.base.frzs, I.base.tbls⟩, ⟨_, hn', fun j y v' e1 e2 e3 => ?_⟩, fun y c e => ?_, I.free, I.freeC, fun p hp => ?_, tracked ⟨oL, hoL, I.free⟩ hs, by simpa using I.len⟩ ⟨_, hs, .inl rfl⟩
  ·exact (hs.2 b (Nat.ne_of_lt (Nat.lt_of_lt_of_le (Heap.lt_size e) I.ok.above))).trans (I.base.keep b o e n hb hx)
  ·obtain ⟨sl, e1⟩ := I.base.slot b o e n hb hx
   exact ⟨sl, (hs.2 b (Nat.ne_of_lt (Nat.lt_of_lt_of_le (Heap.lt_size e) I.ok.above))).trans e1⟩
  ·obtain ⟨o', e1⟩ := I.base.there b o e hx
   exact ⟨o', (hs.2 b (Nat.ne_of_lt (Nat.lt_of_lt_of_le (Heap.lt_size e) I.ok.above))).trans e1⟩
  ·by_cases hj : j = i
   ·subst hj
    rw [hi] at e1; cases e1
    rw [List.getElem?_set_self hiσ] at e2
    cases e2
    exact ⟨u, r, .inl ⟨hk, by simp⟩⟩
   ·rw [List.getElem?_set_ne (Ne.symm hj)] at e2
    obtain ⟨u', r', q⟩ := hl j y v' e1 e2 e3
    refine ⟨u', r', ?_⟩
    rcases q with ⟨k, e⟩ | ⟨k, c, e, z⟩
    ·refine .inl ⟨k, ?_⟩
     have : y ≠ x := fun e => hj (nodup_ix hN e1 (e ▸ hi))
     simp [this, e]
    ·exact .inr ⟨k, c, e, z.sameBut hs (cne y c e)⟩
  ·obtain ⟨w', z⟩ := I.cell y c e
   exact ⟨w', z.sameBut hs (cne y c e)⟩
  ·obtain ⟨e, n, ne, nf, d⟩ := I.pin p hp
   exact ⟨(hs.2 p.1 ne).trans e, n, ne, nf, d⟩
 ·have hfn : X.fn x = true := by
   rcases hf with z | z
   ·exact z
   ·rw [z] at hk; cases hk
  obtain ⟨c, hc⟩ := I.ok.has x (.inl hk)
  obtain ⟨w', z⟩ := I.cell x c hc
  refine wpAny_storeName_cell I.ok.kind hk hc z (fun h' hc' hs => ?_)
  obtain ⟨oc, hoc, hocd⟩ := id z
  refine h { s with heap := h' } ⟨I.ok, I.os, I.bare, ⟨fun b o e n hb hx => ?_, fun b o e n hb hx => ?_, I.base.free, fun b o e hx => ?_, I.base.tups, I.base.frzs, I.base.tbls⟩, ⟨m, hn.sameBut hs (Ne.symm (cne x c hc)), fun j y v' e1 e2 e3 => ?_⟩, fun y c' e => ?_, I.free, I.freeC, fun p hp => ?_, tracked ⟨oc, hoc, I.freeC x c hc⟩ hs, by simpa using I.len⟩ ⟨c, hs, .inr hc⟩
  ·exact (hs.2 b (Nat.ne_of_lt (Nat.lt_of_lt_of_le (Heap.lt_size e) (I.ok.cab x c hfn hc)))).trans (I.base.keep b o e n hb hx)
  ·obtain ⟨sl, e1⟩ := I.base.slot b o e n hb hx
   exact ⟨sl, (hs.2 b (Nat.ne_of_lt (Nat.lt_of_lt_of_le (Heap.lt_size e) (I.ok.cab x c hfn hc)))).trans e1⟩
  ·obtain ⟨o', e1⟩ := I.base.there b o e hx
   exact ⟨o', (hs.2 b (Nat.ne_of_lt (Nat.lt_of_lt_of_le (Heap.lt_size e) (I.ok.cab x c hfn hc)))).trans e1⟩
  ·by_cases hj : j = i
   ·subst hj
    rw [hi] at e1; cases e1
    rw [List.getElem?_set_self hiσ] at e2
    cases e2
    exact ⟨u, r, .inr ⟨.inl hk, c, hc, hc'⟩⟩
   ·rw [List.getElem?_set_ne (Ne.symm hj)] at e2
    obtain ⟨u', r', q⟩ := hl j y v' e1 e2 e3
    refine ⟨u', r', ?_⟩
    rcases q with q | ⟨k, c', e, z'⟩
    ·exact .inl q
    ·refine .inr ⟨k, c', e, z'.sameBut hs ?_⟩
     rintro rfl
     exact hj (nodup_ix hN e1 (I.ok.inj _ _ _ e hc ▸ hi))
  ·by_cases hcc : c' = c
   ·subst hcc; exact ⟨_, hc'⟩
   ·obtain ⟨w2, z2⟩ := I.cell y c' e
    exact ⟨w2, z2.sameBut hs hcc⟩
  ·obtain ⟨e, n, ne, nf, d⟩ := I.pin p hp
   refine ⟨(hs.2 p.1 ?_).trans e, n, ne, nf, d⟩
   intro q
   rw [q, hoc] at e
   have q' : oc = p.2 := Option.some.inj e
   exact d w' (by rw [← q']; exact hocd)
theorem store_ok {M : Model} {A : Around} {E : Value → Shared → Prop} {i : Nat} {x : Str} {v : V} {u : Value} {Q : Unit → Shared → Prop} (I : Inv X pins σ H s) (hN : X.N.Nodup) (hi : X.N[i]? = some x) (hx : Loc X.env.scope x) (r : RelV v u)
  (h : ∀ s', Inv X pins (σ.set i (some v)) H s' → Q () s') (hf : X.fn x = true ∨ X.env.scope.names.lookup x = some .local := by first | exact .inl rfl | exact .inr rfl | assumption) : wpAny M A (storeName X.env x u) Q E s :=
 store_ok2 I hN hi hx r (fun s' I' _ => h s' I') hf
theorem Inv.call' {s' : Shared} {ch : List Addr} (I : Inv X pins σ H s) (ho : s'.os = s.os) (u : Un (frs X.stack) ch H H' s.heap s'.heap) (hok : HOk X.prog X.w H' s'.heap) (hg : AllBare s'.gens)
  (hch : ∀ b ∈ ch, (b ∈ X.ex ∨ X.s₀.heap.objs.size ≤ b) ∧ b ≠ X.env.locals ∧ (∀ x c, X.env.cells.lookup x = some c → c ≠ b) ∧ ∀ p ∈ X.pn ++ pins, p.1 ≠ b) : Inv X pins σ H' s' := by
 obtain ⟨h', g', d', t', o'⟩ := s'
 have e : o' = s.os := ho
 subst e
 exact I.call (g' := g') (t' := t') (d' := d') u hok hg hch
end
noncomputable abbrev XK := Value → Option Addr → Hp → Prop
noncomputable abbrev St := List (Option V)
noncomputable abbrev VK := V → Hp → Prop
noncomputable abbrev TE := St → Hp → VK → Prop
noncomputable abbrev TT := St → Hp → (Bool → Hp → Prop) → Prop
noncomputable abbrev TA := St → Hp → (List V → Hp → Prop) → Prop
structure Ends where
 nx : St → Hp → Prop
 rt : VK
 bk : St → Hp → Prop := fun _ _ => False
 ct : St → Hp → Prop := fun _ _ => False
noncomputable abbrev TS := Ends → St → Hp → Prop
noncomputable def EP (X : Cx) (pins : List (Addr × Obj)) (σ : St) (Q : VK) (u : Value) (s' : Shared) : Prop := ∃ v H', Inv X pins σ H' s' ∧ RelV v u ∧ Q v H'
noncomputable def TP (X : Cx) (pins : List (Addr × Obj)) (σ : St) (Q : Bool → Hp → Prop) (b : Bool) (s' : Shared) : Prop := ∃ H', Inv X pins σ H' s' ∧ Q b H'
noncomputable def AP (X : Cx) (pins : List (Addr × Obj)) (σ : St) (Q : List V → Hp → Prop) (us : List Value) (s' : Shared) : Prop := ∃ vs H', Inv X pins σ H' s' ∧ Vals vs us ∧ Q vs H'
noncomputable def SP (X : Cx) (pins : List (Addr × Obj)) (D : Ends) (f : Flow) (s' : Shared) : Prop :=
 match f with
 | .next => ∃ σ' H', Inv X pins σ' H' s' ∧ D.nx σ' H'
 | .brk => ∃ σ' H', Inv X pins σ' H' s' ∧ D.bk σ' H'
 | .cont => ∃ σ' H', Inv X pins σ' H' s' ∧ D.ct σ' H'
 | .ret u => ∃ v σ' H', Inv X pins σ' H' s' ∧ RelV v u ∧ D.rt v H'
noncomputable def PE (X : Cx) (e : Expr) (t : TE) : Prop :=
 ∀ (pins : List (Addr × Obj)) (s : Shared) (σ : St) (H : Hp) (Q : VK), Inv X pins σ H s → t σ H Q → wpAny (model X.prog X.w) X.A (eval e X.env) (EP X pins σ Q) X.xe s
noncomputable def PT (X : Cx) (e : Expr) (t : TT) : Prop :=
 ∀ (pins : List (Addr × Obj)) (s : Shared) (σ : St) (H : Hp) (Q : Bool → Hp → Prop), Inv X pins σ H s → t σ H Q → wpAny (model X.prog X.w) X.A (isTrue e X.env (eval e X.env)) (TP X pins σ Q) X.xe s
noncomputable def PW (X : Cx) (e : Expr) (t : TT) : Prop :=
 ∀ (whole : Sem Value) (pins : List (Addr × Obj)) (s : Shared) (σ : St) (H : Hp) (Q : Bool → Hp → Prop), Inv X pins σ H s → t σ H Q → wpAny (model X.prog X.w) X.A (isTrue e X.env whole) (TP X pins σ Q) X.xe s
theorem PW.pt {X : Cx} {e : Expr} {t : TT} (h : PW X e t) : PT X e t := h _
noncomputable def PA (X : Cx) (es : List Expr) (t : TA) : Prop :=
 ∀ (pos : Pos) (pins : List (Addr × Obj)) (s : Shared) (σ : St) (H : Hp) (Q : List V → Hp → Prop), Inv X pins σ H s → t σ H Q → wpAny (model X.prog X.w) X.A (spliced (backTo pos (starEach es X.env))) (AP X pins σ Q) X.xe s
noncomputable def PS (X : Cx) (st : Stmt) (t : TS) : Prop :=
 ∀ (pins : List (Addr × Obj)) (s : Shared) (σ : St) (H : Hp) (D : Ends), Inv X pins σ H s → t D σ H → wpAny (model X.prog X.w) X.A (exec st X.env) (SP X pins D) X.xe s
noncomputable def PSs (X : Cx) (st : List Stmt) (t : TS) : Prop :=
 ∀ (pins : List (Addr × Obj)) (s : Shared) (σ : St) (H : Hp) (D : Ends), Inv X pins σ H s → t D σ H → wpAny (model X.prog X.w) X.A (execs st X.env) (SP X pins D) X.xe s
theorem thn {α : Type} {t : Sem α} {Q Q' : α → Shared → Prop} {M : Model} {A : Around} {E : Value → Shared → Prop} {s : Shared} (h : wpAny M A t Q E s) (hQ : ∀ a s, Q a s → Q' a s) : wpAny M A t Q' E s := wpAny_mono h hQ fun _ _ x => x
end L2
namespace L2
open PySem PySem.Spec PyProof.Rows
section
variable {X : Cx}
noncomputable def tVar (i : Nat) : TE := fun σ H Q => ∃ v, σ[i]? = some (some v) ∧ Q v H
noncomputable def tC (v : V) : TE := fun _ H Q => Q v H
theorem pe_var {i : Nat} {x : Str} {pos : Pos} (hN : X.N[i]? = some x) (hv : Vis X.env.scope x) (hd : (x == ("__debug__" : Str)) = false := by decide) (hcd : (x == ("__classdict__" : Str)) = false := by decide) : PE X (.Name x pos) (tVar i) := by
 intro pins s σ H Q I h
 obtain ⟨v, e, h⟩ := h
 obtain ⟨m, hn, hl⟩ := I.loc
 obtain ⟨u, r, l⟩ := hl i x v hN e hv
 have fin : EP X pins σ Q u s := ⟨v, H, I, r, h⟩
 rcases l with ⟨hk, hm⟩ | ⟨hk, c, hc, hcell⟩
 ·exact wpAny_Name (wpAny_loadName_local I.ok.kind hk hn hm fin) hd
 ·rcases hk with hk | hk
  ·exact wpAny_Name (wpAny_loadName_cell I.ok.kind hk hc hcell fin) hd
  ·exact wpAny_Name (wpAny_loadName_free I.ok.kind hk hc hcell fin hcd) hd
theorem pe_int {i j pos} : PE X (.Constant (.int i) j pos) (tC (.int i)) := fun _ _ _ H _ I h => wpAny_Constant_int ⟨.int i, H, I.tok _, ⟨_, rfl⟩, h⟩
theorem pe_bl {b j pos} : PE X (.Constant (.bool b) j pos) (tC (.bl b)) := fun _ _ _ H _ I h => Constant_bool ⟨.bl b, H, I, rfl, h⟩
theorem pe_non {j pos} : PE X (.Constant .none j pos) (tC .non) := fun _ _ _ H _ I h => Constant_none ⟨.non, H, I, rfl, h⟩
theorem pe_str {x j pos} : PE X (.Constant (.str x) j pos) (tC (.str x)) := fun _ _ _ H _ I h => Calls.Constant_str ⟨.str x, H, I.tok _, ⟨_, rfl⟩, h⟩
noncomputable def Gl (X : Cx) (x : Str) : Prop := X.env.kindOf x = some .globalImplicit
theorem ld_glob {E : Value → Shared → Prop} {pins : List (Addr × Obj)} {s : Shared} {σ : St} {H : Hp} {x : Str} {u : Value} {pos : Pos} {Q : Value → Shared → Prop} (I : Inv X pins σ H s) (hg : Gl X x) (hm : X.mg x = some u) (h : Q u s)
  (hd : (x == ("__debug__" : Str)) = false := by decide) : wpAny (model X.prog X.w) X.A (eval (.Name x pos) X.env) Q E s :=
 Calls.Name_function_global I.ok.kind hg (Calls.loadGlobal_global (by rw [I.ok.glob]; exact I.mod.glob.keeps I.bk) hm h) hd
theorem ld_blt {E : Value → Shared → Prop} {pins : List (Addr × Obj)} {s : Shared} {σ : St} {H : Hp} {x : Str} {u : Value} {pos : Pos} {Q : Value → Shared → Prop} (I : Inv X pins σ H s) (hg : Gl X x) (hm : X.mg x = none) (hv : bootBuiltins x = some u) (h : Q u s)
  (hn : x ≠ "__name__" := by decide) (hd : (x == ("__debug__" : Str)) = false := by decide) : wpAny (model X.prog X.w) X.A (eval (.Name x pos) X.env) Q E s := by
 obtain ⟨mb, h1, h2⟩ := I.mod.blt
 exact Calls.Name_function_global I.ok.kind hg (Calls.loadGlobal_builtin (by rw [I.ok.glob]; exact I.mod.glob.keeps I.bk) hm (by rw [I.ok.blt]; exact h1.keeps I.bk) ((h2 x hn).trans hv) h) hd
theorem pe_glob {x : Str} {v : V} {u : Value} {pos : Pos} (hg : Gl X x) (hm : X.mg x = some u) (r : RelV v u) (hd : (x == ("__debug__" : Str)) = false := by decide) : PE X (.Name x pos) (tC v) :=
 fun _ _ _ H _ I h => ld_glob I hg hm ⟨v, H, I, r, h⟩ hd
theorem pe_bltn {x : Str} {v : V} {u : Value} {pos : Pos} (hg : Gl X x) (hm : X.mg x = none) (hv : bootBuiltins x = some u) (r : RelV v u) (hn : x ≠ "__name__" := by decide) (hd : (x == ("__debug__" : Str)) = false := by decide) : PE X (.Name x pos) (tC v) :=
 fun _ _ _ H _ I h => ld_blt I hg hm hv ⟨v, H, I, r, h⟩ hn hd
variable {a b : Expr} {ta tb : TE} {pos : Pos}
noncomputable def tB (t : TE) : TT := fun σ H Q => t σ H fun x H1 => ∃ c, x = .bl c ∧ Q c H1
theorem pt_val {e : Expr} {t : TE} (h : PE X e t) (he : ∀ whole, isTrue e X.env whole = (do let v ← whole; standAt e.pos; holding [v] (truthy v)) := by intro _; rfl) : PT X e (tB t) := by
 intro pins s σ H Q I hw
 refine isTrue_plain (thn (h pins s σ H _ I hw) fun v s1 ⟨x, H1, I1, r1, q1⟩ => ?_) (he _)
 obtain ⟨d, rfl, q⟩ := q1
 cases r1
 exact wpAny_truthy_bool ⟨H1, I1, q⟩
variable {tA tB' : TT} {rest : List Expr}
noncomputable def tAnd (t u : TT) : TT := fun σ H Q => t σ H fun c H1 => if c = true then u σ H1 Q else Q false H1
noncomputable def tOr (t u : TT) : TT := fun σ H Q => t σ H fun c H1 => if c = true then Q true H1 else u σ H1 Q
noncomputable def tNot (t : TT) : TT := fun σ H Q => t σ H fun c H1 => Q (!c) H1
theorem pw_and1 (ha : PT X a tA) : PW X (.BoolOp .And [a] pos) tA := by
 intro wh pins s σ H Q I h
 refine isTrue_and (thn (ha pins s σ H Q I h) fun c s1 e => ?_)
 cases c with
 | true => exact isTrue_and_nil e
 | false => exact e
theorem pw_or1 (ha : PT X a tA) : PW X (.BoolOp .Or [a] pos) tA := by
 intro wh pins s σ H Q I h
 refine isTrue_or (thn (ha pins s σ H Q I h) fun c s1 e => ?_)
 cases c with
 | false => exact isTrue_or_nil e
 | true => exact e
theorem pw_and (ha : PT X a tA) (hb : PW X (.BoolOp .And (b :: rest) pos) tB') : PW X (.BoolOp .And (a :: b :: rest) pos) (tAnd tA tB') := by
 intro wh pins s σ H Q I h
 refine isTrue_and (thn (ha pins s σ H _ I h) fun c s1 ⟨H1, I1, q1⟩ => ?_)
 cases c with
 | true => exact hb wh pins s1 σ H1 Q I1 q1
 | false => exact ⟨H1, I1, q1⟩
theorem pw_or (ha : PT X a tA) (hb : PW X (.BoolOp .Or (b :: rest) pos) tB') : PW X (.BoolOp .Or (a :: b :: rest) pos) (tOr tA tB') := by
 intro wh pins s σ H Q I h
 refine isTrue_or (thn (ha pins s σ H _ I h) fun c s1 ⟨H1, I1, q1⟩ => ?_)
 cases c with
 | true => exact ⟨H1, I1, q1⟩
 | false => exact hb wh pins s1 σ H1 Q I1 q1
theorem pt_not (ha : PT X a tA) : PT X (.UnaryOp .Not a pos) (tNot tA) := by
 intro pins s σ H Q I h
 exact isTrue_not (ha pins s σ H (fun c H1 => Q (!c) H1) I h)
noncomputable def tAndV (ta tb : TE) : TE := fun σ H Q => ta σ H fun x H1 => ∃ c, x = .bl c ∧ if c = true then tb σ H1 Q else Q (.bl false) H1
theorem pe_one {op} {t : TE} (h : PE X a t) : PE X (.BoolOp op [a] pos) t := fun pins s σ H Q I hw => BoolOp_one (h pins s σ H Q I hw)
theorem pe_and (ha : PE X a ta) (hb : PE X (.BoolOp .And (b :: rest) pos) tb) : PE X (.BoolOp .And (a :: b :: rest) pos) (tAndV ta tb) := by
 intro pins s σ H Q I h
 refine BoolOp_and (thn (ha pins s σ H _ I h) fun v s1 ⟨x, H1, I1, r1, q1⟩ => ?_)
 obtain ⟨c, rfl, q1⟩ := q1
 cases r1
 refine wpAny_truthy_bool ?_
 cases c with
 | true => exact hb pins s1 σ H1 Q I1 q1
 | false => exact ⟨.bl false, H1, I1, rfl, q1⟩
noncomputable def tIf (t : TT) (ta tb : TE) : TE := fun σ H Q => t σ H fun c H1 => if c = true then ta σ H1 Q else tb σ H1 Q
theorem pe_ifExp {c : Expr} (hc : PT X c tA) (ha : PE X a ta) (hb : PE X b tb) : PE X (.IfExp c a b pos) (tIf tA ta tb) := by
 intro pins s σ H Q I h
 refine wpAny_IfExp (thn (hc pins s σ H _ I h) fun d s1 ⟨H1, I1, q1⟩ => ?_)
 cases d with
 | true => exact ha pins s1 σ H1 Q I1 q1
 | false => exact hb pins s1 σ H1 Q I1 q1
end
end L2
namespace L2
open PySem PySem.Spec PyProof.Rows
noncomputable def SqL (K : PySem.W.Frag) (H : Hp) (a : Addr) (xs : List V) : Prop :=
 Rd H a (.lst xs) ∨
  ∃ (o : Obj) (its : Array Value) (n : Nat), K.lookup a = some o ∧ o.cls = .type "list" ∧ o.dict = none ∧ o.data = .seq its n ∧ its.size ≤ sizeLine ∧ Vals xs its.toList
noncomputable def SqT (K : PySem.W.Frag) (H : Hp) (a : Addr) (xs : List V) : Prop :=
 Rd H a (.tup xs) ∨
  ∃ (o : Obj) (its : Array Value) (n : Nat), K.lookup a = some o ∧ o.cls = .type "tuple" ∧ o.data = .seq its n ∧ its.size ≤ sizeLine ∧ Vals xs its.toList
noncomputable def absV : Value → Option V
 | .none => some .non
 | .bool b => some (.bl b)
 | .int i _ => some (.int i)
 | .str x _ => some (.str x)
 | .bytes b _ => some (.byt b)
 | .float b _ => some (.flt b)
 | .ref a => some (.ref a)
 | .type n => some (.ty n)
 | _ => none
theorem RelV.abs {x : V} {u : Value} (r : RelV x u) : absV u = some x := by
 cases x with
 | non => cases r; rfl
 | bl _ => cases r; rfl
 | int _ => obtain ⟨t, rfl⟩ := r; rfl
 | str _ => obtain ⟨t, rfl⟩ := r; rfl
 | byt _ => obtain ⟨t, rfl⟩ := r; rfl
 | flt _ => obtain ⟨t, rfl⟩ := r; rfl
 | ref _ => cases r; rfl
 | ty _ => cases r; rfl
theorem RelV.inj {x y : V} {u : Value} (r : RelV x u) (q : RelV y u) : x = y := Option.some.inj (r.abs.symm.trans q.abs)
theorem Vals.inj : ∀ {xs ys : List V} {us : List Value}, Vals xs us → Vals ys us → xs = ys
 | _, _, _, .nil, .nil => rfl
 | _, _, _, .cons r t, .cons r' t' => by rw [r.inj r', Vals.inj t t']
section
variable {X : Cx} {pins : List (Addr × Obj)} {σ : St} {H : Hp} {s : Shared} {a : Addr} {xs ys : List V}
theorem SqL.of {K : PySem.W.Frag} (h : H a = some (.lst xs)) : SqL K H a xs := .inl (.inl h)
theorem SqT.of {K : PySem.W.Frag} (h : H a = some (.tup xs)) : SqT K H a xs := .inl (.inl h)
theorem Inv.list (I : Inv X pins σ H s) (h : SqL X.K H a xs) : ∃ its : List Value, Vals xs its ∧ PlainL s.heap a its.toArray ∧ xs.length ≤ sizeLine := by
 rcases h with h | ⟨o, its, n, hk, hc, hd, hs, hz, r⟩
 ·obtain ⟨z, its, n, r, e⟩ := h.ok I.hok
  exact ⟨its, r, ⟨_, n, e, rfl, rfl, rfl⟩, z⟩
 ·refine ⟨its.toList, r, ⟨o, n, I.kIn a o hk, hc, hd, by simpa using hs⟩, ?_⟩
  have e := r.length
  simp only [Array.length_toList] at e
  omega
theorem Inv.tuple (I : Inv X pins σ H s) (h : SqT X.K H a xs) : ∃ its : List Value, Vals xs its ∧ IsTup s.heap a its.toArray ∧ xs.length ≤ sizeLine := by
 rcases h with h | ⟨o, its, n, hk, hc, hs, hz, r⟩
 ·obtain ⟨z, its, r, p⟩ := h.ok I.hok
  exact ⟨its, r, p, z⟩
 ·refine ⟨its.toList, r, ⟨o, I.kIn a o hk, hc, n, by simpa using hs⟩, ?_⟩
  have e := r.length
  simp only [Array.length_toList] at e
  omega
theorem Inv.list_inj (I : Inv X pins σ H s) (h : SqL X.K H a xs) (h' : SqL X.K H a ys) : xs = ys := by
 obtain ⟨its, r, ⟨o, n, e, _, _, d⟩, _⟩ := I.list h
 obtain ⟨its', r', ⟨o', n', e', _, _, d'⟩, _⟩ := I.list h'
 rw [e] at e'; cases e'
 rw [d] at d'
 injection d' with d1 _
 have : its = its' := by simpa using congrArg Array.toList d1
 subst this
 exact r.inj r'
theorem Inv.tuple_inj (I : Inv X pins σ H s) (h : SqT X.K H a xs) (h' : SqT X.K H a ys) : xs = ys := by
 obtain ⟨its, r, ⟨o, e, _, n, d⟩, _⟩ := I.tuple h
 obtain ⟨its', r', ⟨o', e', _, n', d'⟩, _⟩ := I.tuple h'
 rw [e] at e'; cases e'
 rw [d] at d'
 injection d' with d1 _
 have : its = its' := by simpa using congrArg Array.toList d1
 subst this
 exact r.inj r'
end
noncomputable abbrev Cx.wish (X : Cx) (E : Value → Shared → Prop) : Cx := { X with xe := E }
noncomputable abbrev Cx.nox (X : Cx) : Cx := X.wish fun _ _ => False
theorem Cx.Ok.wish {X : Cx} (ok : X.Ok) (E : Value → Shared → Prop) : (X.wish E).Ok :=
 ⟨ok.mod, ok.kind, ok.glob, ok.blt, ok.above, ok.inj, ok.has, ok.cab, ok.hd, ok.frames, ok.stk, ok.exf, ok.bs, ok.bsz, ok.noex, ok.exfs, ok.funs, ok.frf⟩
theorem Cx.Ok.unwish {X : Cx} {E : Value → Shared → Prop} (ok : (X.wish E).Ok) : X.Ok :=
 ⟨ok.mod, ok.kind, ok.glob, ok.blt, ok.above, ok.inj, ok.has, ok.cab, ok.hd, ok.frames, ok.stk, ok.exf, ok.bs, ok.bsz, ok.noex, ok.exfs, ok.funs, ok.frf⟩
section
variable {X : Cx} {pins : List (Addr × Obj)} {σ : St} {H : Hp} {s : Shared} {E : Value → Shared → Prop}
theorem Inv.wish (I : Inv X pins σ H s) (E : Value → Shared → Prop) : Inv (X.wish E) pins σ H s := ⟨I.ok.wish E, I.os, I.bare, I.base, I.loc, I.cell, I.free, I.freeC, I.pin, I.hok, I.len⟩
theorem Inv.unwish (I : Inv (X.wish E) pins σ H s) : Inv X pins σ H s := ⟨I.ok.unwish, I.os, I.bare, I.base, I.loc, I.cell, I.free, I.freeC, I.pin, I.hok, I.len⟩
theorem SP.unwish {D : Ends} {f : Flow} {s' : Shared} (h : SP (X.wish E) pins D f s') : SP X pins D f s' := by
 cases f with
 | next => obtain ⟨σ', H', I, q⟩ := h; exact ⟨σ', H', I.unwish, q⟩
 | brk => obtain ⟨σ', H', I, q⟩ := h; exact ⟨σ', H', I.unwish, q⟩
 | cont => obtain ⟨σ', H', I, q⟩ := h; exact ⟨σ', H', I.unwish, q⟩
 | ret u => obtain ⟨v, σ', H', I, r, q⟩ := h; exact ⟨v, σ', H', I.unwish, r, q⟩
theorem PE.nox {e : Expr} {t : TE} (h : PE X.nox e t) : PE X e t := fun pins s σ H Q I hw =>
 wpAny_mono (h pins s σ H Q (I.wish _) hw) (fun _ _ ⟨v, H', I', r, q⟩ => ⟨v, H', I'.unwish, r, q⟩) fun _ _ z => False.elim z
theorem PT.nox {e : Expr} {t : TT} (h : PT X.nox e t) : PT X e t := fun pins s σ H Q I hw =>
 wpAny_mono (h pins s σ H Q (I.wish _) hw) (fun _ _ ⟨H', I', q⟩ => ⟨H', I'.unwish, q⟩) fun _ _ z => False.elim z
theorem PSs.nox {st : List Stmt} {t : TS} (h : PSs X.nox st t) : PSs X st t := fun pins s σ H D I hw =>
 wpAny_mono (h pins s σ H D (I.wish _) hw) (fun _ _ q => q.unwish) fun _ _ z => False.elim z
end
section
variable {X : Cx} {st : Stmt} {rest : List Stmt} {t u : TS} {e : Expr} {te : TE} {pos : Pos}
noncomputable def tNext : TS := fun D σ H => D.nx σ H
noncomputable def tSeq (t u : TS) : TS := fun D σ H => t { D with nx := u D } σ H
theorem pss_nil : PSs X [] tNext := fun _ _ σ H _ I h => wpAny_execs_nil ⟨σ, H, I, h⟩
theorem pss_cons (h1 : PS X st t) (h2 : PSs X rest u) : PSs X (st :: rest) (tSeq t u) := by
 intro pins s σ H D I h
 refine wpAny_execs_cons (thn (h1 pins s σ H { D with nx := u D } I h) fun f s1 q => ?_)
 cases f with
 | next =>
  obtain ⟨σ', H', I', q⟩ := q
  exact h2 pins s1 σ' H' D I' q
 | ret v => exact q
 | brk => exact q
 | cont => exact q
theorem pss_one (h1 : PS X st t) : PSs X [st] t := by
 intro pins s σ H D I h
 refine wpAny_execs_cons (thn (h1 pins s σ H D I h) fun f s1 q => ?_)
 cases f with
 | next => exact wpAny_execs_nil q
 | ret v => exact q
 | brk => exact q
 | cont => exact q
theorem Inv.quiet {pins : List (Addr × Obj)} {σ : St} {H : Hp} {s : Shared} (I : Inv X pins σ H s) : interactive X.env = false := by simp [interactive, I.ok.kind]
noncomputable def tDrop (te : TE) : TS := fun D σ H => te σ H fun _ H1 => D.nx σ H1
theorem ps_expr (he : PE X e te) (hs : swapsWith e none pos.line X.env = pure false := by rfl) : PS X (.Expr e pos) (tDrop te) := by
 intro pins s σ H D I h
 exact wpAny_Expr_any (thn (he pins s σ H _ I h) fun v s1 ⟨x, H1, I1, r1, q1⟩ => ⟨σ, H1, I1, q1⟩) I.quiet hs
noncomputable def tRet (te : TE) : TS := fun D σ H => te σ H D.rt
theorem ps_ret (he : PE X e te) : PS X (.Return (some e) pos) (tRet te) := by
 intro pins s σ H D I h
 exact wpAny_Return_some (thn (he pins s σ H _ I h) fun v s1 ⟨x, H1, I1, r1, q1⟩ => ⟨x, σ, H1, I1, r1, q1⟩)
noncomputable def tIfS (c : TT) (t u : TS) : TS := fun D σ H => c σ H fun b H1 => if b = true then t D σ H1 else u D σ H1
theorem ps_if {c : Expr} {a b : List Stmt} {tc : TT} (hc : PT X c tc) (ha : PSs X a t) (hb : PSs X b u) : PS X (.If c a b pos) (tIfS tc t u) := by
 intro pins s σ H D I h
 refine wpAny_If (thn (hc pins s σ H _ I h) fun d s1 ⟨H1, I1, q1⟩ => ?_)
 cases d with
 | true => exact ha pins s1 σ H1 D I1 q1
 | false => exact hb pins s1 σ H1 D I1 q1
noncomputable def tNever : TS := fun _ _ _ => False
theorem pss_never {sts : List Stmt} : PSs X sts tNever := fun _ _ _ _ _ _ h => h.elim
end
noncomputable abbrev TG := V → St → Hp → (St → Hp → Prop) → Prop
noncomputable abbrev TGs := List V → St → Hp → (St → Hp → Prop) → Prop
noncomputable def PG (X : Cx) (target : Expr) (t : TG) : Prop :=
 ∀ (pins : List (Addr × Obj)) (s : Shared) (σ : St) (H : Hp) (v : V) (u : Value) (Q : St → Hp → Prop), Inv X pins σ H s → RelV v u → t v σ H Q →
  wpAny (model X.prog X.w) X.A (assign target X.env u) (fun _ s' => ∃ σ' H', Inv X pins σ' H' s' ∧ Q σ' H') X.xe s
noncomputable def PGs (X : Cx) (ts : List Expr) (t : TGs) : Prop :=
 ∀ (pins : List (Addr × Obj)) (s : Shared) (σ : St) (H : Hp) (vs : List V) (us : List Value) (Q : St → Hp → Prop), Inv X pins σ H s → Vals vs us → t vs σ H Q →
  wpAny (model X.prog X.w) X.A (assignInOrder ((assignEach ts X.env).map (·.2)) us) (fun _ s' => ∃ σ' H', Inv X pins σ' H' s' ∧ Q σ' H') X.xe s
noncomputable abbrev TSet := V → V → V → Hp → (Hp → Prop) → Prop
noncomputable def PSet (X : Cx) (t : TSet) : Prop :=
 ∀ (pins : List (Addr × Obj)) (s : Shared) (σ : St) (H : Hp) (o i v : V) (ov iv u : Value) (Q : Hp → Prop), Inv X pins σ H s → RelV o ov → RelV i iv → RelV v u → t o i v H Q →
  wpAny (model X.prog X.w) X.A (setItem ov iv u) (fun _ s' => ∃ H', Inv X pins σ H' s' ∧ Q H') X.xe s
noncomputable abbrev TIp := V → V → Hp → VK → Prop
noncomputable def PIp (X : Cx) (op : Operator) (t : TIp) : Prop :=
 ∀ (pins : List (Addr × Obj)) (s : Shared) (σ : St) (H : Hp) (x y : V) (v u : Value) (Q : VK), Inv X pins σ H s → RelV x v → RelV y u → t x y H Q →
  wpAny (model X.prog X.w) X.A (inplaceOp op v u) (EP X pins σ Q) X.xe s
section
variable {X : Cx} {pos : Pos}
noncomputable def gName (i : Nat) : TG := fun v σ H Q => Q (σ.set i (some v)) H
theorem pg_name {i : Nat} {x : Str} (hN : X.N.Nodup) (hi : X.N[i]? = some x) (hx : Loc X.env.scope x) (hf : X.fn x = true ∨ X.env.scope.names.lookup x = some .local := by first | exact .inl rfl | exact .inr rfl | assumption) : PG X (.Name x pos) (gName i) := by
 intro pins s σ H v u Q I r h
 exact wpAny_assign_Name (store_ok I hN hi hx r (fun s' I' => ⟨_, H, I', h⟩) hf)
noncomputable def gNil : TGs := fun vs σ H Q => vs = [] ∧ Q σ H
noncomputable def gCons (t : TG) (u : TGs) : TGs := fun vs σ H Q => ∃ v r, vs = v :: r ∧ t v σ H fun σ' H' => u r σ' H' Q
theorem pgs_nil : PGs X [] gNil := by
 intro pins s σ H vs us Q I r h
 obtain ⟨e, h⟩ := h
 subst e
 cases r
 exact assignInOrder_nil ⟨σ, H, I, h⟩
theorem pgs_cons {e : Expr} {es : List Expr} {t : TG} {u : TGs} (h1 : PG X e t) (h2 : PGs X es u)
  (hs : (assignEach (e :: es) X.env).map (·.2) = assign e X.env :: (assignEach es X.env).map (·.2) := by rfl) : PGs X (e :: es) (gCons t u) := by
 intro pins s σ H vs us Q I r h
 obtain ⟨v, vr, e1, h⟩ := h
 subst e1
 cases r with
 | cons r rr =>
  rw [hs]
  refine assignInOrder_cons (thn (h1 pins s σ H _ _ _ I r h) fun _ s1 ⟨σ1, H1, I1, q1⟩ => ?_)
  exact h2 pins s1 σ1 H1 _ _ Q I1 rr q1
noncomputable def gTup (K : PySem.W.Frag) (n : Nat) (t : TGs) : TG := fun v σ H Q => ∃ a xs, v = .ref a ∧ SqT K H a xs ∧ xs.length = n ∧ t xs σ H Q
theorem pg_tup {es : List Expr} {k : Nat} {t : TGs} {n : Nat} (hc : X.calm = true) (h : PGs X es t)
  (hn : (assignEach es X.env).length = n := by rfl) (hst : (assignEach es X.env).findIdx? (·.1) = none := by rfl) : PG X (.Tuple es k pos) (gTup X.K n t) := by
 intro pins s σ H v u Q I r hw
 obtain ⟨a, xs, e1, hq, hl, hw⟩ := hw
 subst e1
 cases r
 obtain ⟨its, rv, ht, hz⟩ := I.tuple hq
 refine assign_Tuple_tuple (I.ok.hd hc) ht (by simp [hn, ← hl, rv.length]) hst fun h' hx => ?_
 have I1 : Inv X pins σ H { s with heap := h' } := I.kept (t' := s.toks) fun b o e => hx b o (Nat.ne_of_lt (Heap.lt_size e)) e
 exact h pins _ σ H xs _ Q I1 (by simpa using rv) hw
noncomputable def gSub (to ti : TE) (t : TSet) : TG := fun v σ H Q => to σ H fun o H1 => ti σ H1 fun i H2 => t o i v H2 fun H3 => Q σ H3
theorem pg_sub {o i : Expr} {to ti : TE} {t : TSet} (ho : PE X o to) (hi : PE X i ti) (hs : PSet X t)
  (ha : ∀ v, assign (.Subscript o i pos) X.env v = (do
   let ov ← holding [v] (eval o X.env)
   let iv ← holding [v, ov] (eval i X.env)
   standAt pos
   holding [v, ov, iv] (setItem ov iv v)
   release [v, ov, iv] []) := by intro _; rfl) : PG X (.Subscript o i pos) (gSub to ti t) := by
 intro pins s σ H v u Q I r h
 rw [ha]
 refine wpAny_bind (wpAny_holding (thn (ho pins s σ H _ I h) fun ov s1 ⟨x, H1, I1, r1, q1⟩ => ?_))
 refine wpAny_bind (wpAny_holding (thn (hi pins s1 σ H1 _ I1 q1) fun iv s2 ⟨y, H2, I2, r2, q2⟩ => ?_))
 refine wpAny_bind (wpAny_standAt (wpAny_bind (wpAny_holding (thn (hs pins s2 σ H2 x y v ov iv u _ I2 r1 r2 r q2) fun _ s3 ⟨H3, I3, q3⟩ => ?_))))
 exact wpAny_release ⟨σ, H3, I3, q3⟩
noncomputable def tAsg (te : TE) (g : TG) : TS := fun D σ H => te σ H fun x H1 => g x σ H1 D.nx
theorem ps_asg {tg e : Expr} {te : TE} {g : TG} (he : PE X e te) (hg : PG X tg g) (hs : swapsWithSole [tg] e pos.line X.env = pure false := by rfl) (hw : swappedStores [tg] e X.env = pure none := by rfl)
  (h1 : (assignEach [tg] X.env).map (·.2) = [assign tg X.env] := by rfl) : PS X (.Assign [tg] e pos) (tAsg te g) := by
 intro pins s σ H D I h
 refine wpAny_Assign_stores (thn (he pins s σ H _ I h) fun v s1 ⟨x, H1, I1, r1, q1⟩ => ?_) hs hw
 rw [h1]
 exact thn (hg pins s1 σ H1 x v _ I1 r1 q1) fun _ s2 q => q
theorem ps_set {i : Nat} {x : Str} {e : Expr} {te : TE} {pos' : Pos} (hN : X.N.Nodup) (hi : X.N[i]? = some x) (hx : Loc X.env.scope x) (he : PE X e te) (hs : swapsWith e (some (.Name x pos')) pos.line X.env = pure false := by rfl) (hf : X.fn x = true ∨ X.env.scope.names.lookup x = some .local := by first | exact .inl rfl | exact .inr rfl | assumption) :
  PS X (.Assign [.Name x pos'] e pos) (tAsg te (gName i)) := by
 intro pins s σ H D I h
 refine wpAny_Assign_Name (thn (he pins s σ H _ I h) fun v s1 ⟨y, H1, I1, r1, q1⟩ => ?_) hs
 exact store_ok I1 hN hi hx r1 (fun s2 I2 => ⟨_, H1, I2, q1⟩) hf
noncomputable def tAugS (to ti te : TE) (tget : V → V → Hp → VK → Prop) (tip : TIp) (tset : TSet) : TS := fun D σ H => to σ H fun o H1 => ti σ H1 fun i H2 => tget o i H2 fun x H3 => te σ H3 fun y H4 => tip x y H4 fun z H5 => tset o i z H5 fun H6 => D.nx σ H6
noncomputable def PGet (X : Cx) (t : V → V → Hp → VK → Prop) : Prop :=
 ∀ (pins : List (Addr × Obj)) (s : Shared) (σ : St) (H : Hp) (o i : V) (ov iv : Value) (Q : VK), Inv X pins σ H s → RelV o ov → RelV i iv → t o i H Q →
  wpAny (model X.prog X.w) X.A (getItem ov iv) (EP X pins σ Q) X.xe s
theorem ps_augS {o i e : Expr} {to ti te : TE} {tget : V → V → Hp → VK → Prop} {tip : TIp} {tset : TSet} {op : Operator} {tpos : Pos} (ho : PE X o to) (hi : PE X i ti) (hg : PGet X tget) (he : PE X e te) (hp : PIp X op tip) (hs : PSet X tset)
  (ha : ∀ ov iv new, augStore i ov iv new = (do holding [new, ov, iv] (setItem ov iv new); release [new, ov, iv] []; pure .next) := by intros; rfl) : PS X (.AugAssign (.Subscript o i tpos) op e pos) (tAugS to ti te tget tip tset) := by
 intro pins s σ H D I h
 refine wpAny_AugAssign_SubscriptAny (thn (ho pins s σ H _ I h) fun ov s1 ⟨x1, H1, I1, r1, q1⟩ => ?_) ha
 refine thn (hi pins s1 σ H1 _ I1 q1) fun iv s2 ⟨x2, H2, I2, r2, q2⟩ => ?_
 refine thn (hg pins s2 σ H2 x1 x2 ov iv _ I2 r1 r2 q2) fun old s3 ⟨x3, H3, I3, r3, q3⟩ => ?_
 refine thn (he pins s3 σ H3 _ I3 q3) fun v s4 ⟨x4, H4, I4, r4, q4⟩ => ?_
 refine thn (hp pins s4 σ H4 x3 x4 old v _ I4 r3 r4 q4) fun new s5 ⟨x5, H5, I5, r5, q5⟩ => ?_
 exact thn (hs pins s5 σ H5 x1 x2 x5 ov iv new _ I5 r1 r2 r5 q5) fun _ s6 ⟨H6, I6, q6⟩ => ⟨σ, H6, I6, q6⟩
noncomputable def ipI (f : Int → Int → Int) : TIp := fun x y H Q => ∃ i j, x = .int i ∧ y = .int j ∧ Q (.int (f i j)) H
theorem ip_add : PIp X .Add (ipI fun i j => i + j) := by
 intro pins s σ H x y v u Q I r1 r2 h
 obtain ⟨i, j, e1, e2, q⟩ := h
 subst e1; subst e2
 obtain ⟨t, rfl⟩ := r1
 obtain ⟨t', rfl⟩ := r2
 exact iadd_int ⟨.int _, H, I.tok _, ⟨_, rfl⟩, q⟩
end
section
variable {X : Cx} {pos : Pos}
noncomputable def tWhile (c : TT) (tb : TS) : TS := fun D σ H => ∃ W : Nat → St → Hp → Prop, (∃ m, W m σ H) ∧ ∀ m σ H, W m σ H →
 c σ H fun b H1 => if b = true then ∃ N : St → Hp → Prop, (∀ σ' H', N σ' H' → ∃ m', m' < m ∧ W m' σ' H') ∧ tb { D with nx := N, ct := N, bk := D.nx } σ H1 else D.nx σ H1
theorem ps_while {c : Expr} {body : List Stmt} {tc : TT} {tb : TS} (hp : PassesOwn (model X.prog X.w) X.A X.env X.xe) (hc : PT X c tc) (hb : PSs X body tb) : PS X (.While c body [] pos) (tWhile tc tb) := by
 intro pins s σ H D I h
 obtain ⟨W, ⟨m0, w0⟩, turn⟩ := h
 refine wpAny_While (codeAny_whileLoop (fun n s' => ∃ σ' H', Inv X pins σ' H' s' ∧ W n σ' H') ?_ m0 ⟨σ, H, I, w0⟩)
 rintro n s1 ⟨σ1, H1, I1, w1⟩
 refine wpAny_passesOwn hp (thn (hc pins s1 σ1 H1 _ I1 (turn n σ1 H1 w1)) fun b s2 ⟨H2, I2, q2⟩ => ?_)
 cases b with
 | true =>
  obtain ⟨N, hN, q2⟩ := q2
  rw [if_pos rfl]
  refine wpAny_passesOwn hp (thn (hb pins s2 σ1 H2 _ I2 q2) fun f s3 q3 => ?_)
  cases f with
  | next =>
   obtain ⟨σ3, H3, I3, n3⟩ := q3
   obtain ⟨m', hm, w3⟩ := hN σ3 H3 n3
   exact ⟨m', hm, σ3, H3, I3, w3⟩
  | cont =>
   obtain ⟨σ3, H3, I3, n3⟩ := q3
   obtain ⟨m', hm, w3⟩ := hN σ3 H3 n3
   exact ⟨m', hm, σ3, H3, I3, w3⟩
  | brk => exact q3
  | ret v => exact q3
 | false =>
  rw [if_neg Bool.false_ne_true]
  exact wpAny_execs_nil ⟨σ1, H2, I2, q2⟩
end
structure It where
 go : Nat → Hp → Prop
 yld : Nat → Hp → V → Hp → Prop
 stop : Nat → Hp → Prop
noncomputable def FpOk (X : Cx) (pins : List (Addr × Obj)) (H : Hp) (b : Addr) : Prop :=
 H b = none ∧ b ≠ X.env.locals ∧ b ∉ X.fs ∧ (b ∈ X.ex ∨ X.s₀.heap.objs.size ≤ b) ∧ (∀ x c, X.env.cells.lookup x = some c → c ≠ b) ∧ ∀ p ∈ X.pn ++ pins, p.1 ≠ b
theorem Inv.fpOk {X : Cx} {pins : List (Addr × Obj)} {σ : St} {H H' : Hp} {s : Shared} {b : Addr} (I : Inv X pins σ H s) (hb : s.heap.objs.size ≤ b) (hn : H' b = none) : FpOk X pins H' b := by
 refine ⟨hn, Nat.ne_of_gt (Nat.lt_of_lt_of_le I.lt hb), I.nofs hb, .inr (Nat.le_trans I.sz hb), fun x c e z => ?_, fun p hp z => ?_⟩
 ·obtain ⟨v, q⟩ := I.cell x c e
  exact absurd (Nat.lt_of_lt_of_le q.lt (by rw [z]; exact hb)) (Nat.lt_irrefl _)
 ·exact absurd (Nat.lt_of_lt_of_le (Heap.lt_size (I.pin p hp).1) (by rw [z]; exact hb)) (Nat.lt_irrefl _)
structure Turn (P : Program) (w : World) (K : PySem.W.Frag) (tg : Expr) (J : It) (fp : List Addr) (it : Addr) (tn : Nat → Heap → Prop) : Prop where
 mem : it ∈ fp
 obj : ∀ i h, tn i h → ∀ b ∈ fp, ∃ o, h.get? b = some o ∧ ∀ v, o.data ≠ .cell v
 keep : ∀ i h h', tn i h → (∀ b ∈ fp, ∀ o, h.get? b = some o → h'.get? b = some o) → tn i h'
 item : ∀ (X : Cx), X.prog = P → X.w = w → X.K = K → X.calm = true → ∀ (i : Nat) (pins : List (Addr × Obj)) (s : Shared) (σ : St) (H : Hp) (E : Value → Shared → Prop), Inv X pins σ H s → (∀ b ∈ fp, FpOk X pins H b) → tn i s.heap → J.go i H →
  wpAny (model P w) X.A (pyNext (.ref it)) (fun r s1 => ∃ u, r = some u ∧
   wpAny (model P w) X.A (letOwnedTupleGo tg (.ref it) u) (fun _ s2 => ∃ x H', Inv X pins σ H' s2 ∧ RelV x u ∧ J.yld i H x H' ∧ tn (i + 1) s2.heap ∧ ∀ b ∈ fp, H' b = none) E s1) E s
 done : ∀ (X : Cx), X.prog = P → X.w = w → X.K = K → X.calm = true → ∀ (i : Nat) (pins : List (Addr × Obj)) (s : Shared) (σ : St) (H : Hp) (E : Value → Shared → Prop), Inv X pins σ H s → (∀ b ∈ fp, FpOk X pins H b) → tn i s.heap → J.stop i H →
  wpAny (model P w) X.A (pyNext (.ref it)) (fun r s1 => r = none ∧ Inv X pins σ H s1) E s
 self : ∀ (A : Around) (i : Nat) (s : Shared) (Q : Value → Shared → Prop) (E : Value → Shared → Prop), tn i s.heap → Q (.ref it) s → wpAny (model P w) A (pyIter (.ref it)) Q E s
noncomputable abbrev TI := St → Hp → (It → Hp → Prop) → Prop
noncomputable def PIE (X : Cx) (pins : List (Addr × Obj)) (σ : St) (tg : Expr) (R : It → Hp → Prop) (itv : Value) (s2 : Shared) : Prop :=
 ∃ (it : Addr) (fp : List Addr) (tn : Nat → Heap → Prop) (J : It) (H' : Hp), itv = .ref it ∧ Inv X pins σ H' s2 ∧ Turn X.prog X.w X.K tg J fp it tn ∧ tn 0 s2.heap ∧ (∀ b ∈ fp, FpOk X pins H' b) ∧ R J H'
noncomputable def PI (X : Cx) (tg iter : Expr) (wi : TI) : Prop :=
 ∀ (pins : List (Addr × Obj)) (s : Shared) (σ : St) (H : Hp) (R : It → Hp → Prop), Inv X pins σ H s → wi σ H R →
  wpAny (model X.prog X.w) X.A (eval iter X.env) (fun v s1 => wpAny (model X.prog X.w) X.A (pyIter v) (PIE X pins σ tg R) X.xe s1) X.xe s
theorem go_of {M : Model} {A : Around} {E : Value → Shared → Prop} {s : Shared} {tg : Expr} {it : Addr} {u : Value} {o : Obj} {n : String} {vs : Array Value} {Q : Unit → Shared → Prop} (ho : s.heap.get? it = some o) (hc : o.cls = .type n) (hd : o.data = .fields vs)
    (hn : ["enumerate", "zip", "dict_itemiterator", "dict_reverseitemiterator", "odict_iterator", "itertools.zip_longest", "itertools.pairwise"].contains n = false) (hQ : Q () s) : wpAny M A (letOwnedTupleGo tg (.ref it) u) Q E s := by
  unfold letOwnedTupleGo
  cases tg <;> first
    | exact wpAny_pure hQ
    | (cases u <;> first
        | exact wpAny_pure hQ
        | (refine wpAny_bind (wpAny_load ho ?_)
           rw [hc, hd]
           show wpAny M A (if (["enumerate", "zip", "dict_itemiterator", "dict_reverseitemiterator", "odict_iterator", "itertools.zip_longest", "itertools.pairwise"].contains n && vs[0]? == some (rawInt _)) = true then _ else _) Q E s
           rw [if_neg (by intro h; rw [hn, Bool.false_and] at h; cases h)]
           exact wpAny_pure hQ))
noncomputable def Itl (K : PySem.W.Frag) (a : Addr) : It :=
 ⟨fun i H => ∃ xs x, SqL K H a xs ∧ xs[i]? = some x, fun i H x H' => H' = H ∧ ∀ xs, SqL K H a xs → xs[i]? = some x, fun i H => ∃ xs, SqL K H a xs ∧ xs.length ≤ i⟩
noncomputable def Itt (K : PySem.W.Frag) (a : Addr) : It :=
 ⟨fun i H => ∃ xs x, SqT K H a xs ∧ xs[i]? = some x, fun i H x H' => H' = H ∧ ∀ xs, SqT K H a xs → xs[i]? = some x, fun i H => ∃ xs, SqT K H a xs ∧ xs.length ≤ i⟩
noncomputable def Itr (lo : Int) (n : Nat) : It := ⟨fun i _ => i < n, fun i H x H' => H' = H ∧ x = .int (lo + i), fun i _ => n ≤ i⟩
theorem turn_list {P : Program} {w : World} {K : PySem.W.Frag} {tg : Expr} (a it : Addr) : Turn P w K tg (Itl K a) [it] it (fun i h => h.IsListIter it a i) where
 mem := by simp
 obj := fun i h st b hb => by
  have e : b = it := by simpa using hb
  subst e
  obtain ⟨o, e, c, d⟩ := st
  exact ⟨o, e, fun v z => by rw [d] at z; cases z⟩
 keep := fun i h h' st k => st.at fun o e => k it (by simp) o e
 item := by
  intro X hP hw hK hc i pins s σ H E I hf st hg
  subst hP hw hK
  obtain ⟨xs, x, hq, hx⟩ := hg
  obtain ⟨its, rv, p, hz⟩ := I.list hq
  obtain ⟨u, hu, ru⟩ := rv.get hx
  obtain ⟨f0, f1, f2, f3, f4, f5⟩ := hf it (by simp)
  refine wpAny_pyNext_list_item st p.isList (x := u) (by simpa using hu) fun h' st' sb => ?_
  have I1 : Inv X pins σ H { s with heap := h' } := I.turned (t' := s.toks) (fun b o hb e => (sb.2 b hb).trans e) f0 f1 f3 f4 f5
  obtain ⟨o, e, c, d⟩ := id st'
  exact ⟨u, rfl, go_of (s := { s with heap := h' }) e c d (by decide) ⟨x, H, I1, ru, ⟨rfl, fun ys hy => by rw [I.list_inj hy hq]; exact hx⟩, st', fun b hb => (hf b hb).1⟩⟩
 done := by
  intro X hP hw hK hc i pins s σ H E I hf st hg
  subst hP hw hK
  obtain ⟨xs, hq, hx⟩ := hg
  obtain ⟨its, rv, p, hz⟩ := I.list hq
  obtain ⟨f0, f1, f2, f3, f4, f5⟩ := hf it (by simp)
  have hl := rv.length
  exact wpAny_pyNext_list_end (I.ok.hd hc) st p.isList (by simp; omega) fun h' eb => ⟨rfl, I.turned (t' := s.toks) (fun b o hb e => eb b o hb e) f0 f1 f3 f4 f5⟩
 self := fun _ _ _ _ _ st h => wpAny_pyIter_listiter st h
theorem turn_tuple {P : Program} {w : World} {K : PySem.W.Frag} {tg : Expr} (a it : Addr) : Turn P w K tg (Itt K a) [it] it (fun i h => h.IsTupleIter it a i) where
 mem := by simp
 obj := fun i h st b hb => by
  have e : b = it := by simpa using hb
  subst e
  obtain ⟨o, e, c, d⟩ := st
  exact ⟨o, e, fun v z => by rw [d] at z; cases z⟩
 keep := fun i h h' st k => st.at fun o e => k it (by simp) o e
 item := by
  intro X hP hw hK hc i pins s σ H E I hf st hg
  subst hP hw hK
  obtain ⟨xs, x, hq, hx⟩ := hg
  obtain ⟨its, rv, p, hz⟩ := I.tuple hq
  obtain ⟨u, hu, ru⟩ := rv.get hx
  obtain ⟨f0, f1, f2, f3, f4, f5⟩ := hf it (by simp)
  refine wpAny_pyNext_tuple_item st (show s.heap.IsTuple a its.toArray from p) (x := u) (by simpa using hu) fun h' st' sb => ?_
  have I1 : Inv X pins σ H { s with heap := h' } := I.turned (t' := s.toks) (fun b o hb e => (sb.2 b hb).trans e) f0 f1 f3 f4 f5
  obtain ⟨o, e, c, d⟩ := id st'
  exact ⟨u, rfl, go_of (s := { s with heap := h' }) e c d (by decide) ⟨x, H, I1, ru, ⟨rfl, fun ys hy => by rw [I.tuple_inj hy hq]; exact hx⟩, st', fun b hb => (hf b hb).1⟩⟩
 done := by
  intro X hP hw hK hc i pins s σ H E I hf st hg
  subst hP hw hK
  obtain ⟨xs, hq, hx⟩ := hg
  obtain ⟨its, rv, p, hz⟩ := I.tuple hq
  obtain ⟨f0, f1, f2, f3, f4, f5⟩ := hf it (by simp)
  have hl := rv.length
  exact wpAny_pyNext_tuple_end (I.ok.hd hc) st (show s.heap.IsTuple a its.toArray from p) (by simp; omega) fun h' eb => ⟨rfl, I.turned (t' := s.toks) (fun b o hb e => eb b o hb e) f0 f1 f3 f4 f5⟩
 self := fun _ _ _ _ _ st h => wpAny_pyIter_tupleiter st h
theorem turn_range {P : Program} {w : World} {K : PySem.W.Frag} {tg : Expr} (it : Addr) (lo : Int) (n : Nat) : Turn P w K tg (Itr lo n) [it] it (fun i h => IsRangeIter h it (lo + (i : Nat) * 1) ((n : Int) - (i : Nat)) 1) where
 mem := by simp
 obj := fun i h st b hb => by
  have e : b = it := by simpa using hb
  subst e
  exact ⟨_, st, fun v z => by
   have z' : Data.fields _ = Data.cell v := z
   cases z'⟩
 keep := fun i h h' st k => k it (by simp) _ st
 item := by
  intro X hP hw hK hc i pins s σ H E I hf st hg
  subst hP hw hK
  obtain ⟨f0, f1, f2, f3, f4, f5⟩ := hf it (by simp)
  have W := Walks.range (prog := X.prog) (w := X.w) (I.ok.hd hc) it lo 1 n
  refine W.item i s _ _ hg st fun v h' tk hv st' kk => ?_
  obtain ⟨t, rfl⟩ := hv
  have I1 : Inv X pins σ H { s with heap := h', toks := tk } := I.turned (fun b o hb e => kk b o (by simpa using hb) e) f0 f1 f3 f4 f5
  refine ⟨_, rfl, go_of (s := { s with heap := h', toks := tk }) (n := "range_iterator") st' rfl rfl (by decide) ⟨.int (lo + i), H, I1, ⟨t, ?_⟩, ⟨rfl, rfl⟩, st', fun b hb => (hf b hb).1⟩⟩
  rw [Int.mul_one]
 done := by
  intro X hP hw hK hc i pins s σ H E I hf st hg
  subst hP hw hK
  obtain ⟨f0, f1, f2, f3, f4, f5⟩ := hf it (by simp)
  exact wpAny_pyNext_range_end (I.ok.hd hc) st (by have : n ≤ i := hg; omega) fun h' eb => ⟨rfl, I.turned (t' := s.toks) (fun b o hb e => eb b o hb e) f0 f1 f3 f4 f5⟩
 self := fun _ _ _ _ _ st h => wpAny_pyIter_rangeiter st h
end L2
namespace L2
open PySem PySem.Spec PyProof.Rows
section
variable {X : Cx} {tg : Expr}
noncomputable def iList (K : PySem.W.Frag) (tl : TE) : TI := fun σ H R => tl σ H fun x H1 => ∃ a, x = .ref a ∧ (∃ xs, SqL K H1 a xs) ∧ R (Itl K a) H1
noncomputable def iTup (K : PySem.W.Frag) (tl : TE) : TI := fun σ H R => tl σ H fun x H1 => ∃ a, x = .ref a ∧ (∃ xs, SqT K H1 a xs) ∧ R (Itt K a) H1
theorem pi_list {l : Expr} {tl : TE} (hl : PE X l tl) : PI X tg l (iList X.K tl) := by
 intro pins s σ H R I h
 refine thn (hl pins s σ H _ I h) fun v s1 ⟨x, H1, I1, r1, q1⟩ => ?_
 obtain ⟨a, e, ⟨xs, hq⟩, q⟩ := q1
 subst e
 cases r1
 obtain ⟨its, rv, p, hz⟩ := I1.list hq
 refine wpAny_pyIter_list p.isList ?_
 refine ⟨s1.heap.objs.size, [s1.heap.objs.size], _, _, H1, rfl, I1.kept (t' := s1.toks) fun b o e => Heap.get?_push_of_some _ e, turn_list a _, ⟨_, Heap.get?_push_size _ rfl, rfl, rfl⟩, fun b hb => ?_, q⟩
 have e : b = s1.heap.objs.size := by simpa using hb
 subst e
 exact I1.fpOk (Nat.le_refl _) (I1.hok.fresh (Nat.le_refl _))
theorem pi_tup {l : Expr} {tl : TE} (hl : PE X l tl) : PI X tg l (iTup X.K tl) := by
 intro pins s σ H R I h
 refine thn (hl pins s σ H _ I h) fun v s1 ⟨x, H1, I1, r1, q1⟩ => ?_
 obtain ⟨a, e, ⟨xs, hq⟩, q⟩ := q1
 subst e
 cases r1
 obtain ⟨its, rv, p, hz⟩ := I1.tuple hq
 refine wpAny_pyIter_tuple (show s1.heap.IsTuple a its.toArray from p) ?_
 refine ⟨s1.heap.objs.size, [s1.heap.objs.size], _, _, H1, rfl, I1.kept (t' := s1.toks) fun b o e => Heap.get?_push_of_some _ e, turn_tuple a _, ⟨_, Heap.get?_push_size _ rfl, rfl, rfl⟩, fun b hb => ?_, q⟩
 have e : b = s1.heap.objs.size := by simpa using hb
 subst e
 exact I1.fpOk (Nat.le_refl _) (I1.hok.fresh (Nat.le_refl _))
theorem range_it {pins : List (Addr × Obj)} {σ : St} {H : Hp} {s : Shared} {R : It → Hp → Prop} {E : Value → Shared → Prop} {lo hi : Int} {t u v : Tok} {tk : Nat} (I : Inv X pins σ H s) (h1 : -(2 ^ 62) ≤ lo) (h2 : lo < 2 ^ 62) (h3 : -(2 ^ 62) ≤ hi) (h4 : hi < 2 ^ 62)
  (q : R (Itr lo (hi - lo).toNat) H) : wpAny (model X.prog X.w) X.A (pyIter (.ref s.heap.objs.size)) (PIE X pins σ tg R) E { s with heap := s.heap.push { cls := .type "range", data := .fields #[.int lo t, .int hi u, .int 1 v] }, toks := tk } := by
 refine wpAny_pyIter_range (IsRange.new ..) (small_one h1 h2 h3 h4) ?_
 have I1 : Inv X pins σ H { s with heap := s.heap.push { cls := .type "range", data := .fields #[.int lo t, .int hi u, .int 1 v] }, toks := tk } := I.kept fun b o e => Heap.get?_push_of_some _ e
 refine ⟨(s.heap.push { cls := .type "range", data := .fields #[.int lo t, .int hi u, .int 1 v] }).objs.size, [(s.heap.push { cls := .type "range", data := .fields #[.int lo t, .int hi u, .int 1 v] }).objs.size], _, _, H, rfl,
  I1.kept (t' := tk) fun b o e => Heap.get?_push_of_some _ e, turn_range _ lo (hi - lo).toNat, ?_, fun b hb => ?_, q⟩
 ·have e1 : lo + ((0 : Nat) : Int) * 1 = lo := by simp
  have e2 : (((hi - lo).toNat : Nat) : Int) - ((0 : Nat) : Int) = Builtin.Range.rangeSize lo hi 1 := by rw [rangeSize_one]; split <;> omega
  show IsRangeIter _ _ (lo + ((0 : Nat) : Int) * 1) ((((hi - lo).toNat : Nat) : Int) - ((0 : Nat) : Int)) 1
  rw [e1, e2]
  exact Heap.get?_push_size _ rfl
 ·have e : b = (s.heap.push { cls := .type "range", data := .fields #[.int lo t, .int hi u, .int 1 v] }).objs.size := by simpa using hb
  subst e
  exact I1.fpOk (Nat.le_refl _) (I1.hok.fresh (Nat.le_refl _))
noncomputable def iRng1 (ta : TA) : TI := fun σ H R => ta σ H fun vs H1 => ∃ j : Int, vs = [.int j] ∧ -(2 ^ 62) ≤ j ∧ j < 2 ^ 62 ∧ R (Itr 0 j.toNat) H1
theorem pi_range1 {a : Expr} {ta : TA} {p pos : Pos} (hg : Gl X "range") (hm : X.mg "range" = none) (ha : PA X [a] ta) (hs : starEach [a] X.env = [(false, eval a X.env)] := by rfl) : PI X tg (.Call (.Name "range" p) [a] [] pos) (iRng1 ta) := by
 intro pins s σ H R I h
 refine Call_ (ld_blt I hg hm boot_range (PyProof.Rows.callWith_type1 (thn (ha pos pins s σ H _ I h) fun us s1 ⟨vs, H1, I1, r1, q1⟩ => ?_) hs rfl))
 obtain ⟨j, e, q1, q2, q⟩ := q1
 subst e
 cases r1 with
 | cons r rr =>
  cases rr
  obtain ⟨t, rfl⟩ := r
  exact call_range_1 (range_it I1 (by omega) (by omega) q1 q2 (by simpa using q))
noncomputable def tFor (wi : TI) (g : TG) (tb : TS) : TS := fun D σ H => wi σ H fun J H1 => ∃ W : Nat → Nat → St → Hp → Prop, (∃ m, W 0 m σ H1) ∧ ∀ i m σ H, W i m σ H →
 (J.stop i H ∧ D.nx σ H) ∨ (J.go i H ∧ ∃ N : St → Hp → Prop, (∀ σ' H', N σ' H' → ∃ m', m' < m ∧ W (i + 1) m' σ' H') ∧ ∀ x H', J.yld i H x H' → g x σ H' fun σ2 H2 => tb { D with nx := N, ct := N, bk := D.nx } σ2 H2)
noncomputable def pinsAt (fp : List Addr) (h : Heap) : List (Addr × Obj) := fp.filterMap fun b => (h.get? b).map fun o => (b, o)
theorem mem_pinsAt {fp : List Addr} {h : Heap} {b : Addr} {o : Obj} (hb : b ∈ fp) (e : h.get? b = some o) : (b, o) ∈ pinsAt fp h := List.mem_filterMap.mpr ⟨b, hb, by rw [e]; rfl⟩
theorem of_pinsAt {fp : List Addr} {h : Heap} {p : Addr × Obj} (hp : p ∈ pinsAt fp h) : p.1 ∈ fp ∧ h.get? p.1 = some p.2 := by
 obtain ⟨b, hb, e⟩ := List.mem_filterMap.mp hp
 cases q : h.get? b with
 | none => rw [q] at e; cases e
 | some o =>
  rw [q] at e
  have e' : (b, o) = p := Option.some.inj e
  subst e'
  exact ⟨hb, q⟩
theorem Inv.pinned {pins : List (Addr × Obj)} {σ : St} {H : Hp} {s : Shared} {fp : List Addr} (I : Inv X pins σ H s) (hf : ∀ b ∈ fp, FpOk X pins H b) (ho : ∀ b ∈ fp, ∃ o, s.heap.get? b = some o ∧ ∀ v, o.data ≠ .cell v) : Inv X (pins ++ pinsAt fp s.heap) σ H s :=
 I.pins_of fun p hp => (List.mem_append.mp hp).elim (fun z => I.pin p (List.mem_append_right _ z)) fun z => by
  obtain ⟨hb, e⟩ := of_pinsAt z
  obtain ⟨f0, f1, f2, _⟩ := hf p.1 hb
  obtain ⟨o, e', d⟩ := ho p.1 hb
  rw [e] at e'; cases e'
  exact ⟨e, f0, f1, f2, d⟩
theorem Inv.unpinned {pins pl : List (Addr × Obj)} {σ : St} {H : Hp} {s : Shared} (I : Inv X (pins ++ pl) σ H s) : Inv X pins σ H s := I.pins_of fun p hp => I.pin p (List.mem_append_right _ (List.mem_append_left _ hp))
theorem ps_for {iter : Expr} {body : List Stmt} {wi : TI} {g : TG} {tb : TS} {pos : Pos} (hp : PassesOwn (model X.prog X.w) X.A X.env X.xe) (hc : X.calm = true) (hi : PI X tg iter wi) (hg : PG X tg g) (hb : PSs X body tb)
  (hs : ∀ x, foldedSetIterable iter X.env x = pure x := by intro _; rfl) : PS X (.For tg iter body [] pos) (tFor wi g tb) := by
 intro pins s σ H D I h
 refine wpAny_For (thn (hi pins s σ H _ I h) fun v s1 h1 => thn h1 fun itv s2 h2 => ?_) hs
 obtain ⟨it, fp, tn, J, H2, e, I2, T, st2, f2, W, ⟨m0, w0⟩, turn⟩ := h2
 subst e
 have stat : ∀ {H' : Hp}, (∀ b ∈ fp, H' b = none) → ∀ b ∈ fp, FpOk X pins H' b := fun hn b hb => ⟨hn b hb, (f2 b hb).2⟩
 refine codeAny_forLoop_any (fun n s' => ∃ i σ' H', Inv X pins σ' H' s' ∧ tn i s'.heap ∧ (∀ b ∈ fp, H' b = none) ∧ W i n σ' H') ?_ m0 ⟨0, σ, H2, I2, st2, fun b hb => (f2 b hb).1, w0⟩
 rintro n s3 ⟨i, σ3, H3, I3, st3, fr3, w3⟩
 rcases turn i n σ3 H3 w3 with ⟨stop, qn⟩ | ⟨go, N, hN, step⟩
 ·refine wpAny_passesOwn hp (thn (T.done X rfl rfl rfl hc i pins s3 σ3 H3 X.xe I3 (stat fr3) st3 stop) fun r s4 ⟨hr, I4⟩ => ?_)
  subst hr
  exact wpAny_execs_nil ⟨σ3, H3, I4, qn⟩
 ·refine wpAny_passesOwn hp (thn (T.item X rfl rfl rfl hc i pins s3 σ3 H3 X.xe I3 (stat fr3) st3 go) fun r s4 ⟨u, hr, h4⟩ => ?_)
  subst hr
  refine wpAny_passesOwn hp (thn h4 fun _ s5 ⟨x, H5, I5, r5, y5, st5, fr5⟩ => ?_)
  have I5' := I5.pinned (stat fr5) (T.obj _ _ st5)
  refine wpAny_passesOwn hp (thn (hg _ s5 σ3 H5 x u _ I5' r5 (step x H5 y5)) fun _ s6 ⟨σ6, H6, I6, q6⟩ => ?_)
  refine wpAny_passesOwn hp (thn (hb _ s6 σ6 H6 _ I6 q6) fun f s7 q7 => ?_)
  have again : ∀ {σ7 : St} {H7 : Hp}, Inv X (pins ++ pinsAt fp s5.heap) σ7 H7 s7 → N σ7 H7 → ∃ m, m < n ∧ ∃ i σ' H', Inv X pins σ' H' s7 ∧ tn i s7.heap ∧ (∀ b ∈ fp, H' b = none) ∧ W i m σ' H' := fun {σ7 H7} I7 n7 => by
   obtain ⟨m', hm, w7⟩ := hN σ7 H7 n7
   refine ⟨m', hm, i + 1, σ7, H7, I7.unpinned, T.keep _ _ _ st5 fun b hb o e => (I7.pin (b, o) (List.mem_append_right _ (List.mem_append_right _ (mem_pinsAt hb e)))).1, fun b hb => ?_, w7⟩
   obtain ⟨o, e, d⟩ := T.obj _ _ st5 b hb
   exact (I7.pin (b, o) (List.mem_append_right _ (List.mem_append_right _ (mem_pinsAt hb e)))).2.1
  cases f with
  | next => obtain ⟨σ7, H7, I7, n7⟩ := q7; exact again I7 n7
  | cont => obtain ⟨σ7, H7, I7, n7⟩ := q7; exact again I7 n7
  | brk => obtain ⟨σ7, H7, I7, q7⟩ := q7; exact ⟨σ7, H7, I7.unpinned, q7⟩
  | ret v => obtain ⟨x7, σ7, H7, I7, r7, q7⟩ := q7; exact ⟨x7, σ7, H7, I7.unpinned, r7, q7⟩
end
theorem for_list {K : PySem.W.Frag} {a : Addr} {xs : List V} {g : TG} {tb : TS} {D : Ends} {σ : St} {H : Hp} (Pv : Nat → St → Hp → Prop) (h0 : Pv 0 σ H) (hl : ∀ i σ H, i ≤ xs.length → Pv i σ H → SqL K H a xs)
  (hs : ∀ i x σ H, xs[i]? = some x → Pv i σ H → g x σ H fun σ2 H2 => tb { D with nx := Pv (i + 1), ct := Pv (i + 1), bk := D.nx } σ2 H2) (hd : ∀ σ H, Pv xs.length σ H → D.nx σ H) :
  ∃ W : Nat → Nat → St → Hp → Prop, (∃ m, W 0 m σ H) ∧ ∀ i m σ H, W i m σ H →
   ((Itl K a).stop i H ∧ D.nx σ H) ∨ ((Itl K a).go i H ∧ ∃ N : St → Hp → Prop, (∀ σ' H', N σ' H' → ∃ m', m' < m ∧ W (i + 1) m' σ' H') ∧ ∀ x H', (Itl K a).yld i H x H' → g x σ H' fun σ2 H2 => tb { D with nx := N, ct := N, bk := D.nx } σ2 H2) := by
 refine ⟨fun i m σ H => m = xs.length - i ∧ i ≤ xs.length ∧ Pv i σ H, ⟨xs.length, by simp, Nat.zero_le _, h0⟩, ?_⟩
 rintro i m σ H ⟨rfl, hi, p⟩
 have q := hl i σ H hi p
 by_cases hlt : i < xs.length
 ·refine .inr ⟨⟨xs, xs[i], q, by simp [hlt]⟩, Pv (i + 1), fun σ' H' p' => ⟨xs.length - (i + 1), by omega, rfl, hlt, p'⟩, fun x H' y => ?_⟩
  obtain ⟨e, y⟩ := y
  subst e
  exact hs i x σ _ (y xs q) p
 ·have e : i = xs.length := by omega
  subst e
  exact .inl ⟨⟨xs, q, Nat.le_refl _⟩, hd σ H p⟩
theorem for_range {lo : Int} {n : Nat} {g : TG} {tb : TS} {D : Ends} {σ : St} {H : Hp} (Pv : Nat → St → Hp → Prop) (h0 : Pv 0 σ H)
  (hs : ∀ i σ H, i < n → Pv i σ H → g (.int (lo + i)) σ H fun σ2 H2 => tb { D with nx := Pv (i + 1), ct := Pv (i + 1), bk := D.nx } σ2 H2) (hd : ∀ σ H, Pv n σ H → D.nx σ H) :
  ∃ W : Nat → Nat → St → Hp → Prop, (∃ m, W 0 m σ H) ∧ ∀ i m σ H, W i m σ H →
   ((Itr lo n).stop i H ∧ D.nx σ H) ∨ ((Itr lo n).go i H ∧ ∃ N : St → Hp → Prop, (∀ σ' H', N σ' H' → ∃ m', m' < m ∧ W (i + 1) m' σ' H') ∧ ∀ x H', (Itr lo n).yld i H x H' → g x σ H' fun σ2 H2 => tb { D with nx := N, ct := N, bk := D.nx } σ2 H2) := by
 refine ⟨fun i m σ H => m = n - i ∧ i ≤ n ∧ Pv i σ H, ⟨n, by simp, Nat.zero_le _, h0⟩, ?_⟩
 rintro i m σ H ⟨rfl, hi, p⟩
 by_cases hlt : i < n
 ·refine .inr ⟨hlt, Pv (i + 1), fun σ' H' p' => ⟨n - (i + 1), by omega, rfl, hlt, p'⟩, fun x H' y => ?_⟩
  obtain ⟨e, y⟩ := y
  subst e y
  exact hs i σ _ hlt p
 ·have e : i = n := by omega
  subst e
  exact .inl ⟨Nat.le_refl _, hd σ H p⟩
end L2
namespace L2
open PySem PySem.Spec PyProof.Rows
noncomputable abbrev R2 := V → V → Hp → VK → Prop
noncomputable def OpR (X : Cx) (f : Value → Value → Sem Value) (r : R2) : Prop :=
 ∀ (pins : List (Addr × Obj)) (s : Shared) (σ : St) (H : Hp) (x y : V) (v u : Value) (Q : VK), Inv X pins σ H s → RelV x v → RelV y u → r x y H Q →
  wpAny (model X.prog X.w) X.A (f v u) (EP X pins σ Q) X.xe s
noncomputable def UnR (X : Cx) (f : Value → Sem Value) (r : V → Hp → VK → Prop) : Prop :=
 ∀ (pins : List (Addr × Obj)) (s : Shared) (σ : St) (H : Hp) (x : V) (v : Value) (Q : VK), Inv X pins σ H s → RelV x v → r x H Q →
  wpAny (model X.prog X.w) X.A (f v) (EP X pins σ Q) X.xe s
noncomputable def CallR (X : Cx) (f : Value) (r : List V → Hp → VK → Prop) : Prop :=
 ∀ (pins : List (Addr × Obj)) (s : Shared) (σ : St) (H : Hp) (xs : List V) (us : List Value) (Q : VK), Inv X pins σ H s → Vals xs us → r xs H Q →
  wpAny (model X.prog X.w) X.A (call f us) (EP X pins σ Q) X.xe s
noncomputable def tOp (r : R2) (ta tb : TE) : TE := fun σ H Q => ta σ H fun x H1 => tb σ H1 fun y H2 => r x y H2 Q
noncomputable def tUn (r : V → Hp → VK → Prop) (ta : TE) : TE := fun σ H Q => ta σ H fun x H1 => r x H1 Q
noncomputable def rI (C : Int → Int → Prop) (g : Int → Int → V) : R2 := fun x y H Q => ∃ i j, x = .int i ∧ y = .int j ∧ C i j ∧ Q (g i j) H
noncomputable def rI0 (g : Int → Int → V) : R2 := fun x y H Q => ∃ i j, x = .int i ∧ y = .int j ∧ Q (g i j) H
noncomputable def rU (g : Int → V) : V → Hp → VK → Prop := fun x H Q => ∃ i, x = .int i ∧ Q (g i) H
section
variable {X : Cx} {a b c : Expr} {ta tb tc : TE} {pos : Pos}
theorem binT (ha : PE X a ta) (hb : PE X b tb) {pins : List (Addr × Obj)} {s : Shared} {σ : St} {H : Hp} {R : V → V → Hp → Prop} (I : Inv X pins σ H s)
  (h : ta σ H fun x H1 => tb σ H1 fun y H2 => R x y H2) {Q : Value → Shared → Prop} {f : Value → Value → Sem Value}
  (hf : ∀ v u s2 x y H2, Inv X pins σ H2 s2 → RelV x v → RelV y u → R x y H2 → wpAny (model X.prog X.w) X.A (f v u) Q X.xe s2) :
  wpAny (model X.prog X.w) X.A (eval a X.env) (fun v s₁ => wpAny (model X.prog X.w) X.A (eval b X.env) (fun u s₂ => wpAny (model X.prog X.w) X.A (f v u) Q X.xe s₂) X.xe s₁) X.xe s := by
 refine thn (ha pins s σ H _ I h) fun v s1 ⟨x, H1, I1, r1, q1⟩ => ?_
 refine thn (hb pins s1 σ H1 _ I1 q1) fun u s2 ⟨y, H2, I2, r2, q2⟩ => ?_
 exact hf v u s2 x y H2 I2 r1 r2 q2
theorem pe_op {op : Operator} {r : R2} (ho : OpR X (binaryOp op) r) (ha : PE X a ta) (hb : PE X b tb) : PE X (.BinOp a op b pos) (tOp r ta tb) := by
 intro pins s σ H Q I h
 exact wpAny_BinOp (binT ha hb I h fun v u s2 x y H2 I2 rx ry q => ho pins s2 σ H2 x y v u Q I2 rx ry q)
theorem pe_un {op : UnaryOp} {r : V → Hp → VK → Prop} (ho : UnR X (unaryOp op) r) (ha : PE X a ta) : PE X (.UnaryOp op a pos) (tUn r ta) := by
 intro pins s σ H Q I h
 exact UnaryOp_ (thn (ha pins s σ H _ I h) fun v s1 ⟨x, H1, I1, r1, q1⟩ => ho pins s1 σ H1 x v Q I1 r1 q1)
theorem opI {f : Value → Value → Sem Value} {C : Int → Int → Prop} {g : Int → Int → Int}
  (rule : ∀ (i j : Int) (t u : Tok) (s : Shared) (Q : Value → Shared → Prop) (E : Value → Shared → Prop), C i j → Q (.int (g i j) s.toks) { s with toks := s.toks + 1 } → wpAny (model X.prog X.w) X.A (f (.int i t) (.int j u)) Q E s) :
  OpR X f (rI C fun i j => .int (g i j)) := by
 intro pins s σ H x y v u Q I rx ry h
 obtain ⟨i, j, rfl, rfl, hc, q⟩ := h
 obtain ⟨t, rfl⟩ := rx
 obtain ⟨t', rfl⟩ := ry
 exact rule i j t t' s _ _ hc ⟨.int (g i j), H, I.tok _, ⟨_, rfl⟩, q⟩
theorem opI0 {f : Value → Value → Sem Value} {g : Int → Int → Int}
  (rule : ∀ (i j : Int) (t u : Tok) (s : Shared) (Q : Value → Shared → Prop) (E : Value → Shared → Prop), Q (.int (g i j) s.toks) { s with toks := s.toks + 1 } → wpAny (model X.prog X.w) X.A (f (.int i t) (.int j u)) Q E s) :
  OpR X f (rI0 fun i j => .int (g i j)) := by
 intro pins s σ H x y v u Q I rx ry h
 obtain ⟨i, j, rfl, rfl, q⟩ := h
 obtain ⟨t, rfl⟩ := rx
 obtain ⟨t', rfl⟩ := ry
 exact rule i j t t' s _ _ ⟨.int (g i j), H, I.tok _, ⟨_, rfl⟩, q⟩
theorem opB0 {f : Value → Value → Sem Value} {g : Int → Int → Bool}
  (rule : ∀ (i j : Int) (t u : Tok) (s : Shared) (Q : Value → Shared → Prop) (E : Value → Shared → Prop), Q (.bool (g i j)) s → wpAny (model X.prog X.w) X.A (f (.int i t) (.int j u)) Q E s) :
  OpR X f (rI0 fun i j => .bl (g i j)) := by
 intro pins s σ H x y v u Q I rx ry h
 obtain ⟨i, j, rfl, rfl, q⟩ := h
 obtain ⟨t, rfl⟩ := rx
 obtain ⟨t', rfl⟩ := ry
 exact rule i j t t' s _ _ ⟨.bl (g i j), H, I, rfl, q⟩
noncomputable def CDiv (i j : Int) : Prop := 0 < j ∧ j < 1073741824
noncomputable def CMul (i j : Int) : Prop := (-(2 ^ 64) < i ∧ i < 2 ^ 64) ∨ (-(2 ^ 64) < j ∧ j < 2 ^ 64)
theorem CMul.ok {i j : Int} (h : CMul i j) : IntMulOk i j := by
 rcases h with ⟨h1, h2⟩ | ⟨h1, h2⟩
 ·exact .of_left (intBits_le_64 h1 h2)
 ·exact .of_right (intBits_le_64 h1 h2)
theorem op_add : OpR X (binaryOp .Add) (rI0 fun i j => .int (i + j)) := opI0 fun _ _ _ _ _ _ _ q => add_int q
theorem op_sub : OpR X (binaryOp .Sub) (rI0 fun i j => .int (i - j)) := opI0 fun _ _ _ _ _ _ _ q => sub_int q
theorem op_mul : OpR X (binaryOp .Mult) (rI CMul fun i j => .int (i * j)) := opI fun _ _ _ _ _ _ _ hc q => mul_int q hc.ok
theorem op_fdiv : OpR X (binaryOp .FloorDiv) (rI CDiv fun i j => .int (i / j)) := opI fun i j _ _ _ _ _ hc q => by
 have h1 : (0 : Int) < j := hc.1
 have h2 : j < 1073741824 := hc.2
 exact floordiv_int (by omega) (by rw [Int.fdiv_eq_ediv_of_nonneg i (by omega)]; exact q) (.inl (PyProof.noPylong_small (by omega)))
theorem op_mod : OpR X (binaryOp .Mod) (rI (fun _ j => 0 < j) fun i j => .int (i % j)) := opI fun i j _ _ _ _ _ hc q => by
 have h1 : (0 : Int) < j := hc
 exact mod_int' (by omega) (by rw [Int.fmod_eq_emod_of_nonneg i (by omega)]; exact q)
theorem unI {f : Value → Sem Value} {g : Int → Int}
  (rule : ∀ (i : Int) (t : Tok) (s : Shared) (Q : Value → Shared → Prop) (E : Value → Shared → Prop), Q (.int (g i) s.toks) { s with toks := s.toks + 1 } → wpAny (model X.prog X.w) X.A (f (.int i t)) Q E s) :
  UnR X f (rU fun i => .int (g i)) := by
 intro pins s σ H x v Q I rx h
 obtain ⟨i, rfl, q⟩ := h
 obtain ⟨t, rfl⟩ := rx
 exact rule i t s _ _ ⟨.int (g i), H, I.tok _, ⟨_, rfl⟩, q⟩
theorem un_neg : UnR X (unaryOp .USub) (rU fun i => .int (-i)) := unI fun _ _ _ _ _ q => neg_int q
end
section
variable {X : Cx} {a b c : Expr} {ta tb tc : TE} {pos : Pos}
theorem fin_bl {pins : List (Addr × Obj)} {σ : St} {H : Hp} {s : Shared} {Q : VK} {k k' : Bool} (I : Inv X pins σ H s) (q : Q (.bl k) H) (e : k = k') : EP X pins σ Q (.bool k') s := by
 subst e
 exact ⟨.bl k, H, I, rfl, q⟩
theorem op_lt : OpR X (compareOp .Lt) (rI0 fun i j => .bl (decide (i < j))) := opB0 fun _ _ _ _ _ _ _ q => lt_int q
theorem op_le : OpR X (compareOp .LtE) (rI0 fun i j => .bl (decide (i ≤ j))) := opB0 fun _ _ _ _ _ _ _ q => le_int q
theorem op_gt : OpR X (compareOp .Gt) (rI0 fun i j => .bl (decide (j < i))) := opB0 fun _ _ _ _ _ _ _ q => gt_int q
theorem op_ge : OpR X (compareOp .GtE) (rI0 fun i j => .bl (decide (j ≤ i))) := opB0 fun _ _ _ _ _ _ _ q => ge_int q
theorem op_notN : OpR X (compareOp .IsNot) (fun x y H Q => y = .non ∧ Q (.bl (!decide (x = .non))) H) := by
 intro pins s σ H x y v u Q I rx ry h
 obtain ⟨rfl, q⟩ := h
 cases ry
 refine isnot_none_gen (fin_bl I q ?_)
 cases x <;> first
  | (cases rx; rfl)
  | (obtain ⟨t, rfl⟩ := rx; rfl)
theorem OpR.or {f : Value → Value → Sem Value} {r r' : R2} (h : OpR X f r) (h' : OpR X f r') : OpR X f (fun x y H Q => r x y H Q ∨ r' x y H Q) := by
 intro pins s σ H x y v u Q I rx ry q
 rcases q with q | q
 ·exact h pins s σ H x y v u Q I rx ry q
 ·exact h' pins s σ H x y v u Q I rx ry q
theorem nomark (b : Expr) {op : CmpOp} (h : op ≠ .In := by decide) (h2 : op ≠ .NotIn := by decide) : behindInMarks op b = false := by
 have e1 : (op == CmpOp.In) = false := by cases op <;> first | rfl | exact absurd rfl h
 have e2 : (op == CmpOp.NotIn) = false := by cases op <;> first | rfl | exact absurd rfl h2
 cases b <;> simp [behindInMarks, e1, e2]
theorem pe_cmpR {op : CmpOp} {r : R2} (ho : OpR X (compareOp op) r) (ha : PE X a ta) (hb : PE X b tb) (hm : behindInMarks op b = false) : PE X (.Compare a [op] [b] pos) (tOp r ta tb) := by
 intro pins s σ H Q I h
 exact wpAny_Compare1 (binT ha hb I h fun v u s2 x y H2 I2 rx ry q => ho pins s2 σ H2 x y v u Q I2 rx ry q) hm
noncomputable def tTest (t : TE) : TT := fun σ H Q => t σ H fun x H' => ∃ k, x = .bl k ∧ Q k H'
theorem pt_cmpR {op : CmpOp} {r : R2} (ho : OpR X (compareOp op) r) (ha : PE X a ta) (hb : PE X b tb) (hm : behindInMarks op b = false) : PT X (.Compare a [op] [b] pos) (tTest (tOp r ta tb)) := by
 intro pins s σ H Q I h
 refine wpAny_isTrue_Compare1 (thn (ha pins s σ H _ I h) fun v s1 ⟨x, H1, I1, r1, q1⟩ => thn (hb pins s1 σ H1 _ I1 q1) fun u s2 ⟨y, H2, I2, r2, q2⟩ =>
  thn (ho pins s2 σ H2 x y v u _ I2 r1 r2 q2) fun c s3 ⟨z, H3, I3, r3, k, e, q3⟩ => ?_) hm
 subst e
 cases r3
 exact wpAny_truthy_bool ⟨H3, I3, q3⟩
noncomputable def tChain (r r' : R2) (ta tb tc : TE) : TE := fun σ H Q => ta σ H fun x H1 => tb σ H1 fun y H2 => r x y H2 fun z H3 => ∃ k, z = .bl k ∧
 (if k = true then tc σ H3 fun w' H4 => r' y w' H4 Q else Q (.bl false) H3)
theorem pe_chain {op op' : CmpOp} {r r' : R2} (ho : OpR X (compareOp op) r) (ho' : OpR X (compareOp op') r') (ha : PE X a ta) (hb : PE X b tb) (hc : PE X c tc)
  (hm : lastMarks [op, op'] [b, c] = false := by with_unfolding_all rfl) : PE X (.Compare a [op, op'] [b, c] pos) (tChain r r' ta tb tc) := by
 intro pins s σ H Q I h
 refine Compare_chain (thn (ha pins s σ H _ I h) fun v s1 ⟨x, H1, I1, r1, q1⟩ => chain_link (thn (hb pins s1 σ H1 _ I1 q1) fun u s2 ⟨y, H2, I2, r2, q2⟩ =>
  thn (ho pins s2 σ H2 x y v u _ I2 r1 r2 q2) fun d s3 ⟨z, H3, I3, r3, k, e, q3⟩ => ?_)) hm
 subst e
 cases r3
 refine wpAny_truthy_bool ?_
 cases k with
 | false => exact ite_ff ⟨.bl false, H3, I3, rfl, q3⟩
 | true => exact ite_tt (chain_last (thn (hc pins s3 σ H3 _ I3 q3) fun w' s4 ⟨z', H4, I4, r4, q4⟩ => ho' pins s4 σ H4 y z' u w' Q I4 r2 r4 q4))
theorem pt_chain {op op' : CmpOp} {r r' : R2} (ho : OpR X (compareOp op) r) (ho' : OpR X (compareOp op') r') (ha : PE X a ta) (hb : PE X b tb) (hc : PE X c tc)
  (hm : lastMarks [op, op'] [b, c] = false := by with_unfolding_all rfl) : PT X (.Compare a [op, op'] [b, c] pos) (tTest (tChain r r' ta tb tc)) := by
 intro pins s σ H Q I h
 refine isTrue_chain (thn (ha pins s σ H _ I h) fun v s1 ⟨x, H1, I1, r1, q1⟩ => test_link (thn (hb pins s1 σ H1 _ I1 q1) fun u s2 ⟨y, H2, I2, r2, q2⟩ =>
  thn (ho pins s2 σ H2 x y v u _ I2 r1 r2 q2) fun d s3 ⟨z, H3, I3, r3, k, e, q3⟩ => ?_)) hm
 subst e
 cases r3
 refine wpAny_truthy_bool ?_
 cases k with
 | false =>
  obtain ⟨k', e', q'⟩ := q3
  cases e'
  exact ite_ff ⟨H3, I3, q'⟩
 | true =>
  refine ite_tt (test_last (thn (hc pins s3 σ H3 _ I3 q3) fun w' s4 ⟨z', H4, I4, r4, q4⟩ => thn (ho' pins s4 σ H4 y z' u w' _ I4 r2 r4 q4) fun d' s5 ⟨z2, H5, I5, r5, k2, e2, q5⟩ => ?_))
  subst e2
  cases r5
  exact wpAny_truthy_bool ⟨H5, I5, q5⟩
theorem line63 : (sizeLine : Nat) < 2 ^ 63 := by rw [sizeLine_eq]; decide
theorem vals1 {x : V} {us : List Value} (r : Vals [x] us) : ∃ u, us = [u] ∧ RelV x u := by
 cases r with
 | cons r1 r2 => cases r2; exact ⟨_, rfl, r1⟩
theorem vals2 {x y : V} {us : List Value} (r : Vals [x, y] us) : ∃ u w', us = [u, w'] ∧ RelV x u ∧ RelV y w' := by
 cases r with
 | cons r1 r2 =>
  cases r2 with
  | cons r3 r4 => cases r4; exact ⟨_, _, rfl, r1, r3⟩
theorem call_max2 (hc : X.calm = true) : CallR X (.builtin "max") (fun xs H Q => ∃ i j, xs = [.int i, .int j] ∧ Q (.int (if j > i then j else i)) H) := by
 intro pins s σ H xs us Q I r h
 obtain ⟨i, j, rfl, q⟩ := h
 obtain ⟨u, w', rfl, ⟨t, rfl⟩, ⟨t', rfl⟩⟩ := vals2 r
 refine max_two_ints (I.ok.hd hc) fun h' tk k => ⟨_, H, I.kept k, ?_, q⟩
 by_cases hj : j > i
 ·rw [if_pos hj, if_pos hj]; exact ⟨_, rfl⟩
 ·rw [if_neg hj, if_neg hj]; exact ⟨_, rfl⟩
theorem call_min2 (hc : X.calm = true) : CallR X (.builtin "min") (fun xs H Q => ∃ i j, xs = [.int i, .int j] ∧ Q (.int (if j < i then j else i)) H) := by
 intro pins s σ H xs us Q I r h
 obtain ⟨i, j, rfl, q⟩ := h
 obtain ⟨u, w', rfl, ⟨t, rfl⟩, ⟨t', rfl⟩⟩ := vals2 r
 refine min_two_ints (I.ok.hd hc) fun h' tk k => ⟨_, H, I.kept k, ?_, q⟩
 by_cases hj : j < i
 ·rw [if_pos hj, if_pos hj]; exact ⟨_, rfl⟩
 ·rw [if_neg hj, if_neg hj]; exact ⟨_, rfl⟩
theorem call_int1 : CallR X (.type "int") (fun xs H Q => (∃ i, xs = [.int i] ∧ Q (.int i) H) ∨ ∃ k, xs = [.bl k] ∧ Q (.int (if k then 1 else 0)) H) := by
 intro pins s σ H xs us Q I r h
 rcases h with ⟨i, rfl, q⟩ | ⟨k, rfl, q⟩
 ·obtain ⟨u, rfl, t, rfl⟩ := vals1 r
  exact call_int_int ⟨.int i, H, I, ⟨_, rfl⟩, q⟩
 ·obtain ⟨u, rfl, r1⟩ := vals1 r
  cases r1
  exact call_int_bool ⟨.int (if k then 1 else 0), H, I.tok _, ⟨_, rfl⟩, q⟩
end
end L2
namespace L2
open PySem PySem.Spec PyProof.Rows
structure ObjM (h : Heap) (x dx C : Addr) (mA : Str → Option Value) : Prop where
 obj : h.get? x = some (PySem.W.instObj C dx)
 ns : h.Ns1 dx mA
 ne : dx ≠ x
section
variable {prog : Program} {w : World} {A : Around} {E : Value → Shared → Prop} {s : Shared} {K : PySem.W.Frag} {x dx C f : Addr} {mA : Str → Option Value} {name : Str} {v : Value}
end
theorem RelO.some_of {v : V} {o : Option Value} (r : RelO (some v) o) : ∃ u, o = some u ∧ RelV v u := by
 cases o with
 | none => exact (show False from r).elim
 | some u => exact ⟨u, rfl, r⟩
section
variable {P : Program} {w : World} {H H' : Hp} {h h' : Heap} {a C dx : Addr} {fs fs' : List (Str × V)}
end
structure Cls (K : PySem.W.Frag) (C : Addr) : Prop where
 pg : PySem.W.plainGet K C Str.empty = true
 hd : PySem.W.hasDictIn K C = true
 po : PySem.W.plainOver K C = true
 sa : PySem.W.findIn K (.ref C) "__setattr__" = some (some (.builtin "object.__setattr__"))
theorem Cls.get {K : PySem.W.Frag} {C : Addr} (c : Cls K C) (f : Str) : PySem.W.plainGet K C f = true := c.pg
structure Con (K : PySem.W.Frag) (C : Addr) (f : Str) (v : V) (u : Value) : Prop where
 at_ : PySem.W.findIn K (.ref C) f = some (some u)
 rel : RelV v u
 get : PySem.W.specialIn K u "__get__" = some none
 cp : PySem.W.copiedNames.contains f = false
structure Meth (K : PySem.W.Frag) (C : Addr) (m : Str) (f : Addr) : Prop where
 at_ : PySem.W.findIn K (.ref C) m = some (some (.ref f))
 fn : PySem.W.isFn K (.ref f) = true
 kp : PySem.W.keepIn K (.ref f) = true
section
variable {X : Cx} {pins : List (Addr × Obj)} {σ : St} {H : Hp} {s : Shared} {a C dx : Addr} {fs : List (Str × V)} {f : Str} {v : V} {A : Around} {E : Value → Shared → Prop}
theorem Inv.made (I : Inv X pins σ H s) : Inv X pins σ (upd (upd H s.heap.objs.size (.own (s.heap.objs.size + 1))) (s.heap.objs.size + 1) (.ins C s.heap.objs.size []))
  { s with heap := (s.heap.push PySem.W.emptyDict).push (PySem.W.instObj C s.heap.objs.size) } := by
 have e1 : (s.heap.push PySem.W.emptyDict).get? s.heap.objs.size = some PySem.W.emptyDict := Heap.get?_push_size s.heap rfl
 have e2 : ((s.heap.push PySem.W.emptyDict).push (PySem.W.instObj C s.heap.objs.size)).get? (s.heap.objs.size + 1) = some (PySem.W.instObj C s.heap.objs.size) := by
  have := Heap.get?_push_size (s.heap.push PySem.W.emptyDict) (o := PySem.W.instObj C s.heap.objs.size) rfl
  rwa [Heap.size_push] at this
 have e3 : (s.heap.push PySem.W.emptyDict).Ns s.heap.objs.size (fun _ => none) := ⟨PySem.W.emptyDict, #[], _, e1, rfl, (fun e he => absurd he (by simp)), fun _ => rfl⟩
 have I1 := I.laid (a := s.heap.objs.size) (o := .own (s.heap.objs.size + 1)) (h' := s.heap.push PySem.W.emptyDict) (t' := s.toks) (fun b u q => Heap.get?_push_of_some _ q) (Nat.le_refl _) ⟨_, e1⟩
 refine I1.laid (a := s.heap.objs.size + 1) (o := .ins C s.heap.objs.size []) (t' := s.toks) (fun b u q => Heap.get?_push_of_some _ q) (Nat.le_of_eq (Heap.size_push _ _)) ?_
 have ne : s.heap.objs.size ≠ s.heap.objs.size + 1 := Nat.ne_of_lt (Nat.lt_succ_self _)
 refine ⟨by rw [upd_ne ne, upd_same], Nat.zero_le _, ne, e2, fun _ => none, (Heap.Ns1.of_empty e3).at fun o q => Heap.get?_push_of_some _ q, fun _ => True.intro, fun y hy => absurd rfl hy⟩
end
section
variable {X : Cx} {o e value : Expr} {f : Str} {pos pos' tpos : Pos} {ta tv : TE}
end
section
variable {X : Cx} {pins : List (Addr × Obj)} {σ : St} {H : Hp} {s : Shared} {A : Around} {E : Value → Shared → Prop} {Q : Value → Shared → Prop} {c : Value} {b : Bool}
inductive TyOf (K : PySem.W.Frag) (H : Hp) : V → Value → Prop where
 | non : TyOf K H .non (.type "NoneType")
 | bl (x : Bool) : TyOf K H (.bl x) (.type "bool")
 | int (i : Int) : TyOf K H (.int i) (.type "int")
 | str (x : Str) : TyOf K H (.str x) (.type "str")
 | flt (x : UInt64) : TyOf K H (.flt x) (.type "float")
 | lst {a : Addr} {xs : List V} (e : H a = some (.lst xs)) : TyOf K H (.ref a) (.type "list")
 | frz {a : Addr} {o : Obj} {xs : List V} (e : H a = some (.frz o (.lst xs))) : TyOf K H (.ref a) (.type "list")
 | tup {a : Addr} {xs : List V} (e : H a = some (.tup xs)) : TyOf K H (.ref a) (.type "tuple")
 | dK {a : Addr} {kvs : List (Key × V)} (e : H a = some (.dK kvs)) : TyOf K H (.ref a) (.type "dict")
 | dT {a : Addr} {kvs : List (List Key × V)} (e : H a = some (.dT kvs)) : TyOf K H (.ref a) (.type "dict")
 | ins {a C dx : Addr} {fs : List (Str × V)} (e : H a = some (.ins C dx fs)) (cl : Cls K C) (ha : PySem.W.findIn K (.ref C) "__class__" = some (some (.builtin "object.__class__")))
   (hn : PySem.W.specialIn K (.builtin "object.__class__") "__get__" = some (some (.builtin "getset_descriptor.__get__"))) (htk : PySem.W.takesIn K (.builtin "object.__class__") = some true)
   (hm : PySem.W.mroIn K C (.type "object") = some true) : TyOf K H (.ref a) (.ref C)
end
end L2
namespace L2
open PySem PySem.Spec PyProof.Rows
structure Room (k : Nat) (A : Around) : Prop where
 hd : A.handled = none
 dp : A.depth + 3 * k + 5 < recursionLimit
 un : A.units + 16 * k + 200 < cLine
theorem Room.mono {j k : Nat} {A : Around} (r : Room k A) (h : j ≤ k) : Room j A := ⟨r.hd, by have := r.dp; omega, by have := r.un; omega⟩
theorem Room.deeper {k : Nat} {A : Around} (r : Room (k + 1) A) (env : Env) : Room k (A.deeper env) :=
 ⟨r.hd, by have := r.dp; show A.depth + 1 + 3 * k + 5 < _; omega, by have := r.un; show A.units + 3 + 16 * k + 200 < _; omega⟩
theorem Room.in1 {k : Nat} {A : Around} (r : Room (k + 1) A) : Room k A.in1 :=
 ⟨r.hd, by have := r.dp; show A.depth + 3 * k + 5 < _; omega, by have := r.un; show A.units + 1 + 16 * k + 200 < _; omega⟩
theorem Room.depth {k : Nat} {A : Around} (r : Room k A) : A.depth < recursionLimit := by have := r.dp; omega
theorem Room.units {k : Nat} {A : Around} (r : Room k A) : A.units + 64 < cLine := by have := r.un; omega
noncomputable def tNil : TA := fun _ H Q => Q [] H
noncomputable def tCons (ta : TE) (tr : TA) : TA := fun σ H Q => ta σ H fun x H1 => tr σ H1 fun xs H2 => Q (x :: xs) H2
section
variable {X : Cx} {e : Expr} {es : List Expr} {te : TE} {t : TA} {pos : Pos}
theorem pal1 {α : Type} : ∀ (us : List α), us.length = 1 → ∃ a, us = [a]
 | [a], _ => ⟨a, rfl⟩
theorem pal2 {α : Type} (us : List α) (h : us.length = 2) : ∃ a b, us = [a, b] := by
 cases us with
 | nil => cases h
 | cons a r => obtain ⟨b, rfl⟩ := pal1 r (Nat.succ.inj h); exact ⟨a, b, rfl⟩
theorem pal3 {α : Type} (us : List α) (h : us.length = 3) : ∃ a b c, us = [a, b, c] := by
 cases us with
 | nil => cases h
 | cons a r => obtain ⟨b, c, rfl⟩ := pal2 r (Nat.succ.inj h); exact ⟨a, b, c, rfl⟩
theorem pal4 {α : Type} (us : List α) (h : us.length = 4) : ∃ a b c d, us = [a, b, c, d] := by
 cases us with
 | nil => cases h
 | cons a r => obtain ⟨b, c, d, rfl⟩ := pal3 r (Nat.succ.inj h); exact ⟨a, b, c, d, rfl⟩
theorem pa_nil : PA X [] tNil := fun _ _ _ _ H Q I h => Calls.spliced_nil ⟨[], H, I, .nil, h⟩
theorem pa_cons (ha : PE X e te) (hr : PA X es t) (hs : starEach (e :: es) X.env = (false, eval e X.env) :: starEach es X.env := by rfl) : PA X (e :: es) (tCons te t) := by
 intro pos pins s σ H Q I h
 rw [hs]
 show wpAny _ _ (spliced ((false, eval e X.env) :: backTo pos (starEach es X.env))) _ _ s
 refine Calls.spliced_cons (thn (ha pins s σ H _ I h) fun u s1 ⟨x, H1, I1, r1, q1⟩ => ?_)
 exact thn (hr pos pins s1 σ H1 _ I1 q1) fun us s2 ⟨xs, H2, I2, r2, q2⟩ => ⟨x :: xs, H2, I2, .cons r1 r2, q2⟩
noncomputable def tTup (t : TA) : TE := fun σ H Q => t σ H fun xs H1 => xs.length ≤ sizeLine ∧ ∀ p, H1 p = none → Q (.ref p) (upd H1 p (.tup xs))
noncomputable def tLst (t : TA) : TE := fun σ H Q => t σ H fun xs H1 => xs.length ≤ sizeLine ∧ ∀ p, H1 p = none → Q (.ref p) (upd H1 p (.lst xs))
theorem pe_tup {x1} (h : PA X es t) : PE X (.Tuple es x1 pos) (tTup t) := by
 intro pins s σ H Q I hq
 refine wpAny_Tuple_spliced (thn (h pos pins s σ H _ I hq) fun us s1 ⟨xs, H1, I1, r, z, q⟩ => ⟨by rw [← r.length]; exact z, ?_⟩)
 have hf : H1 s1.heap.objs.size = none := I1.hok.fresh (Nat.le_refl _)
 refine ⟨.ref s1.heap.objs.size, upd H1 s1.heap.objs.size (.tup xs), I1.laid (t' := s1.toks) (fun b u e => Heap.get?_push_of_some _ e) (Nat.le_refl _) ?_, rfl, q _ hf⟩
 exact ⟨z, us, r, ⟨_, Heap.get?_push_size _ rfl, rfl, _, rfl⟩⟩
theorem pe_lst (h : PA X es t) : PE X (.List es pos) (tLst t) := by
 intro pins s σ H Q I hq
 refine wpAny_List_spliced (thn (h pos pins s σ H _ I hq) fun us s1 ⟨xs, H1, I1, r, z, q⟩ => ⟨by rw [← r.length]; exact z, ?_⟩)
 have hf : H1 s1.heap.objs.size = none := I1.hok.fresh (Nat.le_refl _)
 refine ⟨.ref s1.heap.objs.size, upd H1 s1.heap.objs.size (.lst xs), I1.laid (t' := s1.toks) (fun b u e => Heap.get?_push_of_some _ e) (Nat.le_refl _) ?_, rfl, q _ hf⟩
 exact ⟨z, us, 0, r, Heap.get?_push_size _ rfl⟩
end
noncomputable abbrev Sp := List V → Hp → VK → XK → Prop
noncomputable abbrev CXT := List Env → Hp → Shared → XK → Value → Shared → Prop
structure Env0 (P : Program) (w : World) (K : PySem.W.Frag) (mg : Str → Option Value) (base : Heap) (A : Around) (outer : List Env) (s : Shared) (H : Hp) : Prop where
 frames : A.frames = some outer
 mod : Mod K mg base
 bs : ∀ b o, base.get? b = some o → s.heap.get? b = some o ∧ H b = none
 bsz : base.objs.size ≤ s.heap.objs.size
 funs : s.heap.FunFrames base outer
 frf : ∀ b ∈ frs outer, H b = none
 hok : HOk P w H s.heap
 bare : AllBare s.gens
noncomputable def CE (outer : List Env) (P : Program) (w : World) (H : Hp) (s : Shared) (Q : VK) (u : Value) (s' : Shared) : Prop :=
 ∃ v H', s'.os = s.os ∧ AllBare s'.gens ∧ Un (frs outer) [] H H' s.heap s'.heap ∧ HOk P w H' s'.heap ∧ RelV v u ∧ Q v H'
noncomputable def CR (CX : CXT) (outer : List Env) (P : Program) (w : World) (H : Hp) (s : Shared) (Q : VK) (E : XK) (r : Result) (s' : Shared) : Prop :=
 match r with
 | .ok (.ret u) => CE outer P w H s Q u s'
 | .ok _ => False
 | .error e => CX outer H s E e s'
structure FnOk (P : Program) (w : World) (K : PySem.W.Frag) (mg : Str → Option Value) (base : Heap) (CX : CXT) (k : Nat) (f : Addr) (fd : FuncData) (ps : List Str) (sp : Sp) : Prop where
 len : ∀ vs H Q E, sp vs H Q E → vs.length = ps.length
 run : ∀ (A : Around) (outer : List Env) (s : Shared) (H : Hp) (args : Args) (us : List Value) (vs : List V) (Q : VK) (E : XK), Room k A → Env0 P w K mg base A outer s H → BindsTo s fd args (ps.zip us) → Vals vs us → sp vs H Q E →
  codeAny (model P w) A (.call (.ref f) args) (CR CX outer P w H s Q E) s
theorem FnOk.mono {P : Program} {w : World} {K : PySem.W.Frag} {mg : Str → Option Value} {base : Heap} {CX : CXT} {j k : Nat} {f : Addr} {fd : FuncData} {ps : List Str} {sp : Sp} (F : FnOk P w K mg base CX j f fd ps sp) (h : j ≤ k) :
  FnOk P w K mg base CX k f fd ps sp := ⟨F.len, fun A outer s H args us vs Q E hr => F.run A outer s H args us vs Q E (hr.mono h)⟩
theorem FnOk.imp {P : Program} {w : World} {K : PySem.W.Frag} {mg : Str → Option Value} {base : Heap} {CX : CXT} {k : Nat} {f : Addr} {fd : FuncData} {ps : List Str} {sp sp' : Sp} (F : FnOk P w K mg base CX k f fd ps sp)
  (h : ∀ vs H Q E, sp' vs H Q E → sp vs H Q E) : FnOk P w K mg base CX k f fd ps sp' :=
 ⟨fun vs H Q E q => F.len vs H Q E (h _ _ _ _ q), fun A outer s H args us vs Q E hr he hb hv hs => F.run A outer s H args us vs Q E hr he hb hv (h _ _ _ _ hs)⟩
theorem Env0.in1 {P : Program} {w : World} {K : PySem.W.Frag} {mg : Str → Option Value} {base : Heap} {A : Around} {outer : List Env} {s : Shared} {H : Hp} (e : Env0 P w K mg base A outer s H) :
  Env0 P w K mg base A.in1 outer s H := ⟨e.frames, e.mod, e.bs, e.bsz, e.funs, e.frf, e.hok, e.bare⟩
section
variable {X : Cx} {pins : List (Addr × Obj)} {σ : St} {H : Hp} {s s' : Shared}
theorem Inv.env0 (I : Inv X pins σ H s) : Env0 X.prog X.w X.K X.mg X.base X.A X.stack s H :=
 ⟨I.ok.frames, I.ok.mod, I.bs, Nat.le_trans I.ok.bsz I.sz, I.stack, I.stkFree, I.hok, I.bare⟩
theorem Inv.after {Q : VK} {u : Value} (I : Inv X pins σ H s) (h : CE X.stack X.prog X.w H s Q u s') : EP X pins σ Q u s' := by
 obtain ⟨v, H', os, bare, un, hok, r, q⟩ := h
 obtain ⟨hh, g, d, t, os'⟩ := s'
 obtain rfl : os' = s.os := os
 exact ⟨v, H', I.call (h' := hh) (g' := g) (d' := d) (t' := t) (ch := []) un hok bare (fun b z => absurd z (by simp)), r, q⟩
end
noncomputable def tCall (sp : Sp) (dvs : List V) (E : XK) (t : TA) : TE := fun σ H Q => t σ H fun vs H1 => sp (vs ++ dvs) H1 Q E
noncomputable def Binds (K : PySem.W.Frag) (fd : FuncData) (ps : List Str) (ds : List Value) : Prop :=
 ∀ (s : Shared) (us : List Value), K.In s.heap → (us ++ ds).length = ps.length → BindsTo s fd ⟨us, []⟩ (ps.zip (us ++ ds))
theorem Binds.all {K : PySem.W.Frag} {fd : FuncData} {ps : List Str} (h : ∀ us : List Value, us.length = ps.length → bindArgs fd ⟨us, []⟩ = pure (ps.zip us)) : Binds K fd ps [] := fun s us _ hl => by
 rw [List.append_nil] at hl ⊢
 exact .of_eq (h us hl)
noncomputable def Passes (CX : CXT) (X : Cx) (E : XK) : Prop := ∀ (pins : List (Addr × Obj)) (σ : St) (H : Hp) (s : Shared) (e : Value) (s' : Shared), Inv X pins σ H s → CX X.stack H s E e s' → X.xe e s'
section
variable {X : Cx} {CX : CXT} {k : Nat} {f C : Addr} {fd : FuncData} {ps : List Str} {sp : Sp} {dvs : List V} {ds : List Value} {E : XK} {x m : Str} {p pos apos : Pos} {e o : Expr} {es : List Expr} {ta : TE} {t : TA}
theorem run_fn {pins : List (Addr × Obj)} {σ : St} {H : Hp} {s : Shared} {Q : VK} {us : List Value} {vs : List V} (F : FnOk X.prog X.w X.K X.mg X.base CX k f fd ps sp) (hr : Room k X.A) (hb : Binds X.K fd ps ds) (hd : Vals dvs ds) (hx : Passes CX X E)
  (I : Inv X pins σ H s) (r : Vals vs us) (h : sp (vs ++ dvs) H Q E) : wpAny (model X.prog X.w) X.A (call (.ref f) us) (EP X pins σ Q) X.xe s := by
 have r2 : Vals (vs ++ dvs) (us ++ ds) := r.append hd
 have hl : (us ++ ds).length = ps.length := by rw [← r2.length]; exact F.len _ _ _ _ h
 refine wpAny_call (codeAny_mono (F.run X.A X.stack s H ⟨us, []⟩ (us ++ ds) (vs ++ dvs) Q E hr I.env0 (hb s us I.kIn hl) r2 h) fun r s' hq => ?_)
 cases r with
 | error e => exact hx pins σ H s e s' I hq
 | ok fl =>
  cases fl with
  | ret u => exact I.after hq
  | next => exact False.elim hq
  | brk => exact False.elim hq
  | cont => exact False.elim hq
theorem pe_call (F : FnOk X.prog X.w X.K X.mg X.base CX k f fd ps sp) (hr : Room k X.A) (hg : Gl X x) (hm : X.mg x = some (.ref f)) (hk : PySem.W.keepIn X.K (.ref f) = true) (hb : Binds X.K fd ps ds) (hd : Vals dvs ds) (hx : Passes CX X E)
  (ha : PA X (e :: es) t) (hdb : (x == ("__debug__" : Str)) = false := by decide) (he : starEach (e :: es) X.env = (false, eval e X.env) :: starEach es X.env := by rfl) (hpl : (backTo pos (starEach es X.env)).any (·.1) = false := by rfl) :
  PE X (.Call (.Name x p) (e :: es) [] pos) (tCall sp dvs E t) := by
 intro pins s σ H Q I h
 refine wpAny_Call_Name_kw (ld_glob I hg hm ?_ hdb)
 refine PySem.W.callWith_K (h₀ := X.base) I.ok.mod.kin hk (thn (ha pos pins s σ H _ I h) fun us s1 ⟨vs, H1, I1, r, q⟩ => ⟨I1.kIn, ?_⟩) he hpl
 exact run_fn F hr hb hd hx I1 r q
structure Mk (K : PySem.W.Frag) (C f : Addr) : Prop where
 makes : PySem.W.makesIn K C = true
 init : PySem.W.findIn K (.ref C) "__init__" = some (some (.ref f))
 fn : PySem.W.isFn K (.ref f) = true
 kp : PySem.W.keepIn K (.ref C) = true
end
noncomputable def PK (X : Cx) (kws : List Keyword) (t : TA) : Prop :=
 ∀ (pos : Pos) (pins : List (Addr × Obj)) (s : Shared) (σ : St) (H : Hp) (Q : List V → Hp → Prop), Inv X pins σ H s → t σ H Q → wpAny (model X.prog X.w) X.A (evalAll ((backToKw pos (keywordEach kws X.env)).map (·.2))) (AP X pins σ Q) X.xe s
section
variable {X : Cx} {CX : CXT} {k : Nat} {f C : Addr} {fd : FuncData} {ps ks : List Str} {sp : Sp} {E : XK} {x m : Str} {p pos apos kpos : Pos} {e o : Expr} {es : List Expr} {kws : List Keyword} {te ta : TE} {t tk : TA} {nm : Option Str}
theorem pk_nil : PK X [] tNil := fun _ _ _ _ H Q I h => wpAny_evalAll_nil ⟨[], H, I, .nil, h⟩
theorem pk_cons (ha : PE X e te) (hr : PK X kws t) : PK X (⟨nm, e, kpos⟩ :: kws) (tCons te t) := by
 intro pos pins s σ H Q I h
 show wpAny _ _ (evalAll ((do let v ← eval e X.env; standAt pos; pure v) :: (backToKw pos (keywordEach kws X.env)).map (·.2))) _ _ s
 refine wpAny_evalAll_cons (wpAny_bind (thn (ha pins s σ H _ I h) fun u s1 ⟨x, H1, I1, r1, q1⟩ => wpAny_bind (wpAny_standAt (wpAny_pure ?_))))
 exact thn (hr pos pins s1 σ H1 _ I1 q1) fun us s2 ⟨xs, H2, I2, r2, q2⟩ => ⟨x :: xs, H2, I2, .cons r1 r2, q2⟩
structure KBinds (K : PySem.W.Frag) (fd : FuncData) (ps ks : List Str) (g : List Value → List Value → List Value) (gV : List V → List V → List V) : Prop where
 to : ∀ (s : Shared) (us ws : List Value), K.In s.heap → (g us ws).length = ps.length → BindsTo s fd ⟨us, ks.zip ws⟩ (ps.zip (g us ws))
 rel : ∀ {vs : List V} {us : List Value} {zs : List V} {ws : List Value}, Vals vs us → Vals zs ws → Vals (gV vs zs) (g us ws)
variable {g : List Value → List Value → List Value} {gV : List V → List V → List V}
end
structure FnScope (N P : List Str) (sc : Scope) : Prop where
 kind : sc.kind = .function
 co : sc.isCoroutine = false
 gen : sc.isGenerator = false
 nd : N.Nodup
 pre : N.take P.length = P
 par : ∀ x ∈ P, sc.names.lookup x = some .local ∨ sc.names.lookup x = some .cell
 nofree : ∀ y ∈ sc.names, y.2 ≠ .free
theorem bindL_out {kindOf : Str → Option NameKind} {x : Str} : ∀ {binds : List (Str × Value)} {m : Str → Option Value}, (∀ v, (x, v) ∉ binds) → bindL kindOf binds m x = m x
 | [], _, _ => rfl
 | (n, v) :: r, m, h => by
  unfold bindL
  rw [bindL_out fun w hw => h w (List.mem_cons_of_mem _ hw)]
  split
  ·have : x ≠ n := by rintro rfl; exact h v List.mem_cons_self
   simp [this]
  ·rfl
theorem bindC_out {kindOf : Str → Option NameKind} {x : Str} : ∀ {binds : List (Str × Value)} {m : Str → Option Value}, (∀ v, (x, v) ∉ binds) → bindC kindOf binds m x = m x
 | [], _, _ => rfl
 | (n, v) :: r, m, h => by
  unfold bindC
  rw [bindC_out fun w hw => h w (List.mem_cons_of_mem _ hw)]
  split
  ·rfl
  ·have : x ≠ n := by rintro rfl; exact h v List.mem_cons_self
   simp [this]
theorem bindL_get {kindOf : Str → Option NameKind} {x : Str} {v : Value} : ∀ {P : List Str} {vs : List Value} {i : Nat} {m : Str → Option Value}, P.Nodup → P[i]? = some x → vs[i]? = some v → kindOf x = some .local →
  bindL kindOf (P.zip vs) m x = some v
 | [], _, _, _, _, h, _, _ => by simp at h
 | _ :: _, [], _, _, _, _, h, _ => by simp at h
 | p :: P, w :: vs, 0, m, nd, h1, h2, hk => by
  simp at h1 h2; subst h1; subst h2
  show bindL kindOf ((p, w) :: P.zip vs) m p = _
  unfold bindL
  rw [bindL_out fun v hv => (List.nodup_cons.mp nd).1 (List.of_mem_zip hv).1, if_pos hk]
  simp
 | p :: P, w :: vs, i + 1, m, nd, h1, h2, hk => by
  show bindL kindOf ((p, w) :: P.zip vs) m x = _
  unfold bindL
  exact bindL_get (i := i) (List.nodup_cons.mp nd).2 (by simpa using h1) (by simpa using h2) hk
theorem bindC_get {kindOf : Str → Option NameKind} {x : Str} {v : Value} : ∀ {P : List Str} {vs : List Value} {i : Nat} {m : Str → Option Value}, P.Nodup → P[i]? = some x → vs[i]? = some v → kindOf x ≠ some .local →
  bindC kindOf (P.zip vs) m x = some v
 | [], _, _, _, _, h, _, _ => by simp at h
 | _ :: _, [], _, _, _, _, h, _ => by simp at h
 | p :: P, w :: vs, 0, m, nd, h1, h2, hk => by
  simp at h1 h2; subst h1; subst h2
  show bindC kindOf ((p, w) :: P.zip vs) m p = _
  unfold bindC
  rw [bindC_out fun v hv => (List.nodup_cons.mp nd).1 (List.of_mem_zip hv).1, if_neg hk]
  simp
 | p :: P, w :: vs, i + 1, m, nd, h1, h2, hk => by
  show bindC kindOf ((p, w) :: P.zip vs) m x = _
  unfold bindC
  exact bindC_get (i := i) (List.nodup_cons.mp nd).2 (by simpa using h1) (by simpa using h2) hk
noncomputable def start (N : List Str) (vs : List V) : St := vs.map some ++ List.replicate (N.length - vs.length) none
noncomputable def cxOf (CX : CXT) (P : Program) (w : World) (K : PySem.W.Frag) (mg : Str → Option Value) (base : Heap) (N : List Str) (qual : Str) (scope : Scope) (f : Addr) (cd : Value) (A : Around) (outer : List Env) (s : Shared) (H : Hp) (E : XK) : Cx where
 prog := P
 w := w
 K := K
 mg := mg
 base := base
 A := A.deeper (envOfC qual scope s.heap.objs.size f cd)
 N := N
 s₀ := s
 H₀ := H
 env := envOfC qual scope s.heap.objs.size f cd
 outer := outer
 stack := envOfC qual scope s.heap.objs.size f cd :: outer
 ex := []
 calm := true
 fn := fun _ => true
 pn := []
 xe := fun e s' => wpAny (model P w) (A.deeper (envOfC qual scope s.heap.objs.size f cd)) (leaving (envOfC qual scope s.heap.objs.size f cd) e) (fun _ s'' => CX outer H s E e s'') (fun e' s'' => CX outer H s E e' s'') s'
theorem cell_has {sc : Scope} {n : Nat} {x : Str} (h : sc.names.lookup x = some .cell) : ∃ c, (cellsFrom n sc.names []).lookup x = some c := by
 have q := PySem.W.cellsFrom_some sc.names n [] (.inl h)
 exact Option.isSome_iff_exists.mp q
theorem inv_start {CX : CXT} {P : Program} {w : World} {K : PySem.W.Frag} {mg : Str → Option Value} {base : Heap} {N ps : List Str} {qual : Str} {scope : Scope} {f : Addr} {cd : Value} {A : Around} {outer : List Env} {s s1 : Shared} {H : Hp} {E : XK} {us : List Value} {vs : List V}
  (S : FnScope N ps scope) (hd : A.handled = none) (e0 : Env0 P w K mg base A outer s H) (hl : vs.length = ps.length) (r : Vals vs us)
  (x : InCallC s s.heap.objs.size (bindL (envOfC qual scope s.heap.objs.size f cd).kindOf (ps.zip us) fun _ => none) (cellsFrom (s.heap.objs.size + 1) scope.names []) (bindC (envOfC qual scope s.heap.objs.size f cd).kindOf (ps.zip us) fun _ => none) s1) :
  Inv (cxOf CX P w K mg base N qual scope f cd A outer s H E) [] (start N vs) H s1 := by
 have hpl : ps.length ≤ N.length := by have := congrArg List.length S.pre; rw [List.length_take] at this; omega
 obtain ⟨h1, tk, rfl, hk⟩ := x.done
 have noA : ∀ b : Addr, b ∉ (cxOf CX P w K mg base N qual scope f cd A outer s H E).ex := fun b z => absurd (show b ∈ ([] : List Addr) from z) (by simp)
 refine ⟨⟨e0.mod, S.kind, rfl, rfl, Nat.le_refl _, fun y z c h1 h2 => ?_, fun y hy => ?_, fun y c _ h => ?_, fun _ => hd, Around.frames_deeper e0.frames, .inr ⟨rfl, rfl⟩, fun b z => absurd z (noA b), e0.bs, e0.bsz, fun b _ _ => noA b, fun b z => absurd z (noA b), e0.funs, e0.frf⟩,
  rfl, e0.bare, Un.kept hk, ⟨_, x.toInCall.ns, fun i y v h1 h2 h3 => ?_⟩, fun y c h => ⟨_, x.cell y c h⟩, e0.hok.fresh (Nat.le_refl _), fun y c h => ?_, fun p hp => absurd (show p ∈ ([] : List (Addr × Obj)) from hp) (by simp), e0.hok.kept hk, ?_⟩
 ·exact name_of_addr x.apart (PySem.mem_of_lookup h1) (PySem.mem_of_lookup h2)
 ·have hy : scope.names.lookup y = some .cell ∨ scope.names.lookup y = some .free := hy
  rcases hy with hy | hy
  ·exact cell_has hy
  ·exact absurd rfl (S.nofree _ (PySem.mem_of_lookup hy))
 ·exact Nat.le_of_lt (x.above y c (PySem.mem_of_lookup h))
 ·have hi : i < vs.length := by
   unfold start at h2
   by_cases hi : i < vs.length
   ·exact hi
   ·rw [List.getElem?_append_right (by simpa using hi)] at h2
    rw [List.getElem?_replicate] at h2
    split at h2 <;> cases h2
  have ha : vs[i]? = some v := by
   unfold start at h2
   rw [List.getElem?_append_left (by simpa using hi), List.getElem?_map] at h2
   cases e : vs[i]? with
   | none => rw [e] at h2; cases h2
   | some a => rw [e] at h2; cases h2; rfl
  obtain ⟨u, hu, rv⟩ := r.get ha
  have hp : ps[i]? = some y := by
   rw [← S.pre, List.getElem?_take_of_lt (by omega)]; exact h1
  have ndP : ps.Nodup := by rw [← S.pre]; exact S.nd.sublist (List.take_sublist _ _)
  refine ⟨u, rv, ?_⟩
  rcases S.par y (List.mem_of_getElem? hp) with k | k
  ·exact .inl ⟨k, bindL_get ndP hp hu k⟩
  ·obtain ⟨c, e⟩ := cell_has (n := s.heap.objs.size + 1) k
   refine .inr ⟨.inl k, c, e, ?_⟩
   have q := x.cell y c e
   rw [bindC_get ndP hp hu (by show scope.names.lookup y ≠ _; rw [k]; decide)] at q
   exact q
 ·exact e0.hok.fresh (Nat.le_of_lt (x.above y c (PySem.mem_of_lookup h)))
 ·unfold start
  show _ = N.length
  rw [List.length_append, List.length_map, List.length_replicate]
  omega
theorem fn_of {CX : CXT} {P : Program} {w : World} {K : PySem.W.Frag} {mg : Str → Option Value} {base : Heap} {k : Nat} {f : Addr} {name qual : Str} {params : Arguments} {body : List Stmt} {scope : Scope} {dV kV doc pm cdv ct oc : Value} {an od : Option Addr}
  {osl : Array (Option Value)} {N ps : List Str} {sp : Sp} (lk : K.lookup f = some ⟨oc, od, .func (PySem.W.fnOf name qual params body scope dV kV doc pm an cdv ct), osl⟩) (hcd : PySem.W.codeIn K cdv qual = true) (S : FnScope N ps scope)
  (len : ∀ vs H Q E, sp vs H Q E → vs.length = ps.length)
  (hbody : ∀ (A : Around) (outer : List Env) (s : Shared) (H : Hp) (vs : List V) (Q : VK) (E : XK), Room k (A.deeper (envOfC qual scope s.heap.objs.size f cdv)) → sp vs H Q E →
   ∃ t, PSs (cxOf CX P w K mg base N qual scope f cdv A outer s H E) body t ∧ t { nx := fun _ H' => Q .non H', rt := Q } (start N vs) H) :
  FnOk P w K mg base CX (k + 1) f (PySem.W.fnOf name qual params body scope dV kV doc pm an cdv ct) ps sp := by
 refine ⟨len, fun A outer s H args us vs Q E hr e0 hb r hsp => ?_⟩
 have hl := len _ _ _ _ hsp
 have KX : K.In s.heap := e0.mod.kin.keeps fun b o e => (e0.bs b o e).1
 have lim : s.heap.NoLimit := e0.mod.nolimit.keeps fun b o e => (e0.bs b o e).1
 have hkind : ∀ y ∈ ps.zip us, scope.names.lookup y.1 = some .local ∨ (scope.names.lookup y.1 = some .cell ∧ ((cellsFrom (s.heap.objs.size + 1) scope.names []).lookup y.1).isSome = true) := fun ⟨n, v⟩ hy => by
  rcases S.par n (List.of_mem_zip hy).1 with q | q
  ·exact .inl q
  ·exact .inr ⟨q, PySem.W.cellsFrom_some _ _ _ (.inl q)⟩
 refine codeAny_call_function hr.depth (KX _ _ lk) rfl S.co S.gen rfl (PySem.W.codeRec_of KX hcd) (hb _ _ _ _ ?_)
 refine wpAny_newFunctionEnv_cells S.kind hkind fun env he s1 x => ?_
 subst he
 refine ⟨lim.keeps x.toInCall.keep, codeAny_func ?_⟩
 obtain ⟨t, ht, hq⟩ := hbody A outer s H vs Q E (hr.deeper _) hsp
 have I : Inv (cxOf CX P w K mg base N qual scope f cdv A outer s H E) [] (start N vs) H s1 := inv_start S hr.hd e0 hl r x
 refine wpAny_mono (ht [] s1 (start N vs) H _ I hq) (fun fl s' hs => ?_) fun e s' hs => hs
 have fin : ∀ {σ' : St} {H' : Hp} {v : V} {u : Value}, Inv (cxOf CX P w K mg base N qual scope f cdv A outer s H E) [] σ' H' s' → RelV v u → Q v H' → CE outer P w H s Q u s' :=
  fun {σ' H' v u} J rv q => ⟨v, H', J.os, J.bare, J.base, J.hok, rv, q⟩
 cases fl with
 | ret u =>
  obtain ⟨v, σ', H', J, rv, q⟩ := hs
  exact fin J rv q
 | next =>
  obtain ⟨σ', H', J, q⟩ := hs
  exact fin (v := V.non) (u := Value.none) J rfl q
 | brk =>
  obtain ⟨_, _, _, q⟩ := hs
  exact False.elim q
 | cont =>
  obtain ⟨_, _, _, q⟩ := hs
  exact False.elim q
end L2
namespace L2
open PySem PySem.Spec PyProof.Rows
section
variable {X : Cx} {x : Str} {p pos : Pos} {e : Expr} {es : List Expr} {t : TA} {id T : String} {r : List V → Hp → VK → Prop}
noncomputable def tCB (r : List V → Hp → VK → Prop) (t : TA) : TE := fun σ H Q => t σ H fun vs H1 => r vs H1 Q
theorem pe_callB (hc : CallR X (.builtin id) r) (hg : Gl X x) (hm : X.mg x = none) (hv : bootBuiltins x = some (.builtin id)) (ha : PA X (e :: es) t) (hn : x ≠ "__name__" := by decide) (hdb : (x == ("__debug__" : Str)) = false := by decide)
  (he : starEach (e :: es) X.env = (false, eval e X.env) :: starEach es X.env := by rfl) (hpl : (backTo pos (starEach es X.env)).any (·.1) = false := by rfl) : PE X (.Call (.Name x p) (e :: es) [] pos) (tCB r t) := by
 intro pins s σ H Q I h
 refine wpAny_Call_Name_kw (ld_blt I hg hm hv ?_ hn hdb)
 exact PyProof.Rows.callWith_builtin1 (thn (ha pos pins s σ H _ I h) fun us s1 ⟨vs, H1, I1, r1, q1⟩ => hc pins s1 σ H1 vs us Q I1 r1 q1) he hpl
theorem pe_callTy (hc : CallR X (.type T) r) (hg : Gl X x) (hm : X.mg x = none) (hv : bootBuiltins x = some (.type T)) (ha : PA X (e :: es) t) (hn : x ≠ "__name__" := by decide) (hdb : (x == ("__debug__" : Str)) = false := by decide)
  (he : starEach (e :: es) X.env = (false, eval e X.env) :: starEach es X.env := by rfl) (hpl : (backTo pos (starEach es X.env)).any (·.1) = false := by rfl) : PE X (.Call (.Name x p) (e :: es) [] pos) (tCB r t) := by
 intro pins s σ H Q I h
 refine wpAny_Call_Name_kw (ld_blt I hg hm hv ?_ hn hdb)
 exact PyProof.Rows.callWith_type1 (thn (ha pos pins s σ H _ I h) fun us s1 ⟨vs, H1, I1, r1, q1⟩ => hc pins s1 σ H1 vs us Q I1 r1 q1) he hpl
end
end L2
namespace HT
open PySem PyProof.Rows
noncomputable def lexLt : List Int → List Int → Bool
 | [], [] => false
 | [], _ :: _ => true
 | _ :: _, [] => false
 | x :: xs, y :: ys => if x = y then lexLt xs ys else decide (x < y)
theorem lexLt_cons (x y : Int) (xs ys : List Int) : lexLt (x :: xs) (y :: ys) = if x = y then lexLt xs ys else decide (x < y) := rfl
theorem lexLt_nil_nil : lexLt [] [] = false := rfl
theorem lexLt_nil_cons (y : Int) (ys : List Int) : lexLt [] (y :: ys) = true := rfl
theorem lexLt_cons_nil (x : Int) (xs : List Int) : lexLt (x :: xs) [] = false := rfl
theorem eqAt_int (A : Around) (s : Shared) (a : Int) (t : Tok) (c : Int) (u : Tok) : ∃ e, SeqAt.EqAt A s (.int a t) (.int c u) e ∧ (e = true ↔ a = c) :=
 ⟨(a == c), SeqAt.EqAt.int_int a t c u, by simp⟩
theorem rcLt_int (A : Around) (s : Shared) (a : Int) (t : Tok) (c : Int) (u : Tok) (prog : Program) (w : World) (E : Value → Shared → Prop) (Q : Value → Shared → Prop) (h : Q (.bool (decide (a < c))) s) :
  wpAny (model prog w) A (richCompare .Lt (.int a t) (.int c u)) Q E s :=
 (PyProof.Rows.lt_int h : wpAny (model prog w) A (compareOp .Lt (.int a t) (.int c u)) Q E s)
section
open PySem.SeqAt
open PySem.AutoSeq1 (wpAny_loadPart')
open PySem.MeetsSeq PySem.MeetsSeq2 PySem.MeetsSeq3
theorem tuple_lt_ints (l b : Addr) (items items2 : Array Value) (n n2 : Nat) (dd dd2 : Option Addr) (sl sl2 : Array (Option Value)) (ns ms : List Int) (hi : IntsAre items.toList ns) (hj : IntsAre items2.toList ms) :
  Meets (Builtin.«tuple.__lt__» ⟨[.ref l, .ref b], []⟩)
   (fun _ R s => s.heap.get? l = some { cls := .type "tuple", dict := dd, data := .seq items n, slots := sl } ∧ s.heap.get? b = some { cls := .type "tuple", dict := dd2, data := .seq items2 n2, slots := sl2 } ∧
    R (.ok (.ret (.bool (lexLt ns ms)))) s) :=
 .of_wp fun prog w A R s h => by
  obtain ⟨hp, g, d, tk, os⟩ := s; obtain ⟨hl, hb, h⟩ := h
  have f2 := AutoSeq1.sub_tuple_tuple
  have z1 : items.size = ns.length := by rw [← hi.length]; simp
  have z2 : items2.size = ms.length := by rw [← hj.length]; simp
  wp_walk using wpAny_loadPart' hl, wpAny_loadPart' hb, wpAny_forIn_list _ (fun rest b s' => b.1 = none ∧ s' = ⟨hp, g, d, tk, os⟩ ∧ ∃ (vs ws : List Value) (ns' ms' : List Int), rest = vs.zip ws ∧
   IntsAre vs ns' ∧ IntsAre ws ms' ∧ ns'.length + items2.size = ms'.length + items.size ∧ R (.ok (.ret (.bool (lexLt ns' ms')))) ⟨hp, g, d, tk, os⟩) _
  case turn =>
   rintro ⟨y, x⟩ rest b s' ⟨hb', rfl, vs, ws, ns', ms', hz, hvi, hwi, hlen, hR⟩
   cases hvi with
   | nil => rw [List.zip_nil_left] at hz; cases hz
   | cons a t hvi' =>
    cases hwi with
    | nil => rw [List.zip_nil_right] at hz; cases hz
    | cons c u hwi' =>
     rw [List.zip_cons_cons] at hz
     injection hz with hyx hrest
     injection hyx with hy hx
     subst hy hx
     rw [lexLt_cons] at hR
     simp only [List.length_cons] at hlen
     obtain ⟨e, he, hiff⟩ := eqAt_int A.in1 ⟨hp, g, d, tk, os⟩ a t c u
     refine wpAny_bind (he prog w _ _ ?_)
     cases e with
     | true =>
      rw [if_pos (hiff.mp rfl)] at hR
      wp_walk
      exact ⟨rfl, rfl, _, _, _, _, hrest, hvi', hwi', by omega, hR⟩
     | false =>
      rw [if_neg (fun q => absurd (hiff.mpr q) Bool.false_ne_true)] at hR
      have hri := rcLt_int A.in1 ⟨hp, g, d, tk, os⟩ a t c u prog w
      wp_walk using hri
      exact ⟨_, rfl, by simpa using hR⟩
  case fin =>
   rintro ⟨b1, b2⟩ s' ⟨hb', rfl, vs, ws, ns', ms', hz, hvi, hwi, hlen, hR⟩
   simp only at hb'
   subst hb'
   have hv : lexLt ns' ms' = decide (items.size < items2.size) := by
    cases hvi with
    | nil =>
     cases hwi with
     | nil =>
      simp only [List.length_nil] at hlen
      rw [lexLt_nil_nil]
      exact (decide_eq_false (by omega)).symm
     | cons c u hw =>
      simp only [List.length_nil, List.length_cons] at hlen
      rw [lexLt_nil_cons]
      exact (decide_eq_true (by omega)).symm
    | cons a t hv =>
     cases hwi with
     | nil =>
      simp only [List.length_nil, List.length_cons] at hlen
      rw [lexLt_cons_nil]
      exact (decide_eq_false (by omega)).symm
     | cons c u hw =>
      rw [List.zip_cons_cons] at hz
      cases hz
   rw [hv] at hR
   wp_walk
   exact ⟨_, rfl, by simpa [Builtin.Tuple.tupleCompareSizes] using hR⟩
  case h =>
   exact ⟨rfl, rfl, items.toList, items2.toList, ns, ms, rfl, hi, hj, by omega, h⟩
end
section
variable {prog : Program} {w : World} {A : Around} {E : Value → Shared → Prop} {s : Shared}
theorem lt_tupInts {l b : Addr} {items items2 : Array Value} {ns ms : List Int} {Q : Value → Shared → Prop} (hl : IsTup s.heap l items) (hb : IsTup s.heap b items2) (hi : IntsAre items.toList ns) (hj : IntsAre items2.toList ms)
  (hu : A.units < cLine) (h : Q (.bool (lexLt ns ms)) s) : wpAny (model prog w) A (compareOp .Lt (.ref l) (.ref b)) Q E s := by
 obtain ⟨⟨cls, dd, data, sl⟩, ho, hc, n, hd⟩ := id hl
 obtain ⟨⟨cls2, dd2, data2, sl2⟩, ho2, hc2, n2, hd2⟩ := id hb
 simp only at hc hd hc2 hd2
 subst hc hd hc2 hd2
 exact richCompare_meets_room (op := .Lt) ⟨_, ho, rfl⟩ ⟨_, ho2, rfl⟩ PySem.F.slot_tuple_lt PySem.F.entry_tuple_lt (PySem.F.args_tuple_lt_2 _ _) (tuple_lt_ints l b items items2 n n2 dd dd2 sl sl2 ns ms hi hj)
  ⟨ho, ho2, show Value.bool (lexLt ns ms) ≠ Value.notImplemented ∧ Q (.bool (lexLt ns ms)) s from ⟨(fun x => nomatch x), h⟩⟩ hu
theorem cat_tup {t b : Addr} {vs ws : List Value} {Q : Value → Shared → Prop} (ht : IsTup s.heap t vs.toArray) (hb : IsTup s.heap b ws.toArray) (hv : vs ≠ [])
  (h1 : ws = [] → Q (.ref t) s) (h2 : ws ≠ [] → Q (.ref s.heap.objs.size) { s with heap := s.heap.push { cls := .type "tuple", data := .seq (vs ++ ws).toArray } })
  (hsz : vs.length + ws.length ≤ sizeLine) : wpAny (model prog w) A (binaryOp .Add (.ref t) (.ref b)) Q E s := by
 obtain ⟨⟨cls, dd, data, sl⟩, ho, hc, n, hd⟩ := id ht
 obtain ⟨⟨cls2, dd2, data2, sl2⟩, ho2, hc2, n2, hd2⟩ := id hb
 simp only at hc hd hc2 hd2
 subst hc hd hc2 hd2
 have e : vs.toArray ++ ws.toArray = (vs ++ ws).toArray := by simp
 by_cases hw : ws = []
 ·exact concat_meets ⟨_, ho, rfl⟩ ⟨_, ho2, rfl⟩ noFill_tuple_add seq_tuple_add PySem.F.slot_tuple_add PySem.F.entry_tuple_add (PySem.F.args_tuple_add_2 _ _)
   (tuple_addW1 t b vs.toArray ws.toArray n n2 dd dd2 sl sl2 (by simpa using hv) (by simp [hw])) ⟨ho, ho2, h1 hw⟩
 ·refine concat_meets ⟨_, ho, rfl⟩ ⟨_, ho2, rfl⟩ noFill_tuple_add seq_tuple_add PySem.F.slot_tuple_add PySem.F.entry_tuple_add (PySem.F.args_tuple_add_2 _ _)
   (tuple_addW2 t b vs.toArray ws.toArray n n2 dd dd2 sl sl2 (by simpa using hv) (by simpa using hw) (by rw [List.size_toArray, List.size_toArray]; exact hsz)) ⟨ho, ho2, ?_⟩
  rw [e]
  exact h2 hw
end
end HT
namespace L2
open PySem PySem.Spec PyProof.Rows
noncomputable abbrev TO := St → Hp → (Option Int → Hp → Prop) → Prop
section
variable {X : Cx} {e : Expr} {te : TE} {lo hi : Option Expr} {tl th : TO} {pos p2 : Pos}
noncomputable def SlR (X : Cx) (r : V → Option Int → Option Int → Hp → VK → Prop) : Prop :=
 ∀ (pins : List (Addr × Obj)) (s : Shared) (σ : St) (H : Hp) (x : V) (v vl vu : Value) (lo hi : Option Int) (sl : Addr) (Q : VK), Inv X pins σ H s → RelV x v → s.heap.IsSliceOf sl vl vu .none → IsPart vl lo → IsPart vu hi → r x lo hi H Q →
  ∃ T id, typeLookup (.type T) "__getitem__" = pure (some (.builtin id)) ∧ s.TypeIs v T ∧ wpAny (model X.prog X.w) X.A (getItem v (.ref sl)) (EP X pins σ Q) X.xe s
theorem SlR.or {r r' : V → Option Int → Option Int → Hp → VK → Prop} (h : SlR X r) (h' : SlR X r') : SlR X (fun x lo hi H Q => r x lo hi H Q ∨ r' x lo hi H Q) := by
 intro pins s σ H x v vl vu lo hi sl Q I rx hs pl pu q
 rcases q with q | q
 ·exact h pins s σ H x v vl vu lo hi sl Q I rx hs pl pu q
 ·exact h' pins s σ H x v vl vu lo hi sl Q I rx hs pl pu q
noncomputable def rCatT (K : PySem.W.Frag) : R2 := fun x y H Q => ∃ a b xs ys, x = .ref a ∧ y = .ref b ∧ SqT K H a xs ∧ SqT K H b ys ∧ xs ≠ [] ∧ xs.length + ys.length ≤ sizeLine ∧
 (ys = [] → Q (.ref a) H) ∧ (ys ≠ [] → ∀ p, H p = none → Q (.ref p) (upd H p (.tup (xs ++ ys))))
theorem Vals.nil_iff {xs : List V} {us : List Value} (r : Vals xs us) : us = [] ↔ xs = [] := by
 cases r with
 | nil => simp
 | cons _ _ => simp
theorem op_catT : OpR X (binaryOp .Add) (rCatT X.K) := by
 intro pins s σ H x y v u Q I rx ry h
 obtain ⟨a, b, xs, ys, rfl, rfl, ha, hb, hx, hz, q1, q2⟩ := h
 cases rx
 cases ry
 obtain ⟨its, r1, p1, _⟩ := I.tuple ha
 obtain ⟨its2, r2, p2, _⟩ := I.tuple hb
 refine HT.cat_tup p1 p2 (fun z => hx (r1.nil_iff.mp z)) (fun z => ⟨.ref a, H, I, rfl, q1 (r2.nil_iff.mp z)⟩) (fun z => ?_) (by rw [← r1.length, ← r2.length]; exact hz)
 refine ⟨.ref s.heap.objs.size, _, I.laid (t' := s.toks) (o := .tup (xs ++ ys)) (fun b ob q => Heap.get?_push_of_some _ q) (Nat.le_refl _) ?_, rfl, q2 (fun w => z (r2.nil_iff.mpr w)) _ (I.hok.fresh (Nat.le_refl _))⟩
 exact ⟨by rw [List.length_append]; exact hz, _, r1.append r2, IsTup.new _ _⟩
end
end L2
namespace L2
open PySem PySem.Spec PyProof.Rows
noncomputable def ixN (n : Nat) (i : Int) : Option Nat := if 0 ≤ i then (if i < n then some i.toNat else none) else if -(n : Int) ≤ i then some (i + n).toNat else none
noncomputable def atI {α : Type} (xs : List α) (i : Int) : Option α := (ixN xs.length i).bind fun j => xs[j]?
theorem ixN_seq {n : Nat} {i : Int} {j : Nat} (h : ixN n i = some j) : seqIndex? i n = some j ∧ j < n ∧ -(n : Int) ≤ i ∧ i < n := by
 unfold ixN at h
 by_cases h0 : 0 ≤ i
 ·rw [if_pos h0] at h
  by_cases h1 : i < n
  ·rw [if_pos h1] at h
   have e : i.toNat = j := Option.some.inj h
   exact ⟨by rw [seqIndex_of h0 h1, e], by omega, by omega, h1⟩
  ·rw [if_neg h1] at h; cases h
 ·rw [if_neg h0] at h
  by_cases h1 : -(n : Int) ≤ i
  ·rw [if_pos h1] at h
   have e : (i + n).toNat = j := Option.some.inj h
   exact ⟨by rw [seqIndex_neg (by omega) h1, e], by omega, h1, by omega⟩
  ·rw [if_neg h1] at h; cases h
theorem atI_get {α : Type} {xs : List α} {i : Int} {v : α} (h : atI xs i = some v) : ∃ j, seqIndex? i xs.length = some j ∧ xs[j]? = some v ∧ j < xs.length ∧ -(xs.length : Int) ≤ i ∧ i < xs.length := by
 unfold atI at h
 cases e : ixN xs.length i with
 | none => rw [e] at h; cases h
 | some j =>
  rw [e] at h
  obtain ⟨h1, h2, h3, h4⟩ := ixN_seq e
  exact ⟨j, h1, h, h2, h3, h4⟩
noncomputable def PlainIx (b : Expr) : Prop := ∀ o i, subscripted b false o i = operate [o, i] (getItem o i)
noncomputable def IxR (X : Cx) (r : R2) : Prop :=
 ∀ (value slice : Expr) (pins : List (Addr × Obj)) (s : Shared) (σ : St) (H : Hp) (x y : V) (v u : Value) (Q : VK), Inv X pins σ H s → RelV x v → RelV y u → r x y H Q →
  subscripted slice false v u = operate [v, u] (getItem v u) → wpAny (model X.prog X.w) X.A (subscriptTail value slice v u) (EP X pins σ Q) X.xe s
noncomputable def MtR (X : Cx) (id : String) (r : V → List V → Hp → VK → Prop) : Prop :=
 ∀ (pins : List (Addr × Obj)) (s : Shared) (σ : St) (H : Hp) (x : V) (xs : List V) (v : Value) (us : List Value) (Q : VK), Inv X pins σ H s → RelV x v → Vals xs us → r x xs H Q →
  wpAny (model X.prog X.w) X.A (call (.builtin id) (v :: us)) (EP X pins σ Q) X.xe s
section
variable {X : Cx} {a b : Expr} {ta tb : TE} {pos : Pos}
theorem IxR.or {r r' : R2} (h : IxR X r) (h' : IxR X r') : IxR X (fun x y H Q => r x y H Q ∨ r' x y H Q) := by
 intro value slice pins s σ H x y v u Q I rx ry q hs
 rcases q with q | q
 ·exact h value slice pins s σ H x y v u Q I rx ry q hs
 ·exact h' value slice pins s σ H x y v u Q I rx ry q hs
theorem MtR.or {id : String} {r r' : V → List V → Hp → VK → Prop} (h : MtR X id r) (h' : MtR X id r') : MtR X id (fun x xs H Q => r x xs H Q ∨ r' x xs H Q) := by
 intro pins s σ H x xs v us Q I rx rs q
 rcases q with q | q
 ·exact h pins s σ H x xs v us Q I rx rs q
 ·exact h' pins s σ H x xs v us Q I rx rs q
theorem pe_ix {r : R2} (hr : IxR X r) (ha : PE X a ta) (hb : PE X b tb) (hs : PlainIx b) : PE X (.Subscript a b pos) (tOp r ta tb) := by
 intro pins s σ H Q I h
 exact Subscript_ (binT ha hb I h fun v u s2 x y H2 I2 rx ry q => hr a b pins s2 σ H2 x y v u Q I2 rx ry q (hs _ _))
noncomputable def rIxL (K : PySem.W.Frag) : R2 := fun x y H Q => ∃ p xs i v, x = .ref p ∧ y = .int i ∧ SqL K H p xs ∧ atI xs i = some v ∧ Q v H
noncomputable def rIxT (K : PySem.W.Frag) : R2 := fun x y H Q => ∃ p xs i v, x = .ref p ∧ y = .int i ∧ SqT K H p xs ∧ atI xs i = some v ∧ Q v H
theorem ix_list : IxR X (rIxL X.K) := by
 intro value slice pins s σ H x y v u Q I rx ry h hs
 obtain ⟨p, xs, i, z, rfl, rfl, hq, he, q⟩ := h
 cases rx
 obtain ⟨t, rfl⟩ := ry
 obtain ⟨its, r, pl, hz⟩ := I.list hq
 obtain ⟨j, h1, h2, h3, h4, h5⟩ := atI_get he
 obtain ⟨w, ew, rw'⟩ := r.get h2
 have hl := r.length
 have hn := line63
 have fin : EP X pins σ Q w s := ⟨z, H, I, rw', q⟩
 by_cases h0 : 0 ≤ i
 ·have hj : i.toNat = j := by
   rw [seqIndex_of h0 h5] at h1
   exact Option.some.inj h1
  exact item_listR pl.isList h0 (by omega) (by rw [hj]; simpa using ew) fin hs
 ·have hj : (i + (its.toArray.size : Int)).toNat = j := by
   rw [seqIndex_neg (by omega) h4] at h1
   rw [List.size_toArray, ← hl]
   exact Option.some.inj h1
  exact subscriptTail_builtinR (x := w) pl.isList.typeIs slot_list_getitem.lookup
   (wpAny_getItem_list_neg (Q := fun r s' => r = w ∧ EP X pins σ Q r s') pl.isList (by omega) (by rw [List.size_toArray] <;> omega) (by omega) (by rw [hj]; simpa using ew) ⟨rfl, fin⟩) hs
theorem ix_tup : IxR X (rIxT X.K) := by
 intro value slice pins s σ H x y v u Q I rx ry h hs
 obtain ⟨p, xs, i, z, rfl, rfl, hq, he, q⟩ := h
 cases rx
 obtain ⟨t, rfl⟩ := ry
 obtain ⟨its, r, pl, hz⟩ := I.tuple hq
 obtain ⟨j, h1, h2, h3, h4, h5⟩ := atI_get he
 obtain ⟨w, ew, rw'⟩ := r.get h2
 have hl := r.length
 have hn := line63
 have fin : EP X pins σ Q w s := ⟨z, H, I, rw', q⟩
 exact subscriptTail_builtinR (x := w) pl.typeIs slot_tuple_getitem.lookup
  (getItem_tuple (j := j) (Q := fun r s' => r = w ∧ EP X pins σ Q r s') pl (by omega) (by omega) (by rw [List.size_toArray, ← hl]; exact h1) (by simpa using ew) ⟨rfl, fin⟩) hs
theorem mapSeq_set (its : List Value) (n j : Nat) (u : Value) : Obj.mapSeq (·.setIfInBounds j u) { cls := .type "list", data := .seq its.toArray n } = { cls := .type "list", data := .seq (its.set j u).toArray n } := by
 simp [Obj.mapSeq]
theorem Inv.lst {pins : List (Addr × Obj)} {σ : St} {H : Hp} {s : Shared} {p : Addr} {xs : List V} (I : Inv X pins σ H s) (h : H p = some (.lst xs)) :
  ∃ (its : List Value) (n : Nat), Vals xs its ∧ s.heap.get? p = some { cls := .type "list", data := .seq its.toArray n } ∧ xs.length ≤ sizeLine := by
 obtain ⟨z, its, n, r, e⟩ := I.hok p _ h
 exact ⟨its, n, r, e, z⟩
theorem Inv.lstUpd {pins : List (Addr × Obj)} {σ : St} {H : Hp} {s : Shared} {p : Addr} {xs ys : List V} {its its' : List Value} {n n' : Nat} {f : Obj → Obj} (I : Inv X pins σ H s) (h : H p = some (.lst xs))
  (ho : s.heap.get? p = some { cls := .type "list", data := .seq its.toArray n }) (hf : f { cls := .type "list", data := .seq its.toArray n } = { cls := .type "list", data := .seq its'.toArray n' }) (r : Vals ys its') (hz : ys.length ≤ sizeLine) (t : Nat) :
  Inv X pins σ (upd H p (.lst ys)) { s with heap := s.heap.update p f, toks := t } := by
 have e : (s.heap.update p f).get? p = some { cls := .type "list", data := .seq its'.toArray n' } := by
  rw [Heap.get?_update_self f ho (by rw [hf] <;> rfl), hf]
 refine I.write (x := p) (e := p) (by rw [h]; trivial) (.inl rfl) (fun b u hb q => (Heap.get?_update_other _ _ (Ne.symm hb)).trans q) ⟨_, e⟩ ?_
 exact ⟨hz, its', n', r, e⟩
noncomputable def rSetL : V → V → V → Hp → (Hp → Prop) → Prop := fun o i v H Q => ∃ p xs k j, o = .ref p ∧ i = .int k ∧ H p = some (.lst xs) ∧ ixN xs.length k = some j ∧ Q (upd H p (.lst (xs.set j v)))
theorem set_list : PSet X rSetL := by
 intro pins s σ H o i v ov iv u Q I ro ri rv h
 obtain ⟨p, xs, k, j, rfl, rfl, hp, hj, q⟩ := h
 cases ro
 obtain ⟨t, rfl⟩ := ri
 obtain ⟨its, n, r, ho, hz⟩ := I.lst hp
 obtain ⟨h1, h2, h3, h4⟩ := ixN_seq hj
 have hl := r.length
 have hn := line63
 have I' : Inv X pins σ (upd H p (.lst (xs.set j v))) { s with heap := s.heap.update p (Obj.mapSeq (·.setIfInBounds j u)) } :=
  I.lstUpd hp ho (mapSeq_set its n j u) (r.set rv j) (by rw [List.length_set]; exact hz) s.toks
 by_cases h0 : 0 ≤ k
 ·have hk : k.toNat = j := by
   rw [seqIndex_of h0 h4] at h1
   exact Option.some.inj h1
  exact PySem.W.ki_setAt ho h0 (by omega) (by rw [List.size_toArray, ← hl]; exact h4) (by rw [hk]; exact ⟨_, I', q⟩)
 ·have hk : (k + (its.toArray.size : Int)).toNat = j := by
   rw [seqIndex_neg (by omega) h3] at h1
   rw [List.size_toArray, ← hl]
   exact Option.some.inj h1
  exact PySem.W.ki_setBack ho (by omega) (by rw [List.size_toArray, ← hl]; exact h3) (by omega) (by rw [hk]; exact ⟨_, I', q⟩)
theorem call_len_seq : CallR X (.builtin "len") (fun xs H Q => ∃ p ys, xs = [.ref p] ∧ (SqL X.K H p ys ∨ SqT X.K H p ys) ∧ Q (.int ys.length) H) := by
 intro pins s σ H xs us Q I r h
 obtain ⟨p, ys, rfl, hq, q⟩ := h
 obtain ⟨u, rfl, rx⟩ := vals1 r
 cases rx
 have hn := line63
 rcases hq with hq | hq
 ·obtain ⟨its, r', pl, hz⟩ := I.list hq
  have hlen := r'.length
  exact Calls.call_len_list pl.isList (by simp only [List.size_toArray] <;> omega) ⟨.int ys.length, H, I.tok _, ⟨s.toks + 1, by rw [List.size_toArray, hlen]⟩, q⟩
 ·obtain ⟨its, r', pl, hz⟩ := I.tuple hq
  have hlen := r'.length
  exact len_tuple pl (by simp only [List.size_toArray] <;> omega) ⟨.int ys.length, H, I.tok _, ⟨s.toks + 1, by rw [List.size_toArray, hlen]⟩, q⟩
theorem CallR.or {f : Value} {r r' : List V → Hp → VK → Prop} (h : CallR X f r) (h' : CallR X f r') : CallR X f (fun xs H Q => r xs H Q ∨ r' xs H Q) := by
 intro pins s σ H xs us Q I rs q
 rcases q with q | q
 ·exact h pins s σ H xs us Q I rs q
 ·exact h' pins s σ H xs us Q I rs q
theorem call_tuple_of : CallR X (.type "tuple") (fun xs H Q => ∃ p ys, xs = [.ref p] ∧ ((SqL X.K H p ys ∧ ∀ l, H l = none → Q (.ref l) (upd H l (.tup ys))) ∨ (SqT X.K H p ys ∧ Q (.ref p) H))) := by
 intro pins s σ H xs us Q I r h
 obtain ⟨p, ys, rfl, h⟩ := h
 obtain ⟨u, rfl, rx⟩ := vals1 r
 cases rx
 rcases h with ⟨hq, q⟩ | ⟨hq, q⟩
 ·obtain ⟨its, r', pl, hz⟩ := I.list hq
  have hlen := r'.length
  refine call_tuple_list pl.isList (fun h' kp => ?_) (by simp only [List.size_toArray] <;> omega)
  have I1 : Inv X pins σ H { s with heap := h' } := I.kept (t' := s.toks) kp
  have I2 : Inv X pins σ (upd H h'.objs.size (.tup ys)) { s with heap := h'.push { cls := .type "tuple", data := .seq its.toArray } } :=
   I1.laid (t' := s.toks) (fun b o e => Heap.get?_push_of_some _ e) (Nat.le_refl _) (show ObjOk X.prog X.w _ _ _ (.tup ys) from ⟨hz, its, r', IsTup.new _ _⟩)
  exact ⟨.ref h'.objs.size, _, I2, rfl, q _ (I1.hok.fresh (Nat.le_refl _))⟩
 ·obtain ⟨its, r', pl, hz⟩ := I.tuple hq
  exact call_tuple_same pl ⟨.ref p, H, I, rfl, q⟩
noncomputable def tyV (K : PySem.W.Frag) (T : String) (x : V) (H : Hp) : Prop := match x with
 | .str _ => T = "str"
 | .int _ => T = "int"
 | .ref p => (T = "list" ∧ ∃ xs, SqL K H p xs) ∨ (T = "tuple" ∧ ∃ o, K.lookup p = some o ∧ o.cls = .type "tuple" ∧ o.dict = none) ∨
   (T = "dict" ∧ ((∃ kvs, H p = some (.dK kvs)) ∨ ∃ kvs, H p = some (.dT kvs))) ∨ (T = "set" ∧ ∃ S n, H p = some (.set S n))
 | _ => False
theorem tyV_is {pins : List (Addr × Obj)} {σ : St} {H : Hp} {s : Shared} {T : String} {x : V} {v : Value} (I : Inv X pins σ H s) (r : RelV x v) (ty : tyV X.K T x H) :
  s.TypeIs v T ∧ ∀ a, v = .ref a → ∃ ob, s.heap.get? a = some ob ∧ ob.dict = none := by
 cases x with
 | str z =>
  obtain ⟨t, rfl⟩ := r
  cases (show T = "str" from ty)
  exact ⟨typeIs_str s z t, fun _ e => nomatch e⟩
 | int i =>
  obtain ⟨t, rfl⟩ := r
  cases (show T = "int" from ty)
  exact ⟨typeIs_int s i t, fun _ e => nomatch e⟩
 | ref p =>
  cases r
  rcases ty with ⟨rfl, xs, hq⟩ | ⟨rfl, o, hk, hc, hd⟩ | ⟨rfl, hk⟩ | ⟨rfl, S, n, hk⟩
  ·obtain ⟨its, _, pl, _⟩ := I.list hq
   refine ⟨pl.isList.typeIs, fun a e => ?_⟩
   cases e
   obtain ⟨o, n, e, c, hd, _⟩ := pl
   exact ⟨o, e, hd⟩
  ·refine ⟨⟨o, I.kIn p o hk, hc⟩, fun a e => ?_⟩
   cases e
   exact ⟨o, I.kIn _ o hk, hd⟩
  ·have z : ∃ o, s.heap.get? p = some o ∧ o.ExactDict := by
    rcases hk with ⟨kvs, hk⟩ | ⟨kvs, hk⟩
    ·obtain ⟨_, _, _, _, o, _, _, e, ex, _⟩ := I.hok p _ hk
     exact ⟨o, e, ex⟩
    ·obtain ⟨_, _, _, _, o, _, _, e, ex, _⟩ := I.hok p _ hk
     exact ⟨o, e, ex⟩
   obtain ⟨o, e, ex⟩ := z
   refine ⟨⟨o, e, ex.1⟩, fun a e2 => ?_⟩
   cases e2
   exact ⟨o, e, ex.2.1⟩
  ·obtain ⟨o, _, _, _, e, ex, _⟩ := I.hok p _ hk
   refine ⟨⟨o, e, ex.1⟩, fun a e2 => ?_⟩
   cases e2
   exact ⟨o, e, ex.2.1⟩
 | _ => exact False.elim ty
noncomputable def tBM (K : PySem.W.Frag) (T : String) (r : V → List V → Hp → VK → Prop) (to : TE) (t : TA) : TE := fun σ H Q => to σ H fun x H1 => tyV K T x H1 ∧ t σ H1 fun xs H2 => r x xs H2 Q
variable {o e : Expr} {es : List Expr} {to : TE} {t : TA} {name : Str} {apos cpos : Pos} {T id : String} {r : V → List V → Hp → VK → Prop}
theorem pe_bm (pa : PlainAttrs T) (slot : Slot T name id) (hty : typeOf (.builtin id) = pure (.type "method_descriptor")) (hm : MtR X id r) (ho : PE X o to) (ha : PA X (e :: es) t)
  (hbase : attributeBase o name X.env (eval o X.env) = eval o X.env := by rfl)
  (hfew : ((backTo cpos (starEach (e :: es) X.env)).all (fun x => !x.1) && (backToKw cpos (keywordEach [] X.env)).all (fun x => x.1.isSome)
   && decide ((e :: es).length + ([] : List Keyword).length + (if ([] : List Keyword).isEmpty then 0 else 1) < 30)) = true := by rfl)
  (hline : (apos.endLine == cpos.line) = true := by rfl) (hs : starEach (e :: es) X.env = (false, eval e X.env) :: starEach es X.env := by rfl) (hplain : (backTo cpos (starEach es X.env)).any (·.1) = false := by rfl) :
  PE X (.Call (.Attribute o name apos) (e :: es) [] cpos) (tBM X.K T r to t) := by
 intro pins s σ H Q I h
 refine wpAny_Call_method_late hbase hfew hline rfl (thn (ho pins s σ H _ I h) fun v s1 ⟨x, H1, I1, r1, ty, q1⟩ => ?_)
 obtain ⟨h1, h2⟩ := tyV_is I1 r1 ty
 refine ⟨T, id, pa, slot, hty, h1, h2, ?_⟩
 have hA := ha cpos pins s1 σ H1 _ I1 q1
 rw [hs] at hA ⊢
 refine Calls.callWith_builtin (by show (false || (backTo cpos (starEach es X.env)).any (·.1)) = false; rw [hplain] <;> rfl) (Calls.evalArgs_plain ?_)
 exact thn hA fun us s2 ⟨vs, H2, I2, r2, q2⟩ => hm pins s2 σ H2 x vs v us Q I2 r1 r2 q2
/- xs.append(e), list.index on a module's tuple .. are MtR facts of 06m -/
end
end L2
namespace L2
open PySem PySem.Spec PyProof.Rows
noncomputable def MtM (X : Cx) (id : String) (r : V → List V → Hp → VK → Prop) : Prop :=
 ∀ (pins : List (Addr × Obj)) (s : Shared) (σ : St) (H : Hp) (x : V) (xs : List V) (v : Value) (us : List Value) (Q : VK), Inv X pins σ H s → RelV x v → Vals xs us → r x xs H Q →
  wpAny (model X.prog X.w) X.A (call (.builtin id) (v :: us)) (EP X pins σ Q) X.xe s
theorem Vals.one : ∀ {x : V} {us : List Value}, Vals [x] us → ∃ u, us = [u] ∧ RelV x u
 | _, _, .cons r .nil => ⟨_, rfl, r⟩
theorem Vals.two : ∀ {x y : V} {us : List Value}, Vals [x, y] us → ∃ u v, us = [u, v] ∧ RelV x u ∧ RelV y v
 | _, _, _, .cons r (.cons q .nil) => ⟨_, _, rfl, r, q⟩
theorem Vals.zero : ∀ {us : List Value}, Vals [] us → us = []
 | _, .nil => rfl
theorem Vals.dropLast {xs : List V} {us : List Value} (h : Vals xs us) : Vals xs.dropLast us.dropLast := by
 induction h with
 | nil => exact .nil
 | cons r t ih =>
  cases t with
  | nil => exact .nil
  | cons q t' => exact .cons r ih
theorem Vals.rep {xs : List V} {us : List Value} (h : Vals xs us) : ∀ k : Nat, Vals (List.replicate k xs).flatten (List.replicate k us).flatten
 | 0 => .nil
 | k + 1 => by
  rw [List.replicate_succ, List.replicate_succ, List.flatten_cons, List.flatten_cons]
  exact Vals.append h (Vals.rep h k)
theorem foldl_rep (its : List Value) : ∀ (k : Nat) (acc : List Value),
  List.foldl (fun x1 x2 => x1 ++ x2) acc.toArray (List.replicate k its.toArray) = (acc ++ (List.replicate k its).flatten).toArray
 | 0, acc => by simp
 | k + 1, acc => by
  have e : acc.toArray ++ its.toArray = (acc ++ its).toArray := by simp
  have e2 : (acc ++ its) ++ (List.replicate k its).flatten = acc ++ (List.replicate (k + 1) its).flatten := by
   rw [List.replicate_succ, List.flatten_cons, List.append_assoc]
  rw [← e2, ← foldl_rep its k (acc ++ its), ← e, List.replicate_succ, List.foldl_cons]
section
variable {X : Cx} {pins : List (Addr × Obj)} {σ : St} {H : Hp} {s : Shared} {l b : Addr} {xs ys zs : List V}
theorem Inv.lset {its its' : List Value} {n : Nat} {f : Array Value → Array Value} {t' : Nat} (I : Inv X pins σ H s) (hH : H l = some (.lst xs))
  (e : s.heap.get? l = some { cls := .type "list", data := .seq its.toArray n }) (hf : f its.toArray = its'.toArray) (hv : Vals ys its') (hz : ys.length ≤ sizeLine) :
  Inv X pins σ (upd H l (.lst ys)) { s with heap := s.heap.update l (Obj.mapSeq f), toks := t' } := by
 have q := PySem.IsL.update e f
 rw [hf] at q
 refine I.write (x := l) (e := l) (by rw [hH]; exact trivial) (.inl rfl) (fun b' u hb hu => (Heap.get?_update_other s.heap (Obj.mapSeq f) (Ne.symm hb)).trans hu) ⟨_, q⟩ ?_
 exact ⟨hz, its', _, hv, q⟩
theorem Inv.lnew {its : List Value} {t' : Nat} (I : Inv X pins σ H s) (hv : Vals ys its) (hz : ys.length ≤ sizeLine) :
  Inv X pins σ (upd H s.heap.objs.size (.lst ys)) { s with heap := s.heap.push { cls := .type "list", data := .seq its.toArray }, toks := t' } :=
 I.laid (fun _ _ q => Heap.get?_push_of_some _ q) (Nat.le_refl _) ⟨hz, its, 0, hv, Heap.get?_push_size _ rfl⟩
theorem Inv.fresh (I : Inv X pins σ H s) : H s.heap.objs.size = none := I.hok.fresh (Nat.le_refl _)
theorem Inv.lstM (I : Inv X pins σ H s) (hH : H l = some (.lst xs)) : xs.length ≤ sizeLine ∧ ∃ (its : List Value) (n : Nat), Vals xs its ∧ xs.length = its.length ∧ s.heap.get? l = some { cls := .type "list", data := .seq its.toArray n } := by
 obtain ⟨z, its, n, r, e⟩ := I.hok l _ hH
 exact ⟨z, its, n, r, r.length, e⟩
theorem notLongL {n : Nat} (h : n ≤ sizeLine) : Builtin.List.listTooLong n = false := by
 unfold Builtin.List.listTooLong
 exact decide_eq_false (by omega)
end
section
variable {X : Cx}
noncomputable def rAppend : V → List V → Hp → VK → Prop := fun x vs H Q => ∃ l xs y, x = .ref l ∧ vs = [y] ∧ H l = some (.lst xs) ∧ xs.length < sizeLine ∧ Q .non (upd H l (.lst (xs ++ [y])))
theorem mt_append : MtM X "list.append" rAppend := by
 intro pins s σ H x vs v us Q I rx rv h
 obtain ⟨l, xs, y, rfl, rfl, hH, hz, q⟩ := h
 cases rx
 obtain ⟨u, rfl, ru⟩ := rv.one
 obtain ⟨z, its, n, r, hl, e⟩ := I.lstM hH
 refine call_meets F.slot_list_append ⟨_, e, rfl⟩ F.entry_list_append (F.args_list_append_2 _ _) (PySem.list_append l its.toArray n u (by rw [List.size_toArray]; omega)) ⟨e, ?_⟩
 refine ⟨.non, _, I.lset (its' := its ++ [u]) hH e (by simp) (r.append (.cons ru .nil)) ?_, rfl, q⟩
 rw [List.length_append, List.length_singleton]
 omega
noncomputable def rCat : R2 := fun x y H Q => ∃ l b xs zs, x = .ref l ∧ y = .ref b ∧ H l = some (.lst xs) ∧ H b = some (.lst zs) ∧ xs.length + zs.length ≤ sizeLine ∧ ∀ p, H p = none → Q (.ref p) (upd H p (.lst (xs ++ zs)))
theorem op_cat : OpR X (binaryOp .Add) rCat := by
 intro pins s σ H x y v u Q I rx ry h
 obtain ⟨l, b, xs, zs, rfl, rfl, hH, hB, hz, q⟩ := h
 cases rx
 cases ry
 obtain ⟨z, its, n, r, hl, e⟩ := I.lstM hH
 obtain ⟨z2, its2, n2, r2, hl2, e2⟩ := I.lstM hB
 refine PySem.P.add_list e e2 ?_ (by rw [List.size_toArray, List.size_toArray]; omega)
 have ea : its.toArray ++ its2.toArray = (its ++ its2).toArray := by simp
 rw [ea]
 exact ⟨.ref _, _, I.lnew (t' := s.toks) (r.append r2) (by rw [List.length_append]; omega), rfl, q _ I.fresh⟩
noncomputable def rRep : R2 := fun x y H Q => ∃ l k xs, x = .ref l ∧ y = .int k ∧ H l = some (.lst xs) ∧ -(2 ^ 63) ≤ k ∧ k < 2 ^ 63 ∧ xs.length * k.toNat ≤ sizeLine ∧
 ∀ p, H p = none → Q (.ref p) (upd H p (.lst (List.replicate k.toNat xs).flatten))
theorem len_rep {α : Type} (xs : List α) (k : Nat) : (List.replicate k xs).flatten.length = k * xs.length := by
 induction k with
 | zero => simp
 | succ k ih => rw [List.replicate_succ, List.flatten_cons, List.length_append, ih, Nat.succ_mul, Nat.add_comm]
theorem op_rep : OpR X (binaryOp .Mult) rRep := by
 intro pins s σ H x y v u Q I rx ry h
 obtain ⟨l, k, xs, rfl, rfl, hH, h1, h2, hz, q⟩ := h
 cases rx
 obtain ⟨t, rfl⟩ := ry
 obtain ⟨z, its, n, r, hl, e⟩ := I.lstM hH
 have hlen : its.toArray.size * k.toNat ≤ sizeLine := by rw [List.size_toArray, ← hl]; exact hz
 have hcap : ¬ its.toArray.size * k.toNat > (2 ^ 63 - 1) / 8 := by
  have : (sizeLine : Nat) ≤ (2 ^ 63 - 1) / 8 := by decide
  omega
 have hfit : ¬ (!Builtin.List.listFitsIndex k) = true := by
  rw [fitsIndex_both h1 h2]
  exact Bool.false_ne_true
 have hlong : ¬ Builtin.List.listTooLong (its.toArray.size * k.toNat) = true := by
  rw [notLongL hlen]
  exact Bool.false_ne_true
 have hnew : List.foldl (fun x1 x2 => x1 ++ x2) #[] (List.replicate (if its.toArray.isEmpty = true then 0 else k.toNat) its.toArray) = (List.replicate k.toNat its).flatten.toArray := by
  have f0 : ∀ m : Nat, List.foldl (fun x1 x2 => x1 ++ x2) #[] (List.replicate m its.toArray) = (List.replicate m its).flatten.toArray := fun m => by
   have := foldl_rep its m []
   rw [List.nil_append] at this
   exact this
  rw [f0]
  cases its with
  | nil => simp
  | cons a r' => rw [if_neg (by simp)]
 refine wpAny_binaryOp_repeat_ref (T := "list") (U := "int") (by decide) ⟨_, e, rfl⟩ (fun s' => typeIs_int s' k t) noFill_list_mul F.fills_int_mul F.slot_int_rmul repeat_list F.slot_int_index.lookup
  (call_meets F.slot_int_rmul (typeIs_int s k t) F.entry_int_rmul (F.args_int_rmul_2 _ _) (int___rmul___int_list k t l its.toArray n)
   ⟨e, rfl, ⟨_, e, rfl⟩, call_meets F.slot_list_mul ⟨_, e, rfl⟩ F.entry_list_mul (F.args_list_mul_2 _ _) (AutoListH.list___mul___list_int_3 l its.toArray n k t hfit hcap hlong) ⟨e, ?_⟩⟩)
 rw [hnew]
 exact ⟨.ref _, _, I.lnew (t' := s.toks) (r.rep k.toNat) (by rw [len_rep, Nat.mul_comm]; exact hz), rfl, q _ I.fresh⟩
end
section
variable {prog : Program} {w : World} {A : Around} {E : Value → Shared → Prop} {s : Shared}
set_option maxRecDepth 100000 in
end
section
variable {X : Cx}
end
end L2
namespace Att
open PySem PySem.W PySem.Calls PyProof.Rows
theorem ints_of_wellAll {P : Params} {h : Heap} : ∀ (ns : List Int) (vs : List Value), WellAll P h vs (ns.map WData.int) → IntsAre vs ns := by
 intro ns
 induction ns with
 | nil =>
  intro vs w
  rw [List.map_nil] at w
  cases w
  exact .nil
 | cons n ns ih =>
  intro vs w
  rw [List.map_cons] at w
  cases w with
  | cons a b =>
   cases a
   exact .cons _ _ (ih _ b)
theorem script_of {l : OpenLaw} {n : Nat} (hn : l.most = some n) {P : Params} {h : Heap} {args : List WData} {vals : List Value}
  (hpre : l.row.toRowW.claim.pre args = true) (hwl : WellAll P h vals args) :
  ∃ a vs ns, vals = [Value.ref a] ∧ args = [WData.list (ns.map WData.int)] ∧ h.get? a = some { cls := .type "list", data := .seq vs.toArray } ∧ IntsAre vs ns ∧ ns.length ≤ n := by
 have hsh : WShape.hasAll [] args [.list .int] = true := (pre_splitW hpre).1
 have hc : l.pre.holds [] { args := args } = true := (pre_splitW hpre).2
 obtain ⟨d, r, rfl, h1, h2⟩ := hasAllW_cons hsh
 obtain rfl := hasAllW_nil h2
 obtain ⟨xs, rfl, h3⟩ := hasW_list h1
 obtain ⟨ns, rfl⟩ := items_int h3
 have hlen : ns.length ≤ n := by
  unfold OpenLaw.pre at hc
  have h4 : (WTm.not (.lt (.lit (.int (n : Int))) (.len (.arg 0)))).holds [] { args := [.list (ns.map .int)] } = true := by
   have h4 := (holds_andW hc).1
   rw [hn] at h4
   exact h4
  have h5 := condW_of h4 (w_not (w_lt w_lit (w_len_list (w_arg rfl))))
  rw [List.length_map] at h5
  refine Nat.le_of_not_lt fun q => ?_
  have q' : (n : Int) < ((ns.length : Nat) : Int) := by omega
  first
   | (rw [decide_eq_true q'] at h5; exact absurd h5 (by decide))
   | (simp at h5; omega)
 cases hwl with
 | cons w1 w2 =>
  cases w2
  cases w1 with
  | list ho hall => exact ⟨_, _, ns, rfl, rfl, ho, ints_of_wellAll ns _ hall, hlen⟩
theorem post_true (l : OpenLaw) (args : List WData) : l.row.toRowW.claim.post args (.bool true) args = true :=
 postW_of (r := l.row.toRowW) (X := (true == true))
  (show WShape.has [] (.bool true) .bool = true by first | rfl | decide | simp [WShape.has, WShape.arms, WShape.armsAll])
  (show (WTm.eq .res (.lit (.bool true))).value [] { args := args, res := some (.bool true), after := args } = some (.bool (true == true)) from w_eq_bool (w_res rfl) w_lit) rfl
theorem attach_call {l : OpenLaw} {n : Nat} {q : Program} {loose : List Str} {XP : (Str → Option Value) → Heap → Prop} {YP : World → Heap → Prop} {d : DefRec}
  (hn : l.most = some n) (hdf : d.params.defaults = [])
  (call : ∀ (w : World) (s₀ s₁ : Shared) (mg mb : Str → Option Value) (fa : Addr) (o : Obj) (pm cd doc : Value) (a : Addr) (vs : List Value) (ns : List Int),
   Ground q loose [] XP w s₀ mg mb s₁.heap → YP w s₁.heap →
   s₁.heap.get? fa = some o → o.data = .func (docDef d.name d.params d.body d.scope pm cd doc) → s₁.heap.CodeRec cd d.name → mg d.name = some (.ref fa) →
   s₁.heap.get? a = some { cls := .type "list", data := .seq vs.toArray } → IntsAre vs ns → ns.length ≤ n → s₁.gens = #[] →
   codeAny (model l.prog w) callerA (.call (.ref fa) ⟨[.ref a], []⟩) (fun r s' => r = .ok (.ret (.bool true)) ∧ OldK s₁.heap s'.heap ∧ s'.os = s₁.os ∧ AllBare s'.gens) s₁) :
  WalkO q loose XP YP l.row.toRowW d [] (fun f vs => PySem.call f vs) := by
 intro w s₀ s₁ mg mb G Y fa o pm cd doc dV kV ho hd hcd hD hmg hg args vals as hpre hlay hrd hwl hlo
 obtain rfl : dV = .none := Dflts.none hD hdf
 obtain rfl : kV = .none := Dflts.noKw hD
 obtain ⟨a, vs, ns, rfl, rfl, hobj, hints, hlen⟩ := script_of hn hpre hwl
 refine enter_call (codeAny_mono (call w s₀ s₁ mg mb fa o pm cd doc a vs ns G Y ho (fd_plain hd) hcd hmg hobj hints hlen hg) fun r s' hq => ?_)
 obtain ⟨rfl, h2, h3, h4⟩ := hq
 exact ⟨.inl ⟨.bool true, .bool true, [], rfl, fun _ => rfl, .bool true, post_true l _, fun _ => ⟨List.Pairwise.nil, fun _ hm => (nomatch hm)⟩⟩, h2, h3, h4⟩
section
variable {prog : Program} {w : World} {A : Around} {E : Value → Shared → Prop} {s : Shared} {K : Frag}
noncomputable def ledger (h : Heap) (L d : Addr) : List (Addr × Obj) := (List.range h.objs.size).filterMap fun a => if a = L ∨ a = d then none else (h.get? a).map fun o => (a, o)
end
end Att
namespace L2
open PySem PySem.Spec PyProof.Rows
theorem vals_ints : ∀ {vs : List Value} {ns : List Int}, IntsAre vs ns → Vals (ns.map V.int) vs
 | _, _, .nil => .nil
 | _, _, .cons n t h => .cons ⟨t, rfl⟩ (vals_ints h)
noncomputable def Only (H : Hp) : Prop := ∀ b, H b = none ∨ ∃ o xs, H b = some (.frz o (.lst xs))
theorem law_call {P : Program} {w : World} {K : PySem.W.Frag} {mg mb : Str → Option Value} {CX : CXT} {k : Nat} {fa a : Addr} {fd : FuncData} {x : Str} {sp : Sp} {s₁ : Shared} {vs : List Value} {ns : List Int}
  (KX : K.In s₁.heap) (hns : s₁.heap.Ns mainGlobals mg) (hb : s₁.heap.Ns builtinsNs mb) (hbb : ∀ x : Str, x ≠ "__name__" → mb x = bootBuiltins x) (hlim : s₁.heap.NoLimit) (hg : s₁.gens = #[])
  (ha : s₁.heap.get? a = some { cls := .type "list", data := .seq vs.toArray }) (hi : IntsAre vs ns) (hl : ns.length ≤ sizeLine) (hr : Room k callerA)
  (F : ∀ base : Heap, K.In base → base.Ns mainGlobals mg → FnOk P w K mg base CX k fa fd [x] sp) (hbind : ∀ (s : Shared) (u : Value), BindsTo s fd ⟨[u], []⟩ [(x, u)])
  (hsp : ∀ H : Hp, Only H → SqL K H a (ns.map V.int) → sp [.ref a] H (fun v _ => v = .bl true) fun _ _ _ => False)
  (hCX : ∀ H e s', CX [] H s₁ (fun _ _ _ => False) e s' → False) :
  codeAny (model P w) callerA (.call (.ref fa) ⟨[.ref a], []⟩) (fun r s' => r = .ok (.ret (.bool true)) ∧ OldK s₁.heap s'.heap ∧ s'.os = s₁.os ∧ AllBare s'.gens) s₁ := by
 have rv := vals_ints hi
 have lenV := hi.length
 have core : ∀ H : Hp, Only H → SqL K H a (ns.map V.int) → HOk P w H s₁.heap → (∀ b, H b ≠ none → b = a) → (H a ≠ none → K.lookup a = none) →
   codeAny (model P w) callerA (.call (.ref fa) ⟨[.ref a], []⟩) (fun r s' => r = .ok (.ret (.bool true)) ∧ OldK s₁.heap s'.heap ∧ s'.os = s₁.os ∧ AllBare s'.gens) s₁ := by
  intro H hO hS hok hA hK
  have base_of : ∀ {b : Addr} {o : Obj}, s₁.heap.get? b = some o → H b = none → (hidT s₁.heap H).get? b = some o := fun e n => hidT_get e n
  have noA : ∀ {b : Addr} {o : Obj} {es : Array DictEntry} {ep : Nat}, s₁.heap.get? b = some o → o.data = .dict es ep → H b = none := fun {b o es ep} e d => by
   cases q : H b with
   | none => rfl
   | some u =>
    have e' : b = a := hA b (by rw [q]; simp)
    subst e'
    rw [ha] at e; cases e
    have d' : Data.seq vs.toArray _ = Data.dict es ep := d
    cases d'
  have nsK : ∀ {b : Addr} {m : Str → Option Value}, s₁.heap.Ns b m → (hidT s₁.heap H).Ns b m := fun {b m} ⟨o, es, ep, e, d, r⟩ => ⟨o, es, ep, base_of e (noA e d), d, r⟩
  have hKb : K.In (hidT s₁.heap H) := fun b o e => base_of (KX b o e) (by
   cases q : H b with
   | none => rfl
   | some u =>
    have e' : b = a := hA b (by rw [q]; simp)
    subst e'
    rw [hK (by rw [q]; simp)] at e; cases e)
  have hM : Mod K mg (hidT s₁.heap H) := ⟨hKb, nsK hns, ⟨mb, nsK hb, hbb⟩, let ⟨mc, h1, h2⟩ := hlim; ⟨mc, nsK h1, h2⟩⟩
  have e0 : Env0 P w K mg (hidT s₁.heap H) callerA [] s₁ H := ⟨rfl, hM, fun b o e => of_hidT e, Nat.le_of_eq (hidT_size _ _), trivial, fun b hb => absurd (show b ∈ ([] : List Addr) from hb) (by simp), hok, .of_eq hg⟩
  refine codeAny_mono ((F _ hKb (nsK hns)).run callerA [] s₁ H ⟨[.ref a], []⟩ [.ref a] [.ref a] _ _ hr e0 (hbind s₁ (.ref a)) (.cons rfl .nil) (hsp H hO hS)) fun r s' h => ?_
  cases r with
  | error e => exact (hCX H e s' h).elim
  | ok fl =>
   cases fl with
   | next => exact False.elim h
   | brk => exact False.elim h
   | cont => exact False.elim h
   | ret u =>
    obtain ⟨v, H', os, bare, un, hok', r', q⟩ := h
    have q' : v = .bl true := q
    subst q'
    obtain rfl : u = Value.bool true := r'
    refine ⟨rfl, OldK.of_keep fun b o e => ?_, os, bare⟩
    cases q : H b with
    | none => exact un.keep b o e q (by intro z; exact absurd (show b ∈ ([] : List Addr) from z) (by simp)) (by simp)
    | some u =>
     rcases hO b with z | ⟨ob, xs, z⟩
     ·rw [q] at z; cases z
     ·have z2 := un.frzs b ob _ z
      obtain ⟨e1, _⟩ := hok b _ z
      obtain ⟨e2, _⟩ := hok' b _ z2
      rw [e] at e1; cases e1
      exact e2
 cases hk : K.lookup a with
 | some o =>
  have e := KX a o hk
  rw [ha] at e
  cases e
  refine core (fun _ => none) (fun _ => .inl rfl) (.inr ⟨_, vs.toArray, _, hk, rfl, rfl, rfl, by rw [List.size_toArray, lenV]; exact hl, by simpa using rv⟩) (fun b u z => by have z' : (none : Option HO) = some u := z; cases z') (fun b z => absurd rfl z) fun z => absurd rfl z
 | none =>
  refine core (fun b => if b = a then some (.frz { cls := .type "list", data := .seq vs.toArray } (.lst (ns.map V.int))) else none) (fun b => ?_) (.inl (.inr ⟨{ cls := .type "list", data := .seq vs.toArray }, if_pos rfl⟩)) (fun b u z => ?_) (fun b z => ?_) fun _ => hk
  ·by_cases hb : b = a
   ·exact .inr ⟨_, _, if_pos hb⟩
   ·exact .inl (if_neg hb)
  ·by_cases hb : b = a
   ·have z' := (if_pos hb).symm.trans z
    cases z'
    subst hb
    exact ⟨ha, by rw [List.length_map]; exact hl, vs, _, rv, ha⟩
   ·have z' := (if_neg hb).symm.trans z
    cases z'
  ·by_cases hb : b = a
   ·exact hb
   ·exact absurd (if_neg hb) z
end L2
namespace L2
open PySem PySem.Spec PyProof.Rows
theorem walk_of {l : PySem.W.OpenLaw} {n k : Nat} {q : Program} {loose : List Str} {XP : (Str → Option Value) → Heap → Prop} {YP : World → Heap → Prop} {d : DefRec} {K : Params → PySem.W.Frag} {CX : World → CXT} {sp : World → Sp} {x : Str}
  (hn : l.most = some n) (hn2 : n ≤ sizeLine) (hdf : d.params.defaults = []) (hr : Room k callerA)
  (hY : ∀ (w : World) (h : Heap), YP w h → (K w.params).In h)
  (F : ∀ (w : World) (mg : Str → Option Value) (fa : Addr) (h : Heap), (K w.params).In h → h.Ns mainGlobals mg → mg d.name = some (.ref fa) →
   ∃ fd : FuncData, (∀ (s : Shared) (u : Value), BindsTo s fd ⟨[u], []⟩ [(x, u)]) ∧
    ∀ base : Heap, (K w.params).In base → base.Ns mainGlobals mg → FnOk l.prog w (K w.params) mg base (CX w) k fa fd [x] (sp w))
  (hsp : ∀ (w : World) (H : Hp) (a : Addr) (ns : List Int), ns.length ≤ n → Only H → SqL (K w.params) H a (ns.map V.int) → sp w [.ref a] H (fun v _ => v = .bl true) fun _ _ _ => False)
  (hCX : ∀ (w : World) (H : Hp) (s : Shared) (e : Value) (s' : Shared), CX w [] H s (fun _ _ _ => False) e s' → False) :
  PySem.W.WalkO q loose XP YP l.row.toRowW d [] (fun f vs => PySem.call f vs) := by
 refine Att.attach_call hn hdf fun w s₀ s₁ mg mb fa o pm cd doc a vs ns G Y ho hd hcd hmg hobj hints hlen hg => ?_
 have KX := hY w _ Y
 obtain ⟨fd, hb, hF⟩ := F w mg fa _ KX G.T.g hmg
 exact law_call KX G.T.g G.T.b G.T.builtins G.T.nolimit hg hobj hints (Nat.le_trans hlen hn2) hr hF hb (fun H hO hS => hsp w H a ns hlen hO hS) fun H e s' => hCX w H s₁ e s'
end L2
/- THE LAST THEOREM (shape; LID, My.* are yours):
   My.Adr: a structure of the addresses that your layer names (classes, functions); My.Txt K t: a structure (Prop) of the equations over K;
   My.txt_mk : {K} {implicit addresses ..} (e1 : nsIn K mainGlobals "law" = some (some (.ref f))) (e2 : K.lookup f = some ⟨oc, od, .func (fnOf "law" "law" params body scope dV kV doc pm an cdv ct), sl⟩) (e3 : codeIn K cdv "law" = true) .. : ∃ t, My.Txt K t
set_option maxRecDepth 100000 in
set_option maxHeartbeats 0 in
(the tactic k_is has no namespace: write k_is) -/
namespace L2
open PySem PySem.Spec PyProof.Rows
noncomputable def defArgs (s : Stmt) : Arguments := match s with
 | .FunctionDef _ a _ _ _ _ _ _ _ _ => a
 | _ => { posonlyargs := [], args := [], vararg := none, kwonlyargs := [], kw_defaults := [], kwarg := none, defaults := [] }
noncomputable def defBody (s : Stmt) : List Stmt := match s with
 | .FunctionDef _ _ b _ _ _ _ _ _ _ => b
 | _ => []
noncomputable def defScope (s : Stmt) : Scope := match s with
 | .FunctionDef _ _ _ _ _ _ sc _ _ _ => sc
 | _ => { kind := .function, names := [], isGenerator := false, isCoroutine := false }
noncomputable abbrev CX0 : CXT := fun _ _ _ _ _ _ => False
noncomputable abbrev E0 : XK := fun _ _ _ => False
theorem pass0 {X : Cx} : Passes CX0 X E0 := fun _ _ _ _ _ _ _ h => h.elim
structure Fun (K : PySem.W.Frag) (x qual : Str) (st : Stmt) (f : Addr) (fd : FuncData) : Prop where
 ex : ∃ (oc : Value) (od : Option Addr) (kV doc pm : Value) (an : Option Addr) (cdv ct : Value) (osl : Array (Option Value)),
  fd = PySem.W.fnOf x qual (defArgs st) (defBody st) (defScope st) .none kV doc pm an cdv ct ∧ K.lookup f = some ⟨oc, od, .func fd, osl⟩ ∧ PySem.W.codeIn K cdv qual = true
 kp : PySem.W.keepIn K (.ref f) = true
section
variable {P : Program} {w : World} {K : PySem.W.Frag} {mg : Str → Option Value} {base : Heap}
theorem Fun.ok {x qual : Str} {st : Stmt} {f : Addr} {fd : FuncData} {N ps : List Str} {k : Nat} {sp : Sp} (F : Fun K x qual st f fd) (S : FnScope N ps (defScope st)) (len : ∀ vs H Q E, sp vs H Q E → vs.length = ps.length)
  (hbody : ∀ (cdv : Value) (A : Around) (outer : List Env) (s : Shared) (H : Hp) (vs : List V) (Q : VK) (E : XK), Room k (A.deeper (envOfC qual (defScope st) s.heap.objs.size f cdv)) → sp vs H Q E →
   ∃ t, PSs (cxOf CX0 P w K mg base N qual (defScope st) f cdv A outer s H E).nox (defBody st) t ∧ t { nx := fun _ H' => Q .non H', rt := Q } (start N vs) H) : FnOk P w K mg base CX0 (k + 1) f fd ps sp := by
 obtain ⟨oc, od, kV, doc, pm, an, cdv, ct, osl, rfl, lk, hcd⟩ := F.ex
 refine fn_of lk hcd S len fun A outer s H vs Q E hr hsp => ?_
 obtain ⟨t, h, q⟩ := hbody cdv A outer s H vs Q E hr hsp
 exact ⟨t, h.nox, q⟩
theorem Fun.binds {x qual : Str} {st : Stmt} {f : Addr} {fd : FuncData} {ps : List Str} (F : Fun K x qual st f fd)
  (h : ∀ (kV doc pm : Value) (an : Option Addr) (cdv ct : Value) (us : List Value), us.length = ps.length → bindArgs (PySem.W.fnOf x qual (defArgs st) (defBody st) (defScope st) .none kV doc pm an cdv ct) ⟨us, []⟩ = pure (ps.zip us)) : Binds K fd ps [] := by
 obtain ⟨oc, od, kV, doc, pm, an, cdv, ct, osl, rfl, lk, hcd⟩ := F.ex
 exact .all (h kV doc pm an cdv ct)
theorem fun_mk {x qual : Str} {st : Stmt} {f : Addr} {oc : Value} {od an : Option Addr} {osl : Array (Option Value)} {kV doc pm cdv ct : Value} (l : K.lookup f = some ⟨oc, od, .func (PySem.W.fnOf x qual (defArgs st) (defBody st) (defScope st) .none kV doc pm an cdv ct), osl⟩)
  (c : PySem.W.codeIn K cdv qual = true) (k : PySem.W.keepIn K (.ref f) = true) : Fun K x qual st f (PySem.W.fnOf x qual (defArgs st) (defBody st) (defScope st) .none kV doc pm an cdv ct) := ⟨⟨oc, od, kV, doc, pm, an, cdv, ct, osl, rfl, l, c⟩, k⟩
end
theorem hu_of {A : Around} {k : Nat} (hr : Room k A) : A.units + 1 < cLine := Nat.lt_of_le_of_lt (Nat.add_le_add_left (by decide : 1 ≤ 64) _) hr.units
section
variable {X : Cx}
theorem pv (i : Nat) {x : Str} {pos : Pos} (hN : X.N[i]? = some x := by rfl) (hv : Vis X.env.scope x := by first | exact Or.inl rfl | exact Or.inr (Or.inl rfl) | exact Or.inr (Or.inr rfl)) (hd : (x == ("__debug__" : Str)) = false := by decide)
  (hcd : (x == ("__classdict__" : Str)) = false := by decide) : PE X (.Name x pos) (tVar i) := pe_var hN hv hd hcd
end
theorem iteF {A B : Prop} (h : B) : if false = true then A else B := by
 rw [if_neg Bool.false_ne_true]
 exact h
theorem iteT {A B : Prop} (h : A) : if true = true then A else B := by
 rw [if_pos rfl]
 exact h
noncomputable def Same (H H' : Hp) : Prop := ∀ b o, H b = some o → H' b = some o
theorem Same.refl (H : Hp) : Same H H := fun _ _ h => h
theorem Same.trans {H H1 H2 : Hp} (a : Same H H1) (b : Same H1 H2) : Same H H2 := fun c o h => b c o (a c o h)
theorem Same.free {H H' : Hp} (e : Same H H') {l : Addr} (h : H' l = Option.none) : H l = Option.none := by
 cases q : H l with
 | none => rfl
 | some o =>
  rw [e l o q] at h
  cases h
theorem Same.seq {K : PySem.W.Frag} {H H' : Hp} {a : Addr} {xs : List V} (e : Same H H') (h : SqL K H a xs) : SqL K H' a xs := by
 rcases h with (h | ⟨o, h⟩) | h
 ·exact .inl (.inl (e _ _ h))
 ·exact .inl (.inr ⟨o, e _ _ h⟩)
 ·exact .inr h
end L2
end
section
namespace L2
open PySem PySem.Spec PyProof.Rows
section
variable {κ : Type} [DecidableEq κ]
noncomputable def valV (kvs : List (κ × V)) (k : κ) : Option V := (kvs.find? fun kv => decide (kv.1 = k)).map (·.2)
noncomputable def putK (kvs : List (κ × V)) (k : κ) (v : V) : List (κ × V) :=
 if (kvs.any fun kv => decide (kv.1 = k)) = true then kvs.map (fun kv => if kv.1 = k then (kv.1, v) else kv) else kvs ++ [(k, v)]
noncomputable def dropK (kvs : List (κ × V)) (k : κ) : List (κ × V) := kvs.filter fun kv => decide (kv.1 ≠ k)
theorem valV_pos {p : κ × V} {r : List (κ × V)} {k : κ} (e : p.1 = k) : valV (p :: r) k = some p.2 := by simp [valV, List.find?_cons, e]
theorem valV_neg {p : κ × V} {r : List (κ × V)} {k : κ} (e : ¬ p.1 = k) : valV (p :: r) k = valV r k := by simp [valV, List.find?_cons, e]
theorem valV_any (k : κ) : ∀ kvs : List (κ × V), (kvs.any fun kv => decide (kv.1 = k)) = (valV kvs k).isSome
 | [] => rfl
 | p :: r => by
  rw [List.any_cons]
  by_cases e : p.1 = k
  ·simp only [valV_pos e, decide_eq_true e, Bool.true_or, Option.isSome_some]
  ·rw [valV_neg e, decide_eq_false e, Bool.false_or]; exact valV_any k r
theorem length_putK (kvs : List (κ × V)) (k : κ) (v : V) : (putK kvs k v).length ≤ kvs.length + 1 := by
 unfold putK
 split
 ·rw [List.length_map]; omega
 ·rw [List.length_append, List.length_cons, List.length_nil]; omega
theorem RelO.isSome_eq {o : Option V} {u : Option Value} (r : RelO o u) : o.isSome = u.isSome := by
 cases o with
 | none => cases u with
  | none => rfl
  | some _ => exact (show False from r).elim
 | some _ => cases u with
  | none => exact (show False from r).elim
  | some _ => rfl
theorem RelO.getD {o : Option V} {u : Option Value} {d : V} {d' : Value} (r : RelO o u) (rd : RelV d d') : RelV (o.getD d) (u.getD d') := by
 cases o with
 | none => cases u with
  | none => exact rd
  | some _ => exact (show False from r).elim
 | some _ => cases u with
  | none => exact (show False from r).elim
  | some _ => exact r
theorem KV.val {kvs : List (κ × V)} {vs : List (κ × Value)} (r : KV kvs vs) (k : κ) : RelO (valV kvs k) (valueAt vs k) := by
 unfold KV at r
 induction r with
 | nil => exact True.intro
 | @cons p q ps qs h t ih =>
  obtain ⟨h1, h2⟩ := h
  by_cases e : p.1 = k
  ·have e' : q.1 = k := h1.symm.trans e
   have b : valueAt (q :: qs) k = some q.2 := by simp [valueAt, List.find?_cons, e']
   rw [valV_pos e, b]; exact h2
  ·have e' : ¬ q.1 = k := fun z => e (h1.trans z)
   have b : valueAt (q :: qs) k = valueAt qs k := by simp [valueAt, List.find?_cons, e']
   rw [valV_neg e, b]; exact ih
theorem KV.any {kvs : List (κ × V)} {vs : List (κ × Value)} (r : KV kvs vs) (k : κ) : (kvs.any fun kv => decide (kv.1 = k)) = vs.any fun kv => decide (kv.1 = k) := by
 unfold KV at r
 induction r with
 | nil => rfl
 | cons h t ih => rw [List.any_cons, List.any_cons, ih, h.1]
theorem KV.repl {kvs : List (κ × V)} {vs : List (κ × Value)} (r : KV kvs vs) (k : κ) {y : V} {u : Value} (ry : RelV y u) :
  KV (kvs.map fun kv => if kv.1 = k then (kv.1, y) else kv) (vs.map fun kv => if kv.1 = k then (kv.1, u) else kv) := by
 unfold KV at r ⊢
 induction r with
 | nil => exact .nil
 | @cons p q ps qs h t ih =>
  rw [List.map_cons, List.map_cons]
  refine .cons ?_ ih
  obtain ⟨h1, h2⟩ := h
  by_cases e : p.1 = k
  ·rw [if_pos e, if_pos (h1.symm.trans e)]; exact ⟨h1, ry⟩
  ·rw [if_neg e, if_neg (fun z => e (h1.trans z))]; exact ⟨h1, h2⟩
theorem KV.put {kvs : List (κ × V)} {vs : List (κ × Value)} (r : KV kvs vs) (k : κ) {y : V} {u : Value} (ry : RelV y u) : KV (putK kvs k y) (stored vs k u) := by
 unfold putK stored
 rw [r.any k]
 by_cases e : (vs.any fun kv => decide (kv.1 = k)) = true
 ·rw [if_pos e, if_pos e]; exact r.repl k ry
 ·rw [if_neg e, if_neg e]; exact Paired.snoc r ⟨rfl, ry⟩
theorem KV.drop {kvs : List (κ × V)} {vs : List (κ × Value)} (r : KV kvs vs) (k : κ) : KV (dropK kvs k) (without vs k) := by
 unfold KV at r ⊢
 unfold dropK without
 induction r with
 | nil => exact .nil
 | @cons p q ps qs h t ih =>
  obtain ⟨h1, h2⟩ := h
  rw [List.filter_cons, List.filter_cons]
  by_cases e : p.1 = k
  ·have a : ¬ decide (p.1 ≠ k) = true := by simp [e]
   have b : ¬ decide (q.1 ≠ k) = true := by simp [h1.symm.trans e]
   rw [if_neg a, if_neg b]; exact ih
  ·have e' : ¬ q.1 = k := fun z => e (h1.trans z)
   have a : decide (p.1 ≠ k) = true := by simp [e]
   have b : decide (q.1 ≠ k) = true := by simp [e']
   rw [if_pos a, if_pos b]; exact .cons ⟨h1, h2⟩ ih
theorem KV.keys {kvs : List (κ × V)} {vs : List (κ × Value)} (r : KV kvs vs) : kvs.map (·.1) = vs.map (·.1) := by
 unfold KV at r
 induction r with
 | nil => rfl
 | cons h t ih => rw [List.map_cons, List.map_cons, ih, h.1]
theorem KV.length {kvs : List (κ × V)} {vs : List (κ × Value)} (r : KV kvs vs) : kvs.length = vs.length := Paired.length r
end
theorem kV_is {P : Program} {w : World} {k : Key} {u : Value} (r : RelV (kV k) u) : (mixKind P w).is k u = true := by
 cases k with
 | inl i => obtain ⟨t, e⟩ := (show ∃ t, u = Value.int i t from r); subst e; exact mixKind_int P w i t
 | inr x => obtain ⟨t, e⟩ := (show ∃ t, u = Value.str x t from r); subst e; exact mixKind_str P w x t
theorem items_are {P : Program} {w : World} : ∀ {ks : List Key} {us : List Value}, Vals (ks.map kV) us → ItemsAre (mixKind P w) ks us
 | [], _, r => by rw [List.map_nil] at r; cases r; exact .nil
 | k :: ks, _, r => by
  rw [List.map_cons] at r
  cases r with
  | cons h t => exact .cons (kV_is h) (items_are t)
noncomputable abbrev KT (H : Hp) : List (List Key × V) → List (List Key × Addr × Value) → Prop := Paired fun p q => p.1 = q.1 ∧ H q.2.1 = some (.tup (p.1.map kV)) ∧ RelV p.2 q.2.2
theorem KT.val {H : Hp} {kvs : List (List Key × V)} {xs : List (List Key × Addr × Value)} (r : KT H kvs xs) (k : List Key) : RelO (valV kvs k) ((atKey xs k).map (·.2)) := by
 induction r with
 | nil => exact True.intro
 | @cons p q ps qs h t ih =>
  obtain ⟨h1, _, h2⟩ := h
  by_cases e : p.1 = k
  ·have e' : q.1 = k := h1.symm.trans e
   have b : atKey (q :: qs) k = some q.2 := by simp [atKey, List.find?_cons, e']
   rw [valV_pos e, b]; exact h2
  ·have e' : ¬ q.1 = k := fun z => e (h1.trans z)
   have b : atKey (q :: qs) k = atKey qs k := by simp [atKey, List.find?_cons, e']
   rw [valV_neg e, b]; exact ih
theorem KT.repl {H : Hp} {kvs : List (List Key × V)} {xs : List (List Key × Addr × Value)} (r : KT H kvs xs) (k : List Key) {y : V} {u : Value} (ry : RelV y u) :
  KT H (kvs.map fun kv => if kv.1 = k then (kv.1, y) else kv) (xs.map (putAt k u)) := by
 induction r with
 | nil => exact .nil
 | @cons p q ps qs h t ih =>
  rw [List.map_cons, List.map_cons]
  refine .cons ?_ ih
  obtain ⟨h1, h2, h3⟩ := h
  unfold putAt
  by_cases e : p.1 = k
  ·rw [if_pos e, if_pos (h1.symm.trans e)]; exact ⟨h1, h2, ry⟩
  ·rw [if_neg e, if_neg (fun z => e (h1.trans z))]; exact ⟨h1, h2, h3⟩
theorem KT.put {H : Hp} {kvs : List (List Key × V)} {xs : List (List Key × Addr × Value)} (r : KT H kvs xs) (k : List Key) {b : Addr} {y : V} {u : Value} (hb : H b = some (.tup (k.map kV))) (ry : RelV y u) :
  KT H (putK kvs k y) (storedH xs k b u) := by
 have e : (kvs.any fun kv => decide (kv.1 = k)) = (atKey xs k).isSome := by
  rw [valV_any, (r.val k).isSome_eq, Option.isSome_map]
 unfold putK storedH
 rw [e]
 by_cases q : (atKey xs k).isSome = true
 ·rw [if_pos q, if_pos q]; exact r.repl k ry
 ·rw [if_neg q, if_neg q]; exact Paired.snoc r ⟨rfl, hb, ry⟩
theorem KT.keeps {H H' : Hp} {kvs : List (List Key × V)} {xs : List (List Key × Addr × Value)} (r : KT H kvs xs) (ht : ∀ b ys, H b = some (.tup ys) → H' b = some (.tup ys)) : KT H' kvs xs :=
 Paired.mapP r fun _ _ z => ⟨z.1, ht _ _ z.2.1, z.2.2⟩
section
variable {P : Program} {w : World} {H : Hp} {h : Heap} {a : Addr}
theorem rd_of {u : HO} (ok : HOk P w H h) (e : Rd H a u) : ObjOk P w H h a u := e.ok ok
theorem dk_rd {kvs : List (Key × V)} (ok : HOk P w H h) (e : Rd H a (.dK kvs)) : kvs.length ≤ sizeLine ∧ (a == sysModules) = false ∧ ∃ vs, KV kvs vs ∧ h.DictOf (mixKind P w) a vs :=
 show ObjOk P w H h a (.dK kvs) from rd_of ok e
theorem dk_of {kvs : List (Key × V)} (ok : HOk P w H h) (e : H a = some (.dK kvs)) : kvs.length ≤ sizeLine ∧ (a == sysModules) = false ∧ ∃ vs, KV kvs vs ∧ h.DictOf (mixKind P w) a vs := dk_rd ok (.inl e)
theorem key_of {ks : List Key} (ok : HOk P w H h) (e : H a = some (.tup (ks.map kV))) : (tupleKind (mixKind P w)).is h ks a := by
 obtain ⟨_, its, r, o, h1, h2, n, h3⟩ := (show ObjOk P w H h a (.tup (ks.map kV)) from ok a _ e)
 exact ⟨o, its.toArray, n, h1, h2, h3, by simpa using items_are r⟩
theorem dt_rd {kvs : List (List Key × V)} (ok : HOk P w H h) (e : Rd H a (.dT kvs)) : kvs.length ≤ sizeLine ∧ (a == sysModules) = false ∧
  ∃ xs, KT H kvs xs ∧ h.DictOfH (tupleKind (mixKind P w)) a xs := by
 obtain ⟨z, y, xs, r, o, es, ep, h1, h2, h3, h4, h5⟩ := (show ObjOk P w H h a (.dT kvs) from rd_of ok e)
 refine ⟨z, y, xs, r, o, es, ep, h1, h2, h3, h4, fun x hx => ?_, h5⟩
 have all : ∀ {l : List (List Key × V)} {m : List (List Key × Addr × Value)}, KT H l m → ∀ x ∈ m, (tupleKind (mixKind P w)).is h x.1 x.2.1 := by
  intro l m q
  induction q with
  | nil => intro x hx; exact nomatch hx
  | @cons p q ps qs hq t ih =>
   intro x hx
   rcases List.mem_cons.mp hx with e | hx
   ·subst e
    exact key_of ok (by rw [← hq.1]; exact hq.2.1)
   ·exact ih x hx
 exact all r x hx
theorem dt_of {kvs : List (List Key × V)} (ok : HOk P w H h) (e : H a = some (.dT kvs)) : kvs.length ≤ sizeLine ∧ (a == sysModules) = false ∧
  ∃ xs, KT H kvs xs ∧ h.DictOfH (tupleKind (mixKind P w)) a xs := dt_rd ok (.inl e)
end
noncomputable def DGet (H : Hp) (a : Addr) (y : V) (r : Option V) : Prop :=
 (∃ kvs k, Rd H a (.dK kvs) ∧ y = kV k ∧ r = valV kvs k) ∨ ∃ kvs k b, Rd H a (.dT kvs) ∧ y = .ref b ∧ H b = some (.tup (k.map kV)) ∧ r = valV kvs k
noncomputable def DPut (H : Hp) (a : Addr) (y v : V) (H' : Hp) : Prop :=
 (∃ kvs k, H a = some (.dK kvs) ∧ y = kV k ∧ kvs.length < sizeLine ∧ H' = upd H a (.dK (putK kvs k v))) ∨
 ∃ kvs k b, H a = some (.dT kvs) ∧ y = .ref b ∧ H b = some (.tup (k.map kV)) ∧ kvs.length < sizeLine ∧ H' = upd H a (.dT (putK kvs k v))
theorem DGet.k {H : Hp} {a : Addr} {kvs : List (Key × V)} {k : Key} (e : H a = some (.dK kvs)) : DGet H a (kV k) (valV kvs k) := .inl ⟨kvs, k, .inl e, rfl, rfl⟩
theorem DGet.t {H : Hp} {a b : Addr} {kvs : List (List Key × V)} {k : List Key} (e : H a = some (.dT kvs)) (eb : H b = some (.tup (k.map kV))) : DGet H a (.ref b) (valV kvs k) := .inr ⟨kvs, k, b, .inl e, rfl, eb, rfl⟩
theorem DPut.k {H : Hp} {a : Addr} {kvs : List (Key × V)} {k : Key} {v : V} (e : H a = some (.dK kvs)) (hl : kvs.length < sizeLine) : DPut H a (kV k) v (upd H a (.dK (putK kvs k v))) := .inl ⟨kvs, k, e, rfl, hl, rfl⟩
theorem DPut.t {H : Hp} {a b : Addr} {kvs : List (List Key × V)} {k : List Key} {v : V} (e : H a = some (.dT kvs)) (eb : H b = some (.tup (k.map kV))) (hl : kvs.length < sizeLine) :
  DPut H a (.ref b) v (upd H a (.dT (putK kvs k v))) := .inr ⟨kvs, k, b, e, rfl, eb, hl, rfl⟩
section
variable {X : Cx} {pins : List (Addr × Obj)} {σ : St} {H : Hp} {s : Shared} {a : Addr} {y v : V} {u r : Value} {o : Option V} {A : Around} {E : Value → Shared → Prop}
theorem Inv.big (I : Inv X pins σ H s) : sysModules < s.heap.objs.size := by
 have h : mainGlobals < s.heap.objs.size := (I.mod.glob.keeps I.bk).lt
 exact Nat.lt_trans (by decide) h
theorem d_getItem {Q : Value → Shared → Prop} (hu : A.units + 1 < cLine) (I : Inv X pins σ H s) (g : DGet H a y (some v)) (ry : RelV y u) (h : ∀ w' s', Inv X pins σ H s' → RelV v w' → Q w' s') :
  wpAny (model X.prog X.w) A (getItem (.ref a) u) Q E s := by
 rcases g with ⟨kvs, k, e, ey, l⟩ | ⟨kvs, k, b, e, ey, eb, l⟩
 ·subst ey
  obtain ⟨z, hd, vs, rel, dd⟩ := dk_rd I.hok e
  obtain ⟨w', hw, rw'⟩ := RelO.some_of (v := v) (o := valueAt vs k) (by rw [l]; exact rel.val k)
  exact wpAny_getItem_of (kV_is ry) dd.mapOf hw (h w' _ (I.tok _) rw')
 ·subst ey
  cases (show u = Value.ref b from ry)
  obtain ⟨z, hd, xs, rel, dd⟩ := dt_rd I.hok e
  obtain ⟨w', hw, rw'⟩ := RelO.some_of (v := v) (o := (atKey xs k).map (·.2)) (by rw [l]; exact rel.val k)
  obtain ⟨p, hp, hp2⟩ := Option.map_eq_some_iff.mp hw
  refine wpAny_getItem_heap (tupleKind_room_in1 hu) (key_of I.hok eb) dd hp ?_
  rw [hp2]
  exact h w' _ (I.tok _) rw'
theorem d_write {h' : Heap} {t' : Nat} {ob : HO} (I : Inv X pins σ H s) (mu : Mut (H a)) (hs : Heap.SameBut a s.heap h') (he : ∃ q, h'.get? a = some q) (new : ObjOk X.prog X.w (upd H a ob) h' a ob) :
  Inv X pins σ (upd H a ob) { s with heap := h', toks := t' } :=
 I.write (x := a) (e := a) mu (.inl rfl) (fun b q hb z => (hs.2 b hb).trans z) he new
theorem dk_new {P : Program} {w : World} {H' : Hp} {h' : Heap} {kvs : List (Key × V)} {vs : List (Key × Value)} (z : kvs.length ≤ sizeLine) (hd : (a == sysModules) = false) (rel : KV kvs vs) (dd : h'.DictOf (mixKind P w) a vs) :
  ObjOk P w H' h' a (.dK kvs) := ⟨z, hd, vs, rel, dd⟩
theorem d_setItem {H' : Hp} {Q : Unit → Shared → Prop} (hu : A.units + 1 < cLine) (I : Inv X pins σ H s) (g : DPut H a y v H') (ry : RelV y u) (rv : RelV v r) (h : ∀ s', Inv X pins σ H' s' → Q () s') :
  wpAny (model X.prog X.w) A (setItem (.ref a) u r) Q E s := by
 rcases g with ⟨kvs, k, e, ey, l, eH⟩ | ⟨kvs, k, b, e, ey, eb, l, eH⟩
 ·subst ey eH
  obtain ⟨z, hd, vs, rel, dd⟩ := dk_of I.hok e
  have hz : vs.length ≤ sizeLine := by rw [← rel.length]; exact z
  have hl : (putK kvs k v).length ≤ sizeLine := by have := length_putK kvs k v; omega
  refine wpAny_setItem_pairs (hsz := hz) (kV_is ry) dd fun h' dd' hs => h _ ?_
  have he : ∃ q, h'.get? a = some q := let ⟨q, _, _, hq, _⟩ := dd'; ⟨q, hq⟩
  exact d_write I (by rw [e]; exact True.intro) hs he (dk_new hl hd (rel.put k rv) dd')
 ·subst ey eH
  cases (show u = Value.ref b from ry)
  obtain ⟨z, hd, xs, rel, dd⟩ := dt_of I.hok e
  have hz : xs.length ≤ sizeLine := by rw [← Paired.length rel]; exact z
  have hl : (putK kvs k v).length ≤ sizeLine := by have := length_putK kvs k v; omega
  refine wpAny_setItem_heap (hsz := hz) (tupleKind_room_in1 hu) (key_of I.hok eb) dd fun h' dd' hs => h _ ?_
  obtain ⟨q, es, ep, hq, h2, h3, h4, _, h5⟩ := dd'
  refine d_write I (by rw [e]; exact True.intro) hs ⟨q, hq⟩ ⟨hl, hd, _, (rel.put k eb rv).keeps fun c ys ec => ?_, q, es, ep, hq, h2, h3, h4, h5⟩
  rw [upd_ne (ne_of ec e (fun z => nomatch z))]
  exact ec
end
section
variable {X : Cx} {pins : List (Addr × Obj)} {σ : St} {H : Hp} {s : Shared} {a : Addr} {kvs : List (Key × V)} {k : Key} {u : Value} {A : Around} {E : Value → Shared → Prop}
end
noncomputable def NoSl (i : Expr) : Prop := ∀ ov iv, subscripted i false ov iv = operate [ov, iv] (getItem ov iv)
theorem subD_of {prog : Program} {w : World} {A : Around} {E : Value → Shared → Prop} {s : Shared} {env : Env} {value slice : Expr} {pos : Pos} {T id : String} {Q : Value → Shared → Prop}
  (hl : typeLookup (.type T) "__getitem__" = pure (some (.builtin id))) (hs : NoSl slice)
  (h : wpAny (model prog w) A (eval value env) (fun o s₁ => wpAny (model prog w) A (eval slice env) (fun i s₂ => s₂.TypeIs o T ∧ wpAny (model prog w) A (getItem o i) Q E s₂) E s₁) E s) :
  wpAny (model prog w) A (eval (.Subscript value slice pos) env) Q E s := by
 refine Subscript_ (wpAny_mono h (fun o s₁ h₁ => wpAny_mono h₁ (fun i s₂ h₂ => ?_) fun _ _ x => x) fun _ _ x => x)
 obtain ⟨hT, h₂⟩ := h₂
 unfold subscriptTail
 refine wpAny_bind ?_
 rw [getitemInPython_of_ne hT.not_modules]
 refine wpAny_bind (wpAny_specialOf hT hl ?_)
 have fin : wpAny (model prog w) A (subscripted slice false o i) (fun r s₃ => wpAny (model prog w) A (letTemporaryGo value o r >>= fun _ => pure r) Q E s₃) E s₂ := by
  rw [hs o i]
  exact wpAny_operating (wpAny_mono h₂ (fun r s₃ h₃ => wpAny_bind (wpAny_letTemporaryGo (wpAny_pure h₃))) fun _ _ x => x)
 first
  | exact wpAny_pure (wpAny_bind fin)
  | exact wpAny_bind (wpAny_pure (wpAny_bind fin))
  | exact wpAny_bind fin
theorem dict_typeIs {X : Cx} {pins : List (Addr × Obj)} {σ : St} {H : Hp} {s : Shared} {a : Addr} {y : V} {o : Option V} (I : Inv X pins σ H s) (g : DGet H a y o) : s.TypeIs (.ref a) "dict" := by
 rcases g with ⟨kvs, k, e, _, _⟩ | ⟨kvs, k, b, e, _, _, _⟩
 ·obtain ⟨_, _, vs, _, dd⟩ := dk_rd I.hok e
  exact dd.typeIs
 ·obtain ⟨_, _, xs, _, dd⟩ := dt_rd I.hok e
  exact dd.typeIs
noncomputable def tDGet (td ty : TE) : TE := fun σ H Q => td σ H fun x H1 => ty σ H1 fun y H2 => ∃ a v, x = .ref a ∧ DGet H2 a y (some v) ∧ Q v H2
section
variable {X : Cx} {o i e value : Expr} {pos pos' tpos : Pos} {td ty tv : TE}
theorem pe_dget (hu : X.A.units + 1 < cLine) (ho : PE X o td) (hi : PE X i ty) (hs : NoSl i) : PE X (.Subscript o i pos) (tDGet td ty) := by
 intro pins s σ H Q I h
 refine subD_of PySem.F.slot_dict_getitem.lookup hs (thn (ho pins s σ H _ I h) fun u s1 ⟨x, H1, I1, rx, q1⟩ => thn (hi pins s1 σ H1 _ I1 q1) fun iv s2 ⟨y, H2, I2, ry, a, v, ex, g, q2⟩ => ?_)
 subst ex
 obtain rfl : u = Value.ref a := rx
 exact ⟨dict_typeIs I2 g, d_getItem hu I2 g ry fun w' s3 I3 rw' => ⟨v, H2, I3, rw', q2⟩⟩
end
theorem dk_empty {P : Program} {w : World} {H : Hp} (h : Heap) (hb : sysModules < h.objs.size) : ObjOk P w H (h.push { cls := .type "dict", data := .dict #[] }) h.objs.size (.dK []) :=
 ⟨Nat.zero_le _, beq_eq_false_iff_ne.mpr (Ne.symm (Nat.ne_of_lt hb)), [], .nil, Heap.DictOf.new h⟩
noncomputable def tDNewK : TE := fun _ H Q => ∀ p, H p = none → Q (.ref p) (upd H p (.dK []))
section
variable {X : Cx} {pos : Pos}
theorem pe_dnewK : PE X (.Dict [] [] pos) tDNewK := fun pins s σ H Q I h =>
 wpAny_Dict_empty ⟨.ref s.heap.objs.size, _, I.laid (a := s.heap.objs.size) (o := .dK []) (t' := s.toks) (fun _ _ q => Heap.get?_push_of_some _ q) (Nat.le_refl _) (dk_empty s.heap I.big), rfl, h _ (I.hok.fresh (Nat.le_refl _))⟩
end
noncomputable def tPairs : List (TE × TE) → St → Hp → (List (V × V) → Hp → Prop) → Prop
 | [], _, H, Q => Q [] H
 | (tk, tv) :: r, σ, H, Q => tk σ H fun x H1 => tv σ H1 fun y H2 => tPairs r σ H2 fun ps H3 => Q ((x, y) :: ps) H3
noncomputable abbrev VV : List (V × V) → List (Value × Value) → Prop := Paired fun p q => RelV p.1 q.1 ∧ RelV p.2 q.2
noncomputable def PPs (X : Cx) (pos : Pos) (keys : List (Option Expr)) (values : List Expr) (trs : List (TE × TE)) : Prop :=
 ∀ (pins : List (Addr × Obj)) (s : Shared) (σ : St) (H : Hp) (Q : List (V × V) → Hp → Prop), Inv X pins σ H s → tPairs trs σ H Q →
  wpAny (model X.prog X.w) X.A (evalPairs (pairTrees keys values X.env pos)) (fun vs s' => ∃ ps H', Inv X pins σ H' s' ∧ VV ps vs ∧ Q ps H') X.xe s
theorem pps_nil {X : Cx} {pos : Pos} : PPs X pos [] [] [] := fun pins s σ H Q I h => pairTrees_nil_walk ⟨[], H, I, .nil, h⟩
theorem pps_cons {X : Cx} {pos : Pos} {k v : Expr} {ks : List (Option Expr)} {vs : List Expr} {tk tv : TE} {trs : List (TE × TE)} (hk : PE X k tk) (hv : PE X v tv) (hr : PPs X pos ks vs trs) :
  PPs X pos (some k :: ks) (v :: vs) ((tk, tv) :: trs) := fun pins s σ H Q I h =>
 pairTrees_cons_walk (thn (hk pins s σ H _ I h) fun u s1 ⟨x, H1, I1, rx, q1⟩ => thn (hv pins s1 σ H1 _ I1 q1) fun w2 s2 ⟨y, H2, I2, ry, q2⟩ =>
  thn (hr pins s2 σ H2 _ I2 q2) fun ws s3 ⟨ps, H3, I3, rel, q3⟩ => ⟨(x, y) :: ps, H3, I3, .cons ⟨rx, ry⟩ rel, q3⟩)
noncomputable def mergeK (kvs more : List (Key × V)) : List (Key × V) := more.foldl (fun acc kv => putK acc kv.1 kv.2) kvs
theorem KV.merge : ∀ {more : List (Key × V)} {rs : List (Key × Value)} {kvs : List (Key × V)} {vs : List (Key × Value)}, KV more rs → KV kvs vs → KV (mergeK kvs more) (merged vs rs) := by
 intro more rs kvs vs r
 unfold KV at r
 induction r generalizing kvs vs with
 | nil => intro q; exact q
 | @cons p q ps qs h t ih =>
  intro r0
  have e : KV (putK kvs p.1 p.2) (stored vs q.1 q.2) := by
   have := r0.put p.1 h.2
   rw [← h.1]; exact this
  exact ih e
theorem length_mergeK : ∀ (more kvs : List (Key × V)), (mergeK kvs more).length ≤ kvs.length + more.length
 | [], kvs => by show kvs.length ≤ kvs.length + 0; omega
 | p :: r, kvs => by
  have h1 := length_mergeK r (putK kvs p.1 p.2)
  have h2 := length_putK kvs p.1 p.2
  show (mergeK (putK kvs p.1 p.2) r).length ≤ _
  rw [List.length_cons]; omega
theorem carries_of {P : Program} {w : World} : ∀ {kvs : List (Key × V)} {ws : List (Value × Value)}, VV (kvs.map fun kv => (kV kv.1, kv.2)) ws → ∃ rs, Carries (mixKind P w) ws rs ∧ KV kvs rs
 | [], _, r => by rw [List.map_nil] at r; cases r; exact ⟨[], True.intro, .nil⟩
 | p :: kvs, _, r => by
  rw [List.map_cons] at r
  cases r with
  | @cons a b as bs h t =>
   obtain ⟨rs, c, q⟩ := carries_of (P := P) (w := w) t
   obtain ⟨b1, b2⟩ := b
   exact ⟨(p.1, b2) :: rs, ⟨kV_is h.1, rfl, c⟩, .cons ⟨rfl, h.2⟩ q⟩
noncomputable def tDisp (trs : List (TE × TE)) : TE := fun σ H Q => ∀ p, H p = none → tPairs trs σ (upd H p (.dK [])) fun ps H2 => H2 p = some (.dK []) ∧ ∃ kvs : List (Key × V), ps = kvs.map (fun kv => (kV kv.1, kv.2)) ∧ kvs.length ≤ 15 ∧ Q (.ref p) (upd H2 p (.dK (mergeK [] kvs)))
theorem pe_disp {X : Cx} {pos : Pos} {keys : List (Option Expr)} {values : List Expr} {trs : List (TE × TE)} (h : PPs X pos keys values trs) (hall : keys.all (·.isSome) = true) (hl : keys.length = values.length) (h0 : keys ≠ [])
  (h15 : keys.length ≤ 15) : PE X (.Dict keys values pos) (tDisp trs) := by
 intro pins s σ H Q I q
 have hn := I.hok.fresh (Nat.le_refl s.heap.objs.size)
 have I1 := I.laid (a := s.heap.objs.size) (o := .dK []) (h' := s.heap.push { cls := .type "dict", data := .dict #[] }) (t' := s.toks) (fun _ _ q => Heap.get?_push_of_some _ q) (Nat.le_refl _) (dk_empty s.heap I.big)
 refine wpAny_Dict_walk (knd := mixKind X.prog X.w) hall hl h0 h15 (thn (h pins _ σ _ _ I1 (q _ hn)) fun ws s2 ⟨ps, H2, I2, rel, e, kvs, ep, lk, q2⟩ => ?_)
 subst ep
 obtain ⟨rs, c, rk⟩ := carries_of (P := X.prog) (w := X.w) rel
 obtain ⟨z, hd, vs0, r0, dd⟩ := dk_of I2.hok e
 cases r0
 refine ⟨rs, c, dd, fun h' dd' hs => ⟨.ref s.heap.objs.size, _, ?_, rfl, q2⟩⟩
 have hz : (mergeK [] kvs).length ≤ sizeLine := by
  have h1 := length_mergeK kvs []
  rw [List.length_nil] at h1
  rw [sizeLine_eq]; omega
 have he : ∃ q, h'.get? s.heap.objs.size = some q := let ⟨q, _, _, hq, _⟩ := dd'; ⟨q, hq⟩
 exact d_write I2 (by rw [e]; exact True.intro) hs he (dk_new hz hd (rk.merge .nil) dd')
structure M1 (X : Cx) (o : Expr) (m : Str) (apos : Pos) (e : Expr) (cpos : Pos) : Prop where
 base : attributeBase o m X.env (eval o X.env) = eval o X.env
 few : ((backTo cpos (starEach [e] X.env)).all (fun x => !x.1) && (backToKw cpos (keywordEach [] X.env)).all (fun x => x.1.isSome)
  && decide (([e] : List Expr).length + ([] : List Keyword).length + (if ([] : List Keyword).isEmpty then 0 else 1) < 30)) = true
 line : (apos.endLine == cpos.line) = true
 trees : backTo cpos (starEach [e] X.env) = [(false, eval e X.env)]
structure M2 (X : Cx) (o : Expr) (m : Str) (apos : Pos) (e f : Expr) (cpos : Pos) : Prop where
 base : attributeBase o m X.env (eval o X.env) = eval o X.env
 few : ((backTo cpos (starEach [e, f] X.env)).all (fun x => !x.1) && (backToKw cpos (keywordEach [] X.env)).all (fun x => x.1.isSome)
  && decide (([e, f] : List Expr).length + ([] : List Keyword).length + (if ([] : List Keyword).isEmpty then 0 else 1) < 30)) = true
 line : (apos.endLine == cpos.line) = true
 trees : backTo cpos (starEach [e, f] X.env) = [(false, eval e X.env), (false, eval f X.env)]
noncomputable def IsD (H : Hp) (a : Addr) : Prop := (∃ kvs, Rd H a (.dK kvs)) ∨ ∃ kvs, Rd H a (.dT kvs)
theorem isD_at {X : Cx} {pins : List (Addr × Obj)} {σ : St} {H : Hp} {s : Shared} {a : Addr} (I : Inv X pins σ H s) (d : IsD H a) :
  s.TypeIs (.ref a) "dict" ∧ (∀ b, Value.ref a = .ref b → ∃ ob, s.heap.get? b = some ob ∧ ob.dict = none) ∧ (a == sysModules) = false := by
 rcases d with ⟨kvs, e⟩ | ⟨kvs, e⟩
 ·obtain ⟨_, hd, vs, _, dd⟩ := dk_rd I.hok e
  refine ⟨dd.typeIs, fun b q => ?_, hd⟩
  cases q
  obtain ⟨ob, _, _, h1, h2, _⟩ := dd
  exact ⟨ob, h1, h2.2.1⟩
 ·obtain ⟨_, hd, xs, _, dd⟩ := dt_rd I.hok e
  refine ⟨dd.typeIs, fun b q => ?_, hd⟩
  cases q
  obtain ⟨ob, _, _, h1, h2, _⟩ := dd
  exact ⟨ob, h1, h2.2.1⟩
section
variable {X : Cx} {pins : List (Addr × Obj)} {σ : St} {H : Hp} {s : Shared} {a : Addr} {y d : V} {u r : Value} {o : Option V} {A : Around} {E : Value → Shared → Prop}
theorem d_get1 {Q : Value → Shared → Prop} (hu : A.units + 1 < cLine) (I : Inv X pins σ H s) (g : DGet H a y o) (ry : RelV y u) (h : ∀ w' s', Inv X pins σ H s' → RelV (o.getD .non) w' → Q w' s') :
  wpAny (model X.prog X.w) A (call (.builtin "dict.get") [.ref a, u]) Q E s := by
 rcases g with ⟨kvs, k, e, ey, l⟩ | ⟨kvs, k, b, e, ey, eb, l⟩
 ·subst ey
  obtain ⟨z, hd, vs, rel, dd⟩ := dk_rd I.hok e
  refine call_meetsIn PySem.F.slot_dict_get dd.typeIs PySem.F.entry_dict_get (PySem.F.args_dict_get_2 _ _) (meets_dict_get (mixKind X.prog X.w) a (kV_is ry) hd) ⟨_, dd.mapOf, h _ _ (I.tok _) ?_⟩
  rw [l]
  exact (rel.val k).getD rfl
 ·subst ey
  cases (show u = Value.ref b from ry)
  obtain ⟨z, hd, xs, rel, dd⟩ := dt_rd I.hok e
  refine call_meetsIn PySem.F.slot_dict_get dd.typeIs PySem.F.entry_dict_get (PySem.F.args_dict_get_2 _ _) (meetsH_dict_get (tupleKind (mixKind X.prog X.w)) a b hd) ⟨tupleKind_room_in1 hu, k, xs, key_of I.hok eb, dd, h _ _ (I.tok _) ?_⟩
  rw [l]
  exact (rel.val k).getD rfl
theorem d_get2 {Q : Value → Shared → Prop} (hu : A.units + 1 < cLine) (I : Inv X pins σ H s) (g : DGet H a y o) (ry : RelV y u) (rd : RelV d r) (h : ∀ w' s', Inv X pins σ H s' → RelV (o.getD d) w' → Q w' s') :
  wpAny (model X.prog X.w) A (call (.builtin "dict.get") [.ref a, u, r]) Q E s := by
 rcases g with ⟨kvs, k, e, ey, l⟩ | ⟨kvs, k, b, e, ey, eb, l⟩
 ·subst ey
  obtain ⟨z, hd, vs, rel, dd⟩ := dk_rd I.hok e
  refine call_meetsIn PySem.F.slot_dict_get dd.typeIs PySem.F.entry_dict_get (PySem.F.args_dict_get_3 _ _ _) (meets_dict_get_default (mixKind X.prog X.w) a (kV_is ry) hd r) ⟨_, dd.mapOf, h _ _ (I.tok _) ?_⟩
  rw [l]
  exact (rel.val k).getD rd
 ·subst ey
  cases (show u = Value.ref b from ry)
  obtain ⟨z, hd, xs, rel, dd⟩ := dt_rd I.hok e
  refine call_meetsIn PySem.F.slot_dict_get dd.typeIs PySem.F.entry_dict_get (PySem.F.args_dict_get_3 _ _ _) (meetsH_dict_get_default (tupleKind (mixKind X.prog X.w)) a b hd r) ⟨tupleKind_room_in1 hu, k, xs, key_of I.hok eb, dd, h _ _ (I.tok _) ?_⟩
  rw [l]
  exact (rel.val k).getD rd
end
noncomputable def tDGet1 (td ty : TE) : TE := fun σ H Q => td σ H fun x H1 => ∃ a, x = .ref a ∧ IsD H1 a ∧ ty σ H1 fun y H2 => ∃ o, DGet H2 a y o ∧ Q (o.getD .non) H2
noncomputable def tDGet2 (td ty tx : TE) : TE := fun σ H Q => td σ H fun x H1 => ∃ a, x = .ref a ∧ IsD H1 a ∧ ty σ H1 fun y H2 => tx σ H2 fun z H3 => ∃ o, DGet H3 a y o ∧ Q (o.getD z) H3
section
variable {X : Cx} {o e f : Expr} {apos cpos : Pos} {td ty tx : TE}
theorem pe_dget1 (hu : X.A.units + 1 < cLine) (ho : PE X o td) (he : PE X e ty) (m : M1 X o "get" apos e cpos) : PE X (.Call (.Attribute o "get" apos) [e] [] cpos) (tDGet1 td ty) := by
 intro pins s σ H Q I h
 refine wpAny_Call_method m.base m.few m.line PySem.F.plainAttrs_dict PySem.F.slot_dict_get PySem.F.type_dict_get (thn (ho pins s σ H _ I h) fun u s1 ⟨x, H1, I1, rx, a, ex, d, q1⟩ => ?_)
 subst ex
 obtain rfl : u = Value.ref a := rx
 obtain ⟨t1, t2, _⟩ := isD_at I1 d
 refine ⟨t1, t2, ?_⟩
 rw [m.trees]
 refine Calls.callWith_builtin rfl (Calls.evalArgs_plain (Calls.spliced_cons (thn (he pins s1 σ H1 _ I1 q1) fun iv s2 ⟨y, H2, I2, ry, ov, g, q2⟩ => Calls.spliced_nil ?_)))
 exact d_get1 hu I2 g ry fun w' s3 I3 rw' => ⟨_, H2, I3, rw', q2⟩
theorem pe_dget2 (hu : X.A.units + 1 < cLine) (ho : PE X o td) (he : PE X e ty) (hf : PE X f tx) (m : M2 X o "get" apos e f cpos) : PE X (.Call (.Attribute o "get" apos) [e, f] [] cpos) (tDGet2 td ty tx) := by
 intro pins s σ H Q I h
 refine wpAny_Call_method m.base m.few m.line PySem.F.plainAttrs_dict PySem.F.slot_dict_get PySem.F.type_dict_get (thn (ho pins s σ H _ I h) fun u s1 ⟨x, H1, I1, rx, a, ex, d, q1⟩ => ?_)
 subst ex
 obtain rfl : u = Value.ref a := rx
 obtain ⟨t1, t2, _⟩ := isD_at I1 d
 refine ⟨t1, t2, ?_⟩
 rw [m.trees]
 refine Calls.callWith_builtin rfl (Calls.evalArgs_plain (Calls.spliced_cons (thn (he pins s1 σ H1 _ I1 q1) fun iv s2 ⟨y, H2, I2, ry, q2⟩ =>
  Calls.spliced_cons (thn (hf pins s2 σ H2 _ I2 q2) fun fv s3 ⟨z, H3, I3, rz, ov, g, q3⟩ => Calls.spliced_nil ?_))))
 exact d_get2 hu I3 g ry rz fun w' s4 I4 rw' => ⟨_, H3, I4, rw', q3⟩
end
section
variable {X : Cx} {pins : List (Addr × Obj)} {σ : St} {H : Hp} {s : Shared} {a : Addr} {kvs : List (Key × V)} {A : Around} {E : Value → Shared → Prop}
end
section
variable {X : Cx} {pins : List (Addr × Obj)} {σ : St} {H : Hp} {s : Shared} {a : Addr} {y : V} {u : Value} {A : Around} {E : Value → Shared → Prop}
end
end L2
namespace L2
open PySem PySem.Spec PyProof.Rows
section
variable {X : Cx}
end
section
variable {κ : Type} [DecidableEq κ]
end
end L2
end
section
namespace BX
open PySem PySem.Spec L2
open PyProof.Rows hiding St
noncomputable abbrev NoX : Value → Shared → Prop := fun _ _ => False
noncomputable def testsOf (ts : List Expr) (en : Env) : Sem Bool :=
 forIn ts true fun c r => if r = true then do let ok ← isTrue c en (eval c en); pure (ForInStep.yield ok) else pure (ForInStep.yield r)
section
variable {prog : Program} {w : World} {A : Around} {s : Shared} {R : Result → Shared → Prop}
theorem comp_loop {el tg src : Expr} {ts : List Expr} {sc : Scope} {ps : Pos} {it acc : Value} {en : Env} (J : Nat → Shared → Prop)
  (turn : ∀ n s, J n s → wpAny (model prog w) A (pyNext it) (fun r s1 => match r with
   | none => R (.ok .next) s1
   | some v => wpAny (model prog w) A (letOwnedTupleGo tg it v) (fun _ sg => wpAny (model prog w) A (assign tg en v) (fun _ s2 =>
     wpAny (model prog w) A (testsOf ts en) (fun ok s3 =>
      if ok = true then wpAny (model prog w) A (eval el en) (fun y s4 =>
       wpAny (model prog w) A (call (.builtin "list.append") [acc, y]) (fun _ s5 => ∃ m, m < n ∧ J m s5) NoX s4) NoX s3
      else ∃ m, m < n ∧ J m s3) NoX s2) NoX sg) NoX s1) NoX s)
  (n : Nat) (h : J n s) :
  codeAny (model prog w) A (.compLoop (.ListComp el [⟨tg, src, ts, 0⟩] sc ps) 0 it acc en) R s := by
 refine codeAny_loop rfl J (fun n s hJ => ?_) n h
 show wpAny _ A
  ((compTurn (.ListComp el [⟨tg, src, ts, 0⟩] sc ps) 0 it acc en).onRaise
   (fun x => do noteFrame x en; theTreesLotGoes x)) _ _ s
 refine wpAny_noted ?_
 rw [compTurn_list]
 have no : ∀ {E : Value → Shared → Prop} (e : Value) (s' : Shared), NoX e s' → E e s' := fun _ _ z => z.elim
 refine wpAny_bind (wpAny_standAt (wpAny_bind (wpAny_mono (turn n s hJ) (fun r s1 h1 => ?_) no)))
 cases r with
 | none => exact wpAny_pure h1
 | some v =>
  refine wpAny_bind (wpAny_mono h1 (fun _ sg hg => ?_) no)
  refine wpAny_bind (wpAny_mono hg (fun _ s2 h2 => ?_) no)
  refine wpAny_bind (wpAny_mono h2 (fun ok s3 h3 => ?_) no)
  cases ok with
  | false => exact wpAny_pure ⟨rfl, h3⟩
  | true =>
   refine wpAny_bind (wpAny_bind (wpAny_mono h3 (fun y s4 h4 => ?_) no))
   exact wpAny_bind (wpAny_mono h4 (fun _ s5 h5 => wpAny_pure (wpAny_pure ⟨rfl, h5⟩)) no)
end
noncomputable def closL (en : Env) : List (Str × NameKind) → List (Str × Addr) → List (Str × Addr)
 | [], cs => cs
 | (n, k) :: r, cs => closL en r (if k == .free then (n, (en.cells.lookup n).getD 0) :: cs else cs)
theorem clos_eq (sc : Scope) (en : Env) (h : ∀ x ∈ sc.names, x.2 = .free → ∃ c, en.cells.lookup x.1 = some c) : closureFor sc en = pure (closL en sc.names []) := by
 have go : ∀ (l : List (Str × NameKind)) (cs : List (Str × Addr)), (∀ x ∈ l, x.2 = .free → ∃ c, en.cells.lookup x.1 = some c) →
   (forIn l cs (fun (x : Str × NameKind) (r : List (Str × Addr)) => (do
    if x.2 == .free then do
     let c ← cellOf en x.1
     pure (ForInStep.yield ((x.1, c) :: r))
    else pure (ForInStep.yield r) : Sem (ForInStep (List (Str × Addr))))) : Sem _) = pure (closL en l cs) := by
  intro l
  induction l with
  | nil => intro cs _; rfl
  | cons x l ih =>
   intro cs hl
   obtain ⟨n, k⟩ := x
   rw [List.forIn_cons]
   by_cases hk : (k == NameKind.free) = true
   ·obtain ⟨c, e⟩ := hl (n, k) List.mem_cons_self (by simpa using hk)
    have e' : en.cells.lookup n = some c := e
    simp only [hk, if_true, cellOf, e', pure_bind, closL, Option.getD_some]
    exact ih _ fun y hy => hl y (List.mem_cons_of_mem _ hy)
   ·simp only [hk, pure_bind, closL, Bool.false_eq_true, if_false]
    exact ih _ fun y hy => hl y (List.mem_cons_of_mem _ hy)
 have := go sc.names [] h
 unfold closureFor
 rw [← this]
 first
  | (simp only [bind_pure_comp, id_map', map_pure]; done)
  | (simp only [bind_pure_comp, id_map', map_pure]; exact bind_pure _)
theorem closL_mem (en : Env) : ∀ (l : List (Str × NameKind)) (cs : List (Str × Addr)), (∀ x ∈ l, x.2 = .free → ∃ c, en.cells.lookup x.1 = some c) → (∀ p ∈ cs, en.cells.lookup p.1 = some p.2) →
  ∀ p ∈ closL en l cs, en.cells.lookup p.1 = some p.2
 | [], _, _, h, p, hp => h p hp
 | (n, k) :: r, cs, hl, h, p, hp => by
  refine closL_mem en r _ (fun y hy => hl y (List.mem_cons_of_mem _ hy)) (fun q hq => ?_) p hp
  by_cases hk : (k == NameKind.free) = true
  ·rw [if_pos hk] at hq
   rcases List.mem_cons.mp hq with rfl | hq
   ·obtain ⟨c, e⟩ := hl (n, k) List.mem_cons_self (by simpa using hk)
    have e' : en.cells.lookup n = some c := e
    show en.cells.lookup n = some ((en.cells.lookup n).getD 0)
    rw [e']; rfl
   ·exact h q hq
  ·rw [if_neg hk] at hq
   exact h q hq
theorem closL_keeps (en : Env) : ∀ (l : List (Str × NameKind)) (cs : List (Str × Addr)) (x : Str), (∃ c, (x, c) ∈ cs) → ∃ c, (x, c) ∈ closL en l cs
 | [], _, _, h => h
 | (n, k) :: r, cs, x, ⟨c, h⟩ => by
  refine closL_keeps en r _ x ?_
  by_cases hk : (k == NameKind.free) = true
  ·rw [if_pos hk]; exact ⟨c, List.mem_cons_of_mem _ h⟩
  ·rw [if_neg hk]; exact ⟨c, h⟩
theorem closL_has (en : Env) : ∀ (l : List (Str × NameKind)) (cs : List (Str × Addr)) (x : Str), (x, NameKind.free) ∈ l → ∃ c, (x, c) ∈ closL en l cs
 | (n, k) :: r, cs, x, h => by
  rcases List.mem_cons.mp h with e | h
  ·obtain ⟨e1, e2⟩ := Prod.mk.inj e
   subst e1; subst e2
   exact closL_keeps en r _ _ ⟨_, by rw [if_pos (by rfl)]; exact List.mem_cons_self⟩
  ·exact closL_has en r _ x h
theorem lookup_of_mem {β : Type} : ∀ {l : List (Str × β)} {x : Str} {c : β}, (x, c) ∈ l → ∃ d, l.lookup x = some d
 | (n, k) :: r, x, c, h => by
  by_cases e : x = n
  ·subst e; exact ⟨k, by simp [List.lookup_cons]⟩
  ·have eb : (x == n) = false := by simpa using e
   rcases List.mem_cons.mp h with z | h
   ·cases z; exact absurd rfl e
   ·obtain ⟨d, hd⟩ := lookup_of_mem h
    exact ⟨d, by simp only [List.lookup_cons, eb]; exact hd⟩
theorem relabel_mem {sc : Scope} {en : Env} {x : Str} {k : NameKind} (h : (x, k) ∈ (relabel sc en).names) (hc : ∀ y ∈ sc.names, y.2 ≠ .cell) (hk : k = .cell ∨ k = .free) : (x, NameKind.free) ∈ sc.names := by
 obtain ⟨⟨n, j⟩, hm, e⟩ := List.mem_map.mp h
 by_cases q : (j == NameKind.free && en.scope.kind == .function && en.kindOf n == some .cell) = true
 ·have e1 : (n, NameKind.cell) = (x, k) := by simpa only [q, if_true] using e
  cases e1
  have hj : j = .free := by
   simp only [Bool.and_eq_true] at q
   simpa using q.1.1
  rw [← hj]; exact hm
 ·have e1 : (n, j) = (x, k) := by simpa only [q, Bool.false_eq_true, if_false] using e
  cases e1
  rcases hk with rfl | rfl
  ·exact absurd rfl (hc _ hm)
  ·exact hm
theorem relabel_free {en : Env} : ∀ {l : List (Str × NameKind)} {x : Str}, l.lookup x = some .free →
  (l.map fun (n, k) => if (k == NameKind.free && en.scope.kind == .function && en.kindOf n == some .cell) then (n, NameKind.cell) else (n, k)).lookup x = some .cell ∨
  (l.map fun (n, k) => if (k == NameKind.free && en.scope.kind == .function && en.kindOf n == some .cell) then (n, NameKind.cell) else (n, k)).lookup x = some .free
 | (n, k) :: r, x, h => by
  rw [List.map_cons]
  cases hx : x == n with
  | true =>
   simp only [List.lookup_cons, hx] at h
   cases h
   by_cases q : (NameKind.free == NameKind.free && en.scope.kind == .function && en.kindOf n == some .cell) = true
   ·left; simp only [q, if_true, List.lookup_cons, hx]
   ·right; simp only [q, Bool.false_eq_true, if_false, List.lookup_cons, hx]
  | false =>
   simp only [List.lookup_cons, hx] at h
   rcases relabel_free (en := en) h with g | g
   ·left
    by_cases q : (k == NameKind.free && en.scope.kind == .function && en.kindOf n == some .cell) = true
    ·simp only [q, if_true, List.lookup_cons, hx]; exact g
    ·simp only [q, Bool.false_eq_true, if_false, List.lookup_cons, hx]; exact g
   ·right
    by_cases q : (k == NameKind.free && en.scope.kind == .function && en.kindOf n == some .cell) = true
    ·simp only [q, if_true, List.lookup_cons, hx]; exact g
    ·simp only [q, Bool.false_eq_true, if_false, List.lookup_cons, hx]; exact g
noncomputable def blk (X : Cx) (N' : List Str) (sc : Scope) (cl : List (Str × Addr)) (C : Addr) (s0 : Shared) (H0 : Hp) (fp : List Addr) (pn : List (Addr × Obj)) : Cx :=
 { X with N := N', s₀ := s0, H₀ := H0, env := compEnvC sc cl C X.env, outer := X.stack, ex := fp, fn := fun _ => false, pn := pn, xe := NoX }
noncomputable def capS (cap : List (Option Nat)) (σ : St) : St := cap.map fun o => o.bind fun i => (σ[i]?).join
noncomputable def PTs (X : Cx) (ts : List Expr) (t : TT) : Prop :=
 ∀ (pins : List (Addr × Obj)) (s : Shared) (σ : St) (H : Hp) (Q : Bool → Hp → Prop), Inv X pins σ H s → t σ H Q → wpAny (model X.prog X.w) X.A (testsOf ts X.env) (TP X pins σ Q) X.xe s
noncomputable def tTrue : TT := fun _ H Q => Q true H
theorem pts_nil {X : Cx} : PTs X [] tTrue := fun _ _ _ H _ I h => wpAny_pure ⟨H, I, h⟩
theorem pts_one {X : Cx} {c : Expr} {t : TT} (h : PT X c t) : PTs X [c] t := fun pins s σ H Q I hq => wpAny_tests_one (h pins s σ H Q I hq)
structure CompOk (X : Cx) (sc : Scope) (N' : List Str) (cap : List (Option Nat)) : Prop where
 fr : ∀ x ∈ sc.names, x.2 = .free → X.env.kindOf x.1 = some .cell ∨ X.env.kindOf x.1 = some .free
 nc : ∀ x ∈ sc.names, x.2 ≠ .cell
 kind : sc.kind = .function
 nm : ∀ x ∈ sc.names, x.2 = .local → sc.names.lookup x.1 = some .local
 len : cap.length = N'.length
 cp : ∀ (j i : Nat) (x : Str), N'[j]? = some x → cap[j]? = some (some i) → X.N[i]? = some x ∧ sc.names.lookup x = some .free
noncomputable def tComp (wi : TI) (cap : List (Option Nat)) (g : TG) (tt : TT) (te : TE) : TE := fun σ H Q => wi σ H fun J H1 =>
 ∃ W : Nat → Nat → St → List V → Hp → Prop, (∃ m, W 0 m (capS cap σ) [] H1) ∧ ∀ i m τ ys H, W i m τ ys H → ys.length < sizeLine ∧
  ((J.stop i H ∧ ∀ l, H l = none → Q (.ref l) (upd H l (.lst ys))) ∨
   (J.go i H ∧ ∀ x H', J.yld i H x H' → g x τ H' fun τ2 H2 => tt τ2 H2 fun b H3 => if b = true then te τ2 H3 fun y H4 => ∃ m', m' < m ∧ W (i + 1) m' τ2 (ys ++ [y]) H4 else ∃ m', m' < m ∧ W (i + 1) m' τ2 ys H3))
theorem Inv.track {X : Cx} {pins : List (Addr × Obj)} {σ : St} {H : Hp} {s : Shared} {D : Addr} {o : HO} (I : Inv X pins σ H s) (hn : H D = none) (h1 : X.s₀.heap.objs.size ≤ D) (h2 : D ≠ X.env.locals) (h3 : ∀ x c, X.env.cells.lookup x = some c → c ≠ D)
  (h4 : ∀ p ∈ X.pn ++ pins, p.1 ≠ D) (new : ObjOk X.prog X.w (upd H D o) s.heap D o) : Inv X pins σ (upd H D o) s := by
 have nd : ∀ b u, H b = some u → b ≠ D := fun b u e z => by rw [z, hn] at e; cases e
 have hok : HOk X.prog X.w (upd H D o) s.heap := fun b u e => by
  by_cases hb : b = D
  ·subst hb; rw [upd_same] at e; cases e; exact new
  ·rw [upd_ne hb] at e
   exact (I.hok b u e).stay (fun _ _ _ q => q) (fun c q => by rw [upd_ne (nd c _ q)]; exact q) fun c xs q => by rw [upd_ne (nd c _ q)]; exact q
 refine I.step (h' := s.heap) (g' := s.gens) (d' := s.drawn) (t' := s.toks) (ch := [D]) (fun b hb => ?_) (fun b o _ _ _ e _ => e) (fun b o _ _ _ e _ => ⟨o.slots, e⟩) (fun b o hc _ n => ?_) (fun b o _ e => ⟨o, e⟩) (fun b xs e => by rw [upd_ne (nd b _ e)]; exact e)
  (fun b ob u e => by rw [upd_ne (nd b _ e)]; exact e) (fun b ps e => ⟨#[], by rw [upd_ne (nd b _ e), e]; simp⟩) (fun m hm => hm) hok I.bare
 ·have e : b = D := by simpa using hb
  subst e
  exact ⟨.inr h1, h2, h3, h4⟩
 ·have e : b ≠ D := by simpa using hc
  rw [upd_ne e]; exact n
theorem pe_comp {X : Cx} {el tg src : Expr} {ts : List Expr} {sc : Scope} {ps : Pos} {wi : TI} {g : TG} {tt : TT} {te : TE} {N' : List Str} {cap : List (Option Nat)} (hc : X.calm = true) (hi : PI X tg src wi) (ok : CompOk X sc N' cap)
    (body : ∀ cl C s0 H0 fp pn, PG (blk X N' sc cl C s0 H0 fp pn) tg g ∧ PTs (blk X N' sc cl C s0 H0 fp pn) ts tt ∧ PE (blk X N' sc cl C s0 H0 fp pn) el te)
    (hs : ∀ x, foldedSetIterable src X.env x = pure x := by intro _; rfl) : PE X (.ListComp el [⟨tg, src, ts, 0⟩] sc ps) (tComp wi cap g tt te) := by
  intro pins s σ H Q I h
  have hfr : ∀ x ∈ sc.names, x.2 = .free → ∃ c, X.env.cells.lookup x.1 = some c := fun x hx e => I.ok.has x.1 (ok.fr x hx e)
  have hcl := clos_eq sc X.env hfr
  have clm : ∀ x c, (closL X.env sc.names []).lookup x = some c → X.env.cells.lookup x = some c := fun x c e =>
    closL_mem X.env sc.names [] hfr (fun _ z => nomatch z) (x, c) (PySem.mem_of_lookup e)
  generalize hgl : closL X.env sc.names [] = cl at hcl clm
  rw [eval_ListComp]
  refine wpAny_comprehension_free (use := none) rfl hs hcl ok.kind ok.nm ?_
  refine thn (hi pins s σ H _ I h) fun v s1 h1 => thn h1 fun itv s2 h2 => ?_
  obtain ⟨it, fp, tn, J, H2, e, I2, T, st2, f2, W, ⟨m0, w0⟩, turn⟩ := h2
  subst e
  refine wpAny_newObj_type (wpAny_newFunctionEnv ok.nc (by intro y hy; simp at hy) (fun h4 hns hsb => ?_) ok.kind)
  dsimp only at hns hsb ⊢
  generalize hH3 : s2.heap.push { cls := .type "list", dict := none, data := .seq ([] : List Value).toArray } = h3 at hns hsb ⊢
  have hC : h3.objs.size = s2.heap.objs.size + 1 := by rw [← hH3, Heap.size_push]
  generalize hCC : h3.objs.size = C at hns hsb hC ⊢
  generalize hDD : s2.heap.objs.size = D at hC ⊢
  have hDC : D ≠ C := by rw [hC]; exact Nat.ne_of_lt (Nat.lt_succ_self _)
  have old : ∀ b o, s2.heap.get? b = some o → h4.get? b = some o := fun b o e => hsb.extBut b o (by have := Heap.lt_size e; rw [hDD] at this; rw [hC]; exact Nat.ne_of_lt (Nat.lt_succ_of_lt this)) (Heap.get?_push_of_some _ (hH3 ▸ Heap.get?_push_of_some _ e))
  have accO : h4.get? D = some { cls := .type "list", data := .seq ([] : List Value).toArray 0 } := hsb.extBut _ _ hDC (Heap.get?_push_of_some _ (by rw [← hH3, ← hDD]; exact Heap.get?_push_size _ rfl))
  have H2D : H2 D = none := I2.hok.fresh (by rw [hDD]; exact Nat.le_refl _)
  have H2C : H2 C = none := I2.hok.fresh (by rw [hDD, hC]; exact Nat.le_succ _)
  have cellsLt : ∀ x c, X.env.cells.lookup x = some c → c < D := fun x c e => by
    obtain ⟨v, q⟩ := I2.cell x c e
    rw [← hDD]; exact q.lt
  have pinLt : ∀ p ∈ X.pn ++ pins, p.1 < D := fun p hp => by rw [← hDD]; exact Heap.lt_size (I2.pin p hp).1
  have stkLt : ∀ b ∈ frs X.stack, b < D := fun b hb => by
    obtain ⟨_, o, ho, _⟩ := I2.stack.mem hb
    rw [← hDD]; exact Heap.lt_size ho
  have fpLt : ∀ b ∈ fp, b < D := fun b hb => by
    obtain ⟨o, ho, _⟩ := T.obj _ _ st2 b hb
    rw [← hDD]; exact Heap.lt_size ho
  have ltC : ∀ {b : Addr}, b < D → b ≠ C := fun hb => by rw [hC]; exact Nat.ne_of_lt (Nat.lt_succ_of_lt hb)
  have locLt : X.env.locals < D := by rw [← hDD]; exact I2.lt
  have hDge : s2.heap.objs.size ≤ D := by rw [hDD]; exact Nat.le_refl _
  have hCge : s2.heap.objs.size ≤ C := by rw [hDD, hC]; exact Nat.le_succ _
  have bok : (blk X N' sc cl C s2 H2 fp (X.pn ++ pins)).Ok := by
    refine ⟨I2.ok.mod, ok.kind, I2.ok.glob, I2.ok.blt, hCge, fun x y c e1 e2 => I2.ok.inj x y c (clm x c e1) (clm y c e2), fun x hx => ?_, fun x c z _ => ?_, I2.ok.hd, I2.ok.frames, .inl rfl, fun b hb => ?_, I2.bs, Nat.le_trans I2.ok.bsz I2.sz, fun b o e hb => ?_, fun b hb z => ?_, I2.stack, I2.stkFree⟩
    · have hx' : (relabel sc X.env).names.lookup x = some .cell ∨ (relabel sc X.env).names.lookup x = some .free := hx
      have hm : (x, NameKind.free) ∈ sc.names := by
        rcases hx' with z | z
        · exact relabel_mem (PySem.mem_of_lookup z) ok.nc (.inl rfl)
        · exact relabel_mem (PySem.mem_of_lookup z) ok.nc (.inr rfl)
      obtain ⟨c, hc⟩ := closL_has X.env sc.names [] x hm
      rw [hgl] at hc
      exact lookup_of_mem hc
    · exact absurd (show false = true from z) Bool.false_ne_true
    · exact ⟨ltC (fpLt b hb), fun x c e => (f2 b hb).2.2.2.2.1 x c (clm x c e)⟩
    · rcases (f2 b hb).2.2.2.1 with z | z
      · exact I2.ok.noex b o e z
      · have := Heap.lt_size e
        exact absurd (Nat.lt_of_lt_of_le this (Nat.le_trans I2.ok.bsz z)) (Nat.lt_irrefl _)
    · rcases List.mem_cons.mp (I2.stkSub b z) with q | q
      · exact (f2 b hb).2.1 q
      · exact (f2 b hb).2.2.1 q
  have pinB : ∀ p ∈ X.pn ++ pins, p.1 ≠ C ∧ p.1 ∉ frs X.stack := fun p hp => ⟨ltC (pinLt p hp), fun z => by
    rcases List.mem_cons.mp (I2.stkSub p.1 z) with q | q
    · exact (I2.pin p hp).2.2.1 q
    · exact (I2.pin p hp).2.2.2.1 q⟩
  have I4 : Inv (blk X N' sc cl C s2 H2 fp (X.pn ++ pins)) [] (capS cap σ) H2 { s2 with heap := h4, toks := s2.toks + ([] : List (Str × Value)).length } := by
    refine ⟨bok, rfl, I2.bare, Un.kept old, ⟨_, hns, fun j x v e1 e2 e3 => ?_⟩, fun x c e => ?_, H2C, fun x c e => I2.freeC x c (clm x c e), fun p hp => ?_, I2.hok.kept old, ?_⟩
    · unfold capS at e2
      rw [List.getElem?_map] at e2
      cases e4 : cap[j]? with
      | none => rw [e4] at e2; cases e2
      | some o =>
        rw [e4] at e2
        cases o with
        | none => cases e2
        | some i =>
          obtain ⟨hNi, hf⟩ := ok.cp j i x e1 e4
          have e5 : (σ[i]?).join = some v := by
            have := Option.some.inj e2
            simpa using this
          have e6 : σ[i]? = some (some v) := by
            cases e7 : σ[i]? with
            | none => rw [e7] at e5; cases e5
            | some z => rw [e7] at e5; cases z with
              | none => cases e5
              | some z => cases e5; rfl
          have hk := ok.fr (x, .free) (PySem.mem_of_lookup hf) rfl
          obtain ⟨m, hn, hl⟩ := I2.loc
          have hv : Vis X.env.scope x := by
            rcases hk with z | z
            · exact .inr (.inl z)
            · exact .inr (.inr z)
          obtain ⟨u, r, lk⟩ := hl i x v hNi e6 hv
          have cellX : ∃ c, X.env.cells.lookup x = some c ∧ s2.heap.IsCell c (some u) := by
            rcases lk with ⟨k1, _⟩ | ⟨_, c, e, z⟩
            · rcases hk with z | z
              · have z' : X.env.kindOf x = some .cell := z
                rw [k1] at z'; cases z'
              · have z' : X.env.kindOf x = some .free := z
                rw [k1] at z'; cases z'
            · exact ⟨c, e, z⟩
          obtain ⟨c, hc1, ob, hc2, hc3⟩ := cellX
          obtain ⟨c', hc'⟩ := closL_has X.env sc.names [] x (PySem.mem_of_lookup hf)
          rw [hgl] at hc'
          obtain ⟨d, hd⟩ := lookup_of_mem hc'
          have ed : d = c := by
            have := clm x d hd
            rw [hc1] at this; cases this; rfl
          subst ed
          refine ⟨u, r, .inr ⟨?_, d, hd, ob, old _ _ hc2, hc3⟩⟩
          exact relabel_free hf
    · obtain ⟨v, ob, ho, hd⟩ := I2.cell x c (clm x c e)
      exact ⟨v, ob, old _ _ ho, hd⟩
    · have hp' : p ∈ X.pn ++ pins := by simpa [blk] using hp
      obtain ⟨e1, e2, e3, e4, e5⟩ := I2.pin p hp'
      exact ⟨old _ _ e1, e2, (pinB p hp').1, (pinB p hp').2, e5⟩
    · show (capS cap σ).length = N'.length
      unfold capS
      rw [List.length_map]; exact ok.len
  have fpB : ∀ {H' : Hp} {pl : List (Addr × Obj)}, (∀ b ∈ fp, H' b = none) → (∀ p ∈ pl, p.1 ∉ fp) → ∀ b ∈ fp, FpOk (blk X N' sc cl C s2 H2 fp (X.pn ++ pins)) pl H' b := fun {H' pl} hn hpl b hb =>
    ⟨hn b hb, ltC (fpLt b hb), bok.exfs b hb, .inl hb, fun x c e => (f2 b hb).2.2.2.2.1 x c (clm x c e), fun p hp z => by
      rcases List.mem_append.mp (show p ∈ (X.pn ++ pins) ++ pl from hp) with q | q
      · exact (f2 b hb).2.2.2.2.2 p q z
      · exact hpl p q (by rw [z]; exact hb)⟩
  have Dfp : ∀ (o : Obj), ∀ p ∈ [(D, o)], p.1 ∉ fp := fun o p hp z => by
    have e : p = (D, o) := by simpa using hp
    subst e
    exact Nat.lt_irrefl _ (fpLt D z)
  have Dfs : D ∉ frs X.stack := fun z => Nat.lt_irrefl _ (stkLt D z)
  obtain ⟨bG, bT, bE⟩ := body cl C s2 H2 fp (X.pn ++ pins)
  have loop : codeAny (model X.prog X.w) X.A (.compLoop (.ListComp el [⟨tg, src, ts, 0⟩] sc ps) 0 (.ref it) (.ref D) (compEnvC sc cl C X.env)) (compPost (model X.prog X.w) X.A X.xe none (EP X pins σ Q) (.ref D) C)
      { s2 with heap := h4, toks := s2.toks + ([] : List (Str × Value)).length } := by
    refine comp_loop (fun n s' => ∃ i τ ys us k H', Inv (blk X N' sc cl C s2 H2 fp (X.pn ++ pins)) [] τ H' s' ∧ tn i s'.heap ∧ (∀ b ∈ fp, H' b = none) ∧ Vals ys us ∧ s'.heap.get? D = some { cls := .type "list", data := .seq us.toArray k } ∧ H' D = none ∧ W i n τ ys H') ?_ m0
      ⟨0, _, [], [], 0, H2, I4, T.keep _ _ _ st2 (fun b _ o e => old b o e), fun b hb => (f2 b hb).1, .nil, accO, H2D, w0⟩
    rintro n s5 ⟨i, τ, ys, us, k, H5, I5, st5, fr5, rv5, ho5, hD5, w5⟩
    obtain ⟨hsz, alt⟩ := turn i n τ ys H5 w5
    have I5p : Inv (blk X N' sc cl C s2 H2 fp (X.pn ++ pins)) [(D, { cls := .type "list", data := .seq us.toArray k })] τ H5 s5 := I5.pins_of fun p hp => by
      have e : p = (D, { cls := .type "list", data := .seq us.toArray k }) := by simpa using hp
      subst e
      exact ⟨ho5, hD5, hDC, Dfs, fun v z => by cases z⟩
    rcases alt with ⟨stop, fin⟩ | ⟨go, step⟩
    · refine thn (T.done (blk X N' sc cl C s2 H2 fp (X.pn ++ pins)) rfl rfl rfl hc i _ s5 τ H5 NoX I5p (fpB fr5 (Dfp _)) st5 stop) fun r s6 ⟨hr, I6⟩ => ?_
      subst hr
      have ho6 := (I6.pin (D, _) (List.mem_append_right _ (List.mem_singleton.mpr rfl))).1
      obtain ⟨m6, hn6, _⟩ := I6.loc
      refine ⟨m6, hn6, fun h7 hs7 => ?_⟩
      have J6 : Inv X pins σ H5 s6 := I2.call' (ch := fp) I6.os I6.base I6.hok I6.bare fun b hb => ⟨(f2 b hb).2.2.2.1, (f2 b hb).2.1, (f2 b hb).2.2.2.2.1, (f2 b hb).2.2.2.2.2⟩
      have H5C : H5 C = none := I6.free
      have cne : ∀ {b : Addr}, b < D → b ≠ C := ltC
      have J7 : Inv X pins σ H5 { s6 with heap := h7, toks := s6.toks } := J6.turned (it := C) (fun b o hb e => hs7.extBut b o hb e) H5C (Ne.symm (ltC locLt)) (.inr (Nat.le_trans I2.sz hCge)) (fun x c e => ltC (cellsLt x c e)) (fun p hp => ltC (pinLt p hp))
      have ho7 : h7.get? D = some { cls := .type "list", data := .seq us.toArray k } := hs7.extBut D _ hDC ho6
      refine ⟨.ref D, upd H5 D (.lst ys), ?_, rfl, fin D hD5⟩
      exact Inv.track J7 hD5 (Nat.le_trans I2.sz hDge) (Ne.symm (Nat.ne_of_lt locLt)) (fun x c e => Nat.ne_of_lt (cellsLt x c e)) (fun p hp => Nat.ne_of_lt (pinLt p hp)) ⟨Nat.le_of_lt hsz, us, k, rv5, ho7⟩
    · refine thn (T.item (blk X N' sc cl C s2 H2 fp (X.pn ++ pins)) rfl rfl rfl hc i _ s5 τ H5 NoX I5p (fpB fr5 (Dfp _)) st5 go) fun r s6 ⟨u, hr, h6⟩ => ?_
      subst hr
      refine thn h6 fun _ s7 ⟨x, H7, I7, r7, y7, st7, fr7⟩ => ?_
      have I7p := I7.pinned (fpB fr7 (Dfp _)) (T.obj _ _ st7)
      refine thn (bG _ s7 τ H7 x u _ I7p r7 (step x H7 y7)) fun _ s8 ⟨τ8, H8, I8, q8⟩ => ?_
      have back : ∀ {τ9 : St} {H9 : Hp} {s9 : Shared}, Inv (blk X N' sc cl C s2 H2 fp (X.pn ++ pins)) ([(D, { cls := .type "list", data := .seq us.toArray k })] ++ pinsAt fp s7.heap) τ9 H9 s9 →
          tn (i + 1) s9.heap ∧ (∀ b ∈ fp, H9 b = none) ∧ s9.heap.get? D = some { cls := .type "list", data := .seq us.toArray k } ∧ H9 D = none := fun {τ9 H9 s9} I9 => by
        have pD := I9.pin (D, { cls := .type "list", data := .seq us.toArray k }) (List.mem_append_right _ (List.mem_append_left _ (List.mem_singleton.mpr rfl)))
        refine ⟨T.keep _ _ _ st7 fun b hb o e => (I9.pin (b, o) (List.mem_append_right _ (List.mem_append_right _ (mem_pinsAt hb e)))).1, fun b hb => ?_, pD.1, pD.2.1⟩
        obtain ⟨o, e, _⟩ := T.obj _ _ st7 b hb
        exact (I9.pin (b, o) (List.mem_append_right _ (List.mem_append_right _ (mem_pinsAt hb e)))).2.1
      have drop : ∀ {τ9 : St} {H9 : Hp} {s9 : Shared} {pl : List (Addr × Obj)}, Inv (blk X N' sc cl C s2 H2 fp (X.pn ++ pins)) pl τ9 H9 s9 → Inv (blk X N' sc cl C s2 H2 fp (X.pn ++ pins)) [] τ9 H9 s9 := fun I9 => I9.pins_of fun p hp => nomatch hp
      refine thn (bT _ s8 τ8 H8 _ I8 q8) fun b s9 ⟨H9, I9, q9⟩ => ?_
      cases b with
      | false =>
        rw [if_neg Bool.false_ne_true] at q9 ⊢
        obtain ⟨m', hm, w9⟩ := q9
        obtain ⟨t9, f9, o9, d9⟩ := back I9
        exact ⟨m', hm, i + 1, τ8, ys, us, k, H9, drop I9, t9, f9, rv5, o9, d9, w9⟩
      | true =>
        rw [if_pos rfl] at q9 ⊢
        refine thn (bE _ s9 τ8 H9 _ I9 q9) fun y s10 ⟨z, H10, I10, r10, q10⟩ => ?_
        obtain ⟨m', hm, w10⟩ := q10
        obtain ⟨t10, f10, o10, d10⟩ := back I10
        have hl := rv5.length
        refine append_at (hsz := by show us.toArray.size ≤ sizeLine; rw [List.size_toArray, ← hl]; exact Nat.le_of_lt hsz) o10 fun h11 hs11 hD11 => ?_
        have I11 : Inv (blk X N' sc cl C s2 H2 fp (X.pn ++ pins)) [] τ8 H10 { s10 with heap := h11, toks := s10.toks } := (drop I10).turned (it := D) (fun b o hb e => hs11.extBut b o hb e) d10 hDC (.inr hDge) (fun x c e => Nat.ne_of_lt (cellsLt x c (clm x c e)))
          (fun p hp => by have hp' : p ∈ X.pn ++ pins := by simpa [blk] using hp
                          exact Nat.ne_of_lt (pinLt p hp'))
        refine ⟨m', hm, i + 1, τ8, ys ++ [z], us ++ [y], k + 1, H10, I11, T.keep _ _ _ t10 (fun b hb o e => hs11.extBut b o (Nat.ne_of_lt (fpLt b hb)) e), f10, rv5.append (.cons r10 .nil), ?_, d10, w10⟩
        rw [hD11]
        simp
  refine codeAny_compStart_list loop ?_
  exact T.self _ 0 _ _ _ (T.keep _ _ _ st2 (fun b _ o e => old b o e)) loop
end BX
end
section
namespace BX
open PySem PySem.Spec L2
open PyProof.Rows hiding St
theorem Same.tup {K : PySem.W.Frag} {H H' : Hp} {a : Addr} {xs : List V} (e : Same H H') (h : SqT K H a xs) : SqT K H' a xs := by
 rcases h with (h | ⟨o, h⟩) | h
 ·exact .inl (.inl (e _ _ h))
 ·exact .inl (.inr ⟨o, e _ _ h⟩)
 ·exact .inr h
noncomputable def scr (ns : List Int) : PyData := .dict (ns.map fun n => (.int n, .none))
mutual
noncomputable def Rep (K : PySem.W.Frag) (H : Hp) : PyData → V → Prop
 | .none, v => v = .non
 | .bool b, v => v = .bl b
 | .int i, v => v = .int i
 | .str x, v => v = .str x
 | .tuple ds, v => ∃ a xs, v = .ref a ∧ SqT K H a xs ∧ Reps K H ds xs
 | .list ds, v => ∃ a xs, v = .ref a ∧ H a = some (.lst xs) ∧ Reps K H ds xs
 | .dict kvs, v => ∃ a, v = .ref a ∧ ((∃ ns : List Int, SqL K H a (List.map V.int ns) ∧ kvs = ns.map (fun n => (PyData.int n, PyData.none))) ∨ (∃ ks ob, H a = some (.frz ob (.dK ks)) ∧ RepD K H kvs ks) ∨ (∃ x : Str, kvs = [(.str x, .none)] ∧ PySem.W.nsIn K mainGlobals x = some (some (.ref a))) ∨ ∃ (x : Str) (C : Addr) (oe : Obj), kvs = [(.str x, .bool true)] ∧ H a = some (.frz oe (.own a)) ∧ PySem.W.nsIn K mainGlobals x = some (some (.ref C)) ∧ oe.cls = .ref C ∧ oe.dict = none ∧ ∃ vs, oe.data = .fields vs)
noncomputable def Reps (K : PySem.W.Frag) (H : Hp) : List PyData → List V → Prop
 | [], xs => xs = []
 | d :: ds, xs => ∃ x r, xs = x :: r ∧ Rep K H d x ∧ Reps K H ds r
noncomputable def RepD (K : PySem.W.Frag) (H : Hp) : List (PyData × PyData) → List (Key × V) → Prop
 | [], _ => False
 | (.none, _) :: r, ks => RepM K H r ks
 | _ :: _, _ => False
noncomputable def RepM (K : PySem.W.Frag) (H : Hp) : List (PyData × PyData) → List (Key × V) → Prop
 | [], ks => ks = []
 | (k, d) :: r, ks => ∃ i x s, k = .int i ∧ ks = (Sum.inl i, x) :: s ∧ Rep K H d x ∧ RepM K H r s
end
noncomputable def isScr (kvs : List (PyData × PyData)) : Bool := kvs.all fun p => match p with
 | (.int _, .none) => true
 | _ => false
theorem isScr_map (ns : List Int) : isScr (ns.map fun n => (PyData.int n, PyData.none)) = true := by
 simp [isScr]
theorem RepD.out {K : PySem.W.Frag} {H : Hp} : ∀ {kvs : List (PyData × PyData)} {ks : List (Key × V)}, RepD K H kvs ks → ∃ c r, kvs = (.none, c) :: r ∧ RepM K H r ks
 | [], _, h => h.elim
 | (.none, c) :: r, ks, h => ⟨c, r, rfl, h⟩
 | (.bool _, _) :: _, _, h => h.elim
 | (.int _, _) :: _, _, h => h.elim
 | (.str _, _) :: _, _, h => h.elim
 | (.list _, _) :: _, _, h => h.elim
 | (.tuple _, _) :: _, _, h => h.elim
 | (.dict _, _) :: _, _, h => h.elim
theorem Rep.scrOut {K : PySem.W.Frag} {H : Hp} {kvs : List (PyData × PyData)} {v : V} (h : Rep K H (.dict kvs) v) (hs : isScr kvs = true) : ∃ a ns, v = .ref a ∧ SqL K H a (List.map V.int ns) ∧ kvs = ns.map (fun n => (PyData.int n, PyData.none)) := by
 obtain ⟨a, h1, h2 | ⟨ks, ob, h2, h3⟩ | ⟨x, h2, _⟩ | ⟨x, _, _, h2, _⟩⟩ := h
 ·obtain ⟨ns, q1, q2⟩ := h2; exact ⟨a, ns, h1, q1, q2⟩
 ·obtain ⟨c, r, rfl, _⟩ := h3.out
  simp [isScr] at hs
 ·subst h2; simp [isScr] at hs
 ·subst h2; simp [isScr] at hs
noncomputable def SameE (H H' : Hp) : Prop := ∀ b o, H b = some o → (∀ φ, o ≠ .ext φ) → H' b = some o
theorem Same.e {H H' : Hp} (s : Same H H') : SameE H H' := fun b o h _ => s b o h
theorem SameE.refl (H : Hp) : SameE H H := fun _ _ h _ => h
theorem SameE.trans {H H1 H2 : Hp} (a : SameE H H1) (b : SameE H1 H2) : SameE H H2 := fun c o h n => b c o (a c o h n) n
theorem SameE.tup {K : PySem.W.Frag} {H H' : Hp} {a : Addr} {xs : List V} (e : SameE H H') (h : SqT K H a xs) : SqT K H' a xs := by
 rcases h with (h | ⟨o, h⟩) | h
 ·exact .inl (.inl (e _ _ h fun _ z => nomatch z))
 ·exact .inl (.inr ⟨o, e _ _ h fun _ z => nomatch z⟩)
 ·exact .inr h
theorem SameE.sql {K : PySem.W.Frag} {H H' : Hp} {a : Addr} {xs : List V} (e : SameE H H') (h : SqL K H a xs) : SqL K H' a xs := by
 rcases h with (h | ⟨o, h⟩) | h
 ·exact .inl (.inl (e _ _ h fun _ z => nomatch z))
 ·exact .inl (.inr ⟨o, e _ _ h fun _ z => nomatch z⟩)
 ·exact .inr h
section
variable {K : PySem.W.Frag} {H H' : Hp}
mutual
theorem Rep.mono (e : Same H H') : ∀ (d : PyData) (v : V), Rep K H d v → Rep K H' d v
 | .none, v, h => h
 | .bool _, v, h => h
 | .int _, v, h => h
 | .str _, v, h => h
 | .tuple ds, v, ⟨a, xs, h1, h2, h3⟩ => ⟨a, xs, h1, Same.tup e h2, Reps.mono e ds xs h3⟩
 | .list ds, v, ⟨a, xs, h1, h2, h3⟩ => ⟨a, xs, h1, e _ _ h2, Reps.mono e ds xs h3⟩
 | .dict kvs, v, ⟨a, h1, h2⟩ => ⟨a, h1, h2.imp (fun ⟨ns, q1, q2⟩ => ⟨ns, e.seq q1, q2⟩) fun z => z.imp (fun ⟨ks, ob, q1, q2⟩ => ⟨ks, ob, e _ _ q1, RepD.mono e kvs ks q2⟩) fun y => y.imp id fun ⟨x, C, oe, q1, q2, q3⟩ => ⟨x, C, oe, q1, e _ _ q2, q3⟩⟩
theorem Reps.mono (e : Same H H') : ∀ (ds : List PyData) (xs : List V), Reps K H ds xs → Reps K H' ds xs
 | [], xs, h => h
 | d :: ds, xs, ⟨x, r, h1, h2, h3⟩ => ⟨x, r, h1, Rep.mono e d x h2, Reps.mono e ds r h3⟩
theorem RepD.mono (e : Same H H') : ∀ (kvs : List (PyData × PyData)) (ks : List (Key × V)), RepD K H kvs ks → RepD K H' kvs ks
 | [], _, h => h
 | (.none, c) :: r, ks, h => RepM.mono e r ks h
 | (.bool _, _) :: _, _, h => h
 | (.int _, _) :: _, _, h => h
 | (.str _, _) :: _, _, h => h
 | (.list _, _) :: _, _, h => h
 | (.tuple _, _) :: _, _, h => h
 | (.dict _, _) :: _, _, h => h
theorem RepM.mono (e : Same H H') : ∀ (kvs : List (PyData × PyData)) (ks : List (Key × V)), RepM K H kvs ks → RepM K H' kvs ks
 | [], _, h => h
 | (k, d) :: r, ks, ⟨i, x, s, h1, h2, h3, h4⟩ => ⟨i, x, s, h1, h2, Rep.mono e d x h3, RepM.mono e r s h4⟩
end
mutual
theorem Rep.monoE (e : SameE H H') : ∀ (d : PyData) (v : V), Rep K H d v → Rep K H' d v
 | .none, v, h => h
 | .bool _, v, h => h
 | .int _, v, h => h
 | .str _, v, h => h
 | .tuple ds, v, ⟨a, xs, h1, h2, h3⟩ => ⟨a, xs, h1, SameE.tup e h2, Reps.monoE e ds xs h3⟩
 | .list ds, v, ⟨a, xs, h1, h2, h3⟩ => ⟨a, xs, h1, e _ _ h2 (fun _ z => nomatch z), Reps.monoE e ds xs h3⟩
 | .dict kvs, v, ⟨a, h1, h2⟩ => ⟨a, h1, h2.imp (fun ⟨ns, q1, q2⟩ => ⟨ns, SameE.sql e q1, q2⟩) fun z => z.imp (fun ⟨ks, ob, q1, q2⟩ => ⟨ks, ob, e _ _ q1 (fun _ z => nomatch z), RepD.monoE e kvs ks q2⟩) fun y => y.imp id fun ⟨x, C, oe, q1, q2, q3⟩ => ⟨x, C, oe, q1, e _ _ q2 (fun _ z => nomatch z), q3⟩⟩
theorem Reps.monoE (e : SameE H H') : ∀ (ds : List PyData) (xs : List V), Reps K H ds xs → Reps K H' ds xs
 | [], xs, h => h
 | d :: ds, xs, ⟨x, r, h1, h2, h3⟩ => ⟨x, r, h1, Rep.monoE e d x h2, Reps.monoE e ds r h3⟩
theorem RepD.monoE (e : SameE H H') : ∀ (kvs : List (PyData × PyData)) (ks : List (Key × V)), RepD K H kvs ks → RepD K H' kvs ks
 | [], _, h => h
 | (.none, c) :: r, ks, h => RepM.monoE e r ks h
 | (.bool _, _) :: _, _, h => h
 | (.int _, _) :: _, _, h => h
 | (.str _, _) :: _, _, h => h
 | (.list _, _) :: _, _, h => h
 | (.tuple _, _) :: _, _, h => h
 | (.dict _, _) :: _, _, h => h
theorem RepM.monoE (e : SameE H H') : ∀ (kvs : List (PyData × PyData)) (ks : List (Key × V)), RepM K H kvs ks → RepM K H' kvs ks
 | [], _, h => h
 | (k, d) :: r, ks, ⟨i, x, s, h1, h2, h3, h4⟩ => ⟨i, x, s, h1, h2, Rep.monoE e d x h3, RepM.monoE e r s h4⟩
end
theorem Reps.length : ∀ {ds : List PyData} {xs : List V}, Reps K H ds xs → xs.length = ds.length
 | [], xs, h => by cases h; rfl
 | d :: ds, xs, ⟨x, r, h1, h2, h3⟩ => by subst h1; simp [Reps.length h3]
theorem Reps.get : ∀ {ds : List PyData} {xs : List V} {i : Nat} {d : PyData}, Reps K H ds xs → ds[i]? = some d → ∃ x, xs[i]? = some x ∧ Rep K H d x
 | [], xs, i, d, h, e => by simp at e
 | c :: ds, xs, 0, d, ⟨x, r, h1, h2, h3⟩, e => by subst h1; simp at e; subst e; exact ⟨x, rfl, h2⟩
 | c :: ds, xs, i + 1, d, ⟨x, r, h1, h2, h3⟩, e => by
  subst h1
  obtain ⟨y, e1, e2⟩ := Reps.get (i := i) h3 (by simpa using e)
  exact ⟨y, by simpa using e1, e2⟩
theorem Reps.append : ∀ {ds es : List PyData} {xs ys : List V}, Reps K H ds xs → Reps K H es ys → Reps K H (ds ++ es) (xs ++ ys)
 | [], es, xs, ys, h, g => by cases h; exact g
 | d :: ds, es, xs, ys, ⟨x, r, h1, h2, h3⟩, g => by subst h1; exact ⟨x, r ++ ys, rfl, h2, Reps.append h3 g⟩
theorem Reps.take : ∀ {ds : List PyData} {xs : List V} (n : Nat), Reps K H ds xs → Reps K H (ds.take n) (xs.take n)
 | ds, xs, 0, h => by simp; rfl
 | [], xs, n + 1, h => by cases h; rfl
 | d :: ds, xs, n + 1, ⟨x, r, h1, h2, h3⟩ => by subst h1; exact ⟨x, _, rfl, h2, Reps.take n h3⟩
theorem Reps.drop : ∀ {ds : List PyData} {xs : List V} (n : Nat), Reps K H ds xs → Reps K H (ds.drop n) (xs.drop n)
 | ds, xs, 0, h => by simpa using h
 | [], xs, n + 1, h => by cases h; rfl
 | d :: ds, xs, n + 1, ⟨x, r, h1, h2, h3⟩ => by subst h1; simpa using Reps.drop n h3
theorem Reps.ints : ∀ {ns : List Int} {xs : List V}, Reps K H (ns.map PyData.int) xs → xs = ns.map V.int
 | [], xs, h => h
 | n :: ns, xs, ⟨x, r, h1, h2, h3⟩ => by subst h1; cases (show x = V.int n from h2); rw [Reps.ints h3]; rfl
end
section
variable {X : Cx} {pins : List (Addr × Obj)} {σ : St} {H : Hp} {s : Shared}
mutual
theorem reads_of (I : Inv X pins σ H s) : ∀ (d : PyData) (v : V) (u : Value), Rep X.K H d v → RelV v u → d.canLay0 = true → ∃ as, Reads s.heap u d as
 | .none, v, u, h, r, _ => by cases h; cases r; exact ⟨_, .none⟩
 | .bool b, v, u, h, r, _ => by cases h; cases r; exact ⟨_, .bool b⟩
 | .int i, v, u, h, r, _ => by cases h; obtain ⟨t, rfl⟩ := r; exact ⟨_, .int i t⟩
 | .str x, v, u, h, r, _ => by cases h; obtain ⟨t, rfl⟩ := r; exact ⟨_, .str x t⟩
 | .tuple ds, v, u, ⟨a, xs, h1, h2, h3⟩, r, hc => by
  subst h1; cases r
  obtain ⟨its, rv, ⟨o, e1, e2, n, e3⟩, _⟩ := I.tuple h2
  obtain ⟨as, ra⟩ := readsAll_of I ds xs its h3 rv (by simpa [PyData.canLay0] using hc)
  exact ⟨as, .tuple e1 e2 e3 (by simpa using ra)⟩
 | .list ds, v, u, ⟨a, xs, h1, h2, h3⟩, r, hc => by
  subst h1; cases r
  obtain ⟨its, rv, ⟨o, n, e1, e2, e3, e4⟩, _⟩ := I.list (SqL.of h2)
  obtain ⟨as, ra⟩ := readsAll_of I ds xs its h3 rv (by simpa [PyData.canLay0] using hc)
  exact ⟨a :: as, .list e1 e2 e4 (by simpa using ra)⟩
 | .dict kvs, v, u, h, r, hc => by simp [PyData.canLay0] at hc
theorem readsAll_of (I : Inv X pins σ H s) : ∀ (ds : List PyData) (xs : List V) (us : List Value), Reps X.K H ds xs → Vals xs us → PyData.canLayAll0 ds = true → ∃ as, ReadsAll s.heap us ds as
 | [], xs, us, h, r, _ => by cases h; cases r; exact ⟨_, .nil⟩
 | d :: ds, xs, us, ⟨x, q, h1, h2, h3⟩, r, hc => by
  subst h1
  cases r with
  | cons r1 r2 =>
   have hc' : d.canLay0 = true ∧ PyData.canLayAll0 ds = true := by simpa [PyData.canLayAll0] using hc
   obtain ⟨as, ra⟩ := reads_of I d x _ h2 r1 hc'.1
   obtain ⟨bs, rb⟩ := readsAll_of I ds q _ h3 r2 hc'.2
   exact ⟨_, .cons ra rb⟩
end
end
noncomputable abbrev Rho := List (Option PyData)
structure EnvR (K : PySem.W.Frag) (H : Hp) (ρ : Rho) (σ : St) : Prop where
 len : ρ.length = σ.length
 at' : ∀ (i : Nat) (d : PyData), ρ[i]? = some (some d) → ∃ v, σ[i]? = some (some v) ∧ Rep K H d v
theorem EnvR.mono {K : PySem.W.Frag} {H H' : Hp} {ρ : Rho} {σ : St} (e : EnvR K H ρ σ) (h : Same H H') : EnvR K H' ρ σ :=
 ⟨e.len, fun i d q => let ⟨v, e1, e2⟩ := e.at' i d q; ⟨v, e1, Rep.mono h d v e2⟩⟩
theorem EnvR.set {K : PySem.W.Frag} {H : Hp} {ρ : Rho} {σ : St} (e : EnvR K H ρ σ) {i : Nat} {d : PyData} {v : V} (r : Rep K H d v) : EnvR K H (ρ.set i (some d)) (σ.set i (some v)) := by
 refine ⟨by simp [e.len], fun j c q => ?_⟩
 by_cases hj : i = j
 ·subst hj
  rw [List.getElem?_set] at q ⊢
  simp only [if_true] at q ⊢
  by_cases hl : i < ρ.length
  ·rw [if_pos hl] at q
   rw [if_pos (by rw [← e.len]; exact hl)]
   cases q
   exact ⟨v, rfl, r⟩
  ·rw [if_neg hl] at q; cases q
 ·rw [List.getElem?_set_ne hj] at q ⊢
  exact e.at' j c q
noncomputable def lkp (i : Nat) (ρ : Rho) : Option PyData := (ρ[i]?).join
theorem lkp_some {i : Nat} {ρ : Rho} {d : PyData} (h : lkp i ρ = some d) : ρ[i]? = some (some d) := by
 unfold lkp at h
 cases e : ρ[i]? with
 | none => rw [e] at h; cases h
 | some o => rw [e] at h; cases o with
  | none => cases h
  | some c => cases h; rfl
noncomputable def tD (K : PySem.W.Frag) (f : Rho → Option PyData) : TE := fun σ H Q => ∃ ρ d, EnvR K H ρ σ ∧ f ρ = some d ∧ ∀ v H', Same H H' → Rep K H' d v → Q v H'
@[irreducible] noncomputable def PD (X : Cx) (e : Expr) (f : Rho → Option PyData) : Prop := PE X e (tD X.K f)
noncomputable def tDT (K : PySem.W.Frag) (f : Rho → Option Bool) : TT := fun σ H Q => ∃ ρ b, EnvR K H ρ σ ∧ f ρ = some b ∧ ∀ H', Same H H' → Q b H'
@[irreducible] noncomputable def PTD (X : Cx) (e : Expr) (f : Rho → Option Bool) : Prop := PT X e (tDT X.K f)
noncomputable def tDA (K : PySem.W.Frag) (f : Rho → Option (List PyData)) : TA := fun σ H Q => ∃ ρ ds, EnvR K H ρ σ ∧ f ρ = some ds ∧ ∀ vs H', Same H H' → Reps K H' ds vs → Q vs H'
@[irreducible] noncomputable def PAD (X : Cx) (es : List Expr) (f : Rho → Option (List PyData)) : Prop := PA X es (tDA X.K f)
inductive Out where
 | nx (ρ : Rho) | rt (d : PyData) | bk (ρ : Rho) | ct (ρ : Rho)
noncomputable def contD (K : PySem.W.Frag) (D : Ends) (H : Hp) : Out → Prop
 | .nx ρ => ∀ σ H', Same H H' → EnvR K H' ρ σ → D.nx σ H'
 | .rt d => ∀ v H', Same H H' → Rep K H' d v → D.rt v H'
 | .bk ρ => ∀ σ H', Same H H' → EnvR K H' ρ σ → D.bk σ H'
 | .ct ρ => ∀ σ H', Same H H' → EnvR K H' ρ σ → D.ct σ H'
theorem contD.mono {K : PySem.W.Frag} {D : Ends} {H H' : Hp} {o : Out} (h : contD K D H o) (e : Same H H') : contD K D H' o := by
 cases o with
 | nx ρ => exact fun σ H2 e2 r => h σ H2 (e.trans e2) r
 | rt d => exact fun v H2 e2 r => h v H2 (e.trans e2) r
 | bk ρ => exact fun σ H2 e2 r => h σ H2 (e.trans e2) r
 | ct ρ => exact fun σ H2 e2 r => h σ H2 (e.trans e2) r
noncomputable def tDS (K : PySem.W.Frag) (F : Rho → Option Out) : TS := fun D σ H => ∃ ρ o, EnvR K H ρ σ ∧ F ρ = some o ∧ contD K D H o
@[irreducible] noncomputable def PSD (X : Cx) (st : Stmt) (F : Rho → Option Out) : Prop := PS X st (tDS X.K F)
@[irreducible] noncomputable def PSsD (X : Cx) (st : List Stmt) (F : Rho → Option Out) : Prop := PSs X st (tDS X.K F)
noncomputable def tDG (K : PySem.W.Frag) (ga : PyData → Rho → Option Rho) : TG := fun v σ H Q => ∃ ρ d ρ', EnvR K H ρ σ ∧ Rep K H d v ∧ ga d ρ = some ρ' ∧ ∀ σ' H', Same H H' → EnvR K H' ρ' σ' → Q σ' H'
@[irreducible] noncomputable def PGD (X : Cx) (tg : Expr) (ga : PyData → Rho → Option Rho) : Prop := PG X tg (tDG X.K ga)
section
variable {X : Cx} {e a b c : Expr} {es : List Expr} {fa fb fc : Rho → Option PyData} {pos : Pos}
theorem PE.imp {t t' : TE} (h : PE X e t) (hi : ∀ σ H Q, t' σ H Q → t σ H Q) : PE X e t' := fun pins s σ H Q I q => h pins s σ H Q I (hi σ H Q q)
theorem PT.imp {t t' : TT} (h : PT X e t) (hi : ∀ σ H Q, t' σ H Q → t σ H Q) : PT X e t' := fun pins s σ H Q I q => h pins s σ H Q I (hi σ H Q q)
theorem PA.imp {t t' : TA} (h : PA X es t) (hi : ∀ σ H Q, t' σ H Q → t σ H Q) : PA X es t' := fun pos pins s σ H Q I q => h pos pins s σ H Q I (hi σ H Q q)
theorem PS.imp {st : Stmt} {t t' : TS} (h : PS X st t) (hi : ∀ D σ H, t' D σ H → t D σ H) : PS X st t' := fun pins s σ H D I q => h pins s σ H D I (hi D σ H q)
theorem PSs.imp {st : List Stmt} {t t' : TS} (h : PSs X st t) (hi : ∀ D σ H, t' D σ H → t D σ H) : PSs X st t' := fun pins s σ H D I q => h pins s σ H D I (hi D σ H q)
theorem PG.imp {t t' : TG} (h : PG X e t) (hi : ∀ v σ H Q, t' v σ H Q → t v σ H Q) : PG X e t' := fun pins s σ H v u Q I r q => h pins s σ H v u Q I r (hi v σ H Q q)
theorem pd_var (i : Nat) {x : Str} {pos : Pos} (hN : X.N[i]? = some x := by rfl) (hv : Vis X.env.scope x := by first | exact Or.inl rfl | exact Or.inr (Or.inl rfl) | exact Or.inr (Or.inr rfl)) (hd : (x == ("__debug__" : Str)) = false := by decide)
  (hcd : (x == ("__classdict__" : Str)) = false := by decide) : PD X (.Name x pos) (lkp i) := by
 with_unfolding_all exact (PE.imp (pe_var hN hv hd hcd) fun σ H Q ⟨ρ, d, e, h, k⟩ => let ⟨v, e1, e2⟩ := e.at' i d (lkp_some h); ⟨v, e1, k v H (Same.refl H) e2⟩)
noncomputable def cst (d : PyData) (_ : Rho) : Option PyData := some d
theorem pd_int {i j pos} : PD X (.Constant (.int i) j pos) (cst (.int i)) := by
 with_unfolding_all exact (PE.imp pe_int fun σ H Q ⟨ρ, d, e, h, k⟩ => by cases h; exact k _ H (Same.refl H) rfl)
theorem pd_bl {i j pos} : PD X (.Constant (.bool i) j pos) (cst (.bool i)) := by
 with_unfolding_all exact (PE.imp pe_bl fun σ H Q ⟨ρ, d, e, h, k⟩ => by cases h; exact k _ H (Same.refl H) rfl)
theorem pd_non {j pos} : PD X (.Constant .none j pos) (cst .none) := by
 with_unfolding_all exact (PE.imp pe_non fun σ H Q ⟨ρ, d, e, h, k⟩ => by cases h; exact k _ H (Same.refl H) rfl)
theorem pd_str {i j pos} : PD X (.Constant (.str i) j pos) (cst (.str i)) := by
 with_unfolding_all exact (PE.imp pe_str fun σ H Q ⟨ρ, d, e, h, k⟩ => by cases h; exact k _ H (Same.refl H) rfl)
theorem pd_glob {x : Str} {v : V} {u : Value} {d : PyData} (hg : Gl X x) (hm : X.mg x = some u) (r : RelV v u) (hr : ∀ H, Rep X.K H d v) (hd : (x == ("__debug__" : Str)) = false := by decide) : PD X (.Name x pos) (cst d) := by
 with_unfolding_all exact (PE.imp (pe_glob hg hm r hd) fun σ H Q ⟨ρ, d', e, h, k⟩ => by cases h; exact k _ H (Same.refl H) (hr H))
noncomputable def op2 (g : PyData → PyData → Option PyData) (fa fb : Rho → Option PyData) : Rho → Option PyData := fun ρ => (fa ρ).bind fun x => (fb ρ).bind fun y => g x y
noncomputable def OpD (X : Cx) (f : Value → Value → Sem Value) (g : PyData → PyData → Option PyData) : Prop :=
 ∃ r, OpR X f r ∧ ∀ p q d x y H Q, g p q = some d → Rep X.K H p x → Rep X.K H q y → (∀ v H', Same H H' → Rep X.K H' d v → Q v H') → r x y H Q
theorem seq2 {g : PyData → PyData → Option PyData} {K : PySem.W.Frag} {r : R2} (hr : ∀ p q d x y H Q, g p q = some d → Rep K H p x → Rep K H q y → (∀ v H', Same H H' → Rep K H' d v → Q v H') → r x y H Q)
  {σ : St} {H : Hp} {Q : VK} (h : tD K (op2 g fa fb) σ H Q) : tOp r (tD K fa) (tD K fb) σ H Q := by
 obtain ⟨ρ, d, e, h, k⟩ := h
 unfold op2 at h
 cases ha : fa ρ with
 | none => rw [ha] at h; cases h
 | some p =>
  rw [ha] at h
  cases hb : fb ρ with
  | none => rw [hb] at h; cases h
  | some q =>
   rw [hb] at h
   refine ⟨ρ, p, e, ha, fun x H1 s1 r1 => ⟨ρ, q, e.mono s1, hb, fun y H2 s2 r2 => ?_⟩⟩
   exact hr p q d x y H2 Q h (Rep.mono s2 p x r1) r2 fun v H' s3 r3 => k v H' (s1.trans (s2.trans s3)) r3
theorem pd_bin {op : Operator} {g : PyData → PyData → Option PyData} (ho : OpD X (binaryOp op) g) (ha : PD X a fa) (hb : PD X b fb) : PD X (.BinOp a op b pos) (op2 g fa fb) := by
 with_unfolding_all
  obtain ⟨r, h1, h2⟩ := ho
  exact PE.imp (pe_op h1 ha hb) fun σ H Q h => seq2 h2 h
theorem pd_cmp {op : CmpOp} {g : PyData → PyData → Option PyData} (ho : OpD X (compareOp op) g) (ha : PD X a fa) (hb : PD X b fb) (hm : behindInMarks op b = false := by first | exact nomark _ | with_unfolding_all rfl) : PD X (.Compare a [op] [b] pos) (op2 g fa fb) := by
 with_unfolding_all
  obtain ⟨r, h1, h2⟩ := ho
  exact PE.imp (pe_cmpR h1 ha hb hm) fun σ H Q h => seq2 h2 h
noncomputable def asB : PyData → Option Bool
 | .bool b => some b
 | _ => none
noncomputable def tst (f : Rho → Option PyData) : Rho → Option Bool := fun ρ => (f ρ).bind asB
theorem asB_some {d : PyData} {b : Bool} (h : asB d = some b) : d = .bool b := by
 cases d <;> simp [asB] at h
 rw [h]
theorem ptd_cmp {op : CmpOp} {g : PyData → PyData → Option PyData} (ho : OpD X (compareOp op) g) (ha : PD X a fa) (hb : PD X b fb) (hm : behindInMarks op b = false := by first | exact nomark _ | with_unfolding_all rfl) : PTD X (.Compare a [op] [b] pos) (tst (op2 g fa fb)) := by
 with_unfolding_all
  obtain ⟨r, h1, h2⟩ := ho
  refine PT.imp (pt_cmpR h1 ha hb hm) fun σ H Q ⟨ρ, t, e, h, k⟩ => ?_
  cases hd : op2 g fa fb ρ with
  | none => simp [tst, hd] at h
  | some d =>
   have ht : d = .bool t := asB_some (by simpa [tst, hd] using h)
   subst ht
   exact seq2 h2 ⟨ρ, _, e, hd, fun v H' s r => ⟨t, r, k H' s⟩⟩
theorem ptd_val (h : PD X e fa) (he : ∀ whole, isTrue e X.env whole = (do let v ← whole; standAt e.pos; holding [v] (truthy v)) := by intro _; rfl) : PTD X e (tst fa) := by
 with_unfolding_all
  refine PT.imp (pt_val h he) fun σ H Q ⟨ρ, t, e, h, k⟩ => ?_
  cases hd : fa ρ with
  | none => simp [tst, hd] at h
  | some d =>
   have ht : d = .bool t := asB_some (by simpa [tst, hd] using h)
   subst ht
   exact ⟨ρ, _, e, hd, fun v H' s r => ⟨t, r, k H' s⟩⟩
variable {ta tb : Rho → Option Bool} {rest : List Expr}
@[irreducible] noncomputable def PWD (X : Cx) (e : Expr) (f : Rho → Option Bool) : Prop := PW X e (tDT X.K f)
theorem PW.imp {t t' : TT} (h : PW X e t) (hi : ∀ σ H Q, t' σ H Q → t σ H Q) : PW X e t' := fun wh pins s σ H Q I q => h wh pins s σ H Q I (hi σ H Q q)
noncomputable def andB (ta tb : Rho → Option Bool) : Rho → Option Bool := fun ρ => (ta ρ).bind fun x => if x = true then tb ρ else some false
noncomputable def orB (ta tb : Rho → Option Bool) : Rho → Option Bool := fun ρ => (ta ρ).bind fun x => if x = true then some true else tb ρ
noncomputable def notB (ta : Rho → Option Bool) : Rho → Option Bool := fun ρ => (ta ρ).map (!·)
theorem pwd_and1 (ha : PTD X a ta) : PWD X (.BoolOp .And [a] pos) ta := by
 with_unfolding_all exact (pw_and1 ha)
theorem pwd_or1 (ha : PTD X a ta) : PWD X (.BoolOp .Or [a] pos) ta := by
 with_unfolding_all exact (pw_or1 ha)
theorem pwd_and (ha : PTD X a ta) (hb : PWD X (.BoolOp .And (b :: rest) pos) tb) : PWD X (.BoolOp .And (a :: b :: rest) pos) (andB ta tb) := by
 with_unfolding_all
  refine PW.imp (pw_and ha hb) fun σ H Q ⟨ρ, t, e, h, k⟩ => ?_
  cases h1 : ta ρ with
  | none => simp [andB, h1] at h
  | some x =>
   refine ⟨ρ, x, e, h1, fun H' s => ?_⟩
   cases x with
   | true => rw [if_pos rfl]; exact ⟨ρ, t, e.mono s, by simpa [andB, h1] using h, fun H2 s2 => k H2 (s.trans s2)⟩
   | false =>
    rw [if_neg Bool.false_ne_true]
    have : t = false := by simpa [andB, h1] using h.symm
    subst this
    exact k H' s
theorem pwd_or (ha : PTD X a ta) (hb : PWD X (.BoolOp .Or (b :: rest) pos) tb) : PWD X (.BoolOp .Or (a :: b :: rest) pos) (orB ta tb) := by
 with_unfolding_all
  refine PW.imp (pw_or ha hb) fun σ H Q ⟨ρ, t, e, h, k⟩ => ?_
  cases h1 : ta ρ with
  | none => simp [orB, h1] at h
  | some x =>
   refine ⟨ρ, x, e, h1, fun H' s => ?_⟩
   cases x with
   | false => rw [if_neg Bool.false_ne_true]; exact ⟨ρ, t, e.mono s, by simpa [orB, h1] using h, fun H2 s2 => k H2 (s.trans s2)⟩
   | true =>
    rw [if_pos rfl]
    have : t = true := by simpa [orB, h1] using h.symm
    subst this
    exact k H' s
theorem ptd_bool {op : BoolOp} {l : List Expr} (h : PWD X (.BoolOp op l pos) ta) : PTD X (.BoolOp op l pos) ta := by
 with_unfolding_all exact (h.pt)
theorem ptd_not (ha : PTD X a ta) : PTD X (.UnaryOp .Not a pos) (notB ta) := by
 with_unfolding_all
  refine PT.imp (pt_not ha) fun σ H Q ⟨ρ, t, e, h, k⟩ => ?_
  cases h1 : ta ρ with
  | none => simp [notB, h1] at h
  | some x =>
   have : (!x) = t := by simpa [notB, h1] using h
   subst this
   exact ⟨ρ, x, e, h1, fun H' s => k H' s⟩
noncomputable def ifD (tc : Rho → Option Bool) (fa fb : Rho → Option PyData) : Rho → Option PyData := fun ρ => (tc ρ).bind fun x => if x = true then fa ρ else fb ρ
theorem pd_if {tc : Rho → Option Bool} (hc : PTD X c tc) (ha : PD X a fa) (hb : PD X b fb) : PD X (.IfExp c a b pos) (ifD tc fa fb) := by
 with_unfolding_all
  refine PE.imp (pe_ifExp hc ha hb) fun σ H Q ⟨ρ, d, e, h, k⟩ => ?_
  cases h1 : tc ρ with
  | none => simp [ifD, h1] at h
  | some x =>
   refine ⟨ρ, x, e, h1, fun H' s => ?_⟩
   cases x with
   | true => rw [if_pos rfl]; exact ⟨ρ, d, e.mono s, by simpa [ifD, h1] using h, fun v H2 s2 => k v H2 (s.trans s2)⟩
   | false => rw [if_neg Bool.false_ne_true]; exact ⟨ρ, d, e.mono s, by simpa [ifD, h1] using h, fun v H2 s2 => k v H2 (s.trans s2)⟩
noncomputable def nilA (_ : Rho) : Option (List PyData) := some []
noncomputable def consA (fa : Rho → Option PyData) (fr : Rho → Option (List PyData)) : Rho → Option (List PyData) := fun ρ => (fa ρ).bind fun x => (fr ρ).map fun r => x :: r
theorem pad_nil : PAD X [] nilA := by
 with_unfolding_all exact (PA.imp pa_nil fun σ H Q ⟨ρ, d, e, h, k⟩ => by cases h; exact k [] H (Same.refl H) rfl)
theorem pad_cons {fr : Rho → Option (List PyData)} (ha : PD X e fa) (hr : PAD X es fr) (hs : starEach (e :: es) X.env = (false, eval e X.env) :: starEach es X.env := by rfl) : PAD X (e :: es) (consA fa fr) := by
 with_unfolding_all
  refine PA.imp (pa_cons ha hr hs) fun σ H Q ⟨ρ, ds, en, h, k⟩ => ?_
  cases h1 : fa ρ with
  | none => simp [consA, h1] at h
  | some x =>
   cases h2 : fr ρ with
   | none => simp [consA, h1, h2] at h
   | some r =>
    have : x :: r = ds := by simpa [consA, h1, h2] using h
    subst this
    exact ⟨ρ, x, en, h1, fun v H1 s1 r1 => ⟨ρ, r, en.mono s1, h2, fun vs H2 s2 r2 => k _ H2 (s1.trans s2) ⟨v, vs, rfl, Rep.mono s2 x v r1, r2⟩⟩⟩
noncomputable def few (ds : List PyData) : Bool := decide (ds.length < 1000000)
theorem few_le {n : Nat} (h : n < 1000000) : n ≤ sizeLine := Nat.le_of_lt (Nat.lt_of_lt_of_le h (by rw [sizeLine_eq]; decide))
theorem same_upd {H : Hp} {p : Addr} {o : HO} (hp : H p = none) : Same H (upd H p o) := fun b u h => by rw [upd_ne (ne_of_none h hp)]; exact h
noncomputable def tupD (fr : Rho → Option (List PyData)) : Rho → Option PyData := fun ρ => (fr ρ).bind fun ds => if few ds = true then some (.tuple ds) else none
noncomputable def lstD (fr : Rho → Option (List PyData)) : Rho → Option PyData := fun ρ => (fr ρ).bind fun ds => if few ds = true then some (.list ds) else none
theorem pd_tup {x1} {fr : Rho → Option (List PyData)} (h : PAD X es fr) : PD X (.Tuple es x1 pos) (tupD fr) := by
 with_unfolding_all
  refine PE.imp (pe_tup h) fun σ H Q ⟨ρ, d, e, h, k⟩ => ?_
  cases h1 : fr ρ with
  | none => simp [tupD, h1] at h
  | some ds =>
   by_cases hf : few ds = true
   ·have : PyData.tuple ds = d := by simpa [tupD, h1, hf] using h
    subst this
    refine ⟨ρ, ds, e, h1, fun vs H1 s1 r1 => ⟨few_le (by rw [r1.length]; simpa [few] using hf), fun p hp => k _ _ (s1.trans (same_upd hp)) ⟨p, vs, rfl, SqT.of upd_same, Reps.mono (same_upd hp) _ _ r1⟩⟩⟩
   ·simp [tupD, h1, hf] at h
theorem pd_lst {fr : Rho → Option (List PyData)} (h : PAD X es fr) : PD X (.List es pos) (lstD fr) := by
 with_unfolding_all
  refine PE.imp (pe_lst h) fun σ H Q ⟨ρ, d, e, h, k⟩ => ?_
  cases h1 : fr ρ with
  | none => simp [lstD, h1] at h
  | some ds =>
   by_cases hf : few ds = true
   ·have : PyData.list ds = d := by simpa [lstD, h1, hf] using h
    subst this
    refine ⟨ρ, ds, e, h1, fun vs H1 s1 r1 => ⟨few_le (by rw [r1.length]; simpa [few] using hf), fun p hp => k _ _ (s1.trans (same_upd hp)) ⟨p, vs, rfl, upd_same, Reps.mono (same_upd hp) _ _ r1⟩⟩⟩
   ·simp [lstD, h1, hf] at h
end
end BX
end
section
namespace BX
open PySem PySem.Spec L2
open PyProof.Rows hiding St
section
variable {X : Cx} {e a b c tg src : Expr} {es : List Expr} {st : Stmt} {sts rest : List Stmt} {fa fb fc : Rho → Option PyData} {F G : Rho → Option Out} {pos : Pos}
noncomputable def retD (fa : Rho → Option PyData) : Rho → Option Out := fun ρ => (fa ρ).map Out.rt
theorem psd_ret (h : PD X e fa) : PSD X (.Return (some e) pos) (retD fa) := by
 with_unfolding_all
  refine PS.imp (ps_ret h) fun D σ H ⟨ρ, o, en, q, k⟩ => ?_
  cases h1 : fa ρ with
  | none => simp [retD, h1] at q
  | some d =>
   have : Out.rt d = o := by simpa [retD, h1] using q
   subst this
   exact ⟨ρ, d, en, h1, k⟩
noncomputable def ifS (tc : Rho → Option Bool) (F G : Rho → Option Out) : Rho → Option Out := fun ρ => (tc ρ).bind fun x => if x = true then F ρ else G ρ
theorem psd_if {l r : List Stmt} {tc : Rho → Option Bool} (hc : PTD X c tc) (hl : PSsD X l F) (hr : PSsD X r G) : PSD X (.If c l r pos) (ifS tc F G) := by
 with_unfolding_all
  refine PS.imp (ps_if hc hl hr) fun D σ H ⟨ρ, o, en, q, k⟩ => ?_
  cases h1 : tc ρ with
  | none => simp [ifS, h1] at q
  | some x =>
   refine ⟨ρ, x, en, h1, fun H1 s1 => ?_⟩
   cases x with
   | true => rw [if_pos rfl]; exact ⟨ρ, o, en.mono s1, by simpa [ifS, h1] using q, k.mono s1⟩
   | false => rw [if_neg Bool.false_ne_true]; exact ⟨ρ, o, en.mono s1, by simpa [ifS, h1] using q, k.mono s1⟩
noncomputable def nxtS : Rho → Option Out := fun ρ => some (.nx ρ)
noncomputable def seqS (F G : Rho → Option Out) : Rho → Option Out := fun ρ => (F ρ).bind fun o => match o with
 | .nx ρ' => G ρ'
 | o => some o
theorem pssd_nil : PSsD X [] nxtS := by
 with_unfolding_all
  refine PSs.imp pss_nil fun D σ H ⟨ρ, o, en, q, k⟩ => ?_
  cases q
  exact k σ H (Same.refl H) en
theorem pssd_cons (h1 : PSD X st F) (h2 : PSsD X rest G) : PSsD X (st :: rest) (seqS F G) := by
  with_unfolding_all
   refine PSs.imp (pss_cons h1 h2) fun D σ H ⟨ρ, o, en, q, k⟩ => ?_
   cases hf : F ρ with
   | none => simp [seqS, hf] at q
   | some p =>
     refine ⟨ρ, p, en, hf, ?_⟩
     cases p with
     | nx ρ' => exact fun σ' H' s' r' => ⟨ρ', o, r', by simpa [seqS, hf] using q, k.mono s'⟩
     | rt d => have : Out.rt d = o := by simpa [seqS, hf] using q
               subst this; exact k
     | bk d => have : Out.bk d = o := by simpa [seqS, hf] using q
               subst this; exact k
     | ct d => have : Out.ct d = o := by simpa [seqS, hf] using q
               subst this; exact k
noncomputable def nevS : Rho → Option Out := fun _ => none
theorem pssd_never : PSsD X sts nevS := by
 with_unfolding_all exact (PSs.imp pss_never fun D σ H ⟨ρ, o, en, q, k⟩ => by cases q)
noncomputable def drpS (fa : Rho → Option PyData) : Rho → Option Out := fun ρ => (fa ρ).map fun _ => .nx ρ
theorem psd_expr (h : PD X e fa) (hs : swapsWith e none pos.line X.env = pure false := by rfl) : PSD X (.Expr e pos) (drpS fa) := by
 with_unfolding_all
  refine PS.imp (ps_expr h hs) fun D σ H ⟨ρ, o, en, q, k⟩ => ?_
  cases h1 : fa ρ with
  | none => simp [drpS, h1] at q
  | some d =>
   have : Out.nx ρ = o := by simpa [drpS, h1] using q
   subst this
   exact ⟨ρ, d, en, h1, fun v H' s r => k σ H' s (en.mono s)⟩
noncomputable def asgN (i : Nat) (d : PyData) (ρ : Rho) : Option Rho := some (ρ.set i (some d))
theorem pgd_name (i : Nat) {x : Str} (hN : X.N.Nodup) (hi : X.N[i]? = some x := by rfl) (hx : Loc X.env.scope x := by first | exact Or.inl rfl | exact Or.inr rfl)
  (hf : X.fn x = true ∨ X.env.scope.names.lookup x = some .local := by first | exact .inl rfl | exact .inr rfl | assumption) : PGD X (.Name x pos) (asgN i) := by
 with_unfolding_all
  refine PG.imp (pg_name hN hi hx hf) fun v σ H Q ⟨ρ, d, ρ', en, r, q, k⟩ => ?_
  cases q
  exact k _ H (Same.refl H) (en.set r)
@[irreducible] noncomputable def PGsD (X : Cx) (ts : List Expr) (ga : List PyData → Rho → Option Rho) : Prop := PGs X ts fun vs σ H Q => ∃ ρ ds ρ', EnvR X.K H ρ σ ∧ Reps X.K H ds vs ∧ ga ds ρ = some ρ' ∧ ∀ σ' H', Same H H' → EnvR X.K H' ρ' σ' → Q σ' H'
noncomputable def asgNil (ds : List PyData) (ρ : Rho) : Option Rho := match ds with
 | [] => some ρ
 | _ => none
noncomputable def asgCons (ga : PyData → Rho → Option Rho) (gr : List PyData → Rho → Option Rho) (ds : List PyData) (ρ : Rho) : Option Rho := match ds with
 | d :: r => (ga d ρ).bind fun ρ1 => gr r ρ1
 | [] => none
theorem PGs.imp {ts : List Expr} {t t' : TGs} (h : PGs X ts t) (hi : ∀ v σ H Q, t' v σ H Q → t v σ H Q) : PGs X ts t' := fun pins s σ H v u Q I r q => h pins s σ H v u Q I r (hi v σ H Q q)
theorem pgsd_nil : PGsD X [] asgNil := by
 with_unfolding_all
  refine PGs.imp pgs_nil fun vs σ H Q ⟨ρ, ds, ρ', en, r, q, k⟩ => ?_
  cases ds with
  | nil => cases r; cases q; exact ⟨rfl, k σ H (Same.refl H) en⟩
  | cons d ds => cases q
theorem pgsd_cons {ga : PyData → Rho → Option Rho} {gr : List PyData → Rho → Option Rho} (h1 : PGD X e ga) (h2 : PGsD X es gr)
  (hs : (assignEach (e :: es) X.env).map (·.2) = assign e X.env :: (assignEach es X.env).map (·.2) := by rfl) : PGsD X (e :: es) (asgCons ga gr) := by
 with_unfolding_all
  refine PGs.imp (pgs_cons h1 h2 hs) fun vs σ H Q ⟨ρ, ds, ρ', en, r, q, k⟩ => ?_
  cases ds with
  | nil => cases q
  | cons d ds =>
   obtain ⟨x, rr, e1, r1, r2⟩ := r
   subst e1
   cases h3 : ga d ρ with
   | none => simp [asgCons, h3] at q
   | some ρ1 =>
    refine ⟨x, rr, rfl, ρ, d, ρ1, en, r1, h3, fun σ1 H1 s1 e1 => ⟨ρ1, ds, ρ', e1, Reps.mono s1 ds rr r2, by simpa [asgCons, h3] using q, fun σ2 H2 s2 e2 => k σ2 H2 (s1.trans s2) e2⟩⟩
noncomputable def asgT (n : Nat) (gr : List PyData → Rho → Option Rho) (d : PyData) (ρ : Rho) : Option Rho := match d with
 | .tuple ds => if ds.length = n then gr ds ρ else none
 | _ => none
theorem pgd_tup {k n : Nat} {gr : List PyData → Rho → Option Rho} (hc : X.calm = true) (h : PGsD X es gr) (hn : (assignEach es X.env).length = n := by rfl) (hst : (assignEach es X.env).findIdx? (·.1) = none := by rfl) :
  PGD X (.Tuple es k pos) (asgT n gr) := by
 with_unfolding_all
  refine PG.imp (pg_tup hc h hn hst) fun v σ H Q ⟨ρ, d, ρ', en, r, q, k⟩ => ?_
  cases d with
  | tuple ds =>
   obtain ⟨a, xs, e1, e2, e3⟩ := r
   by_cases hl : ds.length = n
   ·exact ⟨a, xs, e1, e2, by rw [e3.length]; exact hl, ρ, ds, ρ', en, e3, by simpa [asgT, hl] using q, k⟩
   ·simp [asgT, hl] at q
  | _ => simp [asgT] at q
noncomputable def asgS (fa : Rho → Option PyData) (ga : PyData → Rho → Option Rho) : Rho → Option Out := fun ρ => (fa ρ).bind fun d => (ga d ρ).map Out.nx
theorem psd_set (i : Nat) {x : Str} {pos' : Pos} (hN : X.N.Nodup) (he : PD X e fa) (hi : X.N[i]? = some x := by rfl) (hx : Loc X.env.scope x := by first | exact Or.inl rfl | exact Or.inr rfl) (hs : swapsWith e (some (.Name x pos')) pos.line X.env = pure false := by rfl)
  (hf : X.fn x = true ∨ X.env.scope.names.lookup x = some .local := by first | exact .inl rfl | exact .inr rfl | assumption) : PSD X (.Assign [.Name x pos'] e pos) (asgS fa (asgN i)) := by
 with_unfolding_all
  refine PS.imp (ps_set hN hi hx he hs hf) fun D σ H ⟨ρ, o, en, q, k⟩ => ?_
  cases h1 : fa ρ with
  | none => simp [asgS, h1] at q
  | some d =>
   have : Out.nx (ρ.set i (some d)) = o := by simpa [asgS, h1, asgN] using q
   subst this
   exact ⟨ρ, d, en, h1, fun v H1 s1 r1 => k _ H1 s1 ((en.mono s1).set r1)⟩
noncomputable def Yields (K : PySem.W.Frag) (J : It) (ds : List PyData) (H0 : Hp) : Prop := ∀ i H, SameE H0 H → (i < ds.length → J.go i H) ∧ (ds.length ≤ i → J.stop i H) ∧ ∀ x H', J.yld i H x H' → Same H H' ∧ ∀ d, ds[i]? = some d → Rep K H' d x
noncomputable def tDI (K : PySem.W.Frag) (fi : Rho → Option (List PyData)) : TI := fun σ H R => ∃ ρ ds, EnvR K H ρ σ ∧ fi ρ = some ds ∧ ∀ J H', Same H H' → Yields K J ds H' → R J H'
@[irreducible] noncomputable def PID (X : Cx) (tg src : Expr) (fi : Rho → Option (List PyData)) : Prop := PI X tg src (tDI X.K fi)
theorem PI.imp {t t' : TI} (h : PI X tg src t) (hi : ∀ σ H R, t' σ H R → t σ H R) : PI X tg src t' := fun pins s σ H R I q => h pins s σ H R I (hi σ H R q)
noncomputable def itemsL : PyData → Option (List PyData)
 | .list ds => some ds
 | _ => none
noncomputable def itemsT : PyData → Option (List PyData)
 | .tuple ds => some ds
 | _ => none
noncomputable def itL (fa : Rho → Option PyData) : Rho → Option (List PyData) := fun ρ => (fa ρ).bind itemsL
noncomputable def itT (fa : Rho → Option PyData) : Rho → Option (List PyData) := fun ρ => (fa ρ).bind itemsT
theorem pid_list (h : PD X e fa) : PID X tg e (itL fa) := by
 with_unfolding_all
  refine PI.imp (pi_list h) fun σ H R ⟨ρ, ds, en, q, k⟩ => ?_
  cases h1 : fa ρ with
  | none => simp [itL, h1] at q
  | some d =>
   cases d with
   | list es =>
    have : es = ds := by simpa [itL, h1, itemsL] using q
    subst this
    refine ⟨ρ, _, en, h1, fun v H1 s1 r1 => ?_⟩
    obtain ⟨a, xs, e1, e2, e3⟩ := r1
    refine ⟨a, e1, ⟨xs, SqL.of e2⟩, k _ H1 s1 fun i H2 s2 => ⟨fun hi => ?_, fun hi => ?_, fun x H' y => ?_⟩⟩
    ·exact ⟨xs, xs[i]'(by rw [e3.length]; exact hi), SqL.of (s2 _ _ e2 fun _ z => nomatch z), by simp [e3.length, hi]⟩
    ·exact ⟨xs, SqL.of (s2 _ _ e2 fun _ z => nomatch z), by rw [e3.length]; exact hi⟩
    ·obtain ⟨z1, z2⟩ := y
     subst z1
     refine ⟨Same.refl _, fun d hd => ?_⟩
     obtain ⟨y, e4, e5⟩ := (Reps.monoE s2 _ _ e3).get hd
     have := z2 xs (SqL.of (s2 _ _ e2 fun _ z => nomatch z))
     rw [e4] at this; cases this
     exact e5
   | _ => simp [itL, h1, itemsL] at q
theorem pid_tup (h : PD X e fa) : PID X tg e (itT fa) := by
 with_unfolding_all
  refine PI.imp (pi_tup h) fun σ H R ⟨ρ, ds, en, q, k⟩ => ?_
  cases h1 : fa ρ with
  | none => simp [itT, h1] at q
  | some d =>
   cases d with
   | tuple es =>
    have : es = ds := by simpa [itT, h1, itemsT] using q
    subst this
    refine ⟨ρ, _, en, h1, fun v H1 s1 r1 => ?_⟩
    obtain ⟨a, xs, e1, e2, e3⟩ := r1
    refine ⟨a, e1, ⟨xs, e2⟩, k _ H1 s1 fun i H2 s2 => ⟨fun hi => ?_, fun hi => ?_, fun x H' y => ?_⟩⟩
    ·exact ⟨xs, xs[i]'(by rw [e3.length]; exact hi), SameE.tup s2 e2, by simp [e3.length, hi]⟩
    ·exact ⟨xs, SameE.tup s2 e2, by rw [e3.length]; exact hi⟩
    ·obtain ⟨z1, z2⟩ := y
     subst z1
     refine ⟨Same.refl _, fun d hd => ?_⟩
     obtain ⟨y, e4, e5⟩ := (Reps.monoE s2 _ _ e3).get hd
     have := z2 xs (SameE.tup s2 e2)
     rw [e4] at this; cases this
     exact e5
   | _ => simp [itT, h1, itemsT] at q
noncomputable def rngL (lo : Int) (n : Nat) : List PyData := (List.range n).map fun (k : Nat) => PyData.int (lo + (k : Int))
noncomputable def rng1 (ds : List PyData) : Option (List PyData) := match ds with
 | [.int j] => if -(2 ^ 62) ≤ j ∧ j < 2 ^ 62 then some (rngL 0 j.toNat) else none
 | _ => none
theorem yields_range {K : PySem.W.Frag} {H : Hp} (lo : Int) (n : Nat) : Yields K (Itr lo n) (rngL lo n) H := fun i H2 s2 => by
 have hl : (rngL lo n).length = n := by simp [rngL]
 refine ⟨fun hi => by rw [hl] at hi; exact hi, fun hi => by rw [hl] at hi; exact hi, fun x H' y => ?_⟩
 obtain ⟨z1, z2⟩ := y
 subst z1
 refine ⟨Same.refl _, fun d hd => ?_⟩
 have hi : i < n := by
  have := (List.getElem?_eq_some_iff.mp hd).1
  rw [hl] at this; exact this
 have : d = .int (lo + i) := by
  simp [rngL, hi] at hd
  exact hd.symm
 subst this
 exact z2
theorem pid_range1 {p pos : Pos} {fr : Rho → Option (List PyData)} (hg : Gl X "range") (hm : X.mg "range" = none) (ha : PAD X [a] fr) (hs : starEach [a] X.env = [(false, eval a X.env)] := by rfl) : PID X tg (.Call (.Name "range" p) [a] [] pos) (fun ρ => (fr ρ).bind rng1) := by
 with_unfolding_all
  refine PI.imp (pi_range1 hg hm ha hs) fun σ H R ⟨ρ, ds, en, q, k⟩ => ?_
  cases h1 : fr ρ with
  | none => simp [h1] at q
  | some as =>
   have q' : rng1 as = some ds := by simpa [h1] using q
   refine ⟨ρ, as, en, h1, fun vs H1 s1 r1 => ?_⟩
   unfold rng1 at q'
   split at q'
   ·rename_i j
    split at q'
    ·rename_i hj
     cases q'
     obtain ⟨x, r, e1, e2, e3⟩ := r1
     cases (show x = V.int j from e2)
     cases (show r = [] from e3)
     exact ⟨j, e1, hj.1, hj.2, k _ H1 s1 (yields_range 0 j.toNat)⟩
    ·cases q'
   ·cases q'
noncomputable def loopD (ga : PyData → Rho → Option Rho) (F : Rho → Option Out) : List PyData → Rho → Option Out
 | [], ρ => some (.nx ρ)
 | d :: r, ρ => (ga d ρ).bind fun ρ1 => (F ρ1).bind fun o => match o with
  | .nx ρ2 => loopD ga F r ρ2
  | .ct ρ2 => loopD ga F r ρ2
  | .bk ρ2 => some (.nx ρ2)
  | .rt d => some (.rt d)
noncomputable def forS (fi : Rho → Option (List PyData)) (ga : PyData → Rho → Option Rho) (F : Rho → Option Out) : Rho → Option Out := fun ρ => (fi ρ).bind fun ds => loopD ga F ds ρ
theorem psd_for {body : List Stmt} {fi : Rho → Option (List PyData)} {ga : PyData → Rho → Option Rho} (hp : PassesOwn (model X.prog X.w) X.A X.env X.xe) (hc : X.calm = true) (hi : PID X tg src fi) (hg : PGD X tg ga) (hb : PSsD X body F)
  (hs : ∀ x, foldedSetIterable src X.env x = pure x := by intro _; rfl) : PSD X (.For tg src body [] pos) (forS fi ga F) := by
 with_unfolding_all
  refine PS.imp (ps_for hp hc hi hg hb hs) fun D σ H ⟨ρ, o, en, q, k⟩ => ?_
  cases h1 : fi ρ with
  | none => simp [forS, h1] at q
  | some ds =>
   have q' : loopD ga F ds ρ = some o := by simpa [forS, h1] using q
   refine ⟨ρ, ds, en, h1, fun J H1 s1 Y => ?_⟩
   refine ⟨fun i m σ H2 => m = ds.length - i ∧ i ≤ ds.length ∧ Same H1 H2 ∧ ∃ ρ2, EnvR X.K H2 ρ2 σ ∧ loopD ga F (ds.drop i) ρ2 = some o, ⟨ds.length, by simp, Nat.zero_le _, Same.refl _, ρ, en.mono s1, by simpa using q'⟩, ?_⟩
   rintro i m σ2 H2 ⟨rfl, hi, s2, ρ2, en2, q2⟩
   obtain ⟨g1, g2, g3⟩ := Y i H2 (Same.e s2)
   by_cases hlt : i < ds.length
   ·right
    have hd : ds.drop i = ds[i] :: ds.drop (i + 1) := List.drop_eq_getElem_cons hlt
    rw [hd] at q2
    refine ⟨g1 hlt, fun σ3 H3 => Same H1 H3 ∧ ∃ ρ3, EnvR X.K H3 ρ3 σ3 ∧ loopD ga F (ds.drop (i + 1)) ρ3 = some o, fun σ3 H3 ⟨a1, ρ3, a2, a3⟩ => ⟨ds.length - (i + 1), by omega, rfl, hlt, a1, ρ3, a2, a3⟩, fun x H3 y => ?_⟩
    obtain ⟨s3, r3⟩ := g3 x H3 y
    have r3' := r3 ds[i] (by simp [hlt])
    cases h4 : ga ds[i] ρ2 with
    | none => simp [loopD, h4] at q2
    | some ρ4 =>
     refine ⟨ρ2, ds[i], ρ4, en2.mono s3, r3', h4, fun σ5 H5 s5 en5 => ?_⟩
     cases h5 : F ρ4 with
     | none => simp [loopD, h4, h5] at q2
     | some p =>
      refine ⟨ρ4, p, en5, h5, ?_⟩
      have s15 := s2.trans (s3.trans s5)
      cases p with
      | nx ρ6 => exact fun σ6 H6 s6 en6 => ⟨s15.trans s6, ρ6, en6, by simpa [loopD, h4, h5] using q2⟩
      | ct ρ6 => exact fun σ6 H6 s6 en6 => ⟨s15.trans s6, ρ6, en6, by simpa [loopD, h4, h5] using q2⟩
      | bk ρ6 =>
       have : Out.nx ρ6 = o := by simpa [loopD, h4, h5] using q2
       subst this
       exact fun σ6 H6 s6 en6 => k σ6 H6 (s1.trans (s15.trans s6)) en6
      | rt d =>
       have : Out.rt d = o := by simpa [loopD, h4, h5] using q2
       subst this
       exact fun v H6 s6 r6 => k v H6 (s1.trans (s15.trans s6)) r6
   ·left
    have he : i = ds.length := by omega
    have hn : ds.drop i = [] := by rw [he]; simp
    rw [hn] at q2
    have : Out.nx ρ2 = o := by simpa [loopD] using q2
    subst this
    exact ⟨g2 (by omega), k σ2 H2 (s1.trans s2) en2⟩
noncomputable def capR (cap : List (Option Nat)) (ρ : Rho) : Rho := cap.map fun o => o.bind fun i => (ρ[i]?).join
theorem EnvR.cap {K : PySem.W.Frag} {H : Hp} {ρ : Rho} {σ : St} (e : EnvR K H ρ σ) (cap : List (Option Nat)) : EnvR K H (capR cap ρ) (capS cap σ) := by
 refine ⟨by simp [capR, capS], fun j d q => ?_⟩
 unfold capR at q
 unfold capS
 rw [List.getElem?_map] at q ⊢
 cases h1 : cap[j]? with
 | none => rw [h1] at q; cases q
 | some o =>
  rw [h1] at q
  cases o with
  | none => cases q
  | some i =>
   have q' : lkp i ρ = some d := by simpa [lkp] using q
   obtain ⟨v, e1, e2⟩ := e.at' i d (lkp_some q')
   exact ⟨v, by simp [e1], e2⟩
noncomputable def compL (ga : PyData → Rho → Option Rho) (ft : Rho → Option Bool) (fe : Rho → Option PyData) : List PyData → Rho → Option (List PyData)
 | [], _ => some []
 | d :: r, τ => (ga d τ).bind fun τ2 => (ft τ2).bind fun b => if b = true then (fe τ2).bind fun y => (compL ga ft fe r τ2).map fun ys => y :: ys else compL ga ft fe r τ2
noncomputable def compD (fi : Rho → Option (List PyData)) (cap : List (Option Nat)) (ga : PyData → Rho → Option Rho) (ft : Rho → Option Bool) (fe : Rho → Option PyData) : Rho → Option PyData := fun ρ => (fi ρ).bind fun ds =>
 if few ds = true then (compL ga ft fe ds (capR cap ρ)).map PyData.list else none
@[irreducible] noncomputable def PTsD (X : Cx) (ts : List Expr) (f : Rho → Option Bool) : Prop := PTs X ts (tDT X.K f)
noncomputable def truT (_ : Rho) : Option Bool := some true
theorem ptsd_nil : PTsD X [] truT := by
 with_unfolding_all exact (fun pins s σ H Q I ⟨ρ, b, en, q, k⟩ => by cases q; exact pts_nil pins s σ H Q I (k H (Same.refl H)))
theorem ptsd_one {ft : Rho → Option Bool} (h : PTD X c ft) : PTsD X [c] ft := by
 with_unfolding_all exact (pts_one h)
theorem pd_comp {el : Expr} {ts : List Expr} {sc : Scope} {ps : Pos} {fi : Rho → Option (List PyData)} {ga : PyData → Rho → Option Rho} {ft : Rho → Option Bool} {fe : Rho → Option PyData} (N' : List Str) (cap : List (Option Nat)) (hc : X.calm = true) (hi : PID X tg src fi) (ok : CompOk X sc N' cap)
  (body : ∀ cl C s0 H0 fp pn, PGD (blk X N' sc cl C s0 H0 fp pn) tg ga ∧ PTsD (blk X N' sc cl C s0 H0 fp pn) ts ft ∧ PD (blk X N' sc cl C s0 H0 fp pn) el fe)
  (hs : ∀ x, foldedSetIterable src X.env x = pure x := by intro _; rfl) : PD X (.ListComp el [⟨tg, src, ts, 0⟩] sc ps) (compD fi cap ga ft fe) := by
 with_unfolding_all
  refine PE.imp (pe_comp (g := tDG X.K ga) (tt := tDT X.K ft) (te := tD X.K fe) hc hi ok (fun cl C s0 H0 fp pn => body cl C s0 H0 fp pn) hs) fun σ H Q ⟨ρ, d, en, q, k⟩ => ?_
  cases h1 : fi ρ with
  | none => simp [compD, h1] at q
  | some ds =>
   by_cases hf : few ds = true
   ·cases h2 : compL ga ft fe ds (capR cap ρ) with
    | none => simp [compD, h1, hf, h2] at q
    | some ys =>
     have : PyData.list ys = d := by simpa [compD, h1, hf, h2] using q
     subst this
     refine ⟨ρ, ds, en, h1, fun J H1 s1 Y => ?_⟩
     refine ⟨fun i m τ us H2 => m = ds.length - i ∧ i ≤ ds.length ∧ Same H1 H2 ∧ us.length ≤ i ∧ ∃ ρ2 zs ws, EnvR X.K H2 ρ2 τ ∧ Reps X.K H2 zs us ∧ compL ga ft fe (ds.drop i) ρ2 = some ws ∧ ys = zs ++ ws,
      ⟨ds.length, by simp, Nat.zero_le _, Same.refl _, Nat.le_refl _, capR cap ρ, [], ys, (en.mono s1).cap cap, rfl, by simpa using h2, rfl⟩, ?_⟩
     rintro i m τ us H2 ⟨rfl, hi', s2, hu, ρ2, zs, ws, en2, r2, q2, ey⟩
     have hsm : us.length < sizeLine := Nat.lt_of_le_of_lt (Nat.le_trans hu hi') (Nat.lt_of_lt_of_le (by simpa [few] using hf) (by rw [sizeLine_eq]; decide : 1000000 ≤ sizeLine))
     obtain ⟨g1, g2, g3⟩ := Y i H2 (Same.e s2)
     refine ⟨hsm, ?_⟩
     by_cases hlt : i < ds.length
     ·right
      have hd : ds.drop i = ds[i] :: ds.drop (i + 1) := List.drop_eq_getElem_cons hlt
      rw [hd] at q2
      refine ⟨g1 hlt, fun x H3 y => ?_⟩
      obtain ⟨s3, r3⟩ := g3 x H3 y
      have r3' := r3 ds[i] (by simp [hlt])
      cases h4 : ga ds[i] ρ2 with
      | none => simp [compL, h4] at q2
      | some ρ4 =>
       refine ⟨ρ2, ds[i], ρ4, en2.mono s3, r3', h4, fun σ5 H5 s5 en5 => ?_⟩
       cases h5 : ft ρ4 with
       | none => simp [compL, h4, h5] at q2
       | some b =>
        refine ⟨ρ4, b, en5, h5, fun H6 s6 => ?_⟩
        have s26 := s3.trans (s5.trans s6)
        cases b with
        | false =>
         refine iteF ?_
         exact ⟨ds.length - (i + 1), by omega, rfl, hlt, s2.trans s26, by omega, ρ4, zs, ws, en5.mono s6, Reps.mono s26 _ _ r2, by simpa [compL, h4, h5] using q2, ey⟩
        | true =>
         refine iteT ?_
         cases h6 : fe ρ4 with
         | none => simp [compL, h4, h5, h6] at q2
         | some y =>
          cases h7 : compL ga ft fe (ds.drop (i + 1)) ρ4 with
          | none => simp [compL, h4, h5, h6, h7] at q2
          | some ws' =>
           have hw : y :: ws' = ws := by simpa [compL, h4, h5, h6, h7] using q2
           refine ⟨ρ4, y, en5.mono s6, h6, fun v H7 s7 r7 => ?_⟩
           refine ⟨ds.length - (i + 1), by omega, rfl, hlt, s2.trans (s26.trans s7), by rw [List.length_append]; simp; omega, ρ4, zs ++ [y], ws', (en5.mono s6).mono s7, (Reps.mono (s26.trans s7) _ _ r2).append ⟨v, [], rfl, r7, rfl⟩, h7, ?_⟩
           rw [ey, ← hw]; simp
     ·left
      have he : i = ds.length := by omega
      have hn : ds.drop i = [] := by rw [he]; simp
      rw [hn] at q2
      have hw : [] = ws := by simpa [compL] using q2
      subst hw
      have ey' : ys = zs := by simpa using ey
      subst ey'
      exact ⟨g2 (by omega), fun l hl => k _ _ (s1.trans (s2.trans (same_upd hl))) ⟨l, us, rfl, upd_same, Reps.mono (same_upd hl) _ _ r2⟩⟩
   ·simp [compD, h1, hf] at q
noncomputable def Pur (K : PySem.W.Frag) (n : Nat) (g : List PyData → Option PyData) : Sp := fun vs H Q _ => ∃ ds d, ds.length = n ∧ Reps K H ds vs ∧ g ds = some d ∧ ∀ v H', Same H H' → Rep K H' d v → Q v H'
noncomputable def calD (g : List PyData → Option PyData) (fr : Rho → Option (List PyData)) : Rho → Option PyData := fun ρ => (fr ρ).bind g
theorem pd_call {k n : Nat} {f : Addr} {fd : FuncData} {ps : List Str} {g : List PyData → Option PyData} {x : Str} {p : Pos} {fr : Rho → Option (List PyData)} (FO : FnOk X.prog X.w X.K X.mg X.base CX0 k f fd ps (Pur X.K n g)) (hr : Room k X.A) (hm : X.mg x = some (.ref f)) (hk : PySem.W.keepIn X.K (.ref f) = true)
  (hb : Binds X.K fd ps []) (hn : (e :: es).length = n) (ha : PAD X (e :: es) fr) (hl : ∀ ρ ds, fr ρ = some ds → ds.length = (e :: es).length) (hg : Gl X x := by rfl) (hdb : (x == ("__debug__" : Str)) = false := by decide) (he : starEach (e :: es) X.env = (false, eval e X.env) :: starEach es X.env := by rfl)
  (hpl : (backTo pos (starEach es X.env)).any (·.1) = false := by rfl) : PD X (.Call (.Name x p) (e :: es) [] pos) (calD g fr) := by
 with_unfolding_all
  refine PE.imp (pe_call FO hr hg hm hk hb .nil pass0 ha hdb he hpl) fun σ H Q ⟨ρ, d, en, q, k⟩ => ?_
  cases h1 : fr ρ with
  | none => simp [calD, h1] at q
  | some ds =>
   refine ⟨ρ, ds, en, h1, fun vs H1 s1 r1 => ?_⟩
   refine ⟨ds, d, by rw [hl ρ ds h1, hn], by rw [List.append_nil]; exact r1, by simpa [calD, h1] using q, fun v H' s r => k v H' (s1.trans s) r⟩
noncomputable def CallD (X : Cx) (f : Value) (g : List PyData → Option PyData) : Prop := ∃ r, CallR X f r ∧ ∀ ds d xs H Q, g ds = some d → Reps X.K H ds xs → (∀ v H', Same H H' → Rep X.K H' d v → Q v H') → r xs H Q
theorem pd_callB {id : String} {g : List PyData → Option PyData} {x : Str} {p : Pos} {fr : Rho → Option (List PyData)} (hc : CallD X (.builtin id) g) (hm : X.mg x = none) (hv : bootBuiltins x = some (.builtin id)) (ha : PAD X (e :: es) fr) (hg : Gl X x := by rfl) (hn : x ≠ "__name__" := by decide) (hdb : (x == ("__debug__" : Str)) = false := by decide)
  (he : starEach (e :: es) X.env = (false, eval e X.env) :: starEach es X.env := by rfl) (hpl : (backTo pos (starEach es X.env)).any (·.1) = false := by rfl) : PD X (.Call (.Name x p) (e :: es) [] pos) (calD g fr) := by
 with_unfolding_all
  obtain ⟨r, h1, h2⟩ := hc
  refine PE.imp (pe_callB h1 hg hm hv ha hn hdb he hpl) fun σ H Q ⟨ρ, d, en, q, k⟩ => ?_
  cases h3 : fr ρ with
  | none => simp [calD, h3] at q
  | some ds => exact ⟨ρ, ds, en, h3, fun vs H1 s1 r1 => h2 ds d vs H1 Q (by simpa [calD, h3] using q) r1 fun v H' s r => k v H' (s1.trans s) r⟩
theorem pd_callTy {T : String} {g : List PyData → Option PyData} {x : Str} {p : Pos} {fr : Rho → Option (List PyData)} (hc : CallD X (.type T) g) (hm : X.mg x = none) (hv : bootBuiltins x = some (.type T)) (ha : PAD X (e :: es) fr) (hg : Gl X x := by rfl) (hn : x ≠ "__name__" := by decide) (hdb : (x == ("__debug__" : Str)) = false := by decide)
  (he : starEach (e :: es) X.env = (false, eval e X.env) :: starEach es X.env := by rfl) (hpl : (backTo pos (starEach es X.env)).any (·.1) = false := by rfl) : PD X (.Call (.Name x p) (e :: es) [] pos) (calD g fr) := by
 with_unfolding_all
  obtain ⟨r, h1, h2⟩ := hc
  refine PE.imp (pe_callTy h1 hg hm hv ha hn hdb he hpl) fun σ H Q ⟨ρ, d, en, q, k⟩ => ?_
  cases h3 : fr ρ with
  | none => simp [calD, h3] at q
  | some ds => exact ⟨ρ, ds, en, h3, fun vs H1 s1 r1 => h2 ds d vs H1 Q (by simpa [calD, h3] using q) r1 fun v H' s r => k v H' (s1.trans s) r⟩
end
noncomputable def startR (N : List Str) (ds : List PyData) : Rho := ds.map some ++ List.replicate (N.length - ds.length) none
theorem env_start {K : PySem.W.Frag} {H : Hp} {N : List Str} {ds : List PyData} {vs : List V} (r : Reps K H ds vs) : EnvR K H (startR N ds) (L2.start N vs) := by
 have hl := r.length
 refine ⟨by simp [startR, L2.start, hl], fun i d q => ?_⟩
 unfold startR at q
 by_cases hi : i < ds.length
 ·rw [List.getElem?_append_left (by simpa using hi), List.getElem?_map] at q
  cases e : ds[i]? with
  | none => rw [e] at q; cases q
  | some c =>
   rw [e] at q; cases q
   obtain ⟨x, e1, e2⟩ := r.get e
   refine ⟨x, ?_, e2⟩
   unfold L2.start
   rw [List.getElem?_append_left (by simp; omega), List.getElem?_map, e1]; rfl
 ·rw [List.getElem?_append_right (by simpa using hi), List.getElem?_replicate] at q
  split at q <;> cases q
noncomputable def bodyD (N : List Str) (n : Nat) (B : Rho → Option Out) (ds : List PyData) : Option PyData := if ds.length = n then match B (startR N ds) with
 | some (.rt d) => some d
 | some (.nx _) => some .none
 | _ => none else none
section
variable {P : Program} {w : World} {K : PySem.W.Frag} {mg : Str → Option Value} {base : Heap}
theorem fn_pure {x qual : Str} {st : Stmt} {f : Addr} {fd : FuncData} {N ps : List Str} {k : Nat} {B : Rho → Option Out} (F : Fun K x qual st f fd) (S : FnScope N ps (defScope st))
  (body : ∀ (cdv : Value) (A : Around) (outer : List Env) (s : Shared) (H : Hp) (E : XK), Room k (A.deeper (envOfC qual (defScope st) s.heap.objs.size f cdv)) →
   PSsD (cxOf CX0 P w K mg base N qual (defScope st) f cdv A outer s H E).nox (defBody st) B) : FnOk P w K mg base CX0 (k + 1) f fd ps (Pur K ps.length (bodyD N ps.length B)) := by
 with_unfolding_all
  refine F.ok S (fun vs H Q E h => ?_) (fun cdv A outer s H vs Q E hr h => ?_)
  ·obtain ⟨ds, d, h1, h2, _⟩ := h
   rw [h2.length]; exact h1
  ·obtain ⟨ds, d, h1, h2, h3, h4⟩ := h
   refine ⟨_, body cdv A outer s H E hr, ?_⟩
   unfold bodyD at h3
   rw [if_pos h1] at h3
   cases hB : B (startR N ds) with
   | none => rw [hB] at h3; cases h3
   | some o =>
    refine ⟨startR N ds, o, env_start h2, hB, ?_⟩
    rw [hB] at h3
    cases o with
    | rt c => cases h3; exact fun v H' s r => h4 v H' s r
    | nx ρ => cases h3; exact fun σ H' s r => h4 .non H' s rfl
    | bk ρ => cases h3
    | ct ρ => cases h3
theorem fn_as {k n : Nat} {f : Addr} {fd : FuncData} {ps : List Str} {g g' : List PyData → Option PyData} (F : FnOk P w K mg base CX0 k f fd ps (Pur K n g)) (h : ∀ ds d, ds.length = n → g' ds = some d → g ds = some d) : FnOk P w K mg base CX0 k f fd ps (Pur K n g') :=
 F.imp fun vs H Q E ⟨ds, d, h1, h2, h3, h4⟩ => ⟨ds, d, h1, h2, h ds d h1 h3, h4⟩
end
end BX
end
section
namespace BX
open PySem PySem.Spec L2
open PyProof.Rows hiding St
section
variable {X : Cx}
noncomputable def rCat0 (K : PySem.W.Frag) : R2 := fun x y H Q => ∃ a b ys, x = .ref a ∧ y = .ref b ∧ SqT K H a [] ∧ SqT K H b ys ∧ Q (.ref b) H
theorem op_cat0 : OpR X (binaryOp .Add) (rCat0 X.K) := by
 intro pins s σ H x y v u Q I rx ry h
 obtain ⟨a, b, ys, rfl, rfl, ha, hb, q⟩ := h
 cases rx
 cases ry
 obtain ⟨its, r1, p1, _⟩ := I.tuple ha
 obtain ⟨its2, r2, p2, _⟩ := I.tuple hb
 cases r1
 obtain ⟨⟨c1, d1, t1, l1⟩, ho, hc, n, hd⟩ := id p1
 obtain ⟨⟨c2, d2, t2, l2⟩, ho2, hc2, n2, hd2⟩ := id p2
 simp only at hc hd hc2 hd2
 subst hc hd hc2 hd2
 exact concat_meets ⟨_, ho, rfl⟩ ⟨_, ho2, rfl⟩ noFill_tuple_add seq_tuple_add PySem.F.slot_tuple_add PySem.F.entry_tuple_add (PySem.F.args_tuple_add_2 _ _)
  (tuple_addW0 a b _ _ n n2 d1 d2 l1 l2 (by simp)) ⟨ho, ho2, ⟨.ref b, H, I, rfl, q⟩⟩
noncomputable def dAdd : PyData → PyData → Option PyData
 | .int i, .int j => some (.int (i + j))
 | .list xs, .list ys => if few (xs ++ ys) = true then some (.list (xs ++ ys)) else none
 | .tuple [], .tuple ys => some (.tuple ys)
 | .tuple (x :: xs), .tuple ys => if few ((x :: xs) ++ ys) = true then some (.tuple ((x :: xs) ++ ys)) else none
 | _, _ => none
theorem opd_add : OpD X (binaryOp .Add) dAdd := by
 refine ⟨_, op_add.or (op_cat.or (op_cat0.or op_catT)), fun p q d x y H Q h rx ry k => ?_⟩
 unfold dAdd at h
 split at h
 ·cases h
  cases (show x = _ from rx)
  cases (show y = _ from ry)
  exact .inl ⟨_, _, rfl, rfl, k _ H (Same.refl H) rfl⟩
 ·rename_i xs ys
  split at h
  ·rename_i hf
   cases h
   obtain ⟨a, us, e1, e2, e3⟩ := rx
   obtain ⟨b, ws, e4, e5, e6⟩ := ry
   have hl : us.length + ws.length < 1000000 := by
    rw [e3.length, e6.length]
    simp [few] at hf
    try simp only [List.length_cons]
    omega
   exact .inr (.inl ⟨a, b, us, ws, e1, e4, e2, e5, few_le hl, fun p hp => k _ _ (same_upd hp) ⟨p, _, rfl, upd_same, Reps.mono (same_upd hp) _ _ (e3.append e6)⟩⟩)
  ·cases h
 ·rename_i ys
  cases h
  obtain ⟨a, us, e1, e2, e3⟩ := rx
  cases (show us = [] from e3)
  obtain ⟨b, ws, e4, e5, e6⟩ := ry
  exact .inr (.inr (.inl ⟨a, b, ws, e1, e4, e2, e5, k _ H (Same.refl H) ⟨b, ws, rfl, e5, e6⟩⟩))
 ·rename_i z xs ys
  split at h
  ·rename_i hf
   cases h
   obtain ⟨a, us, e1, e2, e3⟩ := rx
   obtain ⟨b, ws, e4, e5, e6⟩ := ry
   have hl : us.length + ws.length < 1000000 := by
    rw [e3.length, e6.length]
    simp [few] at hf
    try simp only [List.length_cons]
    omega
   refine .inr (.inr (.inr ⟨a, b, us, ws, e1, e4, e2, e5, fun z => ?_, few_le hl, fun z => ?_, fun _ p hp => ?_⟩))
   ·have := e3.length; rw [z] at this; simp at this
   ·subst z
    have := e6.length
    have hy : ys = [] := List.length_eq_zero_iff.mp (by simpa using this.symm)
    subst hy
    exact k _ H (Same.refl H) ⟨a, us, rfl, e2, by simpa using e3⟩
   ·exact k _ _ (same_upd hp) ⟨p, _, rfl, SqT.of upd_same, Reps.mono (same_upd hp) _ _ (e3.append e6)⟩
  ·cases h
 ·cases h
noncomputable def dSub : PyData → PyData → Option PyData
 | .int i, .int j => some (.int (i - j))
 | _, _ => none
theorem opd_sub : OpD X (binaryOp .Sub) dSub := by
 refine ⟨_, op_sub, fun p q d x y H Q h rx ry k => ?_⟩
 unfold dSub at h
 split at h
 ·cases h; cases (show x = _ from rx); cases (show y = _ from ry); exact ⟨_, _, rfl, rfl, k _ H (Same.refl H) rfl⟩
 ·cases h
theorem Reps.rep {K : PySem.W.Frag} {H : Hp} {ds : List PyData} {xs : List V} (h : Reps K H ds xs) : ∀ (n : Nat), Reps K H (List.replicate n ds).flatten (List.replicate n xs).flatten
 | 0 => rfl
 | n + 1 => by rw [List.replicate_succ, List.replicate_succ, List.flatten_cons, List.flatten_cons]; exact h.append (Reps.rep h n)
noncomputable def dMul : PyData → PyData → Option PyData
 | .int i, .int j => if (-(2 ^ 64) < i ∧ i < 2 ^ 64) ∨ (-(2 ^ 64) < j ∧ j < 2 ^ 64) then some (.int (i * j)) else none
 | .list xs, .int k => if k < 1000 ∧ xs.length < 1000 ∧ -1000 < k then some (.list (List.replicate k.toNat xs).flatten) else none
 | _, _ => none
theorem opd_mul : OpD X (binaryOp .Mult) dMul := by
 refine ⟨_, op_mul.or op_rep, fun p q d x y H Q h rx ry k => ?_⟩
 unfold dMul at h
 split at h
 ·split at h
  ·rename_i hc
   cases h; cases (show x = _ from rx); cases (show y = _ from ry); exact .inl ⟨_, _, rfl, rfl, hc, k _ H (Same.refl H) rfl⟩
  ·cases h
 ·rename_i xs n
  split at h
  ·rename_i hc
   cases h
   obtain ⟨a, us, e1, e2, e3⟩ := rx
   cases (show y = _ from ry)
   have hl := e3.length
   have hs : us.length * n.toNat ≤ sizeLine := by
    rw [sizeLine_eq]
    have h1 : us.length ≤ 1000 := by omega
    have h2 : n.toNat ≤ 1000 := by omega
    exact Nat.le_trans (Nat.mul_le_mul h1 h2) (by decide)
   exact .inr ⟨a, n, us, e1, rfl, e2, by omega, by omega, hs, fun p hp => k _ _ (same_upd hp) ⟨p, _, rfl, upd_same, Reps.mono (same_upd hp) _ _ (Reps.rep e3 n.toNat)⟩⟩
  ·cases h
 ·cases h
noncomputable def dFdiv : PyData → PyData → Option PyData
 | .int i, .int j => if 0 < j ∧ j < 1073741824 then some (.int (i / j)) else none
 | _, _ => none
theorem opd_fdiv : OpD X (binaryOp .FloorDiv) dFdiv := by
 refine ⟨_, op_fdiv, fun p q d x y H Q h rx ry k => ?_⟩
 unfold dFdiv at h
 split at h
 ·split at h
  ·rename_i hc
   cases h; cases (show x = _ from rx); cases (show y = _ from ry); exact ⟨_, _, rfl, rfl, hc, k _ H (Same.refl H) rfl⟩
  ·cases h
 ·cases h
noncomputable def dMod : PyData → PyData → Option PyData
 | .int i, .int j => if 0 < j then some (.int (i % j)) else none
 | _, _ => none
theorem opd_mod : OpD X (binaryOp .Mod) dMod := by
 refine ⟨_, op_mod, fun p q d x y H Q h rx ry k => ?_⟩
 unfold dMod at h
 split at h
 ·split at h
  ·rename_i hc
   cases h; cases (show x = _ from rx); cases (show y = _ from ry); exact ⟨_, _, rfl, rfl, hc, k _ H (Same.refl H) rfl⟩
  ·cases h
 ·cases h
noncomputable def okD (d : PyData) : Bool := d.canLay0 && decide (d.depth < 30)
noncomputable def rEqD (K : PySem.W.Frag) (neg : Bool) : R2 := fun x y H Q => ∃ p q, Rep K H p x ∧ Rep K H q y ∧ okD p = true ∧ okD q = true ∧ Q (.bl (if neg then !PyData.eqv p q else PyData.eqv p q)) H
theorem okD_lay {d : PyData} (h : okD d = true) : d.canLay0 = true := by simp [okD] at h; exact h.1
theorem okD_dep {d : PyData} (h : okD d = true) : d.depth < 30 := by simp [okD] at h; exact h.2
theorem op_eqD (hu : X.A.units + 64 < cLine) : OpR X (compareOp .Eq) (rEqD X.K false) := by
 intro pins s σ H x y v u Q I rx ry ⟨p, q, h1, h2, h3, h4, k⟩
 obtain ⟨as, ra⟩ := reads_of I p x v h1 rx (okD_lay h3)
 obtain ⟨bs, rb⟩ := reads_of I q y u h2 ry (okD_lay h4)
 have d1 := okD_dep h3
 exact SeqAt.compareEq_reads ra rb (okD_lay h3) (okD_lay h4) (by omega) ⟨.bl _, H, I, rfl, k⟩
theorem op_neD (hu : X.A.units + 64 < cLine) : OpR X (compareOp .NotEq) (rEqD X.K true) := by
 intro pins s σ H x y v u Q I rx ry ⟨p, q, h1, h2, h3, h4, k⟩
 obtain ⟨as, ra⟩ := reads_of I p x v h1 rx (okD_lay h3)
 obtain ⟨bs, rb⟩ := reads_of I q y u h2 ry (okD_lay h4)
 have d1 := okD_dep h3
 exact SeqAt.compareNe_reads ra rb (okD_lay h3) (okD_lay h4) (by omega) ⟨.bl _, H, I, rfl, k⟩
noncomputable def rScr0 (K : PySem.W.Frag) : R2 := fun x y H Q => ∃ a b ns, x = .ref a ∧ y = .ref b ∧ SqL K H a (List.map V.int ns) ∧ H b = some (.lst []) ∧ Q (.bl ns.isEmpty) H
theorem readsAll_ints (h : Heap) : ∀ (ns : List Int) (us : List Value), Vals (List.map V.int ns) us → ∃ as, ReadsAll h us (ns.map PyData.int) as
 | [], us, r => by cases r; exact ⟨_, .nil⟩
 | n :: ns, us, r => by
  cases r with
  | cons r1 r2 =>
   obtain ⟨t, rfl⟩ := r1
   obtain ⟨as, ra⟩ := readsAll_ints h ns _ r2
   exact ⟨_, .cons (.int n t) ra⟩
theorem lay_ints : ∀ ns : List Int, PyData.canLayAll0 (ns.map PyData.int) = true
 | [] => rfl
 | n :: ns => by simp [PyData.canLayAll0, PyData.canLay0, lay_ints ns]
theorem op_scr0 (hu : X.A.units + 64 < cLine) : OpR X (compareOp .Eq) (rScr0 X.K) := by
 intro pins s σ H x y v u Q I rx ry ⟨a, b, ns, e1, e2, h1, h2, k⟩
 subst e1; subst e2
 cases rx; cases ry
 obtain ⟨its, rv, ⟨o, n, g1, g2, g3, g4⟩, _⟩ := I.list h1
 obtain ⟨as, ra⟩ := readsAll_ints s.heap ns its rv
 obtain ⟨bs, rb⟩ := reads_of I (.list []) (.ref b) (.ref b) ⟨b, [], rfl, h2, rfl⟩ rfl rfl
 have ra' : Reads s.heap (.ref a) (.list (ns.map PyData.int)) (a :: as) := .list g1 g2 g4 (by simpa using ra)
 refine SeqAt.compareEq_reads ra' rb (by simpa [PyData.canLay0] using lay_ints ns) rfl ?_ ⟨.bl _, H, I, rfl, ?_⟩
 ·have : (PyData.list []).depth = 1 := rfl
  rw [this]; omega
 ·have : PyData.eqv (.list (ns.map PyData.int)) (.list []) = ns.isEmpty := by cases ns <;> simp [PyData.eqv, PyData.eqvAll]
  rw [this]; exact k
noncomputable def dEq : PyData → PyData → Option PyData
 | .dict kvs, .list [] => if isScr kvs = true then some (.bool kvs.isEmpty) else none
 | p, q => if okD p = true ∧ okD q = true then some (.bool (PyData.eqv p q)) else none
theorem opd_eq (hu : X.A.units + 64 < cLine) : OpD X (compareOp .Eq) dEq := by
 refine ⟨_, (op_scr0 hu).or (op_eqD hu), fun p q d x y H Q h rx ry k => ?_⟩
 unfold dEq at h
 split at h
 ·split at h
  ·rename_i hs
   cases h
   obtain ⟨a, ns, e1, e2, e3⟩ := rx.scrOut hs
   obtain ⟨b, ws, e4, e5, e6⟩ := ry
   cases (show ws = [] from e6)
   refine .inl ⟨a, b, ns, e1, e4, e2, e5, ?_⟩
   have : ns.isEmpty = (ns.map fun n => (PyData.int n, PyData.none)).isEmpty := by simp
   subst e3
   rw [this]
   exact k _ H (Same.refl H) rfl
  ·cases h
 ·split at h
  ·rename_i hc
   cases h
   exact .inr ⟨p, q, rx, ry, hc.1, hc.2, k _ H (Same.refl H) rfl⟩
  ·cases h
noncomputable def dNe : PyData → PyData → Option PyData := fun p q => if okD p = true ∧ okD q = true then some (.bool (!PyData.eqv p q)) else none
theorem opd_ne (hu : X.A.units + 64 < cLine) : OpD X (compareOp .NotEq) dNe := by
 refine ⟨_, op_neD hu, fun p q d x y H Q h rx ry k => ?_⟩
 unfold dNe at h
 split at h
 ·rename_i hc
  cases h
  exact ⟨p, q, rx, ry, hc.1, hc.2, k _ H (Same.refl H) rfl⟩
 ·cases h
noncomputable def rInD (K : PySem.W.Frag) (neg : Bool) : R2 := fun x y H Q => ∃ p ds, Rep K H p x ∧ (Rep K H (.list ds) y ∨ Rep K H (.tuple ds) y) ∧ okD p = true ∧ okD (.list ds) = true ∧ Q (.bl (if neg then !(ds.any fun z => PyData.eqv z p) else ds.any fun z => PyData.eqv z p)) H
theorem op_inD (hu : X.A.units + 64 < cLine) : OpR X (compareOp .In) (rInD X.K false) := by
 intro pins s σ H x y v u Q I rx ry ⟨p, ds, h1, h2, h3, h4, k⟩
 obtain ⟨as, ra⟩ := reads_of I p x v h1 rx (okD_lay h3)
 have d1 := okD_dep h3
 have hc : PyData.canLayAll0 ds = true := by simpa [PyData.canLay0] using okD_lay h4
 rcases h2 with h2 | h2
 ·obtain ⟨bs, rb⟩ := reads_of I (.list ds) y u h2 ry (okD_lay h4)
  exact SeqAt.in_list_reads rb ra hc (okD_lay h3) (by omega) ⟨.bl _, H, I, rfl, k⟩
 ·obtain ⟨bs, rb⟩ := reads_of I (.tuple ds) y u h2 ry (by simpa [PyData.canLay0] using hc)
  exact SeqAt.in_tuple_reads rb ra hc (okD_lay h3) (by omega) ⟨.bl _, H, I, rfl, k⟩
theorem op_notInD (hu : X.A.units + 64 < cLine) : OpR X (compareOp .NotIn) (rInD X.K true) := by
 intro pins s σ H x y v u Q I rx ry ⟨p, ds, h1, h2, h3, h4, k⟩
 obtain ⟨as, ra⟩ := reads_of I p x v h1 rx (okD_lay h3)
 have d1 := okD_dep h3
 have hc : PyData.canLayAll0 ds = true := by simpa [PyData.canLay0] using okD_lay h4
 rcases h2 with h2 | h2
 ·obtain ⟨bs, rb⟩ := reads_of I (.list ds) y u h2 ry (okD_lay h4)
  exact SeqAt.notIn_list_reads rb ra hc (okD_lay h3) (by omega) ⟨.bl _, H, I, rfl, k⟩
 ·obtain ⟨bs, rb⟩ := reads_of I (.tuple ds) y u h2 ry (by simpa [PyData.canLay0] using hc)
  exact SeqAt.notIn_tuple_reads rb ra hc (okD_lay h3) (by omega) ⟨.bl _, H, I, rfl, k⟩
noncomputable def dIn (neg : Bool) : PyData → PyData → Option PyData := fun p q => match q with
 | .list ds => if okD p = true ∧ okD (.list ds) = true then some (.bool (if neg then !(ds.any fun z => PyData.eqv z p) else ds.any fun z => PyData.eqv z p)) else none
 | .tuple ds => if okD p = true ∧ okD (.list ds) = true then some (.bool (if neg then !(ds.any fun z => PyData.eqv z p) else ds.any fun z => PyData.eqv z p)) else none
 | _ => none
theorem dIn_r {neg : Bool} {p q d : PyData} {x y : V} {H : Hp} {Q : VK} {K : PySem.W.Frag} (h : dIn neg p q = some d) (rx : Rep K H p x) (ry : Rep K H q y) (k : ∀ v H', Same H H' → Rep K H' d v → Q v H') : rInD K neg x y H Q := by
 unfold dIn at h
 split at h
 ·split at h
  ·rename_i ds hc
   cases h
   exact ⟨p, ds, rx, .inl ry, hc.1, hc.2, k _ H (Same.refl H) rfl⟩
  ·cases h
 ·split at h
  ·rename_i ds hc
   cases h
   exact ⟨p, ds, rx, .inr ry, hc.1, hc.2, k _ H (Same.refl H) rfl⟩
  ·cases h
 ·cases h
theorem opd_in (hu : X.A.units + 64 < cLine) : OpD X (compareOp .In) (dIn false) := ⟨_, op_inD hu, fun p q d x y H Q h rx ry k => dIn_r h rx ry k⟩
theorem opd_notIn (hu : X.A.units + 64 < cLine) : OpD X (compareOp .NotIn) (dIn true) := ⟨_, op_notInD hu, fun p q d x y H Q h rx ry k => dIn_r h rx ry k⟩
noncomputable def dCmp (f : Int → Int → Bool) : PyData → PyData → Option PyData
 | .int i, .int j => some (.bool (f i j))
 | _, _ => none
theorem dCmp_r {f : Int → Int → Bool} {p q d : PyData} {x y : V} {H : Hp} {Q : VK} {K : PySem.W.Frag} (h : dCmp f p q = some d) (rx : Rep K H p x) (ry : Rep K H q y) (k : ∀ v H', Same H H' → Rep K H' d v → Q v H') : rI0 (fun i j => .bl (f i j)) x y H Q := by
 unfold dCmp at h
 split at h
 ·cases h; cases (show x = _ from rx); cases (show y = _ from ry); exact ⟨_, _, rfl, rfl, k _ H (Same.refl H) rfl⟩
 ·cases h
theorem opd_lt : OpD X (compareOp .Lt) (dCmp fun i j => decide (i < j)) := ⟨_, op_lt, fun p q d x y H Q h rx ry k => dCmp_r h rx ry k⟩
theorem opd_le : OpD X (compareOp .LtE) (dCmp fun i j => decide (i ≤ j)) := ⟨_, op_le, fun p q d x y H Q h rx ry k => dCmp_r h rx ry k⟩
theorem opd_gt : OpD X (compareOp .Gt) (dCmp fun i j => decide (j < i)) := ⟨_, op_gt, fun p q d x y H Q h rx ry k => dCmp_r h rx ry k⟩
theorem opd_ge : OpD X (compareOp .GtE) (dCmp fun i j => decide (j ≤ i)) := ⟨_, op_ge, fun p q d x y H Q h rx ry k => dCmp_r h rx ry k⟩
noncomputable def chn (g g' : PyData → PyData → Option PyData) (fa fb fc : Rho → Option PyData) : Rho → Option PyData := fun ρ => (fa ρ).bind fun x => (fb ρ).bind fun y => (g x y).bind fun z => (asB z).bind fun t => if t = true then (fc ρ).bind fun w => g' y w else some (.bool false)
variable {a b c e : Expr} {fa fb fc : Rho → Option PyData} {pos : Pos}
theorem chn_r {g g' : PyData → PyData → Option PyData} {K : PySem.W.Frag} {r r' : R2} (hr : ∀ p q d x y H Q, g p q = some d → Rep K H p x → Rep K H q y → (∀ v H', Same H H' → Rep K H' d v → Q v H') → r x y H Q)
  (hr' : ∀ p q d x y H Q, g' p q = some d → Rep K H p x → Rep K H q y → (∀ v H', Same H H' → Rep K H' d v → Q v H') → r' x y H Q) {σ : St} {H : Hp} {Q : VK} (h : tD K (chn g g' fa fb fc) σ H Q) : tChain r r' (tD K fa) (tD K fb) (tD K fc) σ H Q := by
 obtain ⟨ρ, d, en, h, k⟩ := h
 unfold chn at h
 cases ha : fa ρ with
 | none => rw [ha] at h; cases h
 | some p =>
  cases hb : fb ρ with
  | none => rw [ha, hb] at h; cases h
  | some q =>
   rw [ha, hb] at h
   cases hg : g p q with
   | none => simp [hg] at h
   | some z =>
    cases ht : asB z with
    | none => simp [hg, ht] at h
    | some t =>
     have hz := asB_some ht
     subst hz
     refine ⟨ρ, p, en, ha, fun x H1 s1 r1 => ⟨ρ, q, en.mono s1, hb, fun y H2 s2 r2 => ?_⟩⟩
     refine hr p q _ x y H2 _ hg (Rep.mono s2 p x r1) r2 fun v H3 s3 r3 => ⟨t, r3, ?_⟩
     have s13 := s1.trans (s2.trans s3)
     cases t with
     | false =>
      rw [if_neg Bool.false_ne_true]
      have hd : PyData.bool false = d := by simpa [hg, asB] using h
      subst hd
      exact k _ H3 s13 rfl
     | true =>
      rw [if_pos rfl]
      cases hc : fc ρ with
      | none => simp [hg, asB, hc] at h
      | some w =>
       refine ⟨ρ, w, en.mono s13, hc, fun z H4 s4 r4 => ?_⟩
       exact hr' q w d y z H4 Q (by simpa [hg, asB, hc] using h) (Rep.mono (s3.trans s4) q y r2) r4 fun v H5 s5 r5 => k v H5 (s13.trans (s4.trans s5)) r5
theorem pd_chain {op op' : CmpOp} {g g' : PyData → PyData → Option PyData} (ho : OpD X (compareOp op) g) (ho' : OpD X (compareOp op') g') (ha : PD X a fa) (hb : PD X b fb) (hc : PD X c fc)
  (hm : lastMarks [op, op'] [b, c] = false := by with_unfolding_all rfl) : PD X (.Compare a [op, op'] [b, c] pos) (chn g g' fa fb fc) := by
 with_unfolding_all
  obtain ⟨r, h1, h2⟩ := ho
  obtain ⟨r', h3, h4⟩ := ho'
  exact PE.imp (pe_chain h1 h3 ha hb hc hm) fun σ H Q h => chn_r h2 h4 h
theorem ptd_chain {op op' : CmpOp} {g g' : PyData → PyData → Option PyData} (ho : OpD X (compareOp op) g) (ho' : OpD X (compareOp op') g') (ha : PD X a fa) (hb : PD X b fb) (hc : PD X c fc)
  (hm : lastMarks [op, op'] [b, c] = false := by with_unfolding_all rfl) : PTD X (.Compare a [op, op'] [b, c] pos) (tst (chn g g' fa fb fc)) := by
 with_unfolding_all
  obtain ⟨r, h1, h2⟩ := ho
  obtain ⟨r', h3, h4⟩ := ho'
  refine PT.imp (pt_chain h1 h3 ha hb hc hm) fun σ H Q ⟨ρ, t, en, h, k⟩ => ?_
  cases hd : chn g g' fa fb fc ρ with
  | none => simp [tst, hd] at h
  | some d =>
   have ht : d = .bool t := asB_some (by simpa [tst, hd] using h)
   subst ht
   exact chn_r h2 h4 ⟨ρ, _, en, hd, fun v H' s r => ⟨t, r, k H' s⟩⟩
noncomputable def dIx : PyData → PyData → Option PyData
 | .list ds, .int i => if ds.length < 1000000 then atI ds i else none
 | .tuple ds, .int i => if ds.length < 1000000 then atI ds i else none
 | .dict kvs, .int i => if kvs.length < 1000000 ∧ isScr kvs = true then (atI kvs i).map (·.1) else none
 | _, _ => none
theorem atI_rep {K : PySem.W.Frag} {H : Hp} {ds : List PyData} {xs : List V} {i : Int} {d : PyData} (r : Reps K H ds xs) (h : atI ds i = some d) : ∃ x, atI xs i = some x ∧ Rep K H d x := by
 have hl := r.length
 unfold atI at h ⊢
 rw [hl]
 cases e : ixN ds.length i with
 | none => rw [e] at h; cases h
 | some j =>
  rw [e] at h
  obtain ⟨x, e1, e2⟩ := r.get (show ds[j]? = some d from h)
  exact ⟨x, e1, e2⟩
noncomputable def IxD (X : Cx) (g : PyData → PyData → Option PyData) : Prop := ∃ r, IxR X r ∧ ∀ p q d x y H Q, g p q = some d → Rep X.K H p x → Rep X.K H q y → (∀ v H', Same H H' → Rep X.K H' d v → Q v H') → r x y H Q
theorem ixd : IxD X dIx := by
 refine ⟨_, ix_list.or ix_tup, fun p q d x y H Q h rx ry k => ?_⟩
 unfold dIx at h
 split at h
 ·split at h
  ·obtain ⟨a, us, e1, e2, e3⟩ := rx
   cases (show y = _ from ry)
   obtain ⟨z, g1, g2⟩ := atI_rep e3 h
   exact .inl ⟨a, us, _, z, e1, rfl, SqL.of e2, g1, k z H (Same.refl H) g2⟩
  ·cases h
 ·split at h
  ·obtain ⟨a, us, e1, e2, e3⟩ := rx
   cases (show y = _ from ry)
   obtain ⟨z, g1, g2⟩ := atI_rep e3 h
   exact .inr ⟨a, us, _, z, e1, rfl, e2, g1, k z H (Same.refl H) g2⟩
  ·cases h
 ·split at h
  ·rename_i hs
   obtain ⟨a, ns, e1, e2, e3⟩ := rx.scrOut hs.2
   cases (show y = _ from ry)
   subst e3
   rename_i i
   unfold atI at h
   rw [List.length_map] at h
   cases e : ixN ns.length i with
   | none => rw [e] at h; cases h
   | some j =>
    rw [e] at h
    have h' : ((ns.map fun n => (PyData.int n, PyData.none))[j]?).map (·.1) = some d := h
    rw [List.getElem?_map] at h'
    cases e4 : ns[j]? with
    | none => rw [e4] at h'; cases h'
    | some n =>
     rw [e4] at h'
     cases h'
     refine .inl ⟨a, List.map V.int ns, i, .int n, e1, rfl, e2, ?_, k _ H (Same.refl H) rfl⟩
     unfold atI
     rw [List.length_map, e]
     show (List.map V.int ns)[j]? = _
     rw [List.getElem?_map, e4]; rfl
  ·cases h
 ·cases h
theorem pd_ix (ha : PD X a fa) (hb : PD X b fb) (hs : PlainIx b := by intro _ _; rfl) : PD X (.Subscript a b pos) (op2 dIx fa fb) := by
 with_unfolding_all
  obtain ⟨r, h1, h2⟩ := ixd (X := X)
  exact PE.imp (pe_ix h1 ha hb hs) fun σ H Q h => seq2 h2 h
noncomputable def dLen (ds : List PyData) : Option PyData := match ds with
 | [.list xs] => some (.int xs.length)
 | [.tuple xs] => some (.int xs.length)
 | [.dict xs] => if isScr xs = true then some (.int xs.length) else none
 | _ => none
theorem cd_len : CallD X (.builtin "len") dLen := by
 refine ⟨_, call_len_seq, fun ds d xs H Q h r k => ?_⟩
 unfold dLen at h
 split at h
 ·cases h
  obtain ⟨x, q, e1, e2, e3⟩ := r
  cases (show q = [] from e3)
  obtain ⟨a, us, g1, g2, g3⟩ := e2
  subst g1
  exact ⟨a, us, e1, .inl (SqL.of g2), k _ H (Same.refl H) (by show _ = _; rw [g3.length])⟩
 ·cases h
  obtain ⟨x, q, e1, e2, e3⟩ := r
  cases (show q = [] from e3)
  obtain ⟨a, us, g1, g2, g3⟩ := e2
  subst g1
  exact ⟨a, us, e1, .inr g2, k _ H (Same.refl H) (by show _ = _; rw [g3.length])⟩
 ·split at h
  ·rename_i hs
   cases h
   obtain ⟨x, q, e1, e2, e3⟩ := r
   cases (show q = [] from e3)
   obtain ⟨a, ns, g1, g2, g3⟩ := e2.scrOut hs
   subst g1; subst g3
   exact ⟨a, _, e1, .inl g2, k _ H (Same.refl H) (by show _ = _; simp)⟩
  ·cases h
 ·cases h
noncomputable def dMax2 (ds : List PyData) : Option PyData := match ds with
 | [.int i, .int j] => some (.int (if j > i then j else i))
 | _ => none
noncomputable def dMin2 (ds : List PyData) : Option PyData := match ds with
 | [.int i, .int j] => some (.int (if j < i then j else i))
 | _ => none
theorem cd_max2 (hc : X.calm = true) : CallD X (.builtin "max") dMax2 := by
 refine ⟨_, call_max2 hc, fun ds d xs H Q h r k => ?_⟩
 unfold dMax2 at h
 split at h
 ·cases h
  obtain ⟨x, q, e1, e2, y, q', e3, e4, e5⟩ := r
  cases (show x = _ from e2); cases (show y = _ from e4); cases (show q' = [] from e5); subst e3
  exact ⟨_, _, e1, k _ H (Same.refl H) rfl⟩
 ·cases h
theorem cd_min2 (hc : X.calm = true) : CallD X (.builtin "min") dMin2 := by
 refine ⟨_, call_min2 hc, fun ds d xs H Q h r k => ?_⟩
 unfold dMin2 at h
 split at h
 ·cases h
  obtain ⟨x, q, e1, e2, y, q', e3, e4, e5⟩ := r
  cases (show x = _ from e2); cases (show y = _ from e4); cases (show q' = [] from e5); subst e3
  exact ⟨_, _, e1, k _ H (Same.refl H) rfl⟩
 ·cases h
end
end BX
end
section
namespace BX
open PySem PySem.Spec L2
open PyProof.Rows hiding St
section
variable {X : Cx} {pins : List (Addr × Obj)} {σ : St} {H : Hp} {s : Shared}
theorem iter_seqL {prog : Program} {w : World} {A : Around} {E : Value → Shared → Prop} {l : Addr} {its : Array Value} {Q : Value → Shared → Prop} (hl : s.heap.IsList l its)
  (h : ∀ (h2 : Heap) (it : Addr), (h2.IsListIter it l 0 ∧ h2.IsList l its) → (∀ b ∈ [it, l], b < h2.objs.size) → l ≠ it → (∀ b o, s.heap.get? b = some o → h2.get? b = some o) → s.heap.get? it = none → Q (.ref it) { s with heap := h2 }) :
  wpAny (model prog w) A (pyIter (.ref l)) Q E s := by
 have hlt : l < s.heap.objs.size := by
  obtain ⟨_, e, _⟩ := hl
  exact Heap.lt_size e
 refine wpAny_pyIter_list hl (h _ _ ⟨⟨_, Heap.get?_push_size _ rfl, rfl, rfl⟩, hl.push _⟩ (fun b hb => ?_) (Nat.ne_of_lt hlt) (fun b o e => Heap.get?_push_of_some _ e) (Heap.get?_none_of_le (Nat.le_refl _)))
 rw [Heap.size_push]
 rcases List.mem_cons.mp hb with e | hb
 ·rw [e]; exact Nat.lt_succ_self _
 ·have e : b = l := by simpa using hb
  rw [e]; exact Nat.lt_succ_of_lt hlt
theorem iter_seqT {prog : Program} {w : World} {A : Around} {E : Value → Shared → Prop} {l : Addr} {its : Array Value} {Q : Value → Shared → Prop} (hl : s.heap.IsTuple l its)
  (h : ∀ (h2 : Heap) (it : Addr), (h2.IsTupleIter it l 0 ∧ h2.IsTuple l its) → (∀ b ∈ [it, l], b < h2.objs.size) → l ≠ it → (∀ b o, s.heap.get? b = some o → h2.get? b = some o) → s.heap.get? it = none → Q (.ref it) { s with heap := h2 }) :
  wpAny (model prog w) A (pyIter (.ref l)) Q E s := by
 have hlt : l < s.heap.objs.size := by
  obtain ⟨_, e, _⟩ := hl
  exact Heap.lt_size e
 have hl2 : ∀ o, (s.heap.push o).IsTuple l its := fun o => by
  obtain ⟨ob, e, r⟩ := hl
  exact ⟨ob, Heap.get?_push_of_some _ e, r⟩
 refine wpAny_pyIter_tuple hl (h _ _ ⟨⟨_, Heap.get?_push_size _ rfl, rfl, rfl⟩, hl2 _⟩ (fun b hb => ?_) (Nat.ne_of_lt hlt) (fun b o e => Heap.get?_push_of_some _ e) (Heap.get?_none_of_le (Nat.le_refl _)))
 rw [Heap.size_push]
 rcases List.mem_cons.mp hb with e | hb
 ·rw [e]; exact Nat.lt_succ_self _
 ·have e : b = l := by simpa using hb
  rw [e]; exact Nat.lt_succ_of_lt hlt
theorem kept_it {h h2 h3 : Heap} {it : Addr} (k1 : ∀ b o, h.get? b = some o → h2.get? b = some o) (hn : h.get? it = none) (k2 : ∀ b o, b ∉ [it] → h2.get? b = some o → h3.get? b = some o) : ∀ b o, h.get? b = some o → h3.get? b = some o := fun b o e =>
  k2 b o (fun z => by have e1 : b = it := by simpa using z
                      rw [e1, hn] at e; cases e) (k1 b o e)
theorem vals_bl : ∀ {bs : List Bool} {us : List Value}, Vals (bs.map V.bl) us → us = bs.map Value.bool
 | [], us, r => by cases r; rfl
 | b :: bs, us, r => by
  cases r with
  | cons r1 r2 => cases (show _ = _ from r1); rw [vals_bl r2]; rfl
theorem all_range (bs : List Bool) : (List.range bs.length).all (fun i => bs.getD i false) = bs.all id := by
 have : bs = (List.range bs.length).map (fun i => bs.getD i false) := by
  apply List.ext_getElem?
  intro i
  rw [List.getElem?_map]
  by_cases h : i < bs.length
  ·rw [List.getElem?_range h]; simp [List.getD, h]
  ·simp [h]
 conv => rhs; rw [this]
 rw [List.all_map]; rfl
noncomputable def rAll (K : PySem.W.Frag) : List V → Hp → VK → Prop := fun xs H Q => ∃ a bs, xs = [.ref a] ∧ SqL K H a (List.map V.bl bs) ∧ Q (.bl (bs.all id)) H
theorem call_allL (hc : X.calm = true) : CallR X (.builtin "all") (rAll X.K) := by
 intro pins s σ H xs us Q I r ⟨a, bs, e, hq, q⟩
 subst e
 obtain ⟨u, rfl, rx⟩ := vals1 r
 cases rx
 obtain ⟨its, rv, pl, hz⟩ := I.list hq
 have ei := vals_bl rv
 have hh := I.ok.hd hc
 refine call_all_walk (iter_seqL pl.isList fun h2 it st hlt hne k1 hn => ?_)
 refine ⟨it, [it, a], [it], its.toArray.size, (fun i v => its.toArray[i]? = some v), _, fun i => bs.getD i false, rfl, Walks.list (A := X.A.in1) hh it a hne its.toArray, st, ?_, fun h3 tk k2 => ?_⟩
 ·intro i v s' Q' E' hP hq'
  have : v = .bool (bs.getD i false) := by
   have hP' : its[i]? = some v := by simpa using hP
   rw [ei, List.getElem?_map] at hP'
   cases hb : bs[i]? with
   | none => rw [hb] at hP'; cases hP'
   | some b => rw [hb] at hP'; cases hP'; simp [List.getD, hb]
  subst this
  exact wpAny_truthy_bool hq'
 ·have I3 := I.kept (t' := tk) (kept_it k1 hn k2)
  have hl : its.toArray.size = bs.length := by rw [ei]; simp
  refine ⟨.bl (bs.all id), H, I3, ?_, q⟩
  show _ = _
  rw [hl, all_range]
noncomputable def bls : List PyData → Option (List Bool)
 | [] => some []
 | d :: r => (asB d).bind fun b => (bls r).map fun q => b :: q
theorem Reps.bls {K : PySem.W.Frag} {H : Hp} : ∀ {ds : List PyData} {bs : List Bool} {xs : List V}, BX.bls ds = some bs → Reps K H ds xs → xs = bs.map V.bl
 | [], bs, xs, h, r => by simp [BX.bls] at h; subst h; exact r
 | d :: ds, bs, xs, h, ⟨x, q, e1, e2, e3⟩ => by
  subst e1
  cases h1 : asB d with
  | none => simp [BX.bls, h1] at h
  | some b =>
   cases h2 : BX.bls ds with
   | none => simp [BX.bls, h1, h2] at h
   | some r =>
    have : b :: r = bs := by simpa [BX.bls, h1, h2] using h
    subst this
    have hd := asB_some h1
    subst hd
    cases (show x = _ from e2)
    rw [Reps.bls h2 e3]; rfl
noncomputable def dAll (ds : List PyData) : Option PyData := match ds with
 | [.list xs] => (bls xs).map fun bs => .bool (bs.all id)
 | _ => none
theorem cd_all (hc : X.calm = true) : CallD X (.builtin "all") dAll := by
 refine ⟨_, call_allL hc, fun ds d xs H Q h r k => ?_⟩
 unfold dAll at h
 split at h
 ·rename_i ys
  cases hb : bls ys with
  | none => simp [hb] at h
  | some bs =>
   have : PyData.bool (bs.all id) = d := by simpa [hb] using h
   subst this
   obtain ⟨x, q, e1, e2, e3⟩ := r
   cases (show q = [] from e3)
   obtain ⟨a, us, g1, g2, g3⟩ := e2
   subst g1
   have := Reps.bls hb g3
   subst this
   exact ⟨a, bs, e1, SqL.of g2, k _ H (Same.refl H) rfl⟩
 ·cases h
noncomputable def inOf : PyData → Option Int
 | .int i => some i
 | _ => none
noncomputable def insOf : List PyData → Option (List Int)
 | [] => some []
 | d :: r => (inOf d).bind fun b => (insOf r).map fun q => b :: q
theorem insOf_map : ∀ {ds : List PyData} {ns : List Int}, insOf ds = some ns → ds = ns.map PyData.int
 | [], ns, h => by simp [insOf] at h; subst h; rfl
 | d :: ds, ns, h => by
  cases d with
  | int i =>
   cases h2 : insOf ds with
   | none => simp [insOf, inOf, h2] at h
   | some r =>
    have : i :: r = ns := by simpa [insOf, inOf, h2] using h
    subst this
    rw [insOf_map h2]; rfl
  | _ => simp [insOf, inOf] at h
theorem intsOf_vals {ns : List Int} {us : List Value} {i : Nat} {v : Value} (r : Vals (ns.map V.int) us) (h : us.toArray[i]? = some v) : ∃ t, v = .int (ns.getD i 0) t := by
 have h' : us[i]? = some v := by simpa using h
 have hi : i < us.length := (List.getElem?_eq_some_iff.mp h').1
 have hl := r.length
 rw [List.length_map] at hl
 obtain ⟨u, e1, e2⟩ := r.get (show (ns.map V.int)[i]? = some (V.int (ns.getD i 0)) by
  rw [List.getElem?_map]
  have : i < ns.length := by omega
  simp [List.getD, this])
 rw [h'] at e1; cases e1
 exact e2
theorem preSum_list (ns : List Int) : preSum (fun i => ns.getD i 0) ns.length = ns.sum := by
 have go : ∀ k, k ≤ ns.length → preSum (fun i => ns.getD i 0) k = (ns.take k).sum := by
  intro k
  induction k with
  | zero => intro _; simp [preSum]
  | succ k ih =>
   intro hk
   have hlt : k < ns.length := by omega
   have h1 : ns.take (k + 1) = ns.take k ++ [ns[k]] := by rw [List.take_succ]; simp [hlt]
   rw [h1]
   simp only [preSum, ih (by omega), List.sum_append, List.sum_cons, List.sum_nil, Int.add_zero]
   simp [List.getD, hlt]
 have := go ns.length (Nat.le_refl _)
 simpa using this
noncomputable def rSum (K : PySem.W.Frag) : List V → Hp → VK → Prop := fun xs H Q => ∃ a ns, xs = [.ref a] ∧ (SqL K H a (List.map V.int ns) ∨ SqT K H a (List.map V.int ns)) ∧ Q (.int ns.sum) H
theorem call_sumS (hc : X.calm = true) : CallR X (.builtin "sum") (rSum X.K) := by
 intro pins s σ H xs us Q I r ⟨a, ns, e, hq, q⟩
 subst e
 obtain ⟨u, rfl, rx⟩ := vals1 r
 cases rx
 have hh := I.ok.hd hc
 rcases hq with hq | hq
 ·obtain ⟨its, rv, pl, hz⟩ := I.list hq
  have hl : its.toArray.size = ns.length := by have := rv.length; simp at this ⊢; omega
  refine call_sum_walkG (iter_seqL pl.isList fun h2 it st hlt hne k1 hn => ?_)
  refine ⟨it, [it, a], [it], its.toArray.size, (fun i v => its.toArray[i]? = some v), _, fun i => ns.getD i 0, rfl, Walks.list (A := X.A.in1) hh it a hne its.toArray, st, hlt, fun i v hP => intsOf_vals rv hP, fun h3 tk t' k2 => ?_⟩
  exact ⟨.int ns.sum, H, I.kept (t' := tk) (kept_it k1 hn k2), ⟨t', by rw [hl, preSum_list]⟩, q⟩
 ·obtain ⟨its, rv, pl, hz⟩ := I.tuple hq
  have hl : its.toArray.size = ns.length := by have := rv.length; simp at this ⊢; omega
  refine call_sum_walkG (iter_seqT (show s.heap.IsTuple a its.toArray from pl) fun h2 it st hlt hne k1 hn => ?_)
  refine ⟨it, [it, a], [it], its.toArray.size, (fun i v => its.toArray[i]? = some v), _, fun i => ns.getD i 0, rfl, Walks.tuple (A := X.A.in1) hh it a hne its.toArray, st, hlt, fun i v hP => intsOf_vals rv hP, fun h3 tk t' k2 => ?_⟩
  exact ⟨.int ns.sum, H, I.kept (t' := tk) (kept_it k1 hn k2), ⟨t', by rw [hl, preSum_list]⟩, q⟩
noncomputable def dSum (ds : List PyData) : Option PyData := match ds with
 | [.list xs] => (insOf xs).map fun ns => .int ns.sum
 | [.tuple xs] => (insOf xs).map fun ns => .int ns.sum
 | _ => none
theorem cd_sum (hc : X.calm = true) : CallD X (.builtin "sum") dSum := by
 refine ⟨_, call_sumS hc, fun ds d xs H Q h r k => ?_⟩
 unfold dSum at h
 split at h
 ·rename_i ys
  cases hb : insOf ys with
  | none => simp [hb] at h
  | some ns =>
   have : PyData.int ns.sum = d := by simpa [hb] using h
   subst this
   obtain ⟨x, q, e1, e2, e3⟩ := r
   cases (show q = [] from e3)
   obtain ⟨a, us, g1, g2, g3⟩ := e2
   subst g1
   rw [insOf_map hb] at g3
   have := Reps.ints g3
   subst this
   exact ⟨a, ns, e1, .inl (SqL.of g2), k _ H (Same.refl H) rfl⟩
 ·rename_i ys
  cases hb : insOf ys with
  | none => simp [hb] at h
  | some ns =>
   have : PyData.int ns.sum = d := by simpa [hb] using h
   subst this
   obtain ⟨x, q, e1, e2, e3⟩ := r
   cases (show q = [] from e3)
   obtain ⟨a, us, g1, g2, g3⟩ := e2
   subst g1
   rw [insOf_map hb] at g3
   have := Reps.ints g3
   subst this
   exact ⟨a, ns, e1, .inr g2, k _ H (Same.refl H) rfl⟩
 ·cases h
end
end BX
end
section
namespace BX
open PySem PySem.Spec L2
open PyProof.Rows hiding St
section
variable {prog : Program} {w : World} {A : Around} {E : Value → Shared → Prop} {s : Shared}
theorem nextT_item {it t : Addr} {i : Nat} {ys : Array Value} {x : Value} {Q : Value → Shared → Prop} (hit : s.heap.IsTupleIter it t i) (ht : s.heap.IsTuple t ys) (hx : ys[i]? = some x)
  (hQ : ∀ h', h'.IsTupleIter it t (i + 1) → Heap.SameBut it s.heap h' → Q x { s with heap := h' }) : wpAny (model prog w) A (Builtin.SmallTypes.nextOf (.ref it)) Q E s := by
 obtain ⟨o, ho, hc, hd⟩ := id hit
 obtain ⟨ot, hot, _, nt, hdt⟩ := ht
 unfold Builtin.SmallTypes.nextOf
 refine wpAny_bind (wpAny_callSpecial?_slot (name := Str.ofString "__next__") hit.typeIs F.slot_tuple_iterator_next
  (wpAny_call_entry F.slot_tuple_iterator_next hit.typeIs F.entry_tuple_iterator_next ?_
   (F.args_tuple_iterator_next_1 _)))
 refine wpAny_bind (m := field (.ref it) 0) (wpAny_field ho hd (x := .ref t) rfl ?_)
 have no : ¬ ((Value.ref t == Value.none) = true) := Bool.false_ne_true
 show wpAny _ _ (if (Value.ref t == Value.none) = true then _ else
  _) _ _ s
 rw [if_neg no]
 refine wpAny_bind (m := field (.ref it) 1) (wpAny_field ho hd (x := .int i 0) rfl ?_)
 refine wpAny_bind (m := seqItems? (.ref t)) (wpAny_seqItems hot hdt ?_)
 simp only [Int.toNat_natCast, hx]
 refine wpAny_bind (wpAny_setField ho hd (by simp) (wpAny_pure ⟨x, rfl, wpAny_pure (hQ _ ?_ (Heap.SameBut.update ..))⟩))
 refine ⟨_, Heap.get?_update_self _ ho (Obj.isFreed_of_fields (Obj.data_mapFields hd _)), (Obj.cls_mapFields ..).trans hc, ?_⟩
 rw [Obj.data_mapFields hd]
 simp [rawInt]
theorem nextT_end {it t : Addr} {i : Nat} {ys : Array Value} {Q : Value → Shared → Prop} (hh : A.handled = none) (hit : s.heap.IsTupleIter it t i) (ht : s.heap.IsTuple t ys) (hx : ys[i]? = none)
  (hE : ∀ h' e, Heap.ExtBut it s.heap h' → (∃ o, h'.get? e = some o ∧ o.cls = .type "StopIteration") → E (.ref e) { s with heap := h' }) : wpAny (model prog w) A (Builtin.SmallTypes.nextOf (.ref it)) Q E s := by
 obtain ⟨o, ho, hc, hd⟩ := id hit
 obtain ⟨ot, hot, _, nt, hdt⟩ := ht
 unfold Builtin.SmallTypes.nextOf
 refine wpAny_bind (wpAny_callSpecial?_slot (name := Str.ofString "__next__") hit.typeIs F.slot_tuple_iterator_next
  (wpAny_call_entry F.slot_tuple_iterator_next hit.typeIs F.entry_tuple_iterator_next ?_
   (F.args_tuple_iterator_next_1 _)))
 refine wpAny_bind (m := field (.ref it) 0) (wpAny_field ho hd (x := .ref t) rfl ?_)
 have no : ¬ ((Value.ref t == Value.none) = true) := Bool.false_ne_true
 show wpAny _ _ (if (Value.ref t == Value.none) = true then _ else
  _) _ _ s
 rw [if_neg no]
 refine wpAny_bind (m := field (.ref it) 1) (wpAny_field ho hd (x := .int i 0) rfl ?_)
 refine wpAny_bind (m := seqItems? (.ref t)) (wpAny_seqItems hot hdt ?_)
 simp only [Int.toNat_natCast, hx]
 refine wpAny_bind (wpAny_rule (wpAny_bind (wpAny_setField ho hd (by simp) ?_)))
 refine wpAny_bind (m := newExc (.type "StopIteration") []) ?_
 simp only [newExc, newTuple]
 refine wpAny_bind (wpAny_newObj_type ?_ (by size_fits))
 refine wpAny_bind (m := firstArgMember _ _) (wpAny_of_eq (a := Value.none)
  (by first | rfl | (simp only [firstArgMember]; rfl)) ?_)
 refine wpAny_newObj_type ?_ (by size_fits)
 simp only [raiseNew]
 refine wpAny_bind (wpAny_handled ?_)
 rw [show A.in1.handled = none from hh]
 refine wpAny_bind (wpAny_pure (wpAny_throw ?_))
 exact hE _ _ (((Heap.SameBut.update ..).extBut.push _).push _) ⟨_, Heap.get?_push_size _ rfl, rfl⟩
noncomputable abbrev Trip (h : Heap) (T : Addr) (a b c : Value) : Prop := h.get? T = some { cls := .type "tuple", data := .seq #[a, b, c] }
theorem upd_trip {T : Addr} {a b c x : Value} {k : Nat} {Q : Unit → Shared → Prop} (hT : Trip s.heap T a b c)
  (h : ∀ h', h'.get? T = some { cls := .type "tuple", data := .seq ((#[a, b, c] : Array Value).setIfInBounds k x) } → Heap.SameBut T s.heap h' → Q () { s with heap := h' }) :
  wpAny (model prog w) A (updateSeq T (·.setIfInBounds k x)) Q E s := by
 refine wpAny_updateSeq hT rfl (h _ ?_ (Heap.SameBut.update ..))
 rw [Heap.get?_update_self _ hT rfl]
 simp [Obj.mapSeq]
structure Apart3 (z TI TO i1 i2 i3 t1 t2 t3 : Addr) : Prop where
 nd : [z, TO, i1, i2, i3].Nodup
 ti : TI ∉ [z, TO, i1, i2, i3]
 s1 : t1 ∉ [z, TO, i1, i2, i3]
 s2 : t2 ∉ [z, TO, i1, i2, i3]
 s3 : t3 ∉ [z, TO, i1, i2, i3]
structure Zip3 (h : Heap) (z TI TO i1 i2 i3 t1 t2 t3 : Addr) (xs ys zs : Array Value) (f0 : Value) (k : Nat) : Prop where
 hz : IsZip h z TI TO f0
 hTI : Trip h TI (.ref i1) (.ref i2) (.ref i3)
 hTO : ∃ a b c, Trip h TO a b c
 g1 : h.IsTupleIter i1 t1 k
 g2 : h.IsTupleIter i2 t2 k
 g3 : h.IsTupleIter i3 t3 k
 a1 : h.IsTuple t1 xs
 a2 : h.IsTuple t2 ys
 a3 : h.IsTuple t3 zs
theorem Zip3.keep {h h' : Heap} {z TI TO i1 i2 i3 t1 t2 t3 : Addr} {xs ys zs : Array Value} {f0 : Value} {k : Nat} (S : Zip3 h z TI TO i1 i2 i3 t1 t2 t3 xs ys zs f0 k)
  (kp : ∀ b ∈ [z, TI, TO, i1, i2, i3, t1, t2, t3], ∀ o, h.get? b = some o → h'.get? b = some o) : Zip3 h' z TI TO i1 i2 i3 t1 t2 t3 xs ys zs f0 k := by
 obtain ⟨hz, hTI, ⟨a, b, c, hTO⟩, ⟨o1, e1, r1⟩, ⟨o2, e2, r2⟩, ⟨o3, e3, r3⟩, ⟨p1, f1, q1⟩, ⟨p2, f2, q2⟩, ⟨p3, f3, q3⟩⟩ := S
 exact ⟨kp z (by simp) _ hz, kp TI (by simp) _ hTI, ⟨a, b, c, kp TO (by simp) _ hTO⟩, ⟨o1, kp i1 (by simp) _ e1, r1⟩, ⟨o2, kp i2 (by simp) _ e2, r2⟩, ⟨o3, kp i3 (by simp) _ e3, r3⟩, ⟨p1, kp t1 (by simp) _ f1, q1⟩, ⟨p2, kp t2 (by simp) _ f2, q2⟩, ⟨p3, kp t3 (by simp) _ f3, q3⟩⟩
noncomputable def But (l : List Addr) (h h' : Heap) : Prop := ∀ b o, b ∉ l → h.get? b = some o → h'.get? b = some o
theorem But.of {b : Addr} {l : List Addr} {h h' : Heap} (x : Heap.ExtBut b h h') (hb : b ∈ l) : But l h h' := fun c o hc e => x c o (fun z => hc (by rw [z]; exact hb)) e
theorem But.trans {l : List Addr} {h h1 h2 : Heap} (a : But l h h1) (b : But l h1 h2) : But l h h2 := fun c o hc e => b c o hc (a c o hc e)
theorem zip3_item {z TI TO i1 i2 i3 t1 t2 t3 : Addr} {xs ys zs : Array Value} {k : Nat} {x y v : Value} {Q : Value → Shared → Prop} (D : Apart3 z TI TO i1 i2 i3 t1 t2 t3) (S : Zip3 s.heap z TI TO i1 i2 i3 t1 t2 t3 xs ys zs .none k)
  (hx : xs[k]? = some x) (hy : ys[k]? = some y) (hv : zs[k]? = some v)
  (hQ : ∀ h', Zip3 h' z TI TO i1 i2 i3 t1 t2 t3 xs ys zs (rawInt s.heap.objs.size) (k + 1) → Trip h' s.heap.objs.size x y v → But [z, TO, i1, i2, i3] s.heap h' → Q (.ref s.heap.objs.size) { s with heap := h' }) :
  wpAny (model prog w) A (Builtin.«zip.__next__» ⟨[.ref z], []⟩) (fun fin s' => ∃ v, fin = .done (.ret v) ∧ Q v s') E s := by
 obtain ⟨hz, hTI, ⟨a, b, c, hTO⟩, g1, g2, g3, a1, a2, a3⟩ := S
 obtain ⟨nd, ti, s1, s2, s3⟩ := D
 simp only [List.nodup_cons, List.mem_cons, List.not_mem_nil, or_false, not_or] at nd ti s1 s2 s3
 obtain ⟨⟨n1, n2, n3, n4⟩, ⟨n5, n6, n7⟩, ⟨n8, n9⟩, n10, _⟩ := nd
 obtain ⟨t1z, t1o, t11, t12, t13⟩ := s1
 obtain ⟨t2z, t2o, t21, t22, t23⟩ := s2
 obtain ⟨t3z, t3o, t31, t32, t33⟩ := s3
 obtain ⟨tiz, tio, ti1, ti2, ti3⟩ := ti
 refine wpAny_bind (m := field (.ref z) 2) (wpAny_field hz rfl (x := .bool false) rfl ?_)
 refine wpAny_bind (m := field (.ref z) 3) (wpAny_field hz rfl (x := .ref TI) rfl ?_)
 refine wpAny_bind (wpAny_seqItems hTI rfl ?_)
 refine wpAny_bind (m := Builtin.SmallTypes.ownedTupleIsFree (.ref z)) ?_
 unfold Builtin.SmallTypes.ownedTupleIsFree
 refine wpAny_bind (wpAny_field hz rfl (x := .none) rfl (wpAny_pure ?_))
 simp only [if_true]
 refine wpAny_bind (wpAny_rule ?_)
 refine wpAny_bind (wpAny_field hz rfl (x := .ref TO) rfl ?_)
 refine wpAny_bind (wpAny_setField_rec hz (by simp) fun h1 hz1 b1 => ?_)
 replace hz1 : IsZip h1 z TI TO .ellipsis := hz1
 refine wpAny_bind ?_
 simp only [List.zipIdx_cons, List.zipIdx_nil, List.forIn_cons, List.forIn_nil]
 refine wpAny_bind (wpAny_bind (wpAny_onRaise ?_))
 refine wpAny_bind (m := Builtin.SmallTypes.nextOf (.ref i1)) ?_
 refine nextT_item (g1.extBut b1.extBut (Ne.symm n2)) (a1.extBut b1.extBut t1z) hx fun h2 g1' b2 => wpAny_pure ?_
 have o2 : Trip h2 TO a b c := b2.extBut _ _ n5 (b1.extBut _ _ (Ne.symm n1) hTO)
 refine wpAny_bind (wpAny_seqItems o2 rfl ?_)
 refine wpAny_bind (upd_trip o2 fun h3 o3 b3 => ?_)
 replace o3 : Trip h3 TO x b c := o3
 refine wpAny_bind (wpAny_letGo (wpAny_pure ?_))
 refine wpAny_bind (wpAny_bind (wpAny_onRaise ?_))
 refine wpAny_bind (m := Builtin.SmallTypes.nextOf (.ref i2)) ?_
 refine nextT_item (((g2.extBut b1.extBut (Ne.symm n3)).extBut b2.extBut (Ne.symm n8)).extBut b3.extBut (Ne.symm n6)) (((a2.extBut b1.extBut t2z).extBut b2.extBut t21).extBut b3.extBut t2o) hy fun h4 g2' b4 => wpAny_pure ?_
 have o4 : Trip h4 TO x b c := b4.extBut _ _ n6 o3
 refine wpAny_bind (wpAny_seqItems o4 rfl ?_)
 refine wpAny_bind (upd_trip o4 fun h5 o5 b5 => ?_)
 replace o5 : Trip h5 TO x y c := o5
 refine wpAny_bind (wpAny_letGo (wpAny_pure ?_))
 refine wpAny_bind (wpAny_bind (wpAny_onRaise ?_))
 refine wpAny_bind (m := Builtin.SmallTypes.nextOf (.ref i3)) ?_
 refine nextT_item (((((g3.extBut b1.extBut (Ne.symm n4)).extBut b2.extBut (Ne.symm n9)).extBut b3.extBut (Ne.symm n7)).extBut b4.extBut (Ne.symm n10)).extBut b5.extBut (Ne.symm n7))
  (((((a3.extBut b1.extBut t3z).extBut b2.extBut t31).extBut b3.extBut t3o).extBut b4.extBut t32).extBut b5.extBut t3o) hv fun h6 g3' b6 => wpAny_pure ?_
 have o6 : Trip h6 TO x y c := b6.extBut _ _ n7 o5
 refine wpAny_bind (wpAny_seqItems o6 rfl ?_)
 refine wpAny_bind (upd_trip o6 fun h7 o7 b7 => ?_)
 replace o7 : Trip h7 TO x y v := o7
 refine wpAny_bind (wpAny_letGo (wpAny_pure (wpAny_pure ?_)))
 refine wpAny_bind (wpAny_seqItems o7 rfl ?_)
 refine wpAny_bind (wpAny_newTuple ?_)
 have sz : h7.objs.size = s.heap.objs.size := by rw [b7.1, b6.1, b5.1, b4.1, b3.1, b2.1, b1.1]
 have B : But [z, TO, i1, i2, i3] s.heap h7 :=
  ((((((But.of b1.extBut (by simp)).trans (But.of b2.extBut (by simp))).trans (But.of b3.extBut (by simp))).trans (But.of b4.extBut (by simp))).trans (But.of b5.extBut (by simp))).trans (But.of b6.extBut (by simp))).trans (But.of b7.extBut (by simp))
 have z7 : IsZip h7 z TI TO .ellipsis := b7.extBut _ _ n1 (b6.extBut _ _ n4 (b5.extBut _ _ n1 (b4.extBut _ _ n3 (b3.extBut _ _ n1 (b2.extBut _ _ n2 hz1)))))
 have i17 : h7.IsTupleIter i1 t1 (k + 1) := ((((g1'.extBut b3.extBut (Ne.symm n5)).extBut b4.extBut n8).extBut b5.extBut (Ne.symm n5)).extBut b6.extBut n9).extBut b7.extBut (Ne.symm n5)
 have i27 : h7.IsTupleIter i2 t2 (k + 1) := ((g2'.extBut b5.extBut (Ne.symm n6)).extBut b6.extBut n10).extBut b7.extBut (Ne.symm n6)
 have i37 : h7.IsTupleIter i3 t3 (k + 1) := g3'.extBut b7.extBut (Ne.symm n7)
 refine wpAny_bind (m := Builtin.SmallTypes.ownedTupleHandOut (.ref z) (.ref h7.objs.size)) ?_
 unfold Builtin.SmallTypes.ownedTupleHandOut
 have z8 : IsZip (h7.push { cls := .type "tuple", data := .seq #[x, y, v] }) z TI TO .ellipsis := Heap.get?_push_of_some _ z7
 refine wpAny_bind (wpAny_setField_rec z8 (by simp) fun h9 z9 b9 => ?_)
 replace z9 : IsZip h9 z TI TO (rawInt h7.objs.size) := z9
 refine wpAny_setField_rec z9 (by simp) fun h10 z10 b10 => ?_
 replace z10 : IsZip h10 z TI TO (rawInt h7.objs.size) := z10
 have up : ∀ c o, c ≠ z → h7.get? c = some o → h10.get? c = some o := fun c o c1 e => b10.extBut _ _ c1 (b9.extBut _ _ c1 (Heap.get?_push_of_some _ e))
 have zlt : z < h7.objs.size := Heap.lt_size z7
 have T10 : Trip h10 h7.objs.size x y v := b10.extBut _ _ (Nat.ne_of_gt zlt) (b9.extBut _ _ (Nat.ne_of_gt zlt) (Heap.get?_push_size _ rfl))
 rw [sz] at z10 T10
 refine wpAny_pure ⟨_, rfl, ?_⟩
 show Q (.ref h7.objs.size) _
 rw [sz]
 have itk : ∀ {i t : Addr} {m : Nat}, i ≠ z → h7.IsTupleIter i t m → h10.IsTupleIter i t m := fun ne ⟨o, e, r⟩ => ⟨o, up _ o ne e, r⟩
 have tuk : ∀ {t : Addr} {us : Array Value}, t ∉ [z, TO, i1, i2, i3] → s.heap.IsTuple t us → h10.IsTuple t us := fun ne ⟨o, e, r⟩ => ⟨o, up _ o (fun q => ne (by simp [q])) (B _ o ne e), r⟩
 refine hQ h10 ⟨z10, up _ _ tiz (B _ _ (by simp [tiz, tio, ti1, ti2, ti3]) hTI), ⟨x, y, v, up _ _ (Ne.symm n1) o7⟩, itk (Ne.symm n2) i17, itk (Ne.symm n3) i27, itk (Ne.symm n4) i37,
  tuk (by simp [t1z, t1o, t11, t12, t13]) a1, tuk (by simp [t2z, t2o, t21, t22, t23]) a2, tuk (by simp [t3z, t3o, t31, t32, t33]) a3⟩ T10 fun c o hc e => up c o (fun q => hc (by simp [q])) (B c o hc e)
theorem zip3_end {z TI TO i1 i2 i3 t1 t2 t3 : Addr} {xs ys zs : Array Value} {k : Nat} {Q : Fin → Shared → Prop} (hh : A.handled = none) (D : Apart3 z TI TO i1 i2 i3 t1 t2 t3) (S : Zip3 s.heap z TI TO i1 i2 i3 t1 t2 t3 xs ys zs .none k) (hx : xs[k]? = none)
  (hE : ∀ h' e, But [z, TO, i1, i2, i3] s.heap h' → (∃ o, h'.get? e = some o ∧ o.cls = .type "StopIteration") → E (.ref e) { s with heap := h' }) :
  wpAny (model prog w) A (Builtin.«zip.__next__» ⟨[.ref z], []⟩) Q E s := by
 obtain ⟨hz, hTI, ⟨a, b, c, hTO⟩, g1, g2, g3, a1, a2, a3⟩ := S
 obtain ⟨nd, ti, s1, s2, s3⟩ := D
 simp only [List.nodup_cons, List.mem_cons, List.not_mem_nil, or_false, not_or] at nd ti s1 s2 s3
 obtain ⟨⟨n1, n2, n3, n4⟩, ⟨n5, n6, n7⟩, ⟨n8, n9⟩, n10, _⟩ := nd
 refine wpAny_bind (m := field (.ref z) 2) (wpAny_field hz rfl (x := .bool false) rfl ?_)
 refine wpAny_bind (m := field (.ref z) 3) (wpAny_field hz rfl (x := .ref TI) rfl ?_)
 refine wpAny_bind (wpAny_seqItems hTI rfl ?_)
 refine wpAny_bind (m := Builtin.SmallTypes.ownedTupleIsFree (.ref z)) ?_
 unfold Builtin.SmallTypes.ownedTupleIsFree
 refine wpAny_bind (wpAny_field hz rfl (x := .none) rfl (wpAny_pure ?_))
 simp only [if_true]
 refine wpAny_bind (wpAny_rule ?_)
 refine wpAny_bind (wpAny_field hz rfl (x := .ref TO) rfl ?_)
 refine wpAny_bind (wpAny_setField_rec hz (by simp) fun h1 hz1 b1 => ?_)
 replace hz1 : IsZip h1 z TI TO .ellipsis := hz1
 refine wpAny_bind ?_
 simp only [List.zipIdx_cons, List.zipIdx_nil, List.forIn_cons, List.forIn_nil]
 refine wpAny_bind (wpAny_bind (wpAny_onRaise ?_))
 refine wpAny_bind (m := Builtin.SmallTypes.nextOf (.ref i1)) ?_
 refine nextT_end hh (g1.extBut b1.extBut (Ne.symm n2)) (a1.extBut b1.extBut s1.1) hx fun h2 e b2 he => ?_
 obtain ⟨oe, ho, hc⟩ := he
 have z2 : IsZip h2 z TI TO .ellipsis := b2 _ _ n2 hz1
 have ez : e ≠ z := fun q => by subst q; rw [z2] at ho; cases ho; simp at hc
 refine wpAny_setField_rec z2 (by simp) fun h3 _ b3 => ?_
 exact hE h3 e (((But.of b1.extBut (by simp)).trans (But.of b2 (by simp))).trans (But.of b3.extBut (by simp))) ⟨oe, b3.extBut _ _ ez ho, hc⟩
end
end BX
end
section
namespace BX
open PySem PySem.Spec L2
open PyProof.Rows hiding St
structure ZipC (h : Heap) (z TI TO i1 i2 i3 t1 t2 t3 : Addr) (f0 : Value) (k : Nat) : Prop where
 hz : IsZip h z TI TO f0
 hTI : Trip h TI (.ref i1) (.ref i2) (.ref i3)
 hTO : ∃ a b c, Trip h TO a b c
 g1 : h.IsTupleIter i1 t1 k
 g2 : h.IsTupleIter i2 t2 k
 g3 : h.IsTupleIter i3 t3 k
theorem ZipC.all {h : Heap} {z TI TO i1 i2 i3 t1 t2 t3 : Addr} {f0 : Value} {k : Nat} (S : ZipC h z TI TO i1 i2 i3 t1 t2 t3 f0 k) {xs ys zs : Array Value} (a1 : h.IsTuple t1 xs) (a2 : h.IsTuple t2 ys) (a3 : h.IsTuple t3 zs) :
  Zip3 h z TI TO i1 i2 i3 t1 t2 t3 xs ys zs f0 k := ⟨S.hz, S.hTI, S.hTO, S.g1, S.g2, S.g3, a1, a2, a3⟩
theorem Zip3.c {h : Heap} {z TI TO i1 i2 i3 t1 t2 t3 : Addr} {xs ys zs : Array Value} {f0 : Value} {k : Nat} (S : Zip3 h z TI TO i1 i2 i3 t1 t2 t3 xs ys zs f0 k) : ZipC h z TI TO i1 i2 i3 t1 t2 t3 f0 k := ⟨S.hz, S.hTI, S.hTO, S.g1, S.g2, S.g3⟩
theorem ZipC.keep {h h' : Heap} {z TI TO i1 i2 i3 t1 t2 t3 : Addr} {f0 : Value} {k : Nat} (S : ZipC h z TI TO i1 i2 i3 t1 t2 t3 f0 k) (kp : ∀ b ∈ [z, TI, TO, i1, i2, i3], ∀ o, h.get? b = some o → h'.get? b = some o) :
  ZipC h' z TI TO i1 i2 i3 t1 t2 t3 f0 k := by
 obtain ⟨hz, hTI, ⟨a, b, c, hTO⟩, ⟨o1, e1, r1⟩, ⟨o2, e2, r2⟩, ⟨o3, e3, r3⟩⟩ := S
 exact ⟨kp z (by simp) _ hz, kp TI (by simp) _ hTI, ⟨a, b, c, kp TO (by simp) _ hTO⟩, ⟨o1, kp i1 (by simp) _ e1, r1⟩, ⟨o2, kp i2 (by simp) _ e2, r2⟩, ⟨o3, kp i3 (by simp) _ e3, r3⟩⟩
noncomputable def Itz (K : PySem.W.Frag) (t1 t2 t3 : Addr) : It :=
 ⟨fun i H => ∃ xs ys zs x y v, SqT K H t1 xs ∧ SqT K H t2 ys ∧ SqT K H t3 zs ∧ xs[i]? = some x ∧ ys[i]? = some y ∧ zs[i]? = some v,
  fun i H u H' => ∃ p x y v, u = .ref p ∧ H p = none ∧ H' = upd H p (.tup [x, y, v]) ∧ ∀ xs ys zs, SqT K H t1 xs → SqT K H t2 ys → SqT K H t3 zs → xs[i]? = some x ∧ ys[i]? = some y ∧ zs[i]? = some v,
  fun i H => ∃ xs ys zs, SqT K H t1 xs ∧ SqT K H t2 ys ∧ SqT K H t3 zs ∧ xs.length ≤ i⟩
theorem turn_zip {P : Program} {w : World} {K : PySem.W.Frag} {elts : List Expr} {x1 : Nat} {pos : Pos} {z TI TO i1 i2 i3 t1 t2 t3 : Addr} (nd : [z, TO, i1, i2, i3].Nodup) (ti : TI ∉ [z, TO, i1, i2, i3]) :
  Turn P w K (.Tuple elts x1 pos) (Itz K t1 t2 t3) [z, TI, TO, i1, i2, i3] z (fun i h => ZipC h z TI TO i1 i2 i3 t1 t2 t3 .none i) where
 mem := by simp
 obj := fun i h st b hb => by
  obtain ⟨hz, hTI, ⟨a, b', c, hTO⟩, ⟨o1, e1, _, d1⟩, ⟨o2, e2, _, d2⟩, ⟨o3, e3, _, d3⟩⟩ := st
  simp only [List.mem_cons, List.not_mem_nil, or_false] at hb
  rcases hb with rfl | rfl | rfl | rfl | rfl | rfl
  ·exact ⟨_, hz, fun v q => by cases q⟩
  ·exact ⟨_, hTI, fun v q => by cases q⟩
  ·exact ⟨_, hTO, fun v q => by cases q⟩
  ·exact ⟨o1, e1, fun v q => by rw [d1] at q; cases q⟩
  ·exact ⟨o2, e2, fun v q => by rw [d2] at q; cases q⟩
  ·exact ⟨o3, e3, fun v q => by rw [d3] at q; cases q⟩
 keep := fun i h h' st k => st.keep k
 item := by
  intro X hP hw hK hc i pins s σ H E I hf st hg
  subst hP hw hK
  obtain ⟨xs, ys, zs, x, y, v, q1, q2, q3, ex, ey, ev⟩ := hg
  obtain ⟨us1, r1, p1, z1⟩ := I.tuple q1
  obtain ⟨us2, r2, p2, z2⟩ := I.tuple q2
  obtain ⟨us3, r3, p3, z3⟩ := I.tuple q3
  obtain ⟨u1, m1, l1⟩ := r1.get ex
  obtain ⟨u2, m2, l2⟩ := r2.get ey
  obtain ⟨u3, m3, l3⟩ := r3.get ev
  have trk : ∀ {t : Addr} {ws : List V}, SqT X.K H t ws → t ∉ [z, TO, i1, i2, i3] := fun {t ws} hq hb => by
   have hb' : t ∈ [z, TI, TO, i1, i2, i3] := by
    simp only [List.mem_cons, List.not_mem_nil, or_false] at hb ⊢
    rcases hb with e | e | e | e | e <;> simp [e]
   rcases hq with (e | ⟨o, e⟩) | ⟨o, its, n, hk, hcl, hs, _, _⟩
   ·have := (hf t hb').1; rw [e] at this; cases this
   ·have := (hf t hb').1; rw [e] at this; cases this
   ·-- an object of the module is no iterator of ours
    obtain ⟨f0, f1, f2, f3, f4, f5⟩ := hf t hb'
    have hbase := I.mod.kin t o hk
    rcases f3 with q | q
    ·exact I.ok.noex t o hbase q
    ·exact absurd (Nat.lt_of_lt_of_le (Heap.lt_size hbase) (Nat.le_trans I.ok.bsz q)) (Nat.lt_irrefl _)
  have D : Apart3 z TI TO i1 i2 i3 t1 t2 t3 := ⟨nd, ti, trk q1, trk q2, trk q3⟩
  have S := st.all (xs := us1.toArray) (ys := us2.toArray) (zs := us3.toArray) p1 p2 p3
  have hT : s.TypeIs (.ref z) "zip" := ⟨_, st.hz, rfl⟩
  unfold pyNext
  refine wpAny_bind (wpAny_attempt (wpAny_callSpecial?_slot (name := Str.ofString "__next__") hT F.slot_zip_next
   (wpAny_call_entry F.slot_zip_next hT F.entry_zip_next (zip3_item D S (by simpa using m1) (by simpa using m2) (by simpa using m3) fun h1 S1 T1 B1 => wpAny_pure ?_)
    (F.args_zip_next_1 _))))
  refine ⟨_, rfl, ?_⟩
  refine wpAny_letOwnedTupleGo_zip (s := { s with heap := h1 }) S1.hz fun h2 z2' b2 => ?_
  have nT : H s.heap.objs.size = none := I.hok.fresh (Nat.le_refl _)
  have zlt : z < s.heap.objs.size := Heap.lt_size st.hz
  have T2 : Trip h2 s.heap.objs.size u1 u2 u3 := b2.extBut _ _ (Nat.ne_of_gt zlt) T1
  have B2 : But [z, TO, i1, i2, i3] s.heap h2 := B1.trans (But.of b2.extBut (by simp))
  have inF : ∀ b ∈ [z, TO, i1, i2, i3], b ∈ [z, TI, TO, i1, i2, i3] := fun b hb => by
   simp only [List.mem_cons, List.not_mem_nil, or_false] at hb ⊢
   rcases hb with e | e | e | e | e <;> simp [e]
  have ntr : ∀ b u, H b = some u → b ∉ [z, TO, i1, i2, i3] := fun b u e hb => by
   have := (hf b (inF b hb)).1
   rw [e] at this; cases this
  have neT : ∀ b u, H b = some u → b ≠ s.heap.objs.size := fun b u e q => by rw [q, nT] at e; cases e
  have hok2 : HOk X.prog X.w (upd H s.heap.objs.size (.tup [x, y, v])) h2 := fun b u e => by
   by_cases hb : b = s.heap.objs.size
   ·subst hb
    rw [upd_same] at e
    cases e
    exact ⟨by show 3 ≤ sizeLine; rw [sizeLine_eq]; decide, [u1, u2, u3], .cons l1 (.cons l2 (.cons l3 .nil)), ⟨_, T2, rfl, _, rfl⟩⟩
   ·rw [upd_ne hb] at e
    refine (I.hok b u e).stay (fun c o hc' q => B2 c o ?_ q) (fun c q => by rw [upd_ne (neT c _ q)]; exact q) fun c ws q => by rw [upd_ne (neT c _ q)]; exact q
    rcases hc' with q' | q'
    ·rw [q']; exact ntr b u e
    ·exact ntr c _ q'
  have I2 : Inv X pins σ (upd H s.heap.objs.size (.tup [x, y, v])) { s with heap := h2, toks := s.toks } := by
   refine I.step (g' := s.gens) (d' := s.drawn) (ch := [z, TO, i1, i2, i3]) (fun b hb => ?_) (fun b o _ _ hb e _ => B2 b o hb e) (fun b o _ _ hb e _ => ⟨o.slots, B2 b o hb e⟩) (fun b o hb e n => ?_) (fun b o hb e => ⟨o, B2 b o hb e⟩)
    (fun b ws e => by rw [upd_ne (neT b _ e)]; exact e) (fun b ob ws e => by rw [upd_ne (neT b _ e)]; exact e) (fun b ps e => ⟨#[], by rw [upd_ne (neT b _ e), e]; simp⟩) (fun m hm => ?_) hok2 I.bare
   ·obtain ⟨f0, f1, f2, f3, f4, f5⟩ := hf b (inF b hb)
    exact ⟨f3, f1, f4, f5⟩
   ·rw [upd_ne (Nat.ne_of_lt (Heap.lt_size e))]; exact n
   ·obtain ⟨o, es, ep, ho, r⟩ := hm
    refine ⟨o, es, ep, B2 _ o (fun hb => ?_) ho, r⟩
    exact (hf _ (inF _ hb)).2.1 rfl
  refine ⟨.ref s.heap.objs.size, _, I2, rfl, ⟨_, x, y, v, rfl, nT, rfl, fun as bs cs g1 g2 g3 => ?_⟩, ?_, fun b hb => ?_⟩
  ·rw [I.tuple_inj g1 q1, I.tuple_inj g2 q2, I.tuple_inj g3 q3]
   exact ⟨ex, ey, ev⟩
  ·have c1 := S1.c
   obtain ⟨_, hTI, ⟨a, b, c, hTO⟩, ⟨o1, e1, w1⟩, ⟨o2, e2, w2⟩, ⟨o3, e3, w3⟩⟩ := c1
   simp only [List.nodup_cons, List.mem_cons, List.not_mem_nil, or_false, not_or] at nd ti
   obtain ⟨⟨n1, n2, n3, n4⟩, _⟩ := nd
   exact ⟨z2', b2.extBut _ _ ti.1 hTI, ⟨a, b, c, b2.extBut _ _ (Ne.symm n1) hTO⟩, ⟨o1, b2.extBut _ _ (Ne.symm n2) e1, w1⟩, ⟨o2, b2.extBut _ _ (Ne.symm n3) e2, w2⟩, ⟨o3, b2.extBut _ _ (Ne.symm n4) e3, w3⟩⟩
  ·obtain ⟨o, ho, _⟩ : ∃ o, s.heap.get? b = some o ∧ True := by
    obtain ⟨hz, hTI, ⟨a, b', c, hTO⟩, ⟨o1, e1, _⟩, ⟨o2, e2, _⟩, ⟨o3, e3, _⟩⟩ := st
    simp only [List.mem_cons, List.not_mem_nil, or_false] at hb
    rcases hb with rfl | rfl | rfl | rfl | rfl | rfl
    ·exact ⟨_, hz, trivial⟩
    ·exact ⟨_, hTI, trivial⟩
    ·exact ⟨_, hTO, trivial⟩
    ·exact ⟨_, e1, trivial⟩
    ·exact ⟨_, e2, trivial⟩
    ·exact ⟨_, e3, trivial⟩
   rw [upd_ne (Nat.ne_of_lt (Heap.lt_size ho))]
   exact (hf b hb).1
 done := by
  intro X hP hw hK hc i pins s σ H E I hf st hg
  subst hP hw hK
  obtain ⟨xs, ys, zs, q1, q2, q3, hl⟩ := hg
  obtain ⟨us1, r1, p1, z1⟩ := I.tuple q1
  obtain ⟨us2, r2, p2, z2⟩ := I.tuple q2
  obtain ⟨us3, r3, p3, z3⟩ := I.tuple q3
  have trk : ∀ {t : Addr} {ws : List V}, SqT X.K H t ws → t ∉ [z, TO, i1, i2, i3] := fun {t ws} hq hb => by
   have hb' : t ∈ [z, TI, TO, i1, i2, i3] := by
    simp only [List.mem_cons, List.not_mem_nil, or_false] at hb ⊢
    rcases hb with e | e | e | e | e <;> simp [e]
   rcases hq with (e | ⟨o, e⟩) | ⟨o, its, n, hk, hcl, hs, _, _⟩
   ·have := (hf t hb').1; rw [e] at this; cases this
   ·have := (hf t hb').1; rw [e] at this; cases this
   ·obtain ⟨f0, f1, f2, f3, f4, f5⟩ := hf t hb'
    have hbase := I.mod.kin t o hk
    rcases f3 with q | q
    ·exact I.ok.noex t o hbase q
    ·exact absurd (Nat.lt_of_lt_of_le (Heap.lt_size hbase) (Nat.le_trans I.ok.bsz q)) (Nat.lt_irrefl _)
  have D : Apart3 z TI TO i1 i2 i3 t1 t2 t3 := ⟨nd, ti, trk q1, trk q2, trk q3⟩
  have S := st.all (xs := us1.toArray) (ys := us2.toArray) (zs := us3.toArray) p1 p2 p3
  have hT : s.TypeIs (.ref z) "zip" := ⟨_, st.hz, rfl⟩
  have hlen := r1.length
  unfold pyNext
  refine wpAny_bind (wpAny_attempt (wpAny_callSpecial?_slot (name := Str.ofString "__next__") hT F.slot_zip_next
   (wpAny_call_entry F.slot_zip_next hT F.entry_zip_next (zip3_end (I.ok.hd hc) D S (by simp; omega) fun h1 e B1 he => ?_)
    (F.args_zip_next_1 _))))
  obtain ⟨o, ho, hcl⟩ := he
  refine wpAny_bind (wpAny_isInstance (T := "StopIteration") (b := true) ⟨o, ho, hcl⟩ isSubtype_stop ?_)
  refine wpAny_pure ⟨rfl, ?_⟩
  have inF : ∀ b ∈ [z, TO, i1, i2, i3], b ∈ [z, TI, TO, i1, i2, i3] := fun b hb => by
   simp only [List.mem_cons, List.not_mem_nil, or_false] at hb ⊢
   rcases hb with e | e | e | e | e <;> simp [e]
  have ntr : ∀ b u, H b = some u → b ∉ [z, TO, i1, i2, i3] := fun b u e hb => by
   have := (hf b (inF b hb)).1
   rw [e] at this; cases this
  refine I.step (t' := s.toks) (g' := s.gens) (d' := s.drawn) (ch := [z, TO, i1, i2, i3]) (fun b hb => ?_) (fun b o _ _ hb e _ => B1 b o hb e) (fun b o _ _ hb e _ => ⟨o.slots, B1 b o hb e⟩) (fun b o hb e n => n) (fun b o hb e => ⟨o, B1 b o hb e⟩)
   (fun b ws e => e) (fun b ob ws e => e) (fun b ps e => ⟨#[], by rw [e]; simp⟩) (fun m hm => ?_) (fun b u e => ?_) I.bare
  ·obtain ⟨f0, f1, f2, f3, f4, f5⟩ := hf b (inF b hb)
   exact ⟨f3, f1, f4, f5⟩
  ·obtain ⟨o, es, ep, ho, r⟩ := hm
   refine ⟨o, es, ep, B1 _ o (fun hb => ?_) ho, r⟩
   exact (hf _ (inF _ hb)).2.1 rfl
  ·refine (I.hok b u e).stay (fun c o hc' q => B1 c o ?_ q) (fun c q => q) fun c ws q => q
   rcases hc' with q' | q'
   ·rw [q']; exact ntr b u e
   ·exact ntr c _ q'
 self := fun _ _ _ _ _ st h => wpAny_pyIter_zip st.hz h
end BX
end
section
namespace BX
open PySem PySem.Spec L2
open PyProof.Rows hiding St
theorem typeCall_zip3 (a b c : Value) : checkTypeCall "zip" ⟨[a, b, c], []⟩ = pure () := by kernel_rfl
theorem newCall_zip3 (a b c : Value) : checkBuiltinCall "zip.__new__" ⟨[.type "zip", a, b, c], []⟩ = pure () := by kernel_rfl
theorem args_init4 (a b c d : Value) : argsOk "object.__init__" ⟨[a, b, c, d], []⟩ := by
 unfold argsOk
 rw [signature?_of (id := "object.__init__") (n := ['_', '_', 't', 'i', 'n', 'i', '_', '_'])
  (o := ['t', 'c', 'e', 'j', 'b', 'o']) (by kernel_rfl) F.owner_object]
 kernel_rfl
noncomputable abbrev itT3 (t : Addr) : Obj := { cls := .type "tuple_iterator", data := .fields #[.ref t, .int 0 0] }
noncomputable abbrev zh1 (h : Heap) (a : Addr) : Heap := h.push (itT3 a)
noncomputable abbrev zh2 (h : Heap) (a b : Addr) : Heap := (zh1 h a).push (itT3 b)
noncomputable abbrev zh3 (h : Heap) (a b c : Addr) : Heap := (zh2 h a b).push (itT3 c)
noncomputable abbrev zh4 (h : Heap) (a b c : Addr) : Heap := (zh3 h a b c).push { cls := .type "tuple", data := .seq #[.ref h.objs.size, .ref (zh1 h a).objs.size, .ref (zh2 h a b).objs.size] }
noncomputable abbrev zh5 (h : Heap) (a b c : Addr) : Heap := (zh4 h a b c).push { cls := .type "tuple", data := .seq #[.none, .none, .none] }
noncomputable abbrev zh6 (h : Heap) (a b c : Addr) : Heap := (zh5 h a b c).push { cls := .type "zip", data := .fields #[.none, .bool false, .bool false, .ref (zh3 h a b c).objs.size, .ref (zh4 h a b c).objs.size] }
theorem zip_new3 (a b c : Addr) (xs ys zs : Array Value) :
  Meets (Builtin.«zip.__new__» ⟨[.type "zip", .ref a, .ref b, .ref c], []⟩) (fun _ R s => s.heap.IsTuple a xs ∧ s.heap.IsTuple b ys ∧ s.heap.IsTuple c zs ∧
   R (.ok (.ret (.ref (zh5 s.heap a b c).objs.size))) { s with heap := zh6 s.heap a b c }) :=
 .of_wp fun prog w A R s h => by
  obtain ⟨hp, g, d, tk, os⟩ := s
  obtain ⟨h1, h2, h3, h⟩ := h
  have hsub := sub_zip
  have k1 : Heap.IsTuple (Shared.heap ⟨hp, g, d, tk, os⟩) a xs := h1
  have k2 : Heap.IsTuple (Shared.heap ⟨zh1 hp a, g, d, tk, os⟩) b ys := Heap.IsTuple.push h2 _
  have k3 : Heap.IsTuple (Shared.heap ⟨zh2 hp a b, g, d, tk, os⟩) c zs := Heap.IsTuple.push (Heap.IsTuple.push h3 _) _
  wp_walk using wpAny_pyIter_tuple k1, wpAny_pyIter_tuple k2, wpAny_pyIter_tuple k3
  exact ⟨_, rfl, h⟩
section
variable {X : Cx}
noncomputable def iZip3 (K : PySem.W.Frag) (ta : TA) : TI := fun σ H R => ta σ H fun vs H1 => ∃ a b c xs ys zs, vs = [.ref a, .ref b, .ref c] ∧ SqT K H1 a xs ∧ SqT K H1 b ys ∧ SqT K H1 c zs ∧ R (Itz K a b c) H1
theorem pi_zip3 {ea eb ec : Expr} {elts : List Expr} {x1 : Nat} {tp : Pos} {ta : TA} {p pos : Pos} (hg : Gl X "zip") (hm : X.mg "zip" = none) (ha : PA X [ea, eb, ec] ta)
  (hs : starEach [ea, eb, ec] X.env = [(false, eval ea X.env), (false, eval eb X.env), (false, eval ec X.env)] := by rfl) (hs2 : starEach [eb, ec] X.env = [(false, eval eb X.env), (false, eval ec X.env)] := by rfl) :
  PI X (.Tuple elts x1 tp) (.Call (.Name "zip" p) [ea, eb, ec] [] pos) (iZip3 X.K ta) := by
 intro pins s σ H R I h
 refine Call_ (ld_blt I hg hm boot_zip (PyProof.Rows.callWith_type1 (thn (ha pos pins s σ H _ I h) fun us s1 ⟨vs, H1, I1, r1, q1⟩ => ?_) (by rw [hs, hs2]) (by rw [hs2]; rfl)))
 obtain ⟨a, b, c, xs, ys, zs, e, q1, q2, q3, q⟩ := q1
 subst e
 cases r1 with
 | cons r1 rr =>
  cases rr with
  | cons r2 rr =>
   cases rr with
   | cons r3 rr =>
    cases rr
    cases r1; cases r2; cases r3
    obtain ⟨us1, v1, p1, z1⟩ := I1.tuple q1
    obtain ⟨us2, v2, p2, z2⟩ := I1.tuple q2
    obtain ⟨us3, v3, p3, z3⟩ := I1.tuple q3
    refine callType_new F.called_zip (by decide) (typeCall_zip3 _ _ _) (newCall_zip3 _ _ _) (fun obj => args_init4 obj _ _ _) F.entry_zip_new
     (zip_new3 a b c us1.toArray us2.toArray us3.toArray) ⟨p1, p2, p3, ?_⟩
    have n1 : (zh1 s1.heap a).objs.size = s1.heap.objs.size + 1 := Heap.size_push ..
    have n2 : (zh2 s1.heap a b).objs.size = s1.heap.objs.size + 2 := by rw [Heap.size_push, n1]
    have n3 : (zh3 s1.heap a b c).objs.size = s1.heap.objs.size + 3 := by rw [Heap.size_push, n2]
    have n4 : (zh4 s1.heap a b c).objs.size = s1.heap.objs.size + 4 := by rw [Heap.size_push, n3]
    have n5 : (zh5 s1.heap a b c).objs.size = s1.heap.objs.size + 5 := by rw [Heap.size_push, n4]
    have g6 : (zh6 s1.heap a b c).get? (zh5 s1.heap a b c).objs.size = some _ := Heap.get?_push_size _ rfl
    have g5 : (zh6 s1.heap a b c).get? (zh4 s1.heap a b c).objs.size = some _ := Heap.get?_push_of_some _ (Heap.get?_push_size _ rfl)
    have g4 : (zh6 s1.heap a b c).get? (zh3 s1.heap a b c).objs.size = some _ := Heap.get?_push_of_some _ (Heap.get?_push_of_some _ (Heap.get?_push_size _ rfl))
    have up3 : ∀ x o, (zh3 s1.heap a b c).get? x = some o → (zh6 s1.heap a b c).get? x = some o := fun x o e => Heap.get?_push_of_some _ (Heap.get?_push_of_some _ (Heap.get?_push_of_some _ e))
    have g3 : (zh6 s1.heap a b c).get? (zh2 s1.heap a b).objs.size = some _ := up3 _ _ (Heap.get?_push_size _ rfl)
    have g2 : (zh6 s1.heap a b c).get? (zh1 s1.heap a).objs.size = some _ := up3 _ _ (Heap.get?_push_of_some _ (Heap.get?_push_size _ rfl))
    have g1 : (zh6 s1.heap a b c).get? s1.heap.objs.size = some _ := up3 _ _ (Heap.get?_push_of_some _ (Heap.get?_push_of_some _ (Heap.get?_push_size _ rfl)))
    have kp : ∀ x o, s1.heap.get? x = some o → (zh6 s1.heap a b c).get? x = some o := fun x o e => up3 _ _ (Heap.get?_push_of_some _ (Heap.get?_push_of_some _ (Heap.get?_push_of_some _ e)))
    show _ ∧ _
    refine ⟨⟨_, g6, rfl⟩, ?_⟩
    refine wpAny_pyIter_zip g6 ?_
    have I2 : Inv X pins σ H1 { s1 with heap := zh6 s1.heap a b c } := I1.kept (t' := s1.toks) kp
    refine ⟨_, [(zh5 s1.heap a b c).objs.size, (zh3 s1.heap a b c).objs.size, (zh4 s1.heap a b c).objs.size, s1.heap.objs.size, (zh1 s1.heap a).objs.size, (zh2 s1.heap a b).objs.size],
     _, _, H1, rfl, I2, turn_zip (z := (zh5 s1.heap a b c).objs.size) (TI := (zh3 s1.heap a b c).objs.size) (TO := (zh4 s1.heap a b c).objs.size) (i1 := s1.heap.objs.size) (i2 := (zh1 s1.heap a).objs.size) (i3 := (zh2 s1.heap a b).objs.size) (t1 := a) (t2 := b) (t3 := c) ?_ ?_,
     ⟨g6, g4, ⟨_, _, _, g5⟩, ⟨_, g1, rfl, rfl⟩, ⟨_, g2, rfl, rfl⟩, ⟨_, g3, rfl, rfl⟩⟩, fun x hx => ?_, q⟩
    ·rw [n5, n4, n1, n2]
     simp [List.nodup_cons]
    ·rw [n3, n5, n4, n1, n2]
     simp
    ·have hle : s1.heap.objs.size ≤ x := by
      rw [n5, n3, n4, n1, n2] at hx
      simp only [List.mem_cons, List.not_mem_nil, or_false] at hx
      rcases hx with e | e | e | e | e | e <;> rw [e] <;> first | exact Nat.le_refl _ | exact Nat.le_add_right _ _
     exact I1.fpOk hle (I1.hok.fresh hle)
noncomputable def zip3L : List PyData → List PyData → List PyData → List PyData
 | x :: xs, y :: ys, z :: zs => .tuple [x, y, z] :: zip3L xs ys zs
 | _, _, _ => []
noncomputable def zip3D (ds : List PyData) : Option (List PyData) := match ds with
 | [.tuple xs, .tuple ys, .tuple zs] => if xs.length = ys.length ∧ ys.length = zs.length then some (zip3L xs ys zs) else none
 | _ => none
theorem zip3L_len : ∀ (xs ys zs : List PyData), xs.length = ys.length → ys.length = zs.length → (zip3L xs ys zs).length = xs.length
 | [], _, _, _, _ => by simp [zip3L]
 | x :: xs, [], _, h, _ => by simp at h
 | x :: xs, y :: ys, [], _, h => by simp at h
 | x :: xs, y :: ys, z :: zs, h, g => by simp [zip3L, zip3L_len xs ys zs (by simpa using h) (by simpa using g)]
theorem zip3L_get : ∀ (xs ys zs : List PyData) (i : Nat) (d : PyData), (zip3L xs ys zs)[i]? = some d → ∃ x y z, xs[i]? = some x ∧ ys[i]? = some y ∧ zs[i]? = some z ∧ d = .tuple [x, y, z]
 | [], _, _, i, d, h => by simp [zip3L] at h
 | x :: xs, [], _, i, d, h => by simp [zip3L] at h
 | x :: xs, y :: ys, [], i, d, h => by simp [zip3L] at h
 | x :: xs, y :: ys, z :: zs, 0, d, h => by simp [zip3L] at h; exact ⟨x, y, z, rfl, rfl, rfl, h.symm⟩
 | x :: xs, y :: ys, z :: zs, i + 1, d, h => by
  obtain ⟨a, b, c, e1, e2, e3, e4⟩ := zip3L_get xs ys zs i d (by simpa [zip3L] using h)
  exact ⟨a, b, c, by simpa using e1, by simpa using e2, by simpa using e3, e4⟩
theorem pid_zip3 {ea eb ec : Expr} {elts : List Expr} {x1 : Nat} {tp : Pos} {p pos : Pos} {fr : Rho → Option (List PyData)} (hm : X.mg "zip" = none) (ha : PAD X [ea, eb, ec] fr) (hg : Gl X "zip" := by rfl)
  (hs : starEach [ea, eb, ec] X.env = [(false, eval ea X.env), (false, eval eb X.env), (false, eval ec X.env)] := by rfl) (hs2 : starEach [eb, ec] X.env = [(false, eval eb X.env), (false, eval ec X.env)] := by rfl) :
  PID X (.Tuple elts x1 tp) (.Call (.Name "zip" p) [ea, eb, ec] [] pos) (fun ρ => (fr ρ).bind zip3D) := by
 with_unfolding_all
  refine PI.imp (pi_zip3 hg hm ha hs hs2) fun σ H R ⟨ρ, ds, en, q, k⟩ => ?_
  cases h1 : fr ρ with
  | none => simp [h1] at q
  | some as =>
   have q' : zip3D as = some ds := by simpa [h1] using q
   refine ⟨ρ, as, en, h1, fun vs H1 s1 r1 => ?_⟩
   unfold zip3D at q'
   split at q'
   ·rename_i xs ys zs
    split at q'
    ·rename_i hl
     cases q'
     obtain ⟨v1, w1, e1, ⟨a, us1, ea', qa, ra⟩, v2, w2, e2, ⟨b, us2, eb', qb, rb⟩, v3, w3, e3, ⟨c, us3, ec', qc, rc⟩, e4⟩ := r1
     cases (show w3 = [] from e4)
     subst ea'; subst eb'; subst ec'; subst e3; subst e2
     have l1 := ra.length
     have l2 := rb.length
     have l3 := rc.length
     have lz := zip3L_len xs ys zs hl.1 hl.2
     refine ⟨a, b, c, us1, us2, us3, e1, qa, qb, qc, k _ H1 s1 fun i H2 s2 => ⟨fun hi => ?_, fun hi => ?_, fun u H3 y => ?_⟩⟩
     ·rw [lz] at hi
      exact ⟨us1, us2, us3, us1[i]'(by omega), us2[i]'(by omega), us3[i]'(by omega), SameE.tup s2 qa, SameE.tup s2 qb, SameE.tup s2 qc, by simp <;> omega, by simp <;> omega, by simp <;> omega⟩
     ·rw [lz] at hi
      exact ⟨us1, us2, us3, SameE.tup s2 qa, SameE.tup s2 qb, SameE.tup s2 qc, by omega⟩
     ·obtain ⟨pp, x, y, v, e5, e6, e7, e8⟩ := y
      subst e5; subst e7
      refine ⟨same_upd e6, fun d hd => ?_⟩
      obtain ⟨dx, dy, dz, g1, g2, g3, g4⟩ := zip3L_get xs ys zs i d hd
      subst g4
      obtain ⟨f1, f2, f3⟩ := e8 us1 us2 us3 (SameE.tup s2 qa) (SameE.tup s2 qb) (SameE.tup s2 qc)
      have m := s2.trans (Same.e (same_upd (o := .tup [x, y, v]) e6))
      obtain ⟨x', a1, a2⟩ := (Reps.monoE m _ _ ra).get g1
      obtain ⟨y', b1, b2⟩ := (Reps.monoE m _ _ rb).get g2
      obtain ⟨z', c1, c2⟩ := (Reps.monoE m _ _ rc).get g3
      rw [f1] at a1; cases a1
      rw [f2] at b1; cases b1
      rw [f3] at c1; cases c1
      exact ⟨pp, [x, y, v], rfl, SqT.of upd_same, x, _, rfl, a2, y, _, rfl, b2, v, _, rfl, c2, rfl⟩
    ·cases q'
   ·cases q'
noncomputable def tyn : PyData → String
 | .none => "NoneType"
 | .bool _ => "bool"
 | .int _ => "int"
 | .str _ => "str"
 | .tuple _ => "tuple"
 | .list _ => "list"
 | .dict kvs => if isScr kvs then "list" else "dict"
noncomputable def isFn : PyData → Bool
 | .dict [(.str _, _)] => true
 | _ => false
noncomputable def isiO (T : String) (d : PyData) : Option PyData := if isFn d = true then none else some (.bool (tyn d == T || (T == "int" && tyn d == "bool")))
theorem isi_data {pins : List (Addr × Obj)} {σ : St} {H : Hp} {s : Shared} {E : Value → Shared → Prop} {Q : Value → Shared → Prop} {d : PyData} {v : V} {u c : Value} {b : Bool} (I : Inv X pins σ H s) (r : Rep X.K H d v) (hF : isFn d = false) (rv : RelV v u)
  (e : PySem.W.kitOne X.K (.type (tyn d)) c = some b) (h : ∀ tk, Q (.bool b) { s with toks := tk }) : wpAny (model X.prog X.w) X.A (call (.builtin "isinstance") [u, c]) Q E s := by
 cases d with
 | none => cases r; cases rv; exact PySem.W.kia_one PySem.W.kitx_none I.kIn True.intro e (fun z => nomatch z) h
 | bool y => cases r; cases rv; exact PySem.W.kia_one PySem.W.kitx_bool I.kIn True.intro e (fun z => nomatch z) h
 | int i => cases r; obtain ⟨t, rfl⟩ := rv; exact PySem.W.kia_one PySem.W.kitx_int I.kIn True.intro e (fun z => nomatch z) h
 | str y => cases r; obtain ⟨t, rfl⟩ := rv; exact PySem.W.kia_one PySem.W.kitx_str I.kIn True.intro e (fun z => nomatch z) h
 | tuple ds =>
  obtain ⟨a, xs, e1, e2, e3⟩ := r
  subst e1; cases rv
  obtain ⟨its, _, ⟨o, h1, h2, _⟩, _⟩ := I.tuple e2
  exact PySem.W.kia_one PySem.W.kitx_tuple I.kIn ⟨o, h1, h2⟩ e (fun z => nomatch z) h
 | list ds =>
  obtain ⟨a, xs, e1, e2, e3⟩ := r
  subst e1; cases rv
  obtain ⟨its, _, ⟨o, n, h1, h2, _⟩, _⟩ := I.list (SqL.of e2)
  exact PySem.W.kia_one PySem.W.kitx_list I.kIn ⟨o, h1, h2⟩ e (fun z => nomatch z) h
 | dict ds =>
  obtain ⟨a, e1, ⟨ns, e2, e3⟩ | ⟨ks, ob, e2, e3⟩ | ⟨x, e2, _⟩ | ⟨x, _, _, e2, _⟩⟩ := r
  ·subst e1; cases rv
   subst e3
   have e : PySem.W.kitOne X.K (.type "list") c = some b := by simpa [tyn, isScr_map] using e
   obtain ⟨its, _, ⟨o, n, h1, h2, _⟩, _⟩ := I.list e2
   exact PySem.W.kia_one PySem.W.kitx_list I.kIn ⟨o, h1, h2⟩ e (fun z => nomatch z) h
  ·subst e1; cases rv
   obtain ⟨cc, rr, rfl, e4⟩ := e3.out
   have e : PySem.W.kitOne X.K (.type "dict") c = some b := by simpa [tyn, isScr] using e
   obtain ⟨_, _, vs, _, dd⟩ := dk_rd I.hok (.inr ⟨ob, e2⟩)
   obtain ⟨o, es, ep, h1, h2, _⟩ := dd
   exact PySem.W.kia_one PySem.W.kitx_dict I.kIn ⟨o, h1, h2.1⟩ e (fun z => nomatch z) h
  ·subst e2; simp [isFn] at hF
  ·subst e2; simp [isFn] at hF
noncomputable def rIsi (K : PySem.W.Frag) (T : String) : List V → Hp → VK → Prop := fun xs H Q => ∃ x d b, xs = [x, .ty T] ∧ Rep K H d x ∧ isFn d = false ∧ PySem.W.kitOne K (.type (tyn d)) (.type T) = some b ∧ Q (.bl b) H
theorem call_isi {T : String} : CallR X (.builtin "isinstance") (rIsi X.K T) := by
 intro pins s σ H xs us Q I r ⟨x, d, b, e, h1, hF, h2, q⟩
 subst e
 obtain ⟨u, w', rfl, r1, r2⟩ := vals2 r
 cases (show w' = _ from r2)
 exact isi_data I h1 hF r1 h2 fun tk => ⟨.bl b, H, I.tok tk, rfl, q⟩
noncomputable def isiB (T : String) (d : PyData) : Bool := tyn d == T || (T == "int" && tyn d == "bool")
@[simp] theorem isiO_none (T : String) : isiO T .none = some (.bool (isiB T .none)) := rfl
@[simp] theorem isiO_bool (T : String) (b : Bool) : isiO T (.bool b) = some (.bool (isiB T (.bool b))) := rfl
@[simp] theorem isiO_int (T : String) (i : Int) : isiO T (.int i) = some (.bool (isiB T (.int i))) := rfl
@[simp] theorem isiO_str (T : String) (x : Str) : isiO T (.str x) = some (.bool (isiB T (.str x))) := rfl
@[simp] theorem isiO_tuple (T : String) (ds : List PyData) : isiO T (.tuple ds) = some (.bool (isiB T (.tuple ds))) := rfl
@[simp] theorem isiO_list (T : String) (ds : List PyData) : isiO T (.list ds) = some (.bool (isiB T (.list ds))) := rfl
theorem isiO_out {T : String} {d e : PyData} (h : isiO T d = some e) : isFn d = false ∧ e = .bool (isiB T d) := by
 unfold isiO at h
 split at h
 ·cases h
 ·rename_i hf; cases h; exact ⟨by simpa using hf, rfl⟩
theorem kit_isi {K : PySem.W.Frag} {T : String} (hT : T = "bool" ∨ T = "int" ∨ T = "tuple") (d : PyData) : PySem.W.kitOne K (.type (tyn d)) (.type T) = some (isiB T d) := by
 rcases hT with rfl | rfl | rfl <;> cases d <;> first | rfl | (rename_i kvs; by_cases h : isScr kvs = true <;> simp only [tyn, isiB, h] <;> rfl)
theorem pd_isi {a : Expr} {fa : Rho → Option PyData} {T : Str} {Tn : String} {p p2 pos : Pos} (hT : Tn = "bool" ∨ Tn = "int" ∨ Tn = "tuple") (hm1 : X.mg "isinstance" = none) (hm2 : X.mg T = none) (hv : bootBuiltins T = some (.type Tn)) (ha : PD X a fa)
  (hg1 : Gl X "isinstance" := by rfl) (hg2 : Gl X T := by rfl) (hn : T ≠ "__name__" := by decide) (hd : (T == ("__debug__" : Str)) = false := by decide)
  (he : starEach [a, .Name T p2] X.env = [(false, eval a X.env), (false, eval (.Name T p2) X.env)] := by rfl) (he2 : starEach [.Name T p2] X.env = [(false, eval (.Name T p2) X.env)] := by rfl) (hpl : (backTo pos (starEach [.Name T p2] X.env)).any (·.1) = false := by rfl) :
  PD X (.Call (.Name "isinstance" p) [a, .Name T p2] [] pos) (fun ρ => (fa ρ).bind fun d => isiO Tn d) := by
 with_unfolding_all
  have hT2 : PE X (.Name T p2) (tC (.ty Tn)) := pe_bltn hg2 hm2 hv rfl hn hd
  refine PE.imp (pe_callB (call_isi (T := Tn)) hg1 hm1 (by decide +kernel) (pa_cons ha (pa_cons hT2 pa_nil (by rw [he2]; rfl)) (by rw [he, he2])) (by decide) (by decide) (by rw [he, he2]) hpl) fun σ H Q ⟨ρ, d, en, q, k⟩ => ?_
  cases h1 : fa ρ with
  | none => simp [h1] at q
  | some c =>
   obtain ⟨hF, rfl⟩ := isiO_out (show isiO Tn c = some d by simpa [h1] using q)
   exact ⟨ρ, c, en, h1, fun v H1 s1 r1 => ⟨v, c, _, rfl, r1, hF, kit_isi hT c, k _ H1 s1 rfl⟩⟩
end
end BX
end
section
namespace BX
open PySem PySem.Spec L2
open PyProof.Rows hiding St
noncomputable def SameN (H H' : Hp) : Prop := ∀ b o, H b = some o → (∀ xs, o ≠ .lst xs) → H' b = some o
theorem Same.n {H H' : Hp} (e : Same H H') : SameN H H' := fun b o h _ => e b o h
theorem SameN.refl (H : Hp) : SameN H H := fun _ _ h _ => h
theorem SameN.trans {H H1 H2 : Hp} (a : SameN H H1) (b : SameN H1 H2) : SameN H H2 := fun c o h n => b c o (a c o h n) n
theorem SameN.upd {H : Hp} {p : Addr} {xs ys : List V} (hp : H p = some (.lst xs)) : SameN H (upd H p (.lst ys)) := fun b o h n => by
 have : b ≠ p := fun e => by subst e; rw [hp] at h; cases h; exact n _ rfl
 rw [upd_ne this]; exact h
mutual
noncomputable def noL : PyData → Bool
 | .none => true
 | .bool _ => true
 | .int _ => true
 | .str _ => true
 | .tuple ds => noLs ds
 | .list _ => false
 | .dict _ => false
noncomputable def noLs : List PyData → Bool
 | [] => true
 | d :: ds => noL d && noLs ds
end
section
variable {K : PySem.W.Frag} {H H' : Hp}
theorem SameN.tup {a : Addr} {xs : List V} (e : SameN H H') (h : SqT K H a xs) : SqT K H' a xs := by
 rcases h with (h | ⟨o, h⟩) | h
 ·exact .inl (.inl (e _ _ h fun _ z => nomatch z))
 ·exact .inl (.inr ⟨o, e _ _ h fun _ z => nomatch z⟩)
 ·exact .inr h
mutual
theorem Rep.monoN (e : SameN H H') : ∀ (d : PyData) (v : V), noL d = true → Rep K H d v → Rep K H' d v
 | .none, v, _, h => h
 | .bool _, v, _, h => h
 | .int _, v, _, h => h
 | .str _, v, _, h => h
 | .tuple ds, v, n, ⟨a, xs, h1, h2, h3⟩ => ⟨a, xs, h1, SameN.tup e h2, Reps.monoN e ds xs (by simpa [noL] using n) h3⟩
 | .list ds, v, n, h => by simp [noL] at n
 | .dict ds, v, n, h => by simp [noL] at n
theorem Reps.monoN (e : SameN H H') : ∀ (ds : List PyData) (xs : List V), noLs ds = true → Reps K H ds xs → Reps K H' ds xs
 | [], xs, _, h => h
 | d :: ds, xs, n, ⟨x, r, h1, h2, h3⟩ => by
  have n' : noL d = true ∧ noLs ds = true := by simpa [noLs] using n
  exact ⟨x, r, h1, Rep.monoN e d x n'.1 h2, Reps.monoN e ds r n'.2 h3⟩
end
theorem noLs_append : ∀ (ds es : List PyData), noLs (ds ++ es) = (noLs ds && noLs es)
 | [], es => by simp [noLs]
 | d :: ds, es => by simp [noLs, noLs_append ds es, Bool.and_assoc]
theorem noLs_all : ∀ {ds : List PyData}, (∀ d ∈ ds, noL d = true) → noLs ds = true
 | [], _ => rfl
 | d :: ds, h => by simp [noLs, h d List.mem_cons_self, noLs_all fun x hx => h x (List.mem_cons_of_mem _ hx)]
end
end BX
end
section
namespace BX
open PySem PySem.Spec L2
open PyProof.Rows hiding St
noncomputable def Callee (P : Program) (w : World) (K : PySem.W.Frag) (mg : Str → Option Value) (base : Heap) (x : Str) (ps : List Str) (k n : Nat) (g : List PyData → Option PyData) : Prop :=
 ∃ (f : Addr) (fd : FuncData), FnOk P w K mg base CX0 k f fd ps (Pur K n g) ∧ mg x = some (.ref f) ∧ PySem.W.keepIn K (.ref f) = true ∧ Binds K fd ps []
theorem len_nil : ∀ (ρ : Rho) (ds : List PyData), nilA ρ = some ds → ds.length = 0 := fun ρ ds h => by cases h; rfl
theorem len_cons {fa : Rho → Option PyData} {fr : Rho → Option (List PyData)} {n : Nat} (h : ∀ (ρ : Rho) (ds : List PyData), fr ρ = some ds → ds.length = n) : ∀ (ρ : Rho) (ds : List PyData), consA fa fr ρ = some ds → ds.length = n + 1 := fun ρ ds q => by
 cases h1 : fa ρ with
 | none => simp [consA, h1] at q
 | some x =>
  cases h2 : fr ρ with
  | none => simp [consA, h1, h2] at q
  | some r =>
   have : x :: r = ds := by simpa [consA, h1, h2] using q
   subst this
   simp [h ρ r h2]
section
variable {X : Cx} {e : Expr} {es : List Expr} {pos : Pos}
theorem pd_callC {k j n : Nat} {ps : List Str} {g : List PyData → Option PyData} {x : Str} {p : Pos} {fr : Rho → Option (List PyData)} (c : Callee X.prog X.w X.K X.mg X.base x ps k n g) (hr : Room j X.A) (hkj : k ≤ j) (ha : PAD X (e :: es) fr)
  (hl : ∀ (ρ : Rho) (ds : List PyData), fr ρ = some ds → ds.length = n) (hn : (e :: es).length = n := by rfl) (hg : Gl X x := by rfl) (hdb : (x == ("__debug__" : Str)) = false := by decide) (he : starEach (e :: es) X.env = (false, eval e X.env) :: starEach es X.env := by rfl)
  (hpl : (backTo pos (starEach es X.env)).any (·.1) = false := by rfl) : PD X (.Call (.Name x p) (e :: es) [] pos) (calD g fr) := by
 with_unfolding_all
  obtain ⟨f, fd, h1, h2, h3, h4⟩ := c
  exact pd_call h1 (hr.mono hkj) h2 h3 h4 hn ha (fun ρ ds q => by rw [hl ρ ds q, hn]) hg hdb he hpl
end
theorem compL_eq {ft : Rho → Option Bool} {fe : Rho → Option PyData} {i : Nat} (p : PyData → Bool) (h : PyData → PyData) : ∀ (ds : List PyData) (τ : Rho), (∀ d ∈ ds, ft (τ.set i (some d)) = some (p d)) → (∀ d ∈ ds, p d = true → fe (τ.set i (some d)) = some (h d)) →
  compL (asgN i) ft fe ds τ = some ((ds.filter p).map h)
 | [], τ, _, _ => rfl
 | d :: ds, τ, h1, h2 => by
  have ih := compL_eq p h ds (τ.set i (some d)) (fun c hc => by rw [List.set_set]; exact h1 c (List.mem_cons_of_mem _ hc)) (fun c hc hp => by rw [List.set_set]; exact h2 c (List.mem_cons_of_mem _ hc) hp)
  simp only [compL, asgN, zzD, h1 d List.mem_cons_self]
  by_cases hp : p d = true
  ·simp [hp, h2 d List.mem_cons_self hp, ih, List.filter_cons]
  ·simp [hp, ih, List.filter_cons]
theorem compL_map {fe : Rho → Option PyData} {i : Nat} (h : PyData → PyData) (ds : List PyData) (τ : Rho) (h2 : ∀ d ∈ ds, fe (τ.set i (some d)) = some (h d)) : compL (asgN i) truT fe ds τ = some (ds.map h) := by
 rw [compL_eq (fun _ => true) h ds τ (fun _ _ => rfl) (fun d hd _ => h2 d hd), List.filter_eq_self.mpr (fun _ _ => rfl)]
noncomputable def compChk (st : Scope) (N : List Str) (sc : Scope) (N' : List Str) (cap : List (Option Nat)) : Bool :=
 sc.names.all (fun x => !decide (x.2 = .free) || decide (st.names.lookup x.1 = some .cell) || decide (st.names.lookup x.1 = some .free)) && sc.names.all (fun x => !decide (x.2 = .cell)) && decide (sc.kind = .function) &&
 sc.names.all (fun x => !decide (x.2 = .local) || decide (sc.names.lookup x.1 = some .local)) && decide (cap.length = N'.length) &&
 (List.range N'.length).all (fun j => match N'[j]?, cap[j]? with
  | some x, some (some i) => decide (N[i]? = some x) && decide (sc.names.lookup x = some .free)
  | _, _ => true)
theorem comp_ok {X : Cx} {sc : Scope} {N' : List Str} {cap : List (Option Nat)} (st : Scope) (N : List Str) (h : compChk st N sc N' cap = true) (hst : X.env.scope = st := by rfl) (hN : X.N = N := by rfl) : CompOk X sc N' cap := by
 simp only [compChk, Bool.and_eq_true, List.all_eq_true, Bool.or_eq_true, Bool.not_eq_true', decide_eq_true_eq, decide_eq_false_iff_not] at h
 obtain ⟨⟨⟨⟨⟨h1, h2⟩, h3⟩, h4⟩, h5⟩, h6⟩ := h
 subst hst; subst hN
 refine ⟨fun x hx e => ?_, h2, h3, fun x hx e => ?_, h5, fun j i x e1 e2 => ?_⟩
 ·rcases h1 x hx with (z | z) | z
  ·exact absurd e z
  ·exact .inl z
  ·exact .inr z
 ·rcases h4 x hx with z | z
  ·exact absurd e z
  ·exact z
 ·have hj : j < N'.length := (List.getElem?_eq_some_iff.mp e1).1
  have := h6 j (List.mem_range.mpr hj)
  rw [e1, e2] at this
  simpa using this
end BX
end
section
namespace BX
open PySem PySem.Spec L2
open PyProof.Rows hiding St
noncomputable def Cx.inB (X : Cx) : Cx := { X with A := X.A.in1, xe := NoX }
theorem Cx.Ok.inB {X : Cx} (ok : X.Ok) : (Cx.inB X).Ok :=
 ⟨ok.mod, ok.kind, ok.glob, ok.blt, ok.above, ok.inj, ok.has, ok.cab, fun h => ok.hd h, ok.frames, ok.stk, ok.exf, ok.bs, ok.bsz, ok.noex, ok.exfs, ok.funs, ok.frf⟩
theorem Cx.Ok.outB {X : Cx} (ok : (Cx.inB X).Ok) : X.Ok :=
 ⟨ok.mod, ok.kind, ok.glob, ok.blt, ok.above, ok.inj, ok.has, ok.cab, fun h => ok.hd h, ok.frames, ok.stk, ok.exf, ok.bs, ok.bsz, ok.noex, ok.exfs, ok.funs, ok.frf⟩
section
variable {X : Cx} {pins : List (Addr × Obj)} {σ : St} {H : Hp} {s : Shared}
theorem Inv.inB (I : Inv X pins σ H s) : Inv (Cx.inB X) pins σ H s := ⟨Cx.Ok.inB I.ok, I.os, I.bare, I.base, I.loc, I.cell, I.free, I.freeC, I.pin, I.hok, I.len⟩
theorem Inv.outB (I : Inv (Cx.inB X) pins σ H s) : Inv X pins σ H s := ⟨Cx.Ok.outB I.ok, I.os, I.bare, I.base, I.loc, I.cell, I.free, I.freeC, I.pin, I.hok, I.len⟩
end
theorem rc_lt {prog : Program} {w : World} {A : Around} {E : Value → Shared → Prop} {s : Shared} {a b : Int} {t u : Tok} {Q : Value → Shared → Prop} (h : Q (.bool (decide (a < b))) s) : wpAny (model prog w) A (richCompare .Lt (.int a t) (.int b u)) Q E s :=
 CmpOf.ints_lt (prog := prog) (w := w) (A := A) (P := fun (i : Nat) v => ∃ t, v = .int (if i = 0 then a else b) t) (fun i => if i = 0 then a else b) (fun _ _ q => q) 0 1 _ _ _ _ _ ⟨t, rfl⟩ ⟨u, rfl⟩ h
theorem rc_gt {prog : Program} {w : World} {A : Around} {E : Value → Shared → Prop} {s : Shared} {a b : Int} {t u : Tok} {Q : Value → Shared → Prop} (h : Q (.bool (decide (a > b))) s) : wpAny (model prog w) A (richCompare .Gt (.int a t) (.int b u)) Q E s :=
 CmpOf.ints_gt (prog := prog) (w := w) (A := A) (P := fun (i : Nat) v => ∃ t, v = .int (if i = 0 then a else b) t) (fun i => if i = 0 then a else b) (fun _ _ q => q) 0 1 _ _ _ _ _ ⟨t, rfl⟩ ⟨u, rfl⟩ h
noncomputable def minBy (kf : PyData → Int) : PyData → List PyData → PyData
 | b, [] => b
 | b, d :: r => if kf d < kf b then minBy kf d r else minBy kf b r
noncomputable def minO (kf : PyData → Int) : Option PyData → List PyData → PyData
 | none, [] => .none
 | none, d :: r => minBy kf d r
 | some b, r => minBy kf b r
noncomputable def lob (us : Array Value) (c : Nat) : Obj := { cls := .type "list", data := .seq us c }
structure Own1 (X : Cx) (pins : List (Addr × Obj)) (b : Addr) : Prop where
 h1 : b ≠ X.env.locals
 h2 : b ∉ X.fs
 h3 : X.s₀.heap.objs.size ≤ b
 h4 : ∀ x c, X.env.cells.lookup x = some c → c ≠ b
 h5 : ∀ p ∈ X.pn ++ pins, p.1 ≠ b
noncomputable def BestAt (K : PySem.W.Frag) (H : Hp) (h : Heap) (S : Addr) (kf : PyData → Int) : Option PyData → Prop
 | none => ∃ c, h.get? S = some (lob #[] c)
 | some b => ∃ x u t c, Rep K H b x ∧ RelV x u ∧ h.get? S = some (lob #[u, .int (kf b) t] c)
theorem upd_lob {h : Heap} {S : Addr} {us ws : Array Value} {c : Nat} (ho : h.get? S = some (lob us c)) : ∃ c2, (h.update S (Obj.mapSeq fun _ => ws)).get? S = some (lob ws c2) := by
 have e := Heap.get?_update_self (Obj.mapSeq fun _ => ws) ho rfl
 exact ⟨_, e⟩
theorem min_name : (toString "min" ++ toString ".loop" : String) = "min.loop" := by decide
theorem minK_loop {X : Cx} {k : Nat} {f : Addr} {fd : FuncData} {ps : List Str} {g : List PyData → Option PyData} {kf : PyData → Int} {ds : List PyData} {xs : List V} {l it S : Addr} {pins : List (Addr × Obj)} {σ : St} {R : Result → Shared → Prop} (hc : X.calm = true)
  (FO : FnOk X.prog X.w X.K X.mg X.base CX0 k f fd ps (Pur X.K 1 g)) (hr : Room (k + 1) X.A) (hb : Binds X.K fd ps []) (hk : ∀ d ∈ ds, g [d] = some (.int (kf d))) (oI : Own1 X pins it) (oS : Own1 X pins S) (nIS : it ≠ S) (nlI : l ≠ it) (nlS : l ≠ S) :
  ∀ (r : List PyData) (i : Nat) (bo : Option PyData) (s : Shared) (H : Hp), ds.drop i = r → Inv (Cx.inB X) pins σ H s → H l = some (.lst xs) → Reps X.K H ds xs → H it = none → H S = none → s.heap.IsListIter it l i → BestAt X.K H s.heap S kf bo →
   (∀ v u s' H', Inv (Cx.inB X) pins σ H' s' → Same H H' → RelV v u → Rep X.K H' (minO kf bo r) v → R (.ok (.ret u)) s') →
   codeAny (model X.prog X.w) X.A (.builtin "min.loop" ⟨[.ref it, .ref f, .ref S], [("default", .none)]⟩) R s := by
 have fpo : ∀ {b : Addr} {H : Hp} {pl : List (Addr × Obj)}, Own1 X pins b → H b = none → (∀ p ∈ pl, p.1 ≠ b) → FpOk (Cx.inB X) (pins ++ pl) H b := fun {b H pl} o hn hp => ⟨hn, o.h1, o.h2, .inr o.h3, o.h4, fun p hq z => by
  rcases List.mem_append.mp (show p ∈ X.pn ++ (pins ++ pl) from hq) with q | q
  ·exact o.h5 p (List.mem_append_left _ q) z
  ·rcases List.mem_append.mp q with q | q
   ·exact o.h5 p (List.mem_append_right _ q) z
   ·exact hp p q z⟩
 intro r
 induction r with
 | nil =>
  intro i bo s H hd I hl hR hI hS st hB fin
  obtain ⟨its, rv, p, hz⟩ := I.list (SqL.of (K := X.K) hl)
  have hle : ds.length ≤ i := by
   have := congrArg List.length hd
   simp at this; omega
  have hlen := hR.length
  have hvl := rv.length
  have f0 := fpo (pl := []) oI hI (fun _ z => nomatch z)
  obtain ⟨q0, q1, q2, q3, q4, q5⟩ := f0
  refine codeAny_builtin PySem.F.entry_min_loop ?_
  rw [Around.under_plainId PySem.F.plain_min_loop _]
  cases bo with
  | none =>
   obtain ⟨c, hSo⟩ := hB
   refine wpAny_bind (m := seqItems? (.ref S)) (wpAny_seqItems hSo rfl ?_)
   refine wpAny_bind (m := tryCatch (pyNext (.ref it)) _) (wpAny_tryCatch (wpAny_pyNext_list_end (I.ok.hd hc) st p.isList (by simp; omega) fun h' eb => ?_))
   have I1 : Inv (Cx.inB X) pins σ H { s with heap := h' } := I.turned (t' := s.toks) (it := it) (fun b o hb e => eb b o hb e) hI oI.h1 (.inr oI.h3) oI.h4 oI.h5
   refine wpAny_bind (m := rule _) (wpAny_rule ?_)
   exact wpAny_pure (fin .non _ _ H I1 (Same.refl H) rfl rfl)
  | some b =>
   obtain ⟨x, u, t, c, rx, ru, hSo⟩ := hB
   refine wpAny_bind (m := seqItems? (.ref S)) (wpAny_seqItems hSo rfl ?_)
   refine wpAny_bind (m := tryCatch (pyNext (.ref it)) _) (wpAny_tryCatch (wpAny_pyNext_list_end (I.ok.hd hc) st p.isList (by simp; omega) fun h' eb => ?_))
   have I1 : Inv (Cx.inB X) pins σ H { s with heap := h' } := I.turned (t' := s.toks) (it := it) (fun b o hb e => eb b o hb e) hI oI.h1 (.inr oI.h3) oI.h4 oI.h5
   have hS1 : h'.get? S = some (lob #[u, .int (kf b) t] c) := eb S _ (Ne.symm nIS) hSo
   refine wpAny_bind (m := updateSeq S fun _ => #[]) ?_
   refine wpAny_updateSeq hS1 rfl (wpAny_bind (wpAny_letGo (wpAny_pure ?_)))
   have I2 : Inv (Cx.inB X) pins σ H { s with heap := h'.update S (Obj.mapSeq fun _ => (#[] : Array Value)) } := Inv.turned (s := { s with heap := h' }) I1 (t' := s.toks) (it := S) (fun b o hb e => ((Heap.SameBut.update h' S _).2 b hb).trans e) hS oS.h1 (.inr oS.h3) oS.h4 oS.h5
   exact fin x u _ H I2 (Same.refl H) ru rx
 | cons d r ih =>
  intro i bo s H hd I hl hR hI hS st hB fin
  obtain ⟨its, rv, p, hz⟩ := I.list (SqL.of (K := X.K) hl)
  have hi : ds[i]? = some d := by
   have : (ds.drop i)[0]? = some d := by rw [hd]; rfl
   simpa using this
  have hd' : ds.drop (i + 1) = r := by
   have : (ds.drop i).drop 1 = r := by rw [hd]; rfl
   simpa [List.drop_drop, Nat.add_comm] using this
  have hmem : d ∈ ds := List.mem_of_getElem? hi
  obtain ⟨x, hx, rx⟩ := hR.get hi
  obtain ⟨u, hu, ru⟩ := rv.get hx
  refine codeAny_builtin PySem.F.entry_min_loop ?_
  rw [Around.under_plainId PySem.F.plain_min_loop _]
  obtain ⟨olds, hSo⟩ : ∃ olds : Obj, s.heap.get? S = some olds ∧ (∀ v, olds.data ≠ .cell v) := by
   cases bo with
   | none => obtain ⟨c, e⟩ := hB; exact ⟨_, e, fun v z => by cases z⟩
   | some b => obtain ⟨_, _, _, c, _, _, e⟩ := hB; exact ⟨_, e, fun v z => by cases z⟩
  obtain ⟨hSo, hSc⟩ := hSo
  have nxt : ∀ {Q2 : Option Value → Shared → Prop} {E2 : Value → Shared → Prop}, (∀ h' oi, Inv (Cx.inB X) (pins ++ [(S, olds), (it, oi)]) σ H { s with heap := h' } → (oi.cls = .type "list_iterator" ∧ oi.data = .fields #[.ref l, .int ((i + 1 : Nat) : Int) 0]) → Q2 (some u) { s with heap := h' }) →
    wpAny (model X.prog X.w) X.A.in1 (pyNext (.ref it)) Q2 E2 s := by
   intro Q2 E2 go
   refine wpAny_pyNext_list_item st p.isList (x := u) (by simpa using hu) fun h' st' sb => ?_
   have I1 : Inv (Cx.inB X) pins σ H { s with heap := h' } := I.turned (t' := s.toks) (it := it) (fun b o hb e => (sb.2 b hb).trans e) hI oI.h1 (.inr oI.h3) oI.h4 oI.h5
   have hS1 : h'.get? S = some olds := (sb.2 S (Ne.symm nIS)).trans hSo
   obtain ⟨oi, hoi, hci, hdi⟩ := id st'
   refine go h' oi (I1.pins_of fun q hq => ?_) ⟨hci, hdi⟩
   rcases List.mem_append.mp hq with z | z
   ·exact I1.pin q (List.mem_append_right _ z)
   ·rcases List.mem_cons.mp z with e | z
    ·subst e; exact ⟨hS1, hS, oS.h1, oS.h2, hSc⟩
    ·have e : q = (it, oi) := by simpa using z
     subst e; exact ⟨hoi, hI, oI.h1, oI.h2, fun v z => by rw [hdi] at z; cases z⟩
  have key : ∀ {Q3 : Value → Shared → Prop} {E3 : Value → Shared → Prop} {h' : Heap} {oi : Obj}, Inv (Cx.inB X) (pins ++ [(S, olds), (it, oi)]) σ H { s with heap := h' } → (oi.cls = .type "list_iterator" ∧ oi.data = .fields #[.ref l, .int ((i + 1 : Nat) : Int) 0]) →
    (∀ t s2 H2, Inv (Cx.inB X) pins σ H2 s2 → Same H H2 → H2 it = none → H2 S = none → s2.heap.IsListIter it l (i + 1) → s2.heap.get? S = some olds → Q3 (.int (kf d) t) s2) → wpAny (model X.prog X.w) X.A.in1 (call (.ref f) [u]) Q3 E3 { s with heap := h' } := by
   intro Q3 E3 h' oi I1p ho go
   have kk : (Pur X.K 1 g) [x] H (fun v H2 => v = .int (kf d) ∧ Same H H2) E0 := ⟨[d], .int (kf d), rfl, ⟨x, [], rfl, rx, rfl⟩, hk d hmem, fun v H2 s2 r2 => ⟨r2, s2⟩⟩
   refine wpAny_mono (run_fn (X := Cx.inB X) (dvs := []) (ds := []) (E := E0) FO (Room.in1 hr) hb .nil pass0 I1p (.cons ru .nil) (by simpa using kk)) (fun kv s2 h2 => ?_) fun _ _ z => z.elim
   obtain ⟨v2, H2, I2, r2, e2, s2'⟩ := h2
   subst e2
   obtain ⟨t, rfl⟩ := r2
   have pS := I2.pin (S, olds) (List.mem_append_right _ (List.mem_append_right _ (by simp)))
   have pI := I2.pin (it, oi) (List.mem_append_right _ (List.mem_append_right _ (by simp)))
   have I2d : Inv (Cx.inB X) pins σ H2 s2 := I2.pins_of fun q hq => I2.pin q (List.mem_append_right _ (List.mem_append_left _ hq))
   exact go t s2 H2 I2d s2' pI.2.1 pS.2.1 ⟨oi, pI.1, ho.1, ho.2⟩ pS.1
  have back : ∀ {b2 : PyData} {s2 : Shared} {H2 : Hp}, Inv (Cx.inB X) pins σ H2 s2 → Same H H2 → H2 it = none → H2 S = none → s2.heap.IsListIter it l (i + 1) → BestAt X.K H2 s2.heap S kf (some b2) → minO kf bo (d :: r) = minO kf (some b2) r →
    codeAny (model X.prog X.w) X.A (.builtin "min.loop" ⟨[.ref it, .ref f, .ref S], [("default", .none)]⟩) R s2 := fun {b2 s2 H2} I2 s12 hI2 hS2 st2 hB2 em =>
   ih (i + 1) (some b2) s2 H2 hd' I2 (s12 _ _ hl) (Reps.mono s12 _ _ hR) hI2 hS2 st2 hB2 fun v u s' H' I' s' r' q' => fin v u _ H' I' (s12.trans s') r' (by rw [em]; exact q')
  cases bo with
  | none =>
   obtain ⟨c, hSn⟩ := hB
   rw [hSn] at hSo; cases hSo
   refine wpAny_bind (m := seqItems? (.ref S)) (wpAny_seqItems hSn rfl ?_)
   refine wpAny_bind (m := tryCatch (pyNext (.ref it)) _) (wpAny_tryCatch (nxt fun h' oi I1p ho => ?_))
   refine wpAny_bind (m := tryCatch (holding [u] (call (.ref f) [u])) _) (wpAny_tryCatch (wpAny_holding (key I1p ho fun t s2 H2 I2 s12 hI2 hS2 st2 hS2o => ?_)))
   refine wpAny_bind (m := updateSeq S fun _ => #[u, .int (kf d) t]) ?_
   refine wpAny_updateSeq hS2o rfl ?_
   obtain ⟨c2, hc2⟩ := upd_lob (ws := #[u, .int (kf d) t]) hS2o
   have sb := Heap.SameBut.update s2.heap S (Obj.mapSeq fun _ => #[u, .int (kf d) t])
   have I3 : Inv (Cx.inB X) pins σ H2 { s2 with heap := s2.heap.update S (Obj.mapSeq fun _ => #[u, .int (kf d) t]) } := I2.turned (t' := s2.toks) (it := S) (fun b o hb e => (sb.2 b hb).trans e) hS2 oS.h1 (.inr oS.h3) oS.h4 oS.h5
   obtain ⟨oi, e1, e2⟩ := st2
   rw [min_name]
   exact wpAny_pure ⟨plainId_quiet PySem.F.plain_min_loop _, back (b2 := d) I3 s12 hI2 hS2 ⟨oi, (sb.2 it nIS).trans e1, e2⟩ ⟨x, u, t, c2, Rep.mono s12 _ _ rx, ru, hc2⟩ rfl⟩
  | some b =>
   obtain ⟨xb, ub, tb, c, rb, rub, hSn⟩ := hB
   rw [hSn] at hSo; cases hSo
   refine wpAny_bind (m := seqItems? (.ref S)) (wpAny_seqItems hSn rfl ?_)
   refine wpAny_bind (m := tryCatch (pyNext (.ref it)) _) (wpAny_tryCatch (nxt fun h' oi I1p ho => ?_))
   refine wpAny_bind (m := tryCatch (holding [u] (call (.ref f) [u])) _) (wpAny_tryCatch (wpAny_holding (key I1p ho fun t s2 H2 I2 s12 hI2 hS2 st2 hS2o => ?_)))
   refine wpAny_bind (m := tryCatch (holding [u, .int (kf d) t] (richCompare .Lt (.int (kf d) t) (.int (kf b) tb) >>= _)) _) (wpAny_tryCatch (wpAny_holding (wpAny_bind (rc_lt ?_))))
   refine wpAny_bind (wpAny_holding (wpAny_truthy_bool ?_))
   refine wpAny_bind (wpAny_letGo (wpAny_pure ?_))
   by_cases hlt : kf d < kf b
   ·simp only [hlt, decide_true, if_true]
    refine wpAny_bind (m := updateSeq S fun _ => #[u, .int (kf d) t]) ?_
    refine wpAny_updateSeq hS2o rfl (wpAny_bind (wpAny_letGo ?_))
    obtain ⟨c2, hc2⟩ := upd_lob (ws := #[u, .int (kf d) t]) hS2o
    have sb := Heap.SameBut.update s2.heap S (Obj.mapSeq fun _ => #[u, .int (kf d) t])
    have I3 : Inv (Cx.inB X) pins σ H2 { s2 with heap := s2.heap.update S (Obj.mapSeq fun _ => #[u, .int (kf d) t]) } := I2.turned (t' := s2.toks) (it := S) (fun b o hb e => (sb.2 b hb).trans e) hS2 oS.h1 (.inr oS.h3) oS.h4 oS.h5
    obtain ⟨oi, e1, e2⟩ := st2
    rw [min_name]
    exact wpAny_pure ⟨plainId_quiet PySem.F.plain_min_loop _, back (b2 := d) I3 s12 hI2 hS2 ⟨oi, (sb.2 it nIS).trans e1, e2⟩ ⟨x, u, t, c2, Rep.mono s12 _ _ rx, ru, hc2⟩ (by simp [minO, minBy, hlt])⟩
   ·simp only [hlt, decide_false, Bool.false_eq_true, if_false]
    refine wpAny_bind (wpAny_letGo ?_)
    rw [min_name]
    exact wpAny_pure ⟨plainId_quiet PySem.F.plain_min_loop _, back (b2 := b) I2 s12 hI2 hS2 st2 ⟨xb, ub, tb, c, Rep.mono s12 _ _ rb, rub, hS2o⟩ (by simp [minO, minBy, hlt])⟩
end BX
end
section
namespace BX
open PySem PySem.Spec L2
open PyProof.Rows hiding St
theorem args_minKD (a v d : Value) : argsOk "min" ⟨[a], [("key", v), ("default", d)]⟩ := by unfold argsOk; kernel_rfl
theorem args_maxD (a d : Value) : argsOk "max" ⟨[a], [("default", d)]⟩ := by unfold argsOk; kernel_rfl
theorem own1_new {X : Cx} {pins : List (Addr × Obj)} {σ : St} {H : Hp} {s : Shared} (I : Inv X pins σ H s) {b : Addr} (hb : s.heap.objs.size ≤ b) : Own1 X pins b := by
 obtain ⟨_, h1, h2, h3, h4, h5⟩ := I.fpOk (H' := fun _ => none) hb rfl
 exact ⟨h1, h2, Nat.le_trans I.sz hb, h4, h5⟩
theorem call_minKD {X : Cx} {k : Nat} {f : Addr} {fd : FuncData} {ps : List Str} {g : List PyData → Option PyData} {kf : PyData → Int} {ds : List PyData} {xs : List V} {l : Addr} {pins : List (Addr × Obj)} {σ : St} {H : Hp} {s : Shared} {Q : VK} (hc : X.calm = true)
  (FO : FnOk X.prog X.w X.K X.mg X.base CX0 k f fd ps (Pur X.K 1 g)) (hr : Room (k + 1) X.A) (hb : Binds X.K fd ps []) (hk : ∀ d ∈ ds, g [d] = some (.int (kf d))) (I : Inv X pins σ H s) (hl : H l = some (.lst xs)) (hR : Reps X.K H ds xs)
  (q : ∀ v H', Same H H' → Rep X.K H' (minO kf none ds) v → Q v H') :
  wpAny (model X.prog X.w) X.A (call (.builtin "min") [.ref l] [("key", .ref f), ("default", .none)]) (EP X pins σ Q) X.xe s := by
 obtain ⟨its, rv, p, hz⟩ := I.list (SqL.of (K := X.K) hl)
 have hlt : l < s.heap.objs.size := I.hok.lt hl
 refine PyProof.Rows.kmk_tree PySem.F.kind_min PySem.F.plain_min PySem.F.entry_min (args_minKD _ _ _) ?_
 refine wpAny_bind (m := Builtin.Builtins.bindParams "min" ["key", "default"] 0 ⟨[], [("key", .ref f), ("default", .none)]⟩)
  (wpAny_of_eq (show _ = pure [some (.ref f), some .none] from rfl) ?_)
 refine wpAny_bind (wpAny_pure ?_)
 refine wpAny_bind (wpAny_pyIter_list p.isList ?_)
 refine wpAny_bind (wpAny_newList ?_ (Nat.zero_le _))
 rw [min_name]
 refine wpAny_pure ⟨plainId_quiet PySem.F.plain_min_loop _, ?_⟩
 generalize hh1 : s.heap.push { cls := .type "list_iterator", data := .fields #[.ref l, .int 0 0] } = h1
 have n1 : h1.objs.size = s.heap.objs.size + 1 := by rw [← hh1]; exact Heap.size_push ..
 have k2 : ∀ b o, s.heap.get? b = some o → (h1.push { cls := .type "list", data := .seq ([] : List Value).toArray }).get? b = some o := fun b o e => Heap.get?_push_of_some _ (by rw [← hh1]; exact Heap.get?_push_of_some _ e)
 have I2 : Inv X pins σ H { s with heap := h1.push { cls := .type "list", data := .seq ([] : List Value).toArray } } := I.kept (t' := s.toks) k2
 refine minK_loop (kf := kf) hc FO hr hb hk (own1_new I (Nat.le_refl _)) (own1_new I (b := h1.objs.size) (by rw [n1]; exact Nat.le_succ _)) (by rw [n1]; exact Nat.ne_of_lt (Nat.lt_succ_self _)) (Nat.ne_of_lt hlt) (by rw [n1]; exact Nat.ne_of_lt (Nat.lt_succ_of_lt hlt))
  ds 0 none _ H rfl (Inv.inB I2) hl hR (I.hok.fresh (Nat.le_refl _)) (I.hok.fresh (by rw [n1]; exact Nat.le_succ _)) ⟨_, Heap.get?_push_of_some _ (by rw [← hh1]; exact Heap.get?_push_size _ rfl), rfl, rfl⟩ ⟨0, Heap.get?_push_size _ rfl⟩ fun v u s' H' I' s1 r' q' => ?_
 exact ⟨v, H', Inv.outB I', r', q v H' s1 q'⟩
noncomputable def keysOk (g : List PyData → Option PyData) (ds : List PyData) : Bool := ds.all fun d => ((g [d]).bind inOf).isSome
noncomputable def keyAt (g : List PyData → Option PyData) (d : PyData) : Int := ((g [d]).bind inOf).getD 0
noncomputable def dMinKD (g : List PyData → Option PyData) : PyData → Option PyData
 | .list ds => if keysOk g ds = true then some (minO (keyAt g) none ds) else none
 | _ => none
theorem inOf_some {d : PyData} {i : Int} (h : inOf d = some i) : d = .int i := by
 cases d <;> simp [inOf] at h
 rw [h]
theorem keyAt_eq {g : List PyData → Option PyData} {ds : List PyData} (h : keysOk g ds = true) : ∀ d ∈ ds, g [d] = some (.int (keyAt g d)) := fun d hd => by
 have := List.all_eq_true.mp h d hd
 cases e : g [d] with
 | none => simp [e] at this
 | some c =>
  cases e2 : inOf c with
  | none => simp [e, e2] at this
  | some i =>
   have := inOf_some e2
   subst this
   simp [keyAt, e, inOf]
theorem bt_min : bootBuiltins "min" = some (.builtin "min") := by decide +kernel
theorem bt_max : bootBuiltins "max" = some (.builtin "max") := by decide +kernel
section
variable {X : Cx} {a : Expr} {fa : Rho → Option PyData} {pos p p2 p3 kp kp2 : Pos} {j3 : Nat}
theorem pd_minKD {k j : Nat} {ps : List Str} {g : List PyData → Option PyData} {x : Str} (hc : X.calm = true) (c : Callee X.prog X.w X.K X.mg X.base x ps k 1 g) (hr : Room j X.A) (hkj : k + 1 ≤ j) (hm : X.mg "min" = none) (ha : PD X a fa) (hg : Gl X "min" := by rfl) (hgx : Gl X x := by rfl)
  (hdb : (x == ("__debug__" : Str)) = false := by decide) (hs : starEach [a] X.env = [(false, eval a X.env)] := by rfl) :
  PD X (.Call (.Name "min" p) [a] [⟨some "key", .Name x p2, kp⟩, ⟨some "default", .Constant .none j3 p3, kp2⟩] pos) (fun ρ => (fa ρ).bind (dMinKD g)) := by
 with_unfolding_all
  obtain ⟨f, fd, FO, hmx, hkp, hb⟩ := c
  intro pins s σ H Q I h
  obtain ⟨ρ, d, en, q, kq⟩ := h
  cases h1 : fa ρ with
  | none => simp [h1] at q
  | some y =>
   have q' : dMinKD g y = some d := by simpa [h1] using q
   refine wpAny_Call_Name_kw (ld_blt I hg hm bt_min ?_)
   have hA : PA X [a] (tCons (tD X.K fa) tNil) := pa_cons ha pa_nil (by rw [hs]; rfl)
   have hK : PK X [⟨some "key", .Name x p2, kp⟩, ⟨some "default", .Constant .none j3 p3, kp2⟩] (tCons (tC (.ref f)) (tCons (tC .non) tNil)) := pk_cons (pe_glob hgx hmx rfl hdb) (pk_cons pe_non pk_nil)
   refine callWith_kw (thn (hA pos pins s σ H (fun vs H1 => ∃ v, vs = [v] ∧ Same H H1 ∧ Rep X.K H1 y v) I ⟨ρ, y, en, h1, fun v H1 s1 r1 => ⟨v, rfl, s1, r1⟩⟩) fun us s1 ⟨vs, H1, I1, r1, v, e1, s1', rv⟩ => ?_) (by rw [hs]; rfl) (by rw [hs]; rfl)
   subst e1
   obtain ⟨u, rfl, ru⟩ := vals1 r1
   refine thn (hK pos pins s1 σ H1 (fun zs H2 => zs = [.ref f, .non] ∧ H2 = H1) I1 ⟨rfl, rfl⟩) fun ws s2 ⟨zs, H2, I2, r2, e2, e3⟩ => ?_
   subst e2; subst e3
   obtain ⟨w1, w2, rfl, a1, a2⟩ := vals2 r2
   cases (show w1 = _ from a1)
   cases (show w2 = _ from a2)
   cases y with
   | list ds =>
    by_cases hko : keysOk g ds = true
    ·have : minO (keyAt g) none ds = d := by simpa [dMinKD, hko] using q'
     subst this
     obtain ⟨l, xs, e4, e5, e6⟩ := rv
     subst e4
     cases (show u = _ from ru)
     exact call_minKD (kf := keyAt g) hc FO (hr.mono hkj) hb (keyAt_eq hko) I2 e5 e6 fun v H' s' r' => kq v H' (s1'.trans s') r'
    ·simp [dMinKD, hko] at q'
   | _ => simp [dMinKD] at q'
end
noncomputable def maxBy : Int → List Int → Int
 | b, [] => b
 | b, d :: r => if d > b then maxBy d r else maxBy b r
noncomputable def maxO : Option Int → List Int → PyData
 | none, [] => .none
 | none, d :: r => .int (maxBy d r)
 | some b, r => .int (maxBy b r)
theorem max_name : (toString "max" ++ toString ".loop" : String) = "max.loop" := by decide
noncomputable def BestI (h : Heap) (S : Addr) : Option Int → Prop
 | none => ∃ c, h.get? S = some (lob #[] c)
 | some b => ∃ t c, h.get? S = some (lob #[.int b t, .int b t] c)
theorem max_loop {X : Cx} {ns : List Int} {l it S : Addr} {pins : List (Addr × Obj)} {σ : St} {R : Result → Shared → Prop} (hc : X.calm = true) (oI : Own1 X pins it) (oS : Own1 X pins S) (nIS : it ≠ S) :
  ∀ (r : List Int) (i : Nat) (bo : Option Int) (s : Shared) (H : Hp), ns.drop i = r → Inv (Cx.inB X) pins σ H s → H l = some (.lst (ns.map V.int)) → H it = none → H S = none → s.heap.IsListIter it l i → BestI s.heap S bo →
   (∀ v u s', Inv (Cx.inB X) pins σ H s' → RelV v u → Rep X.K H (maxO bo r) v → R (.ok (.ret u)) s') →
   codeAny (model X.prog X.w) X.A (.builtin "max.loop" ⟨[.ref it, .none, .ref S], [("default", .none)]⟩) R s := by
 intro r
 induction r with
 | nil =>
  intro i bo s H hd I hl hI hS st hB fin
  obtain ⟨its, rv, p, hz⟩ := I.list (SqL.of (K := X.K) hl)
  have hle : ns.length ≤ i := by
   have := congrArg List.length hd
   simp at this; omega
  have hvl := rv.length
  simp at hvl
  refine codeAny_builtin PySem.F.entry_max_loop ?_
  rw [Around.under_plainId PySem.F.plain_max_loop _]
  cases bo with
  | none =>
   obtain ⟨c, hSo⟩ := hB
   refine wpAny_bind (m := seqItems? (.ref S)) (wpAny_seqItems hSo rfl ?_)
   refine wpAny_bind (m := tryCatch (pyNext (.ref it)) _) (wpAny_tryCatch (wpAny_pyNext_list_end (I.ok.hd hc) st p.isList (by simp; omega) fun h' eb => ?_))
   have I1 : Inv (Cx.inB X) pins σ H { s with heap := h' } := I.turned (t' := s.toks) (it := it) (fun b o hb e => eb b o hb e) hI oI.h1 (.inr oI.h3) oI.h4 oI.h5
   refine wpAny_bind (m := rule _) (wpAny_rule ?_)
   exact wpAny_pure (fin .non _ _ I1 rfl rfl)
  | some b =>
   obtain ⟨t, c, hSo⟩ := hB
   refine wpAny_bind (m := seqItems? (.ref S)) (wpAny_seqItems hSo rfl ?_)
   refine wpAny_bind (m := tryCatch (pyNext (.ref it)) _) (wpAny_tryCatch (wpAny_pyNext_list_end (I.ok.hd hc) st p.isList (by simp; omega) fun h' eb => ?_))
   have I1 : Inv (Cx.inB X) pins σ H { s with heap := h' } := I.turned (t' := s.toks) (it := it) (fun b o hb e => eb b o hb e) hI oI.h1 (.inr oI.h3) oI.h4 oI.h5
   have hS1 : h'.get? S = some (lob #[.int b t, .int b t] c) := eb S _ (Ne.symm nIS) hSo
   refine wpAny_bind (m := updateSeq S fun _ => #[]) ?_
   refine wpAny_updateSeq hS1 rfl (wpAny_bind (wpAny_letGo (wpAny_pure ?_)))
   have I2 : Inv (Cx.inB X) pins σ H { s with heap := h'.update S (Obj.mapSeq fun _ => (#[] : Array Value)) } := Inv.turned (s := { s with heap := h' }) I1 (t' := s.toks) (it := S) (fun b o hb e => ((Heap.SameBut.update h' S _).2 b hb).trans e) hS oS.h1 (.inr oS.h3) oS.h4 oS.h5
   exact fin (.int b) _ _ I2 ⟨t, rfl⟩ rfl
 | cons d r ih =>
  intro i bo s H hd I hl hI hS st hB fin
  obtain ⟨its, rv, p, hz⟩ := I.list (SqL.of (K := X.K) hl)
  have hi : ns[i]? = some d := by
   have : (ns.drop i)[0]? = some d := by rw [hd]; rfl
   simpa using this
  have hd' : ns.drop (i + 1) = r := by
   have : (ns.drop i).drop 1 = r := by rw [hd]; rfl
   simpa [List.drop_drop, Nat.add_comm] using this
  obtain ⟨u, hu, t, rfl⟩ := rv.get (show (ns.map V.int)[i]? = some (V.int d) by rw [List.getElem?_map, hi]; rfl)
  refine codeAny_builtin PySem.F.entry_max_loop ?_
  rw [Around.under_plainId PySem.F.plain_max_loop _]
  have nxt : ∀ {Q2 : Option Value → Shared → Prop} {E2 : Value → Shared → Prop}, (∀ h', Inv (Cx.inB X) pins σ H { s with heap := h' } → h'.IsListIter it l (i + 1) → (∀ o, s.heap.get? S = some o → h'.get? S = some o) → Q2 (some (.int d t)) { s with heap := h' }) →
    wpAny (model X.prog X.w) X.A.in1 (pyNext (.ref it)) Q2 E2 s := by
   intro Q2 E2 go
   refine wpAny_pyNext_list_item st p.isList (x := .int d t) (by simpa using hu) fun h' st' sb => ?_
   exact go h' (I.turned (t' := s.toks) (it := it) (fun b o hb e => (sb.2 b hb).trans e) hI oI.h1 (.inr oI.h3) oI.h4 oI.h5) st' fun o e => (sb.2 S (Ne.symm nIS)).trans e
  have back : ∀ {b2 : Int} {h2 : Heap}, Inv (Cx.inB X) pins σ H { s with heap := h2 } → h2.IsListIter it l (i + 1) → BestI h2 S (some b2) → maxO bo (d :: r) = maxO (some b2) r →
    codeAny (model X.prog X.w) X.A (.builtin "max.loop" ⟨[.ref it, .none, .ref S], [("default", .none)]⟩) R { s with heap := h2 } := fun {b2 h2} I2 st2 hB2 em =>
   ih (i + 1) (some b2) _ H hd' I2 hl hI hS st2 hB2 fun v u s' I' r' q' => fin v u _ I' r' (by rw [em]; exact q')
  have store : ∀ {h1 : Heap} {us : Array Value} {c : Nat}, Inv (Cx.inB X) pins σ H { s with heap := h1 } → h1.IsListIter it l (i + 1) → h1.get? S = some (lob us c) → Inv (Cx.inB X) pins σ H { s with heap := h1.update S (Obj.mapSeq fun _ => #[.int d t, .int d t]) } ∧
    (h1.update S (Obj.mapSeq fun _ => #[.int d t, .int d t])).IsListIter it l (i + 1) ∧ BestI (h1.update S (Obj.mapSeq fun _ => #[.int d t, .int d t])) S (some d) := fun {h1 us c} I1 st1 hS1 => by
   have sb := Heap.SameBut.update h1 S (Obj.mapSeq fun _ => #[.int d t, .int d t])
   obtain ⟨oi, e1, e2⟩ := st1
   obtain ⟨c2, hc2⟩ := upd_lob (ws := #[.int d t, .int d t]) hS1
   exact ⟨Inv.turned (s := { s with heap := h1 }) I1 (t' := s.toks) (it := S) (fun b o hb e => (sb.2 b hb).trans e) hS oS.h1 (.inr oS.h3) oS.h4 oS.h5, ⟨oi, (sb.2 it nIS).trans e1, e2⟩, t, c2, hc2⟩
  cases bo with
  | none =>
   obtain ⟨c, hSo⟩ := hB
   refine wpAny_bind (m := seqItems? (.ref S)) (wpAny_seqItems hSo rfl ?_)
   refine wpAny_bind (m := tryCatch (pyNext (.ref it)) _) (wpAny_tryCatch (nxt fun h1 I1 st1 k1 => ?_))
   obtain ⟨I2, st2, b2⟩ := store I1 st1 (k1 _ hSo)
   refine wpAny_bind (m := updateSeq S fun _ => #[.int d t, .int d t]) ?_
   refine wpAny_updateSeq (s := { s with heap := h1 }) (k1 _ hSo) rfl ?_
   rw [max_name]
   exact wpAny_pure ⟨plainId_quiet PySem.F.plain_max_loop _, back I2 st2 b2 rfl⟩
  | some b =>
   obtain ⟨tb, c, hSo⟩ := hB
   refine wpAny_bind (m := seqItems? (.ref S)) (wpAny_seqItems hSo rfl ?_)
   refine wpAny_bind (m := tryCatch (pyNext (.ref it)) _) (wpAny_tryCatch (nxt fun h1 I1 st1 k1 => ?_))
   refine wpAny_bind (m := tryCatch (holding [.int d t, .int d t] (richCompare .Gt (.int d t) (.int b tb) >>= _)) _) (wpAny_tryCatch (wpAny_holding (wpAny_bind (rc_gt ?_))))
   refine wpAny_bind (wpAny_holding (wpAny_truthy_bool ?_))
   refine wpAny_bind (wpAny_letGo (wpAny_pure ?_))
   by_cases hgt : d > b
   ·simp only [hgt, decide_true, if_true]
    obtain ⟨I2, st2, b2⟩ := store I1 st1 (k1 _ hSo)
    refine wpAny_bind (m := updateSeq S fun _ => #[.int d t, .int d t]) ?_
    refine wpAny_updateSeq (s := { s with heap := h1 }) (k1 _ hSo) rfl (wpAny_bind (wpAny_letGo ?_))
    rw [max_name]
    exact wpAny_pure ⟨plainId_quiet PySem.F.plain_max_loop _, back I2 st2 b2 (by simp [maxO, maxBy, hgt])⟩
   ·simp only [hgt, decide_false, Bool.false_eq_true, if_false]
    refine wpAny_bind (wpAny_letGo ?_)
    rw [max_name]
    exact wpAny_pure ⟨plainId_quiet PySem.F.plain_max_loop _, back I1 st1 ⟨tb, c, k1 _ hSo⟩ (by simp [maxO, maxBy, hgt])⟩
theorem call_maxD {X : Cx} {ns : List Int} {l : Addr} {pins : List (Addr × Obj)} {σ : St} {H : Hp} {s : Shared} {Q : VK} (hc : X.calm = true) (I : Inv X pins σ H s) (hl : H l = some (.lst (ns.map V.int))) (q : ∀ v, Rep X.K H (maxO none ns) v → Q v H) :
  wpAny (model X.prog X.w) X.A (call (.builtin "max") [.ref l] [("default", .none)]) (EP X pins σ Q) X.xe s := by
 obtain ⟨its, rv, p, hz⟩ := I.list (SqL.of (K := X.K) hl)
 refine PyProof.Rows.kmk_tree PySem.F.kind_max PySem.F.plain_max PySem.F.entry_max (args_maxD _ _) ?_
 refine wpAny_bind (m := Builtin.Builtins.bindParams "max" ["key", "default"] 0 ⟨[], [("default", .none)]⟩)
  (wpAny_of_eq (show _ = pure [none, some .none] from rfl) ?_)
 refine wpAny_bind (wpAny_pure ?_)
 refine wpAny_bind (wpAny_pyIter_list p.isList ?_)
 refine wpAny_bind (wpAny_newList ?_ (Nat.zero_le _))
 rw [max_name]
 refine wpAny_pure ⟨plainId_quiet PySem.F.plain_max_loop _, ?_⟩
 generalize hh1 : s.heap.push { cls := .type "list_iterator", data := .fields #[.ref l, .int 0 0] } = h1
 have n1 : h1.objs.size = s.heap.objs.size + 1 := by rw [← hh1]; exact Heap.size_push ..
 have k2 : ∀ b o, s.heap.get? b = some o → (h1.push { cls := .type "list", data := .seq ([] : List Value).toArray }).get? b = some o := fun b o e => Heap.get?_push_of_some _ (by rw [← hh1]; exact Heap.get?_push_of_some _ e)
 have I2 : Inv X pins σ H { s with heap := h1.push { cls := .type "list", data := .seq ([] : List Value).toArray } } := I.kept (t' := s.toks) k2
 refine max_loop hc (own1_new I (Nat.le_refl _)) (own1_new I (b := h1.objs.size) (by rw [n1]; exact Nat.le_succ _)) (by rw [n1]; exact Nat.ne_of_lt (Nat.lt_succ_self _))
  ns 0 none _ H rfl (Inv.inB I2) hl (I.hok.fresh (Nat.le_refl _)) (I.hok.fresh (by rw [n1]; exact Nat.le_succ _)) ⟨_, Heap.get?_push_of_some _ (by rw [← hh1]; exact Heap.get?_push_size _ rfl), rfl, rfl⟩ ⟨0, Heap.get?_push_size _ rfl⟩ fun v u s' I' r' q' => ?_
 exact ⟨v, H, Inv.outB I', r', q v q'⟩
noncomputable def dMaxD : PyData → Option PyData
 | .list ds => (insOf ds).map fun ns => maxO none ns
 | _ => none
section
variable {X : Cx} {a : Expr} {fa : Rho → Option PyData} {pos p p3 kp2 : Pos} {j3 : Nat}
theorem pd_maxD (hc : X.calm = true) (hm : X.mg "max" = none) (ha : PD X a fa) (hg : Gl X "max" := by rfl) (hs : starEach [a] X.env = [(false, eval a X.env)] := by rfl) :
  PD X (.Call (.Name "max" p) [a] [⟨some "default", .Constant .none j3 p3, kp2⟩] pos) (fun ρ => (fa ρ).bind dMaxD) := by
 with_unfolding_all
  intro pins s σ H Q I h
  obtain ⟨ρ, d, en, q, kq⟩ := h
  cases h1 : fa ρ with
  | none => simp [h1] at q
  | some y =>
   have q' : dMaxD y = some d := by simpa [h1] using q
   refine wpAny_Call_Name_kw (ld_blt I hg hm bt_max ?_)
   have hA : PA X [a] (tCons (tD X.K fa) tNil) := pa_cons ha pa_nil (by rw [hs]; rfl)
   have hK : PK X [⟨some "default", .Constant .none j3 p3, kp2⟩] (tCons (tC .non) tNil) := pk_cons pe_non pk_nil
   refine callWith_kw (thn (hA pos pins s σ H (fun vs H1 => ∃ v, vs = [v] ∧ Same H H1 ∧ Rep X.K H1 y v) I ⟨ρ, y, en, h1, fun v H1 s1 r1 => ⟨v, rfl, s1, r1⟩⟩) fun us s1 ⟨vs, H1, I1, r1, v, e1, s1', rv⟩ => ?_) (by rw [hs]; rfl) (by rw [hs]; rfl)
   subst e1
   obtain ⟨u, rfl, ru⟩ := vals1 r1
   refine thn (hK pos pins s1 σ H1 (fun zs H2 => zs = [.non] ∧ H2 = H1) I1 ⟨rfl, rfl⟩) fun ws s2 ⟨zs, H2, I2, r2, e2, e3⟩ => ?_
   subst e2; subst e3
   obtain ⟨w1, rfl, a1⟩ := vals1 r2
   cases (show w1 = _ from a1)
   cases y with
   | list ds =>
    cases hi : insOf ds with
    | none => simp [dMaxD, hi] at q'
    | some ns =>
     have : maxO none ns = d := by simpa [dMaxD, hi] using q'
     subst this
     obtain ⟨l, xs, e4, e5, e6⟩ := rv
     subst e4
     cases (show u = _ from ru)
     rw [insOf_map hi] at e6
     have := Reps.ints e6
     subst this
     exact call_maxD hc I2 e5 fun v r' => kq v _ s1' r'
   | _ => simp [dMaxD] at q'
end
end BX
end
section
namespace BX.Srt
open PySem PySem.W
open PyProof.Rows (mirror bubble mirror_size mirror_perm bubble_size bubble_perm getElem?_mirror_all getElem?_bubble)
section
variable (rk : Nat → Int) (n : Nat)
noncomputable def val (p : Array Nat) (k : Nat) : Int := rk (p.getD k 0)
noncomputable def Sorted (p : Array Nat) (m : Nat) : Prop := ∀ i j, i ≤ j → j < m → val rk p i ≤ val rk p j
noncomputable def NonInc (p : Array Nat) (m : Nat) : Prop := ∀ i j, i ≤ j → j < m → val rk p j ≤ val rk p i
noncomputable def EqRun (p : Array Nat) (m q : Nat) : Prop := ∀ i, m - (q + 1) ≤ i → i < m → val rk p i = val rk p (m - 1)
noncomputable def OKp (p : Array Nat) : Prop := p.Perm (List.range n).toArray
end
section
variable {rk : Nat → Int} {n : Nat} {p p' : Array Nat}
theorem OKp.size (h : OKp n p) : p.size = n := by
 have := h.size_eq
 simpa using this
theorem OKp.lt (h : OKp n p) {k : Nat} (hk : k < n) : p.getD k 0 < n := by
 have hs := h.size
 have e : p.getD k 0 = p[k]'(by omega) := by simp [Array.getD, hs, hk]
 have : p[k]'(by omega) ∈ (List.range n).toArray := h.mem_iff.mp (Array.getElem_mem _)
 rw [e]
 simpa using this
theorem getD_of (p : Array Nat) (k : Nat) : p.getD k 0 = (p[k]?).getD 0 := by simp [Array.getD_eq_getD_getElem?]
theorem val_rev {i j k : Nat} (hj : j ≤ p.size) : val rk (kas_rev p i j) k = if i ≤ k ∧ k < j then val rk p (i + j - 1 - k) else val rk p k := by
 unfold val kas_rev
 rw [getD_of, getElem?_mirror_all hj]
 by_cases h : i ≤ k ∧ k < j
 ·rw [if_pos h, if_pos h, ← getD_of]
 ·rw [if_neg h, if_neg h, ← getD_of]
theorem val_bub {src d k : Nat} (hs : src < p.size) (hd : d ≤ src) : val rk (bubble p src d) k = if k = src - d then val rk p src else if src - d < k ∧ k ≤ src then val rk p (k - 1) else val rk p k := by
 unfold val
 rw [getD_of, getElem?_bubble hs d hd k]
 by_cases h : k = src - d
 ·rw [if_pos h, if_pos h, ← getD_of]
 ·rw [if_neg h, if_neg h]
  by_cases h2 : src - d < k ∧ k ≤ src
  ·rw [if_pos h2, if_pos h2, ← getD_of]
  ·rw [if_neg h2, if_neg h2, ← getD_of]
theorem OKp.rev (h : OKp n p) (i j : Nat) : OKp n (kas_rev p i j) := (mirror_perm p i j _).trans h
theorem OKp.bub (h : OKp n p) (i j : Nat) : OKp n (bubble p i j) := (bubble_perm p i j).trans h
theorem val_rev_eq {m q k : Nat} (hm : m ≤ p.size) (hq : q + 1 ≤ m) (h : EqRun rk p m q) : val rk (kas_rev p (m - (q + 1)) m) k = val rk p k := by
 rw [val_rev hm]
 split
 ·rename_i hk
  rw [h _ (by omega) (by omega), h k hk.1 hk.2]
 ·rfl
end
variable {rk : Nat → Int} {n : Nat} {cmp : Nat → Nat → (Bool → Shared → Prop) → Shared → Prop}
section
variable {s : Shared} (hc : ∀ i j (C : Bool → Shared → Prop), i < n → j < n → C (decide (rk i < rk j)) s → cmp i j C s)
include hc
theorem ask_ok {α : Type} {p : Array Nat} {a b : Nat} {k : Bool → KasT α} {Q : α → Shared → Prop} (h : OKp n p) (ha : a < n) (hb : b < n) (h1 : val rk p a < val rk p b → (k true).kasWp cmp Q s) (h2 : val rk p b ≤ val rk p a → (k false).kasWp cmp Q s) :
  (KasT.ask (p.getD a 0) (p.getD b 0) k).kasWp cmp Q s := by
 refine hc _ _ _ (h.lt ha) (h.lt hb) ?_
 by_cases hl : rk (p.getD a 0) < rk (p.getD b 0)
 ·simp only [hl, decide_true]; exact h1 hl
 ·simp only [hl, decide_false]; exact h2 (Int.not_lt.mp hl)
theorem asc_ok {p : Array Nat} (h : OKp n p) : ∀ (f m : Nat) (Q : Nat → Shared → Prop), 1 ≤ m → m + f ≤ n → Sorted rk p m →
  (∀ m', m ≤ m' → m' ≤ m + f → Sorted rk p m' → (m' = m + f ∨ val rk p m' < val rk p (m' - 1)) → Q m' s) → (kas_asc p f m).kasWp cmp Q s
 | 0, m, Q, _, _, hs, k => k m (Nat.le_refl _) (Nat.le_refl _) hs (.inl rfl)
 | f + 1, m, Q, h1, h2, hs, k => by
  refine ask_ok hc h (by omega) (by omega) (fun hl => ?_) (fun hl => ?_)
  ·show (if true = true then KasT.ret m else kas_asc p f (m + 1)).kasWp cmp Q s
   rw [if_pos rfl]
   exact k m (Nat.le_refl _) (by omega) hs (.inr hl)
  ·show (if false = true then KasT.ret m else kas_asc p f (m + 1)).kasWp cmp Q s
   rw [if_neg Bool.false_ne_true]
   refine asc_ok h f (m + 1) Q (by omega) (by omega) (fun i j hij hj => ?_) fun m' a1 a2 a3 a4 => k m' (by omega) (by omega) a3 (a4.elim (fun e => .inl (by omega)) .inr)
   by_cases hjm : j < m
   ·exact hs i j hij hjm
   ·have ej : j = m := by omega
    subst ej
    by_cases him : i < j
    ·exact Int.le_trans (hs i (j - 1) (by omega) (by omega)) hl
    ·have ei : i = j := by omega
     subst ei; exact Int.le_refl _
theorem desc_ok : ∀ (f : Nat) (p : Array Nat) (m q : Nat) (Q : Array Nat × Nat × Nat → Shared → Prop), OKp n p → q + 1 ≤ m → m + f ≤ n → NonInc rk p m → EqRun rk p m q →
  (∀ p' m' q', OKp n p' → q' + 1 ≤ m' → m' ≤ m + f → NonInc rk p' m' → EqRun rk p' m' q' → Q (p', m', q') s) → (kas_desc f p m q).kasWp cmp Q s
 | 0, p, m, q, Q, h, h1, h2, hn, he, k => k p m q h h1 (Nat.le_refl _) hn he
 | f + 1, p, m, q, Q, h, h1, h2, hn, he, k => by
  have hsz := h.size
  have grow : ∀ {p' : Array Nat}, (∀ i, val rk p' i = val rk p i) → val rk p m ≤ val rk p (m - 1) → NonInc rk p' (m + 1) := fun {p'} hv hl i j hij hj => by
   rw [hv, hv]
   by_cases hjm : j < m
   ·exact hn i j hij hjm
   ·have ej : j = m := by omega
    subst ej
    by_cases him : i < j
    ·exact Int.le_trans hl (hn i (j - 1) (by omega) (by omega))
    ·have ei : i = j := by omega
     subst ei; exact Int.le_refl _
  refine ask_ok hc h (by omega) (by omega) (fun hl => ?_) (fun hl => ?_)
  ·show (if true = true then (if q > 0 then kas_desc f (kas_rev p (m - (q + 1)) m) (m + 1) 0 else kas_desc f p (m + 1) 0) else _).kasWp cmp Q s
   rw [if_pos rfl]
   have er : ∀ {p' : Array Nat}, EqRun rk p' (m + 1) 0 := fun {p'} i h3 h4 => by
    have e : i = m + 1 - 1 := by omega
    rw [e]
   by_cases hq : q > 0
   ·rw [if_pos hq]
    exact desc_ok f _ (m + 1) 0 Q (h.rev _ _) (by omega) (by omega) (grow (fun i => val_rev_eq (by omega) h1 he) (Int.le_of_lt hl)) er fun p' m' q' a1 a2 a3 a4 a5 => k p' m' q' a1 a2 (by omega) a4 a5
   ·rw [if_neg hq]
    exact desc_ok f p (m + 1) 0 Q h (by omega) (by omega) (grow (fun _ => rfl) (Int.le_of_lt hl)) er fun p' m' q' a1 a2 a3 a4 a5 => k p' m' q' a1 a2 (by omega) a4 a5
  ·show (if false = true then _ else KasT.ask (p.getD (m - 1) 0) (p.getD m 0) fun d => if d = true then .ret (p, m, q) else kas_desc f p (m + 1) (q + 1)).kasWp cmp Q s
   rw [if_neg Bool.false_ne_true]
   refine ask_ok hc h (by omega) (by omega) (fun hl2 => ?_) (fun hl2 => ?_)
   ·show (if true = true then KasT.ret (p, m, q) else kas_desc f p (m + 1) (q + 1)).kasWp cmp Q s
    rw [if_pos rfl]
    exact k p m q h h1 (by omega) hn he
   ·show (if false = true then KasT.ret (p, m, q) else kas_desc f p (m + 1) (q + 1)).kasWp cmp Q s
    rw [if_neg Bool.false_ne_true]
    have eq : val rk p m = val rk p (m - 1) := Int.le_antisymm hl2 hl
    refine desc_ok f p (m + 1) (q + 1) Q h (by omega) (by omega) (grow (fun _ => rfl) hl2) (fun i h3 h4 => ?_) fun p' m' q' a1 a2 a3 a4 a5 => k p' m' q' a1 a2 (by omega) a4 a5
    have e1 : m + 1 - 1 = m := by omega
    rw [e1]
    by_cases him : i < m
    ·rw [he i (by omega) him, eq]
    ·have ei : i = m := by omega
     rw [ei]
theorem tail_ok {p : Array Nat} {m : Nat} {Q : Nat × Array Nat → Shared → Prop} (h : OKp n p) (h1 : 1 ≤ m) (h2 : m ≤ n) (hn : NonInc rk p m) (k : ∀ m' p', OKp n p' → 1 ≤ m' → m' ≤ n → Sorted rk p' m' → Q (m', p') s) : (kas_tail3 m n p).kasWp cmp Q s := by
 have hsz := h.size
 unfold kas_tail3
 rw [KasT.kasWp_bind]
 refine asc_ok hc (h.rev 0 m) (n - m) m _ h1 (by omega) (fun i j hij hj => ?_) fun m' a1 a2 a3 _ => k m' _ (h.rev 0 m) (by omega) (by omega) a3
 rw [val_rev (by omega), val_rev (by omega), if_pos ⟨Nat.zero_le _, by omega⟩, if_pos ⟨Nat.zero_le _, hj⟩]
 exact hn _ _ (by omega) (by omega)
theorem descPart_ok {p : Array Nat} {m : Nat} {Q : Nat × Array Nat → Shared → Prop} (h : OKp n p) (h2 : m + 1 ≤ n) (hn : NonInc rk p (m + 1)) (k : ∀ m' p', OKp n p' → 1 ≤ m' → m' ≤ n → Sorted rk p' m' → Q (m', p') s) :
  (kas_descPart m n p).kasWp cmp Q s := by
 unfold kas_descPart
 rw [KasT.kasWp_bind]
 have er : EqRun rk p (m + 1) 0 := fun i h3 h4 => by
  have e : i = m + 1 - 1 := by omega
  rw [e]
 refine desc_ok hc (n - (m + 1)) p (m + 1) 0 _ h (by omega) (by omega) hn er fun p' m' q' a1 a2 a3 a4 a5 => ?_
 have hsz := a1.size
 show (if q' > 0 then kas_tail3 m' n (kas_rev p' (m' - (q' + 1)) m') else kas_tail3 m' n p').kasWp cmp Q s
 by_cases hq : q' > 0
 ·rw [if_pos hq]
  refine tail_ok hc (a1.rev _ _) (by omega) (by omega) (fun i j hij hj => ?_) k
  rw [val_rev_eq (by omega) a2 a5, val_rev_eq (by omega) a2 a5]
  exact a4 i j hij hj
 ·rw [if_neg hq]
  exact tail_ok hc a1 (by omega) (by omega) a4 k
theorem count_ok {p : Array Nat} {Q : Nat × Array Nat → Shared → Prop} (h : OKp n p) (hn1 : 1 ≤ n) (k : ∀ m' p', OKp n p' → 1 ≤ m' → m' ≤ n → Sorted rk p' m' → Q (m', p') s) : (kas_count n p).kasWp cmp Q s := by
 have hsz := h.size
 unfold kas_count
 rw [KasT.kasWp_bind]
 refine asc_ok hc h (n - 1) 1 _ (Nat.le_refl _) (by omega) (fun i j hij hj => by
  have e1 : i = 0 := by omega
  have e2 : j = 0 := by omega
  rw [e1, e2]; exact Int.le_refl _) fun m a1 a2 a3 a4 => ?_
 by_cases hm : (m == n) = true
 ·rw [if_pos hm]
  exact k m p h a1 (by omega) a3
 ·rw [if_neg hm]
  have hmn : m ≠ n := by simpa using hm
  have hlast : val rk p m < val rk p (m - 1) := a4.resolve_left (by omega)
  by_cases hm1 : m > 1
  ·rw [if_pos hm1]
   refine ask_ok hc h (by omega) (by omega) (fun hl => ?_) (fun hl => ?_)
   ·show (if true = true then KasT.ret (m, p) else _).kasWp cmp Q s
    rw [if_pos rfl]
    exact k m p h a1 (by omega) a3
   ·show (if false = true then KasT.ret (m, p) else kas_descPart m n (kas_rev p 0 m)).kasWp cmp Q s
    rw [if_neg Bool.false_ne_true]
    have alleq : ∀ i, i < m → val rk p i = val rk p (m - 1) := fun i hi => by
     have b1 := a3 i (m - 1) (by omega) (by omega)
     have b2 := a3 0 i (Nat.zero_le _) hi
     omega
    have hv : ∀ i, val rk (kas_rev p 0 m) i = val rk p i := fun i => by
     rw [val_rev (by omega)]
     split
     ·rename_i hi
      rw [alleq _ (by omega), alleq i hi.2]
     ·rfl
    refine descPart_ok hc (h.rev _ _) (by omega) (fun i j hij hj => ?_) k
    rw [hv, hv]
    by_cases hjm : j < m
    ·rw [alleq j hjm, alleq i (by omega)]; exact Int.le_refl _
    ·have ej : j = m := by omega
     subst ej
     by_cases him : i < j
     ·rw [alleq i him]; exact Int.le_of_lt hlast
     ·have ei : i = j := by omega
      rw [ei]; exact Int.le_refl _
  ·rw [if_neg hm1]
   have em : m = 1 := by omega
   subst em
   refine descPart_ok hc h (by omega) (fun i j hij hj => ?_) k
   by_cases hj0 : j = 0
   ·have : i = 0 := by omega
    rw [this, hj0]; exact Int.le_refl _
   ·have ej : j = 1 := by omega
    subst ej
    by_cases hi0 : i = 0
    ·rw [hi0]; exact Int.le_of_lt hlast
    ·have ei : i = 1 := by omega
     rw [ei]; exact Int.le_refl _
theorem place_ok {p : Array Nat} {k : Nat} (h : OKp n p) (hk : k < n) (hs : Sorted rk p k) : ∀ (f l r : Nat) (Q : Nat → Shared → Prop), l ≤ r → r ≤ k → r - l ≤ f → (∀ i, i < l → val rk p i ≤ val rk p k) → (∀ i, r ≤ i → i < k → val rk p k < val rk p i) →
  (∀ l', l' ≤ k → (∀ i, i < l' → val rk p i ≤ val rk p k) → (∀ i, l' ≤ i → i < k → val rk p k < val rk p i) → Q l' s) → (kas_place p k f l r).kasWp cmp Q s
 | 0, l, r, Q, h1, h2, h3, a, b, q => by
  have e : l = r := by omega
  subst e
  exact q l h2 a b
 | f + 1, l, r, Q, h1, h2, h3, a, b, q => by
  show (if l ≥ r then KasT.ret l else .ask (p.getD k 0) (p.getD ((l + r) / 2) 0) fun c => if c = true then kas_place p k f l ((l + r) / 2) else kas_place p k f ((l + r) / 2 + 1) r).kasWp cmp Q s
  by_cases hlr : l ≥ r
  ·rw [if_pos hlr]
   have e : l = r := by omega
   subst e
   exact q l h2 a b
  ·rw [if_neg hlr]
   refine ask_ok hc h hk (by omega) (fun hl => ?_) (fun hl => ?_)
   ·show (if true = true then kas_place p k f l ((l + r) / 2) else kas_place p k f ((l + r) / 2 + 1) r).kasWp cmp Q s
    rw [if_pos rfl]
    refine place_ok h hk hs f l ((l + r) / 2) Q (by omega) (by omega) (by omega) a (fun i h4 h5 => ?_) q
    exact Int.lt_of_lt_of_le hl (hs _ i h4 h5)
   ·show (if false = true then kas_place p k f l ((l + r) / 2) else kas_place p k f ((l + r) / 2 + 1) r).kasWp cmp Q s
    rw [if_neg Bool.false_ne_true]
    refine place_ok h hk hs f ((l + r) / 2 + 1) r Q (by omega) h2 (by omega) (fun i h4 => ?_) b q
    exact Int.le_trans (hs i ((l + r) / 2) (by omega) (by omega)) hl
theorem bin_ok : ∀ (f : Nat) (p : Array Nat) (k : Nat) (Q : Array Nat → Shared → Prop), OKp n p → k + f = n → Sorted rk p k → (∀ p', OKp n p' → Sorted rk p' n → Q p' s) → (kas_bin f p k).kasWp cmp Q s
 | 0, p, k, Q, h, hk, hs, q => by
  have e : k = n := by omega
  exact q p h (by rw [← e]; exact hs)
 | f + 1, p, k, Q, h, hk, hs, q => by
  have hsz := h.size
  show ((kas_place p k k 0 k).bind fun l => kas_bin f (bubble p k (k - l)) (k + 1)).kasWp cmp Q s
  rw [KasT.kasWp_bind]
  refine place_ok hc h (by omega) hs k 0 k _ (Nat.zero_le _) (Nat.le_refl _) (by omega) (fun i hi => absurd hi (Nat.not_lt_zero _)) (fun i h1 h2 => absurd h2 (by omega)) fun l hl a b => ?_
  refine bin_ok f _ (k + 1) Q (h.bub _ _) (by omega) (fun i j hij hj => ?_) q
  have hb : k - (k - l) = l := by omega
  rw [val_bub (by omega) (by omega), val_bub (by omega) (by omega), hb]
  by_cases hi1 : i = l
  ·rw [if_pos hi1]
   by_cases hj1 : j = l
   ·rw [if_pos hj1]; exact Int.le_refl _
   ·rw [if_neg hj1, if_pos ⟨by omega, by omega⟩]
    exact Int.le_of_lt (b _ (by omega) (by omega))
  ·rw [if_neg hi1]
   by_cases hi2 : l < i ∧ i ≤ k
   ·rw [if_pos hi2, if_neg (by omega), if_pos ⟨by omega, by omega⟩]
    exact hs _ _ (by omega) (by omega)
   ·rw [if_neg hi2]
    by_cases hj1 : j = l
    ·rw [if_pos hj1]; exact a i (by omega)
    ·rw [if_neg hj1]
     by_cases hj2 : l < j ∧ j ≤ k
     ·rw [if_pos hj2]
      exact hs _ _ (by omega) (by omega)
     ·rw [if_neg hj2]
      exact hs _ _ hij (by omega)
theorem sort_ok {Q : Array Nat → Shared → Prop} (hn1 : 1 ≤ n) (q : ∀ p', OKp n p' → Sorted rk p' n → Q p' s) : (kas_sort n).kasWp cmp Q s := by
 unfold kas_sort
 rw [KasT.kasWp_bind]
 refine count_ok hc (p := (List.range n).toArray) (Array.Perm.refl _) hn1 fun m p h h1 h2 hs => ?_
 show (if m < n then kas_bin (n - max m 1) p (max m 1) else KasT.ret p).kasWp cmp Q s
 have em : max m 1 = m := by omega
 by_cases hm : m < n
 ·rw [if_pos hm, em]
  exact bin_ok hc (n - m) p m Q h (by omega) hs q
 ·rw [if_neg hm]
  have e : m = n := by omega
  exact q p h (by rw [← e]; exact hs)
end
end BX.Srt
end
section
namespace BX
open PySem PySem.Spec L2
open PyProof.Rows hiding St
theorem zip_snd (vs : List Value) : (vs.toArray.zip vs.toArray).map (·.2) = vs.toArray := by
 apply Array.toList_inj.mp
 simp [List.map_snd_zip]
theorem out_few (vs : List Value) : (arrOf (SortSt.mk' general' (vs.toArray.zip vs.toArray) #[] 7 none)).map (·.2) = vs.toArray := zip_snd vs
section
variable {prog : Program} {w : World} {A : Around} {E : Value → Shared → Prop} {s : Shared}
theorem sorted_few {l : Addr} {vs : List Value} {Q : Value → Shared → Prop} (hl : s.heap.IsList l vs.toArray) (h2 : vs.length < 2)
  (h : ∀ h' D c, (∀ b o, s.heap.get? b = some o → h'.get? b = some o) → h'.get? D = some (lob vs.toArray c) → s.heap.objs.size ≤ D → Q (.ref D) { s with heap := h' }) :
  wpAny (model prog w) A (call (.builtin "sorted") [.ref l]) Q E s := by
 have small : vs.length ≤ sizeLine := by rw [sizeLine_eq]; omega
 refine Calls.call_function_entry kind_sorted plain_sorted entry_sorted (args_sorted1 _) ?_
 unfold Builtin.«sorted»
 refine wpAny_bind (m := checkCount "sorted" 1 1 _) (wpAny_pure ?_)
 refine wpAny_bind (collect_list hl ?_ small)
 refine wpAny_bind (wpAny_newList ?_ small)
 generalize hh1 : (s.heap.push (seqObj "list" #[] 0)).update s.heap.objs.size (Obj.mapSeq (· ++ vs.toArray)) = h1
 have n1 : h1.objs.size = s.heap.objs.size + 1 := by rw [← hh1, Heap.size_update, size_push']
 have k1 : ∀ b o, s.heap.get? b = some o → h1.get? b = some o := fun b o q => by
  have hlt : b < s.heap.objs.size := Heap.lt_size q
  rw [← hh1, Heap.get?_update_ne _ _ _ _ (Nat.ne_of_lt hlt), Heap.get?_push_ne _ _ _ (Nat.ne_of_lt hlt)]
  exact q
 have hD : (h1.push (seqObj "list" vs.toArray 0)).get? h1.objs.size = some (seqObj "list" vs.toArray 0) := Heap.get?_push_size _ rfl
 refine wpAny_bind (wpAny_holding (wpAny_call_entry (s := { s with heap := h1.push (seqObj "list" vs.toArray 0) }) slot_list_sort ⟨_, hD, rfl⟩ entry_list_sort ?body (args_list_sort _)))
 case body =>
  rw [list_sort_plain]
  refine wpAny_bind (listItems_at hD rfl ?_)
  refine wpAny_bind (listUpdate_at hD rfl ?_ (by rw [List.size_toArray]; exact small) (Nat.zero_le _))
  obtain ⟨e1, ho1⟩ : ∃ e1, ((h1.push (seqObj "list" vs.toArray 0)).update h1.objs.size (Obj.mapSeq fun _ => (#[] : Array Value))).get? h1.objs.size = some (seqObj "list" #[] e1) := ⟨_, get?_update_seq hD fun _ => #[]⟩
  refine wpAny_bind (seqEpoch_at ho1 rfl ?_)
  refine wpAny_bind (wpAny_newTuple ?_ small)
  refine wpAny_bind (wpAny_newList ?_ (Nat.zero_le _))
  refine wpAny_holding ?_
  dsimp only
  have hlt : vs.toArray.size < 2 := by rw [List.size_toArray]; exact h2
  rw [if_pos hlt, if_pos hlt]
  refine wpAny_bind (wpAny_pure ?_)
  rw [StateT.run_pure]
  refine wpAny_bind (wpAny_pure ?_)
  dsimp only
  have ho3 : ((((h1.push (seqObj "list" vs.toArray 0)).update h1.objs.size (Obj.mapSeq fun _ => (#[] : Array Value))).push (seqObj "tuple" vs.toArray 0)).push (seqObj "list" #[] 0)).get? h1.objs.size = some (seqObj "list" #[] e1) := Heap.get?_push_of_some _ (Heap.get?_push_of_some _ ho1)
  refine wpAny_bind (seqEpoch_at ho3 rfl ?_)
  rw [out_few]
  refine wpAny_bind (listUpdate_at ho3 rfl ?_ (Nat.zero_le _) (by rw [List.size_toArray]; exact Nat.le_succ_of_le small))
  obtain ⟨c2, hc2⟩ := upd_lob (ws := vs.toArray) (show _ = some (lob #[] e1) from ho3)
  simp only [bne_self_eq_false, Bool.false_eq_true, if_false]
  refine wpAny_pure ⟨_, rfl, ?_⟩
  refine wpAny_pure ⟨_, rfl, ?_⟩
  refine h _ _ c2 (fun b o q => ?_) hc2 (by rw [n1]; exact Nat.le_succ _)
  have q1 := k1 b o q
  have lt1 : b < h1.objs.size := Heap.lt_size q1
  have u1 := Heap.SameBut.update (h1.push (seqObj "list" vs.toArray 0)) h1.objs.size (Obj.mapSeq fun _ => (#[] : Array Value))
  have q2 := (u1.2 b (Nat.ne_of_lt lt1)).trans (Heap.get?_push_of_some _ q1)
  have q3 := Heap.get?_push_of_some { cls := .type "list", data := .seq (#[] : Array Value) } (Heap.get?_push_of_some { cls := .type "tuple", data := .seq vs.toArray } q2)
  exact ((Heap.SameBut.update _ h1.objs.size (Obj.mapSeq fun _ => vs.toArray)).2 b (Nat.ne_of_lt lt1)).trans q3
end
end BX
end
section
namespace BX
open PySem PySem.Spec L2
open PyProof.Rows hiding St
theorem ObjOk.there {P : Program} {w : World} {H : Hp} {h : Heap} {a : Addr} {o : HO} (x : ObjOk P w H h a o) : ∃ u, h.get? a = some u := by
 cases o with
 | lst xs => obtain ⟨_, _, _, _, e⟩ := x; exact ⟨_, e⟩
 | tup xs => obtain ⟨_, _, _, u, e, _⟩ := x; exact ⟨_, e⟩
 | dK kvs => obtain ⟨_, _, _, _, o, _, _, e, _⟩ := x; exact ⟨_, e⟩
 | dT kvs => obtain ⟨_, _, _, _, o, _, _, e, _⟩ := x; exact ⟨_, e⟩
 | set S n => obtain ⟨o, _, _, _, e, _⟩ := x; exact ⟨_, e⟩
 | ins C dx fs => obtain ⟨_, _, _, e, _⟩ := x; exact ⟨_, e⟩
 | own y => obtain ⟨_, e⟩ := x; exact ⟨_, e⟩
 | xd fs => obtain ⟨_, ⟨_, _, _, e, _⟩, _⟩ := x; exact ⟨_, e⟩
 | rng lo hi => obtain ⟨_, _, _, e⟩ := x; exact ⟨_, e⟩
 | frz ob u => obtain ⟨e, _⟩ := x; exact ⟨_, e⟩
 | tbl ps => exact ⟨_, (show h.get? a = some _ from x)⟩
 | met f y => exact ⟨_, (show h.get? a = some _ from x)⟩
 | ext φ => obtain ⟨_, ⟨_, e⟩, _⟩ := x; exact ⟨_, e⟩
theorem ns_one {h : Heap} {L : Addr} {m m' : Str → Option Value} (a : h.Ns L m) (b : h.Ns L m') : m = m' := by
 obtain ⟨o, es, ep, e1, d1, _, q1⟩ := a
 obtain ⟨o', es', ep', e2, d2, _, q2⟩ := b
 rw [e1] at e2; cases e2
 rw [d1] at d2; cases d2
 funext x
 rw [← q1 x, ← q2 x]
theorem Inv.grownL {X : Cx} {pins : List (Addr × Obj)} {σ : St} {H : Hp} {s : Shared} {h' : Heap} {m : Str → Option Value} {D : Addr} {ys : List V} {us : List Value} {c : Nat} (I : Inv X pins σ H s) (hm : s.heap.Ns X.env.locals m) (hm' : h'.Ns X.env.locals m)
  (kp : ∀ b o, b ≠ X.env.locals → s.heap.get? b = some o → h'.get? b = some o) (hD : s.heap.get? D = none) (ho : h'.get? D = some (lob us.toArray c)) (rv : Vals ys us) (hz : ys.length ≤ sizeLine) : Inv X pins σ (upd H D (.lst ys)) { s with heap := h' } := by
 have nD : H D = none := by
  cases e : H D with
  | none => rfl
  | some o => obtain ⟨u, q⟩ := ObjOk.there (I.hok D o e); rw [hD] at q; cases q
 have neD : ∀ b u, H b = some u → b ≠ D := fun b u e z => by rw [z, nD] at e; cases e
 have nL : ∀ b u, H b = some u → b ≠ X.env.locals := fun b u e z => by rw [z, I.free] at e; cases e
 refine I.step (t' := s.toks) (g' := s.gens) (d' := s.drawn) (ch := []) (fun b hb => nomatch hb) (fun b o hL _ _ e _ => kp b o hL e) (fun b o hL _ _ e _ => ⟨o.slots, kp b o hL e⟩) (fun b o _ e n => ?_) (fun b o _ e => ?_) (fun b ws e => by rw [upd_ne (neD b _ e)]; exact e)
  (fun b ob ws e => by rw [upd_ne (neD b _ e)]; exact e) (fun b ps e => ⟨#[], by rw [upd_ne (neD b _ e), e]; simp⟩) (fun m2 h2 => by rw [← ns_one hm h2]; exact hm') (fun b u e => ?_) I.bare
 ·have : b ≠ D := fun z => by rw [z, hD] at e; cases e
  rw [upd_ne this]; exact n
 ·by_cases hb : b = X.env.locals
  ·obtain ⟨o', _, _, e', _⟩ := hm'
   exact ⟨o', by rw [hb]; exact e'⟩
  ·exact ⟨o, kp b o hb e⟩
 ·by_cases hb : b = D
  ·subst hb
   rw [upd_same] at e
   cases e
   exact ⟨hz, us, c, rv, ho⟩
  ·rw [upd_ne hb] at e
   refine (I.hok b u e).stay (fun c' o hc' q => kp c' o ?_ q) (fun c' q => by rw [upd_ne (neD c' _ q)]; exact q) fun c' ws q => by rw [upd_ne (neD c' _ q)]; exact q
   rcases hc' with q' | q'
   ·rw [q']; exact nL b u e
   ·exact nL c' _ q'
end BX
end
section
namespace BX
open PySem PySem.Spec L2
open PyProof.Rows hiding St
noncomputable def pairD (p : Int × Int) : PyData := .tuple [.int p.1, .int p.2]
noncomputable def inB (p : Int × Int) : Bool := decide (0 ≤ p.2) && decide (p.2 < 1000000)
structure PairAt (h : Heap) (u : Value) (p : Int × Int) : Prop where
 ex : ∃ a o k t t', u = .ref a ∧ h.get? a = some o ∧ o.cls = .type "tuple" ∧ o.data = .seq #[.int p.1 t, .int p.2 t'] k
theorem getD_some {α : Type} {l : List α} {i : Nat} {d x : α} (h : l[i]? = some x) : l.getD i d = x := by simp [List.getD, h]
theorem vals_perm {us : List Value} {xs : List V} (rv : Vals xs us) (is : List Nat) (h : ∀ i ∈ is, i < us.length) : Vals (is.map fun i => xs.getD i .non) (is.map fun i => us.getD i Value.none) := by
 induction is with
 | nil => exact .nil
 | cons i is ih =>
  have hi := h i List.mem_cons_self
  have hl := rv.length
  obtain ⟨u, e1, e2⟩ := rv.get (show xs[i]? = some (xs[i]'(by omega)) by simp [hl, hi])
  refine .cons ?_ (ih fun j hj => h j (List.mem_cons_of_mem _ hj))
  show L2.RelV (xs.getD i .non) (us.getD i Value.none)
  rw [getD_some e1, getD_some (show xs[i]? = some (xs[i]'(by omega)) by simp [hl, hi])]
  exact e2
theorem reps_perm {K : PySem.W.Frag} {H : Hp} {ds : List PyData} {xs : List V} (r : Reps K H ds xs) (is : List Nat) (h : ∀ i ∈ is, i < ds.length) : Reps K H (is.map fun i => ds.getD i .none) (is.map fun i => xs.getD i .non) := by
 induction is with
 | nil => rfl
 | cons i is ih =>
  have hi := h i List.mem_cons_self
  obtain ⟨x, e1, e2⟩ := r.get (show ds[i]? = some ds[i] by simp [hi])
  refine ⟨_, _, rfl, ?_, ih fun j hj => h j (List.mem_cons_of_mem _ hj)⟩
  show Rep K H (ds.getD i .none) (xs.getD i .non)
  rw [getD_some e1, getD_some (show ds[i]? = some ds[i] by simp [hi])]
  exact e2
theorem pairwise_few {α : Type} {R : α → α → Prop} : ∀ {l : List α}, l.length < 2 → l.Pairwise R
 | [], _ => .nil
 | [p], _ => List.pairwise_singleton _ _
 | _ :: _ :: _, h => by simp at h; omega
end BX
end
section
namespace BX
open PySem PySem.Spec L2
open PyProof.Rows hiding St
section
variable {X : Cx}
variable {a b : Expr} {fa fb : Rho → Option PyData} {pos p2 : Pos}
noncomputable def dNeg : PyData → Option PyData
 | .int i => some (.int (-i))
 | _ => none
theorem pd_neg (h : PD X a fa) : PD X (.UnaryOp .USub a pos) (fun ρ => (fa ρ).bind dNeg) := by
 with_unfolding_all
  refine PE.imp (pe_un un_neg h) fun σ H Q ⟨ρ, d, en, q, k⟩ => ?_
  cases h1 : fa ρ with
  | none => simp [h1] at q
  | some y =>
   refine ⟨ρ, y, en, h1, fun v H1 s1 r1 => ?_⟩
   have q' : dNeg y = some d := by simpa [h1] using q
   cases y with
   | int i => cases q'; cases (show v = _ from r1); exact ⟨i, rfl, k _ H1 s1 rfl⟩
   | _ => cases q'
end
end BX
end
section
namespace BX
open PySem PySem.Spec L2
open PyProof.Rows hiding St
noncomputable def foldB (bt : Int → Int → Bool) : List Int → Option Int
 | [] => none
 | n :: ns => some (ns.foldl (fun a b => if bt b a then b else a) n)
theorem foldB_snoc (bt : Int → Int → Bool) (ns : List Int) (x m : Int) (h : foldB bt ns = some m) : foldB bt (ns ++ [x]) = some (if bt x m then x else m) := by
 cases ns with
 | nil => cases h
 | cons n ns =>
  have : ns.foldl (fun a b => if bt b a then b else a) n = m := by simpa [foldB] using h
  subst this
  simp [foldB, List.foldl_append]
theorem best_fold (bt : Int → Int → Bool) (ns : List Int) : ∀ k, k < ns.length → foldB bt (ns.take (k + 1)) = some (ns.getD (argBest (fun i j => bt (ns.getD i 0) (ns.getD j 0)) k) 0)
 | 0, h => by
  cases ns with
  | nil => simp at h
  | cons n ns => simp [foldB, argBest]
 | k + 1, h => by
  have ih := best_fold bt ns k (by omega)
  have h1 : ns.take (k + 1 + 1) = ns.take (k + 1) ++ [ns.getD (k + 1) 0] := by rw [List.take_succ]; simp [h, List.getD]
  rw [h1, foldB_snoc bt _ _ _ ih]
  simp only [argBest]
  by_cases hb : bt (ns.getD (k + 1) 0) (ns.getD (argBest (fun i j => bt (ns.getD i 0) (ns.getD j 0)) k) 0) = true
  ·rw [if_pos hb, if_pos hb]
  ·rw [if_neg hb, if_neg hb]
theorem best_all (bt : Int → Int → Bool) (ns : List Int) (h : 0 < ns.length) : foldB bt ns = some (ns.getD (argBest (fun i j => bt (ns.getD i 0) (ns.getD j 0)) (ns.length - 1)) 0) := by
 have := best_fold bt ns (ns.length - 1) (by omega)
 rwa [Nat.sub_add_cancel h, List.take_length] at this
variable {X : Cx}
noncomputable def rBest (K : PySem.W.Frag) (bt : Int → Int → Bool) : List V → Hp → VK → Prop := fun xs H Q => ∃ a ns m, xs = [.ref a] ∧ (SqL K H a (List.map V.int ns) ∨ SqT K H a (List.map V.int ns)) ∧ foldB bt ns = some m ∧ Q (.int m) H
theorem call_minS (hc : X.calm = true) : CallR X (.builtin "min") (rBest X.K fun i j => decide (i < j)) := by
 intro pins s σ H xs us Q I r ⟨a, ns, m, e, hq, hm, q⟩
 subst e
 obtain ⟨u, rfl, rx⟩ := vals1 r
 cases rx
 have hh := I.ok.hd hc
 have h0 : 0 < ns.length := by cases ns with
  | nil => cases hm
  | cons n ns => simp
 have hb := best_all (fun i j => decide (i < j)) ns h0
 rw [hm] at hb
 have hb := Option.some.inj hb
 rcases hq with hq | hq
 ·obtain ⟨its, rv, pl, hz⟩ := I.list hq
  have hl : its.toArray.size = ns.length := by have := rv.length; simp at this ⊢; omega
  refine call_min_walk (iter_seqL pl.isList fun h2 it st hlt hne k1 hn => ?_)
  refine ⟨it, [it, a], [it], its.toArray.size, (fun i v => its.toArray[i]? = some v), _, _, rfl, Walks.list (A := X.A.in1) hh it a hne its.toArray, st, hlt, by rw [hl]; exact h0, CmpOf.ints_lt (fun i => ns.getD i 0) fun i v hP => intsOf_vals rv hP, fun v h3 tk hP k2 => ?_⟩
  obtain ⟨t, rfl⟩ := intsOf_vals rv hP
  exact ⟨.int m, H, I.kept (t' := tk) (kept_it k1 hn k2), ⟨t, by rw [hl]; rw [hb]⟩, q⟩
 ·obtain ⟨its, rv, pl, hz⟩ := I.tuple hq
  have hl : its.toArray.size = ns.length := by have := rv.length; simp at this ⊢; omega
  refine call_min_walk (iter_seqT (show s.heap.IsTuple a its.toArray from pl) fun h2 it st hlt hne k1 hn => ?_)
  refine ⟨it, [it, a], [it], its.toArray.size, (fun i v => its.toArray[i]? = some v), _, _, rfl, Walks.tuple (A := X.A.in1) hh it a hne its.toArray, st, hlt, by rw [hl]; exact h0, CmpOf.ints_lt (fun i => ns.getD i 0) fun i v hP => intsOf_vals rv hP, fun v h3 tk hP k2 => ?_⟩
  obtain ⟨t, rfl⟩ := intsOf_vals rv hP
  exact ⟨.int m, H, I.kept (t' := tk) (kept_it k1 hn k2), ⟨t, by rw [hl]; rw [hb]⟩, q⟩
noncomputable def dBest (bt : Int → Int → Bool) (ds : List PyData) : Option PyData := match ds with
 | [.list xs] => (insOf xs).bind fun ns => (foldB bt ns).map .int
 | [.tuple xs] => (insOf xs).bind fun ns => (foldB bt ns).map .int
 | _ => none
theorem dBest_r {K : PySem.W.Frag} {bt : Int → Int → Bool} {ds : List PyData} {d : PyData} {xs : List V} {H : Hp} {Q : VK} (h : dBest bt ds = some d) (r : Reps K H ds xs) (k : ∀ v H', Same H H' → Rep K H' d v → Q v H') : rBest K bt xs H Q := by
 unfold dBest at h
 split at h
 ·rename_i ys
  cases hb : insOf ys with
  | none => simp [hb] at h
  | some ns =>
   cases hf : foldB bt ns with
   | none => simp [hb, hf] at h
   | some m =>
    have : PyData.int m = d := by simpa [hb, hf] using h
    subst this
    obtain ⟨x, q, e1, e2, e3⟩ := r
    cases (show q = [] from e3)
    obtain ⟨a, us, g1, g2, g3⟩ := e2
    subst g1
    rw [insOf_map hb] at g3
    have := Reps.ints g3
    subst this
    exact ⟨a, ns, m, e1, .inl (SqL.of g2), hf, k _ H (Same.refl H) rfl⟩
 ·rename_i ys
  cases hb : insOf ys with
  | none => simp [hb] at h
  | some ns =>
   cases hf : foldB bt ns with
   | none => simp [hb, hf] at h
   | some m =>
    have : PyData.int m = d := by simpa [hb, hf] using h
    subst this
    obtain ⟨x, q, e1, e2, e3⟩ := r
    cases (show q = [] from e3)
    obtain ⟨a, us, g1, g2, g3⟩ := e2
    subst g1
    rw [insOf_map hb] at g3
    have := Reps.ints g3
    subst this
    exact ⟨a, ns, m, e1, .inr g2, hf, k _ H (Same.refl H) rfl⟩
 ·cases h
theorem cd_min1 (hc : X.calm = true) : CallD X (.builtin "min") (dBest fun i j => decide (i < j)) := ⟨_, call_minS hc, fun ds d xs H Q h r k => dBest_r h r k⟩
end BX
end
section
namespace BX
open PySem PySem.Spec L2
open PyProof.Rows hiding St
variable {X : Cx}
noncomputable def litL (f : Expr → Option PyData) : List Expr → Option (List PyData)
 | [] => some []
 | e :: es => (f e).bind fun d => (litL f es).map fun ds => d :: ds
noncomputable def lit : Nat → Expr → Option PyData
 | 0, _ => none
 | n + 1, e => match e with
  | .Constant (.int i) _ _ => some (.int i)
  | .Constant (.bool b) _ _ => some (.bool b)
  | .Constant .none _ _ => some .none
  | .Constant (.str x) _ _ => some (.str x)
  | .Tuple es _ _ => (litL (lit n) es).bind fun ds => if few ds = true then some (.tuple ds) else none
  | .List es _ => (litL (lit n) es).bind fun ds => if few ds = true then some (.list ds) else none
  | _ => none
theorem PD.as {e : Expr} {F G : Rho → Option PyData} (h : PD X e F) (hi : ∀ ρ d, G ρ = some d → F ρ = some d) : PD X e G := by
 with_unfolding_all exact (PE.imp h fun σ H Q ⟨ρ, d, en, q, k⟩ => ⟨ρ, d, en, hi ρ d q, k⟩)
theorem PAD.as {es : List Expr} {F G : Rho → Option (List PyData)} (h : PAD X es F) (hi : ∀ ρ d, G ρ = some d → F ρ = some d) : PAD X es G := by
 with_unfolding_all exact (PA.imp h fun σ H Q ⟨ρ, d, en, q, k⟩ => ⟨ρ, d, en, hi ρ d q, k⟩)
noncomputable def NoStar (e : Expr) : Prop := ∀ (es : List Expr) (env : Env), starEach (e :: es) env = (false, eval e env) :: starEach es env
theorem pad_lit {f : Expr → Option PyData} (hf : ∀ e d, f e = some d → PD X e (cst d) ∧ NoStar e) : ∀ (es : List Expr) (ds : List PyData), litL f es = some ds → PAD X es (fun _ => some ds)
 | [], ds, h => by cases h; exact pad_nil
 | e :: es, ds, h => by
  cases h1 : f e with
  | none => simp [litL, h1] at h
  | some d =>
   cases h2 : litL f es with
   | none => simp [litL, h1, h2] at h
   | some r =>
    have : d :: r = ds := by with_unfolding_all simpa [litL, h1, h2] using h
    subst this
    obtain ⟨p, st⟩ := hf e d h1
    exact (pad_cons p (pad_lit hf es r h2) (st es X.env)).as fun ρ d' q => by cases q; simp [consA, cst]
theorem lit_ok : ∀ (n : Nat) (e : Expr) (d : PyData), lit n e = some d → PD X e (cst d) ∧ NoStar e
 | 0, e, d, h => by cases h
 | n + 1, e, d, h => by
  unfold lit at h
  split at h
  ·cases h; exact ⟨pd_int, fun _ _ => rfl⟩
  ·cases h; exact ⟨pd_bl, fun _ _ => rfl⟩
  ·cases h; exact ⟨pd_non, fun _ _ => rfl⟩
  ·cases h; exact ⟨pd_str, fun _ _ => rfl⟩
  ·rename_i es x1 pos
   cases h1 : litL (lit n) es with
   | none => simp [h1] at h
   | some ds =>
    by_cases hf : few ds = true
    ·have : PyData.tuple ds = d := by with_unfolding_all simpa [h1, hf] using h
     subst this
     exact ⟨(pd_tup (pad_lit (lit_ok n) es ds h1)).as fun ρ d' q => by cases q; simp [tupD, hf], fun _ _ => rfl⟩
    ·simp [h1, hf] at h
  ·rename_i es pos
   cases h1 : litL (lit n) es with
   | none => simp [h1] at h
   | some ds =>
    by_cases hf : few ds = true
    ·have : PyData.list ds = d := by simpa [h1, hf] using h
     subst this
     exact ⟨(pd_lst (pad_lit (lit_ok n) es ds h1)).as fun ρ d' q => by cases q; simp [lstD, hf], fun _ _ => rfl⟩
    ·simp [h1, hf] at h
  ·cases h
theorem pd_lit (n : Nat) {e : Expr} (d : PyData) (h : lit n e = some d) : PD X e (cst d) := by
 with_unfolding_all exact ((lit_ok n e d h).1)
end BX
end
section
namespace BX
open PySem L2
open PyProof.Rows hiding St
noncomputable def TopFn (K : PySem.W.Frag) (x : Str) (st : Stmt) : Prop :=
 ∃ (f : Addr) (oc : Value) (od an : Option Addr) (kV doc pm cdv ct : Value) (osl : Array (Option Value)), PySem.W.nsIn K mainGlobals x = some (some (.ref f)) ∧
  K.lookup f = some ⟨oc, od, .func (PySem.W.fnOf x x (defArgs st) (defBody st) (defScope st) .none kV doc pm an cdv ct), osl⟩ ∧ PySem.W.codeIn K cdv x = true ∧ PySem.W.keepIn K (.ref f) = true
theorem topfn_mk {K : PySem.W.Frag} {x : Str} {st : Stmt} {f : Addr} {oc : Value} {od an : Option Addr} {kV doc pm cdv ct : Value} {osl : Array (Option Value)} (a : PySem.W.nsIn K mainGlobals x = some (some (.ref f)))
  (l : K.lookup f = some ⟨oc, od, .func (PySem.W.fnOf x x (defArgs st) (defBody st) (defScope st) .none kV doc pm an cdv ct), osl⟩) (c : PySem.W.codeIn K cdv x = true) (k : PySem.W.keepIn K (.ref f) = true) : TopFn K x st :=
 ⟨f, oc, od, an, kV, doc, pm, cdv, ct, osl, a, l, c, k⟩
noncomputable abbrev PlainArgs (x : Str) (st : Stmt) (ps : List Str) : Prop := ∀ (kV doc pm : Value) (an : Option Addr) (cdv ct : Value) (us : List Value), us.length = ps.length → bindArgs (PySem.W.fnOf x x (defArgs st) (defBody st) (defScope st) .none kV doc pm an cdv ct) ⟨us, []⟩ = pure (ps.zip us)
theorem TopFn.callee {P : Program} {w : World} {K : PySem.W.Frag} {mg : Str → Option Value} {base h : Heap} {x : Str} {st : Stmt} {ps : List Str} {k n : Nat} {g : List PyData → Option PyData} (T : TopFn K x st) (X : K.In h) (G : h.Ns mainGlobals mg)
  (hb : PlainArgs x st ps) (F : ∀ (f : Addr) (fd : FuncData), Fun K x x st f fd → FnOk P w K mg base CX0 k f fd ps (Pur K n g)) : Callee P w K mg base x ps k n g := by
 obtain ⟨f, oc, od, an, kV, doc, pm, cdv, ct, osl, a, l, c, kp⟩ := T
 have F1 := fun_mk (st := st) l c kp
 exact ⟨f, _, F f _ F1, PySem.W.mg_of X G a, kp, F1.binds hb⟩
theorem Callee.as {P : Program} {w : World} {K : PySem.W.Frag} {mg : Str → Option Value} {base : Heap} {x : Str} {ps : List Str} {k n : Nat} {g g' : List PyData → Option PyData} (C : Callee P w K mg base x ps k n g) (h : ∀ ds d, g' ds = some d → g ds = some d) : Callee P w K mg base x ps k n g' := by
 obtain ⟨f, fd, F, a, b, c⟩ := C
 exact ⟨f, fd, fn_as F fun ds d _ q => h ds d q, a, b, c⟩
theorem gc_tuple {K : PySem.W.Frag} {mg : Str → Option Value} {h : Heap} {x : Str} {a : Addr} {ob : Obj} {ds : List PyData} (X : K.In h) (G : h.Ns mainGlobals mg) (e : PySem.W.nsIn K mainGlobals x = some (some (.ref a))) (l : K.lookup a = some ob)
  (hc : ob.cls = .type "tuple") (hi : ∃ (its : Array Value) (n : Nat) (xs : List V), ob.data = .seq its n ∧ its.size ≤ sizeLine ∧ Vals xs its.toList ∧ ∀ H, Reps K H ds xs) : ∃ v u, mg x = some u ∧ RelV v u ∧ ∀ H, Rep K H (.tuple ds) v := by
 obtain ⟨its, n, xs, h1, h2, h3, h4⟩ := hi
 exact ⟨.ref a, .ref a, PySem.W.mg_of X G e, rfl, fun H => ⟨a, xs, rfl, .inr ⟨ob, its, n, l, hc, h1, h2, h3⟩, h4 H⟩⟩
end BX
end
section
namespace BX
open PySem PySem.Spec L2
open PyProof.Rows hiding St
noncomputable def sealL (a : Addr) (xs : List V) : HO := .ext fun h => xs.length ≤ sizeLine ∧ ∃ (its : List Value) (n : Nat), Vals xs its ∧ h.get? a = some { cls := .type "list", data := .seq its.toArray n }
noncomputable def sealD (P : Program) (w : World) (a : Addr) (ob : Obj) (ks : List (Key × V)) : HO := .ext fun h => h.get? a = some ob ∧ ks.length ≤ sizeLine ∧ (a == sysModules) = false ∧ ∃ vs, KV ks vs ∧ h.DictOf (mixKind P w) a vs
inductive Seal (P : Program) (w : World) (a : Addr) : HO → HO → Prop where
 | l (xs : List V) : Seal P w a (sealL a xs) (.lst xs)
 | d (ob : Obj) (ks : List (Key × V)) : Seal P w a (sealD P w a ob ks) (.frz ob (.dK ks))
theorem Seal.ext {P : Program} {w : World} {a : Addr} {c o : HO} (S : Seal P w a c o) : ∃ φ, c = .ext φ := by cases S <;> exact ⟨_, rfl⟩
section
variable {X : Cx} {pins : List (Addr × Obj)} {σ : St} {H : Hp} {s : Shared} {a : Addr} {c o : HO}
theorem Inv.opened (I : Inv X pins σ H s) (S : Seal X.prog X.w a c o) (e : H a = some c) : Inv X pins σ (upd H a o) s := by
 have q := I.hok a c e
 have mu : Mut (H a) := by rw [e]; obtain ⟨φ, rfl⟩ := S.ext; trivial
 cases S with
 | l xs =>
  obtain ⟨h1, h2, _⟩ := q
  exact I.write (x := a) (e := a) (h' := s.heap) (t' := s.toks) mu (.inl rfl) (fun _ _ _ z => z) h2 h1
 | d ob ks =>
  obtain ⟨h1, h2, _⟩ := q
  exact I.write (x := a) (e := a) (h' := s.heap) (t' := s.toks) mu (.inl rfl) (fun _ _ _ z => z) h2 ⟨h1.1, h1.2⟩
theorem Inv.redesc {o1 o2 : HO} (I : Inv X pins σ H s) (h1 : H a = some o1) (n1 : ∀ y, o1 ≠ .own y) (n2 : ∀ xs, o1 ≠ .tup xs) (n3 : ∀ ps, o1 ≠ .tbl ps) (nf : ∀ ob u, X.H₀ a ≠ some (.frz ob u)) (new : ObjOk X.prog X.w (upd H a o2) s.heap a o2) : Inv X pins σ (upd H a o2) s := by
 have na : ∀ b, H b = none → upd H a o2 b = none := fun b z => by
  have : b ≠ a := fun q => by subst q; rw [h1] at z; cases z
  rw [upd_ne this]; exact z
 refine ⟨I.ok, I.os, I.bare, ⟨I.base.keep, I.base.slot, fun b u q n hx => na b (I.base.free b u q n hx), I.base.there, fun b xs q => ?_, fun b ob u q => ?_, fun b ps q => ?_⟩, I.loc, I.cell, na _ I.free, fun x c' q => na _ (I.freeC x c' q), fun p hp => ?_, fun b u q => ?_, I.len⟩
 ·have q' := I.base.tups b xs q
  have : b ≠ a := fun z => by subst z; rw [h1] at q'; cases q'; exact n2 _ rfl
  rw [upd_ne this]; exact q'
 ·have : b ≠ a := fun z => by subst z; exact nf _ _ q
  rw [upd_ne this]; exact I.base.frzs b ob u q
 ·obtain ⟨more, q'⟩ := I.base.tbls b ps q
  have : b ≠ a := fun z => by subst z; rw [h1] at q'; cases q'; exact n3 _ rfl
  exact ⟨more, by rw [upd_ne this]; exact q'⟩
 ·obtain ⟨g1, g2, g3⟩ := I.pin p hp
  exact ⟨g1, na _ g2, g3⟩
 ·by_cases hb : b = a
  ·subst hb
   rw [upd_same] at q; cases q
   exact new
  ·rw [upd_ne hb] at q
   refine (I.hok b u q).stay (fun c' v _ z => z) (fun c' z => ?_) fun c' xs z => ?_
   ·have : c' ≠ a := fun m => by subst m; rw [h1] at z; cases z; exact n1 _ rfl
    rw [upd_ne this]; exact z
   ·have : c' ≠ a := fun m => by subst m; rw [h1] at z; cases z; exact n2 _ rfl
    rw [upd_ne this]; exact z
theorem Inv.nofrz {φ : Heap → Prop} (I : Inv X pins σ H s) (e : H a = some (.ext φ)) : ∀ ob u, X.H₀ a ≠ some (.frz ob u) := fun ob u z => by
 have := I.base.frzs _ _ _ z
 rw [e] at this; cases this
theorem Inv.closed (I : Inv X pins σ H s) (S : Seal X.prog X.w a c o) (e : H a = some o) (nf : ∀ ob u, X.H₀ a ≠ some (.frz ob u)) : Inv X pins σ (upd H a c) s := by
 have q := I.hok a o e
 cases S with
 | l xs =>
  obtain ⟨h1, its, n, h2, h3⟩ := q
  refine I.write (x := a) (e := a) (h' := s.heap) (t' := s.toks) (by rw [e]; trivial) (.inl rfl) (fun _ _ _ z => z) ⟨_, h3⟩ ⟨⟨h1, its, n, h2, h3⟩, ⟨_, h3⟩, ?_⟩
  rintro g1 g2 ⟨z1, its, n, z2, z3⟩ k
  exact ⟨z1, its, n, z2, k _ z3⟩
 | d ob ks =>
  obtain ⟨h0, h1, h2, vs, h3, ob', es, ep, h4, h5⟩ := q
  refine Inv.redesc I e (fun _ z => nomatch z) (fun _ z => nomatch z) (fun _ z => nomatch z) nf ⟨⟨h0, h1, h2, vs, h3, ob', es, ep, h4, h5⟩, ⟨_, h4⟩, ?_⟩
  rintro g1 g2 ⟨z0, z1, z2, vs, z3, ob', es, ep, z4, z5⟩ k
  exact ⟨k _ z0, z1, z2, vs, z3, ob', es, ep, k _ z4, z5⟩
theorem Inv.sealedD {ks : List (Key × V)} (I : Inv X pins σ H s) (e : H a = some (.dK ks)) : ∃ ob, Inv X pins σ (upd H a (sealD X.prog X.w a ob ks)) s := by
 obtain ⟨h1, h2, vs, h3, ob, es, ep, h4, h5⟩ := I.hok a _ e
 refine ⟨ob, I.write (x := a) (e := a) (h' := s.heap) (t' := s.toks) (by rw [e]; trivial) (.inl rfl) (fun _ _ _ z => z) ⟨_, h4⟩ ⟨⟨h4, h1, h2, vs, h3, ob, es, ep, h4, h5⟩, ⟨_, h4⟩, ?_⟩⟩
 rintro g1 g2 ⟨z0, z1, z2, vs, z3, ob', es, ep, z4, z5⟩ k
 exact ⟨k _ z0, z1, z2, vs, z3, ob', es, ep, k _ z4, z5⟩
theorem Inv.openD {ob : Obj} {ks : List (Key × V)} (I : Inv X pins σ H s) (e : H a = some (sealD X.prog X.w a ob ks)) : Inv X pins σ (upd H a (.dK ks)) s := by
 obtain ⟨h1, h2, _⟩ := I.hok a _ e
 exact I.write (x := a) (e := a) (h' := s.heap) (t' := s.toks) (by rw [e]; trivial) (.inl rfl) (fun _ _ _ z => z) h2 h1.2
end
mutual
noncomputable def noD : PyData → Bool
 | .tuple ds => noDs ds
 | .list ds => noDs ds
 | .dict _ => false
 | _ => true
noncomputable def noDs : List PyData → Bool
 | [] => true
 | d :: ds => noD d && noDs ds
end
noncomputable def SameM (H H' : Hp) : Prop := ∀ b o, H b = some o → (∀ ob ks, o ≠ .frz ob (.dK ks)) → H' b = some o
section
variable {K : PySem.W.Frag} {H H' : Hp}
theorem SameM.tup {a : Addr} {xs : List V} (e : SameM H H') (h : SqT K H a xs) : SqT K H' a xs := by
 rcases h with (h | ⟨o, h⟩) | h
 ·exact .inl (.inl (e _ _ h fun _ _ z => nomatch z))
 ·exact .inl (.inr ⟨o, e _ _ h fun _ _ z => nomatch z⟩)
 ·exact .inr h
mutual
theorem Rep.monoM (e : SameM H H') : ∀ (d : PyData) (v : V), noD d = true → Rep K H d v → Rep K H' d v
 | .none, v, _, h => h
 | .bool _, v, _, h => h
 | .int _, v, _, h => h
 | .str _, v, _, h => h
 | .tuple ds, v, n, ⟨a, xs, h1, h2, h3⟩ => ⟨a, xs, h1, SameM.tup e h2, Reps.monoM e ds xs (by simpa [noD] using n) h3⟩
 | .list ds, v, n, ⟨a, xs, h1, h2, h3⟩ => ⟨a, xs, h1, e _ _ h2 (fun _ _ z => nomatch z), Reps.monoM e ds xs (by simpa [noD] using n) h3⟩
 | .dict ds, v, n, h => by simp [noD] at n
theorem Reps.monoM (e : SameM H H') : ∀ (ds : List PyData) (xs : List V), noDs ds = true → Reps K H ds xs → Reps K H' ds xs
 | [], xs, _, h => h
 | d :: ds, xs, n, ⟨x, r, h1, h2, h3⟩ => by
  have n' : noD d = true ∧ noDs ds = true := by simpa [noDs] using n
  exact ⟨x, r, h1, Rep.monoM e d x n'.1 h2, Reps.monoM e ds r n'.2 h3⟩
end
end
noncomputable def okB (c d : PyData) : Bool := match c with
 | .list _ => noL d
 | .dict _ => noD d
 | _ => false
noncomputable def OwnAt (P : Program) (w : World) (K : PySem.W.Frag) (H : Hp) (a : Addr) : PyData → Prop
 | .list ds => ∃ xs, H a = some (sealL a xs) ∧ Reps K H ds xs
 | .dict kvs => ∃ ks r ob, kvs = (.none, .none) :: r ∧ H a = some (sealD P w a ob ks) ∧ RepM K H r ks
 | _ => False
theorem OwnAt.out {P : Program} {w : World} {K : PySem.W.Frag} {H : Hp} {a : Addr} {d : PyData} (h : OwnAt P w K H a d) : ∃ c o, Seal P w a c o ∧ H a = some c ∧
  (∀ H', SameE H H' → H' a = some o → Rep K H' d (.ref a)) ∧ (∀ H', SameE H H' → H' a = some c → OwnAt P w K H' a d) ∧
  ∀ x H3 v, okB d x = true → H3 a = some o → Rep K H3 x v → Rep K (upd H3 a c) x v := by
 cases d with
 | list ds =>
  obtain ⟨xs, h1, h2⟩ := h
  exact ⟨_, _, .l xs, h1, fun H' e q => ⟨a, xs, rfl, q, Reps.monoE e _ _ h2⟩, fun H' e q => ⟨xs, q, Reps.monoE e _ _ h2⟩, fun x H3 v n q r => Rep.monoN (fun b u hb m => by
   have : b ≠ a := fun z => by subst z; rw [q] at hb; cases hb; exact m _ rfl
   rw [upd_ne this]; exact hb) x v n r⟩
 | dict kvs =>
  obtain ⟨ks, r, ob, rfl, h1, h2⟩ := h
  exact ⟨_, _, .d ob ks, h1, fun H' e q => ⟨a, rfl, .inr (.inl ⟨ks, ob, q, show RepM K H' r ks from RepM.monoE e _ _ h2⟩)⟩, fun H' e q => ⟨ks, r, ob, rfl, q, RepM.monoE e _ _ h2⟩, fun x H3 v n q r => Rep.monoM (fun b u hb m => by
   have : b ≠ a := fun z => by subst z; rw [q] at hb; cases hb; exact m _ _ rfl
   rw [upd_ne this]; exact hb) x v n r⟩
 | none => exact h.elim
 | bool _ => exact h.elim
 | int _ => exact h.elim
 | str _ => exact h.elim
 | tuple _ => exact h.elim
theorem SameE.upd {H : Hp} {a : Addr} {φ : Heap → Prop} {o : HO} (e : H a = some (.ext φ)) : SameE H (upd H a o) := fun b u h n => by
 have : b ≠ a := fun z => by subst z; rw [e] at h; cases h; exact n _ rfl
 rw [upd_ne this]; exact h
structure EnvO (P : Program) (w : World) (K : PySem.W.Frag) (Hs H : Hp) (own : Option Nat) (ρ : Rho) (σ : St) : Prop where
 len : ρ.length = σ.length
 sm : Same Hs H
 pl : ∀ i d, ρ[i]? = some (some d) → own ≠ some i → ∃ v, σ[i]? = some (some v) ∧ Rep K H d v
 ow : ∀ i, own = some i → ∃ d a, ρ[i]? = some (some d) ∧ σ[i]? = some (some (.ref a)) ∧ Hs a = none ∧ OwnAt P w K H a d
noncomputable def hid (own : Option Nat) (ρ : Rho) : Rho := match own with
 | none => ρ
 | some i => ρ.set i none
section
variable {P : Program} {w : World} {K : PySem.W.Frag} {Hs H H' : Hp} {own : Option Nat} {ρ : Rho} {σ : St}
theorem EnvO.of (e : EnvR K H ρ σ) (s : Same Hs H) : EnvO P w K Hs H none ρ σ := ⟨e.len, s, fun i d h _ => e.at' i d h, fun i z => nomatch z⟩
theorem EnvO.to (e : EnvO P w K Hs H none ρ σ) : EnvR K H ρ σ := ⟨e.len, fun i d h => e.pl i d h (fun z => nomatch z)⟩
theorem EnvO.hid (e : EnvO P w K Hs H own ρ σ) : EnvR K H (hid own ρ) σ := by
 cases own with
 | none => exact e.to
 | some i =>
  refine ⟨by simp [BX.hid, e.len], fun j d h => ?_⟩
  by_cases hj : i = j
  ·subst hj
   simp only [BX.hid] at h
   rw [List.getElem?_set] at h
   simp at h
  ·simp only [BX.hid] at h
   rw [List.getElem?_set_ne hj] at h
   exact e.pl j d h (fun z => hj (Option.some.inj z))
theorem OwnAt.mono {a : Addr} {d : PyData} (h : OwnAt P w K H a d) (s : Same H H') : OwnAt P w K H' a d := by
 obtain ⟨c, o, _, h1, _, h2, _⟩ := h.out
 exact h2 H' (Same.e s) (s _ _ h1)
theorem EnvO.mono (e : EnvO P w K Hs H own ρ σ) (s : Same H H') : EnvO P w K Hs H' own ρ σ :=
 ⟨e.len, e.sm.trans s, fun i d h n => let ⟨v, h1, h2⟩ := e.pl i d h n; ⟨v, h1, Rep.mono s d v h2⟩, fun i n => let ⟨d, a, h1, h2, h3, h4⟩ := e.ow i n; ⟨d, a, h1, h2, h3, h4.mono s⟩⟩
theorem EnvO.opn {i : Nat} (e : EnvO P w K Hs H (some i) ρ σ) : ∃ d a c o, ρ[i]? = some (some d) ∧ σ[i]? = some (some (.ref a)) ∧ Hs a = none ∧ Seal P w a c o ∧ H a = some c ∧ EnvR K (upd H a o) ρ σ ∧ Same Hs (upd H a o) ∧
  (∀ H3, Same (upd H a o) H3 → SameE H (upd H3 a c) ∧ EnvO P w K Hs (upd H3 a c) (some i) ρ σ) ∧ ∀ x H3 v, okB d x = true → H3 a = some o → Rep K H3 x v → Rep K (upd H3 a c) x v := by
 obtain ⟨d, a, h1, h2, h3, h4⟩ := e.ow i rfl
 obtain ⟨c, o, S, h5, h6, h7, h8⟩ := h4.out
 obtain ⟨φ, rfl⟩ := S.ext
 have s1 : SameE H (upd H a o) := SameE.upd h5
 have sH : ∀ {H2 : Hp}, (∀ b u, b ≠ a → H b = some u → H2 b = some u) → Same Hs H2 := fun {H2} k b u q => k b u (fun z => by subst z; rw [h3] at q; cases q) (e.sm b u q)
 refine ⟨d, a, _, o, h1, h2, h3, S, h5, ⟨e.len, fun j x q => ?_⟩, sH fun b u n q => by rw [upd_ne n]; exact q, fun H3 s3 => ⟨fun b u q m => ?_, e.len, sH fun b u n q => by rw [upd_ne n]; exact s3 b u (by rw [upd_ne n]; exact q), fun j x q n => ?_, fun j n => ?_⟩, h8⟩
 ·by_cases hj : i = j
  ·subst hj
   rw [h1] at q; cases q
   exact ⟨.ref a, h2, h6 _ s1 upd_same⟩
  ·obtain ⟨v, g1, g2⟩ := e.pl j x q (fun z => hj (Option.some.inj z))
   exact ⟨v, g1, Rep.monoE s1 _ _ g2⟩
 ·have : b ≠ a := fun z => by subst z; rw [h5] at q; cases q; exact m _ rfl
  rw [upd_ne this]
  exact s3 b u (by rw [upd_ne this]; exact q)
 ·have s4 : SameE H (upd H3 a (.ext φ)) := fun b u q m => by
   have : b ≠ a := fun z => by subst z; rw [h5] at q; cases q; exact m _ rfl
   rw [upd_ne this]
   exact s3 b u (by rw [upd_ne this]; exact q)
  obtain ⟨v, g1, g2⟩ := e.pl j x q n
  exact ⟨v, g1, Rep.monoE s4 _ _ g2⟩
 ·cases n
  have s4 : SameE H (upd H3 a (.ext φ)) := fun b u q m => by
   have : b ≠ a := fun z => by subst z; rw [h5] at q; cases q; exact m _ rfl
   rw [upd_ne this]
   exact s3 b u (by rw [upd_ne this]; exact q)
  exact ⟨d, a, h1, h2, h3, h7 _ s4 upd_same⟩
end
end BX
end
section
namespace BX
open PySem PySem.Spec L2
open PyProof.Rows hiding St
noncomputable def brw (own : Option Nat) (f : Rho → Option PyData) : Rho → Option PyData := fun ρ => match f (hid own ρ) with
 | some d => some d
 | none => match own with
  | none => none
  | some i => match f ρ, lkp i ρ with
   | some d, some c => if okB c d = true then some d else none
   | _, _ => none
theorem brw_out {own : Option Nat} {f : Rho → Option PyData} {ρ : Rho} {d : PyData} (h : brw own f ρ = some d) : f (hid own ρ) = some d ∨ ∃ i c, own = some i ∧ f ρ = some d ∧ ρ[i]? = some (some c) ∧ okB c d = true := by
 unfold brw at h
 cases h1 : f (hid own ρ) with
 | some x => rw [h1] at h; exact .inl h
 | none =>
  rw [h1] at h
  cases own with
  | none => cases h
  | some i =>
   simp only at h
   cases h2 : f ρ with
   | none => rw [h2] at h; cases h
   | some x =>
    rw [h2] at h
    cases h3 : lkp i ρ with
    | none => rw [h3] at h; cases h
    | some c =>
     rw [h3] at h
     simp only at h
     split at h
     ·rename_i ok
      cases h
      exact .inr ⟨i, c, rfl, rfl, lkp_some h3, ok⟩
     ·cases h
section
variable {X : Cx} {e a b c tg src : Expr} {es : List Expr} {st : Stmt} {sts rest : List Stmt} {fa fb fc : Rho → Option PyData} {F G : Rho → Option Out} {pos : Pos} {own : Option Nat}
noncomputable def tE (P : Program) (w : World) (K : PySem.W.Frag) (own : Option Nat) (f : Rho → Option PyData) : TE := fun σ H Q => ∃ Hs ρ d, EnvO P w K Hs H own ρ σ ∧ brw own f ρ = some d ∧ ∀ v H', SameE H H' → EnvO P w K Hs H' own ρ σ → Rep K H' d v → Q v H'
theorem pe_brw (h : PD X e fa) : PE X e (tE X.prog X.w X.K own fa) := by
 with_unfolding_all
  intro pins s σ H Q I ⟨Hs, ρ, d, E, hb, k⟩
  rcases brw_out hb with h1 | ⟨i, c, ho, h1, h2, ok⟩
  ·exact h pins s σ H Q I ⟨hid own ρ, d, E.hid, h1, fun v H' s r => k v H' (Same.e s) (E.mono s) r⟩
  ·subst ho
   obtain ⟨d0, a, cl, o, g1, g2, g3, S, g4, env, sm, back, keep⟩ := E.opn
   rw [h2] at g1; cases g1
   refine thn (h pins s σ (upd H a o) (fun v H3 => Same (upd H a o) H3 ∧ Rep X.K H3 d v) (Inv.opened I S g4) ⟨ρ, d, env, h1, fun v H3 s3 r3 => ⟨s3, r3⟩⟩) fun u s1 ⟨v, H3, I3, r, s3, r3⟩ => ?_
   have e3 : H3 a = some o := s3 _ _ upd_same
   exact ⟨v, upd H3 a cl, Inv.closed I3 S e3 (by obtain ⟨φ, rfl⟩ := S.ext; exact Inv.nofrz I g4), r, k v _ (back H3 s3).1 (back H3 s3).2 (keep d H3 v ok e3 r3)⟩
noncomputable def tT (P : Program) (w : World) (K : PySem.W.Frag) (own : Option Nat) (f : Rho → Option Bool) : TT := fun σ H Q => ∃ Hs ρ d, EnvO P w K Hs H own ρ σ ∧ f ρ = some d ∧ ∀ H', SameE H H' → EnvO P w K Hs H' own ρ σ → Q d H'
theorem pt_brw {tc : Rho → Option Bool} (h : PTD X e tc) : PT X e (tT X.prog X.w X.K own tc) := by
 with_unfolding_all
  intro pins s σ H Q I ⟨Hs, ρ, d, E, h1, k⟩
  cases own with
  | none => exact h pins s σ H Q I ⟨ρ, d, E.to, h1, fun H' s => k H' (Same.e s) (E.mono s)⟩
  | some i =>
   obtain ⟨d0, a, cl, o, g1, g2, g3, S, g4, env, sm, back, keep⟩ := E.opn
   refine thn (h pins s σ (upd H a o) (fun b H3 => b = d ∧ Same (upd H a o) H3) (Inv.opened I S g4) ⟨ρ, d, env, h1, fun H3 s3 => ⟨rfl, s3⟩⟩) fun b s1 ⟨H3, I3, hb, s3⟩ => ?_
   subst hb
   exact ⟨upd H3 a cl, Inv.closed I3 S (s3 _ _ upd_same) (by obtain ⟨φ, rfl⟩ := S.ext; exact Inv.nofrz I g4), k _ (back H3 s3).1 (back H3 s3).2⟩
noncomputable def tF (P : Program) (w : World) (K : PySem.W.Frag) (own : Option Nat) (f : Rho → Option PyData) : TE := fun σ H Q => ∃ Hs ρ d, EnvO P w K Hs H own ρ σ ∧ f ρ = some d ∧ ∀ v H', Same Hs H' → Rep K H' d v → Q v H'
theorem pe_fin (h : PD X e fa) : PE X e (tF X.prog X.w X.K own fa) := by
 with_unfolding_all
  intro pins s σ H Q I ⟨Hs, ρ, d, E, h1, k⟩
  cases own with
  | none => exact h pins s σ H Q I ⟨ρ, d, E.to, h1, fun v H' s r => k v H' (E.sm.trans s) r⟩
  | some i =>
   obtain ⟨d0, a, cl, o, g1, g2, g3, S, g4, env, sm, back, keep⟩ := E.opn
   exact h pins s σ (upd H a o) Q (Inv.opened I S g4) ⟨ρ, d, env, h1, fun v H3 s3 r3 => k v H3 (sm.trans s3) r3⟩
noncomputable def contO (P : Program) (w : World) (K : PySem.W.Frag) (Hs : Hp) (own : Option Nat) (D : Ends) : Out → Prop
 | .nx ρ => ∀ σ H, EnvO P w K Hs H own ρ σ → D.nx σ H
 | .rt d => ∀ v H, Same Hs H → Rep K H d v → D.rt v H
 | .bk ρ => ∀ σ H, EnvO P w K Hs H own ρ σ → D.bk σ H
 | .ct ρ => ∀ σ H, EnvO P w K Hs H own ρ σ → D.ct σ H
noncomputable def tOS (P : Program) (w : World) (K : PySem.W.Frag) (own : Option Nat) (F : Rho → Option Out) : TS := fun D σ H => ∃ Hs ρ o, EnvO P w K Hs H own ρ σ ∧ F ρ = some o ∧ contO P w K Hs own D o
@[irreducible] noncomputable def PSO (X : Cx) (own : Option Nat) (st : Stmt) (F : Rho → Option Out) : Prop := PS X st (tOS X.prog X.w X.K own F)
@[irreducible] noncomputable def PSsO (X : Cx) (own : Option Nat) (sts : List Stmt) (F : Rho → Option Out) : Prop := PSs X sts (tOS X.prog X.w X.K own F)
theorem pso_plain (h : PSD X st F) : PSO X none st F := by
 with_unfolding_all
  refine PS.imp h fun D σ H ⟨Hs, ρ, o, E, q, k⟩ => ⟨ρ, o, E.to, q, ?_⟩
  cases o with
  | nx ρ' => exact fun σ' H' s r => k σ' H' (EnvO.of r (E.sm.trans s))
  | rt d => exact fun v H' s r => k v H' (E.sm.trans s) r
  | bk ρ' => exact fun σ' H' s r => k σ' H' (EnvO.of r (E.sm.trans s))
  | ct ρ' => exact fun σ' H' s r => k σ' H' (EnvO.of r (E.sm.trans s))
theorem psso_toD (h : PSsO X none sts F) : PSsD X sts F := by
 with_unfolding_all
  refine PSs.imp h fun D σ H ⟨ρ, o, en, q, k⟩ => ⟨H, ρ, o, EnvO.of en (Same.refl H), q, ?_⟩
  cases o with
  | nx ρ' => exact fun σ' H' E => k σ' H' E.sm E.to
  | rt d => exact fun v H' s r => k v H' s r
  | bk ρ' => exact fun σ' H' E => k σ' H' E.sm E.to
  | ct ρ' => exact fun σ' H' E => k σ' H' E.sm E.to
theorem psso_nil : PSsO X own [] nxtS := by
 with_unfolding_all
  refine PSs.imp pss_nil fun D σ H ⟨Hs, ρ, o, E, q, k⟩ => ?_
  cases q
  exact k σ H E
theorem psso_cons (h1 : PSO X own st F) (h2 : PSsO X own rest G) : PSsO X own (st :: rest) (seqS F G) := by
  with_unfolding_all
   refine PSs.imp (pss_cons h1 h2) fun D σ H ⟨Hs, ρ, o, E, q, k⟩ => ?_
   cases hf : F ρ with
   | none => simp [seqS, hf] at q
   | some p =>
     refine ⟨Hs, ρ, p, E, hf, ?_⟩
     cases p with
     | nx ρ' => exact fun σ' H' E' => ⟨Hs, ρ', o, E', by simpa [seqS, hf] using q, k⟩
     | rt d => have : Out.rt d = o := by simpa [seqS, hf] using q
               subst this; exact k
     | bk d => have : Out.bk d = o := by simpa [seqS, hf] using q
               subst this; exact k
     | ct d => have : Out.ct d = o := by simpa [seqS, hf] using q
               subst this; exact k
theorem pso_ret (h : PD X e fa) : PSO X own (.Return (some e) pos) (retD fa) := by
 with_unfolding_all
  refine PS.imp (ps_ret (pe_fin (own := own) h)) fun D σ H ⟨Hs, ρ, o, E, q, k⟩ => ?_
  cases h1 : fa ρ with
  | none => simp [retD, h1] at q
  | some d =>
   have : Out.rt d = o := by simpa [retD, h1] using q
   subst this
   exact ⟨Hs, ρ, d, E, h1, k⟩
theorem pso_if {l r : List Stmt} {tc : Rho → Option Bool} (hc : PTD X c tc) (hl : PSsO X own l F) (hr : PSsO X own r G) : PSO X own (.If c l r pos) (ifS tc F G) := by
 with_unfolding_all
  refine PS.imp (ps_if (pt_brw (own := own) hc) hl hr) fun D σ H ⟨Hs, ρ, o, E, q, k⟩ => ?_
  cases h1 : tc ρ with
  | none => simp [ifS, h1] at q
  | some x =>
   refine ⟨Hs, ρ, x, E, h1, fun H1 _ E1 => ?_⟩
   cases x with
   | true => rw [if_pos rfl]; exact ⟨Hs, ρ, o, E1, by simpa [ifS, h1] using q, k⟩
   | false => rw [if_neg Bool.false_ne_true]; exact ⟨Hs, ρ, o, E1, by simpa [ifS, h1] using q, k⟩
theorem EnvO.set {P : Program} {w : World} {K : PySem.W.Frag} {Hs H : Hp} {ρ : Rho} {σ : St} {i : Nat} {d : PyData} {v : V} (E : EnvO P w K Hs H own ρ σ) (hi : own ≠ some i) (r : Rep K H d v) : EnvO P w K Hs H own (ρ.set i (some d)) (σ.set i (some v)) := by
 refine ⟨by simp [E.len], E.sm, fun j x q n => ?_, fun j n => ?_⟩
 ·by_cases hj : i = j
  ·subst hj
   rw [List.getElem?_set] at q ⊢
   simp only [if_true] at q ⊢
   by_cases hl : i < ρ.length
   ·rw [if_pos hl] at q
    rw [if_pos (by rw [← E.len]; exact hl)]
    cases q
    exact ⟨v, rfl, r⟩
   ·rw [if_neg hl] at q; cases q
  ·rw [List.getElem?_set_ne hj] at q ⊢
   exact E.pl j x q n
 ·have hj : i ≠ j := fun z => by subst z; exact hi n
  rw [List.getElem?_set_ne hj, List.getElem?_set_ne hj]
  exact E.ow j n
theorem pso_set (i : Nat) {x : Str} {pos' : Pos} (hN : X.N.Nodup) (he : PD X e fa) (ho : own ≠ some i := by decide) (hi : X.N[i]? = some x := by rfl) (hx : Loc X.env.scope x := by first | exact Or.inl rfl | exact Or.inr rfl) (hs : swapsWith e (some (.Name x pos')) pos.line X.env = pure false := by rfl)
  (hf : X.fn x = true ∨ X.env.scope.names.lookup x = some .local := by first | exact .inl rfl | exact .inr rfl | assumption) : PSO X own (.Assign [.Name x pos'] e pos) (asgS (brw own fa) (asgN i)) := by
 with_unfolding_all
  refine PS.imp (ps_set hN hi hx (pe_brw (own := own) he) hs hf) fun D σ H ⟨Hs, ρ, o, E, q, k⟩ => ?_
  cases h1 : brw own fa ρ with
  | none => simp [asgS, h1] at q
  | some d =>
   have : Out.nx (ρ.set i (some d)) = o := by simpa [asgS, h1, asgN] using q
   subst this
   exact ⟨Hs, ρ, d, E, h1, fun v H1 _ E1 r1 => k _ H1 (E1.set ho r1)⟩
end
end BX
end
section
namespace BX
open PySem PySem.Spec L2
open PyProof.Rows hiding St
section
variable {X : Cx} {e a b c tg src : Expr} {es : List Expr} {st : Stmt} {sts rest body : List Stmt} {fa fb fc : Rho → Option PyData} {F G : Rho → Option Out} {pos : Pos} {own : Option Nat}
@[irreducible] noncomputable def PGO (X : Cx) (own : Option Nat) (tg : Expr) (ga : PyData → Rho → Option Rho) : Prop :=
 PG X tg fun v σ H Q => ∃ Hs ρ d ρ', EnvO X.prog X.w X.K Hs H own ρ σ ∧ Rep X.K H d v ∧ ga d ρ = some ρ' ∧ ∀ σ' H', EnvO X.prog X.w X.K Hs H' own ρ' σ' → Q σ' H'
@[irreducible] noncomputable def PGsO (X : Cx) (own : Option Nat) (ts : List Expr) (ga : List PyData → Rho → Option Rho) : Prop :=
 PGs X ts fun vs σ H Q => ∃ Hs ρ ds ρ', EnvO X.prog X.w X.K Hs H own ρ σ ∧ Reps X.K H ds vs ∧ ga ds ρ = some ρ' ∧ ∀ σ', EnvO X.prog X.w X.K Hs H own ρ' σ' → Q σ' H
theorem pgo_name (i : Nat) {x : Str} (hN : X.N.Nodup) (ho : own ≠ some i := by decide) (hi : X.N[i]? = some x := by rfl) (hx : Loc X.env.scope x := by first | exact Or.inl rfl | exact Or.inr rfl)
  (hf : X.fn x = true ∨ X.env.scope.names.lookup x = some .local := by first | exact .inl rfl | exact .inr rfl | assumption) : PGO X own (.Name x pos) (asgN i) := by
 with_unfolding_all
  refine PG.imp (pg_name hN hi hx hf) fun v σ H Q ⟨Hs, ρ, d, ρ', E, r, q, k⟩ => ?_
  cases q
  exact k _ H (E.set ho r)
theorem pgso_nil : PGsO X own [] asgNil := by
 with_unfolding_all
  refine PGs.imp pgs_nil fun vs σ H Q ⟨Hs, ρ, ds, ρ', E, r, q, k⟩ => ?_
  cases ds with
  | nil => cases r; cases q; exact ⟨rfl, k σ E⟩
  | cons d ds => cases q
theorem pgso_name (i : Nat) {x : Str} {gr : List PyData → Rho → Option Rho} (hN : X.N.Nodup) (h2 : PGsO X own es gr) (ho : own ≠ some i := by decide) (hi : X.N[i]? = some x := by rfl) (hx : Loc X.env.scope x := by first | exact Or.inl rfl | exact Or.inr rfl)
  (hf : X.fn x = true ∨ X.env.scope.names.lookup x = some .local := by first | exact .inl rfl | exact .inr rfl | assumption)
  (hs : (assignEach (.Name x pos :: es) X.env).map (·.2) = assign (.Name x pos) X.env :: (assignEach es X.env).map (·.2) := by rfl) : PGsO X own (.Name x pos :: es) (asgCons (asgN i) gr) := by
 with_unfolding_all
  refine PGs.imp (pgs_cons (pg_name hN hi hx hf) h2 hs) fun vs σ H Q ⟨Hs, ρ, ds, ρ', E, r, q, k⟩ => ?_
  cases ds with
  | nil => cases q
  | cons d ds =>
   obtain ⟨y, rr, e1, r1, r2⟩ := r
   subst e1
   exact ⟨y, rr, rfl, Hs, _, ds, ρ', E.set ho r1, r2, by simpa [asgCons, asgN] using q, k⟩
theorem pgo_tup {k n : Nat} {gr : List PyData → Rho → Option Rho} (hc : X.calm = true) (h : PGsO X own es gr) (hn : (assignEach es X.env).length = n := by rfl) (hst : (assignEach es X.env).findIdx? (·.1) = none := by rfl) :
  PGO X own (.Tuple es k pos) (asgT n gr) := by
 with_unfolding_all
  refine PG.imp (pg_tup hc h hn hst) fun v σ H Q ⟨Hs, ρ, d, ρ', E, r, q, k⟩ => ?_
  cases d with
  | tuple ds =>
   obtain ⟨a, xs, e1, e2, e3⟩ := r
   by_cases hl : ds.length = n
   ·exact ⟨a, xs, e1, e2, by rw [e3.length]; exact hl, Hs, ρ, ds, ρ', E, e3, by simpa [asgT, hl] using q, fun σ' E' => k σ' H E'⟩
   ·simp [asgT, hl] at q
  | _ => simp [asgT] at q
theorem EnvO.rebase {P : Program} {w : World} {K : PySem.W.Frag} {Hs H : Hp} {ρ : Rho} {σ : St} (E : EnvO P w K Hs H own ρ σ) : ∃ Hb, EnvO P w K Hb H own ρ σ ∧ (∀ H3, Same Hb H3 → SameE H H3) ∧
  (∀ H3 ρ3 σ3, EnvO P w K Hb H3 own ρ3 σ3 → EnvO P w K Hs H3 own ρ3 σ3) ∧ ∀ H3, Same Hb H3 → Same Hs H3 := by
 cases own with
 | none => exact ⟨H, ⟨E.len, Same.refl H, E.pl, fun i z => nomatch z⟩, fun _ s => Same.e s, fun H3 ρ3 σ3 E3 => ⟨E3.len, E.sm.trans E3.sm, E3.pl, fun i z => nomatch z⟩, fun _ s => E.sm.trans s⟩
 | some i =>
  obtain ⟨d, a, h1, h2, h3, h4⟩ := E.ow i rfl
  obtain ⟨c, o, S, h5, _⟩ := h4.out
  obtain ⟨φ, rfl⟩ := S.ext
  let Hb : Hp := fun b => if b = a then none else H b
  have ha : Hb a = none := if_pos rfl
  have hb : ∀ b, b ≠ a → Hb b = H b := fun b n => if_neg n
  have sH : ∀ H3, Same Hb H3 → Same Hs H3 := fun H3 s b u q => by
   have n : b ≠ a := fun z => by subst z; rw [h3] at q; cases q
   exact s b u (by rw [hb b n]; exact E.sm b u q)
  refine ⟨Hb, ⟨E.len, fun b u q => ?_, E.pl, fun j n => ?_⟩, fun H3 s b u q m => ?_, fun H3 ρ3 σ3 E3 => ⟨E3.len, sH H3 E3.sm, E3.pl, fun j n => ?_⟩, sH⟩
  ·by_cases n : b = a
   ·subst n; rw [ha] at q; cases q
   ·rw [hb b n] at q; exact q
  ·cases n
   exact ⟨d, a, h1, h2, ha, h4⟩
  ·have n : b ≠ a := fun z => by subst z; rw [h5] at q; cases q; exact m _ rfl
   exact s b u (by rw [hb b n]; exact q)
  ·obtain ⟨d3, a3, g1, g2, g3, g4⟩ := E3.ow j n
   refine ⟨d3, a3, g1, g2, ?_, g4⟩
   by_cases z : a3 = a
   ·rw [z]; exact h3
   ·rw [hb a3 z] at g3
    cases q : Hs a3 with
    | none => rfl
    | some u => have := E.sm _ _ q; rw [g3] at this; cases this
theorem pso_for {fi : Rho → Option (List PyData)} {ga : PyData → Rho → Option Rho} (hp : PassesOwn (model X.prog X.w) X.A X.env X.xe) (hc : X.calm = true) (hi : PID X tg src fi) (hg : PGO X own tg ga) (hb : PSsO X own body F)
  (hs : ∀ x, foldedSetIterable src X.env x = pure x := by intro _; rfl) : PSO X own (.For tg src body [] pos) (forS (fun ρ => fi (hid own ρ)) ga F) := by
 with_unfolding_all
  refine PS.imp (ps_for hp hc hi hg hb hs) fun D σ H ⟨Hs, ρ, o, E, q, k⟩ => ?_
  cases h1 : fi (hid own ρ) with
  | none => simp [forS, h1] at q
  | some ds =>
   have q' : loopD ga F ds ρ = some o := by simpa [forS, h1] using q
   refine ⟨hid own ρ, ds, E.hid, h1, fun J H1 s1 Y => ?_⟩
   obtain ⟨Hb, Eb, sE, back, sb⟩ := (E.mono s1).rebase
   refine ⟨fun i m σ H2 => m = ds.length - i ∧ i ≤ ds.length ∧ ∃ ρ2, EnvO X.prog X.w X.K Hb H2 own ρ2 σ ∧ loopD ga F (ds.drop i) ρ2 = some o, ⟨ds.length, by simp, Nat.zero_le _, ρ, Eb, by simpa using q'⟩, ?_⟩
   rintro i m σ2 H2 ⟨rfl, hi, ρ2, en2, q2⟩
   obtain ⟨g1, g2, g3⟩ := Y i H2 (sE H2 en2.sm)
   by_cases hlt : i < ds.length
   ·right
    have hd : ds.drop i = ds[i] :: ds.drop (i + 1) := List.drop_eq_getElem_cons hlt
    rw [hd] at q2
    refine ⟨g1 hlt, fun σ3 H3 => ∃ ρ3, EnvO X.prog X.w X.K Hb H3 own ρ3 σ3 ∧ loopD ga F (ds.drop (i + 1)) ρ3 = some o, fun σ3 H3 ⟨ρ3, a2, a3⟩ => ⟨ds.length - (i + 1), by omega, rfl, hlt, ρ3, a2, a3⟩, fun x H3 y => ?_⟩
    obtain ⟨s3, r3⟩ := g3 x H3 y
    have r3' := r3 ds[i] (by simp [hlt])
    cases h4 : ga ds[i] ρ2 with
    | none => simp [loopD, h4] at q2
    | some ρ4 =>
     refine ⟨Hb, ρ2, ds[i], ρ4, en2.mono s3, r3', h4, fun σ5 H5 en5 => ?_⟩
     cases h5 : F ρ4 with
     | none => simp [loopD, h4, h5] at q2
     | some p =>
      refine ⟨Hb, ρ4, p, en5, h5, ?_⟩
      cases p with
      | nx ρ6 => exact fun σ6 H6 en6 => ⟨ρ6, en6, by simpa [loopD, h4, h5] using q2⟩
      | ct ρ6 => exact fun σ6 H6 en6 => ⟨ρ6, en6, by simpa [loopD, h4, h5] using q2⟩
      | bk ρ6 =>
       have : Out.nx ρ6 = o := by simpa [loopD, h4, h5] using q2
       subst this
       exact fun σ6 H6 en6 => k σ6 H6 (back _ _ _ en6)
      | rt d =>
       have : Out.rt d = o := by simpa [loopD, h4, h5] using q2
       subst this
       exact fun v H6 s6 r6 => k v H6 (sb _ s6) r6
   ·left
    have he : i = ds.length := by omega
    have hn : ds.drop i = [] := by rw [he]; simp
    rw [hn] at q2
    have : Out.nx ρ2 = o := by simpa [loopD] using q2
    subst this
    exact ⟨g2 (by omega), k σ2 H2 (back _ _ _ en2)⟩
noncomputable def loopW (tc : Rho → Option Bool) (F : Rho → Option Out) : Nat → Rho → Option Out
 | 0, _ => none
 | n + 1, ρ => (tc ρ).bind fun x => if x = true then (F ρ).bind fun o => match o with
   | .nx ρ2 => loopW tc F n ρ2
   | .ct ρ2 => loopW tc F n ρ2
   | .bk ρ2 => some (.nx ρ2)
   | .rt d => some (.rt d)
  else some (.nx ρ)
theorem pso_while (n : Nat) {tc : Rho → Option Bool} (hp : PassesOwn (model X.prog X.w) X.A X.env X.xe) (hc : PTD X c tc) (hb : PSsO X own body F) : PSO X own (.While c body [] pos) (loopW tc F n) := by
 with_unfolding_all
  refine PS.imp (ps_while hp (pt_brw (own := own) hc) hb) fun D σ H ⟨Hs, ρ, o, E, q, k⟩ => ?_
  refine ⟨fun m σ H => ∃ ρ, EnvO X.prog X.w X.K Hs H own ρ σ ∧ loopW tc F m ρ = some o, ⟨n, ρ, E, q⟩, ?_⟩
  rintro m σ2 H2 ⟨ρ2, E2, q2⟩
  cases m with
  | zero => cases q2
  | succ m =>
   cases h1 : tc ρ2 with
   | none => simp [loopW, h1] at q2
   | some x =>
    refine ⟨Hs, ρ2, x, E2, h1, fun H3 _ E3 => ?_⟩
    cases x with
    | false =>
     rw [if_neg Bool.false_ne_true]
     have : Out.nx ρ2 = o := by simpa [loopW, h1] using q2
     subst this
     exact k σ2 H3 E3
    | true =>
     rw [if_pos rfl]
     refine ⟨fun σ4 H4 => ∃ ρ4, EnvO X.prog X.w X.K Hs H4 own ρ4 σ4 ∧ loopW tc F m ρ4 = some o, fun σ4 H4 ⟨ρ4, a1, a2⟩ => ⟨m, Nat.lt_succ_self m, ρ4, a1, a2⟩, ?_⟩
     cases h5 : F ρ2 with
     | none => simp [loopW, h1, h5] at q2
     | some p =>
      refine ⟨Hs, ρ2, p, E3, h5, ?_⟩
      cases p with
      | nx ρ6 => exact fun σ6 H6 en6 => ⟨ρ6, en6, by simpa [loopW, h1, h5] using q2⟩
      | ct ρ6 => exact fun σ6 H6 en6 => ⟨ρ6, en6, by simpa [loopW, h1, h5] using q2⟩
      | bk ρ6 =>
       have : Out.nx ρ6 = o := by simpa [loopW, h1, h5] using q2
       subst this
       exact fun σ6 H6 en6 => k σ6 H6 en6
      | rt d =>
       have : Out.rt d = o := by simpa [loopW, h1, h5] using q2
       subst this
       exact fun v H6 s6 r6 => k v H6 s6 r6
end
end BX
end
section
namespace BX
open PySem PySem.Spec L2
open PyProof.Rows hiding St
theorem upd_upd {H : Hp} {a : Addr} {o o' : HO} : upd (upd H a o) a o' = upd H a o' := by
 funext b
 by_cases h : b = a
 ·subst h; rw [upd_same, upd_same]
 ·rw [upd_ne h, upd_ne h, upd_ne h]
section
variable {P : Program} {w : World} {K : PySem.W.Frag} {Hs H : Hp} {ρ : Rho} {σ : St} {i : Nat}
theorem EnvO.put {a : Addr} {d d' : PyData} {φ : Heap → Prop} {H3 : Hp} {c : HO} (E : EnvO P w K Hs H (some i) ρ σ) (h0 : ρ[i]? = some (some d)) (h2 : σ[i]? = some (some (.ref a))) (h3 : Hs a = none) (h5 : H a = some (.ext φ))
  (s3 : ∀ b u, b ≠ a → H b = some u → H3 b = some u) (ow : OwnAt P w K (upd H3 a c) a d') : EnvO P w K Hs (upd H3 a c) (some i) (ρ.set i (some d')) σ := by
 have hi : i < ρ.length := (List.getElem?_eq_some_iff.mp h0).1
 have s4 : SameE H (upd H3 a c) := fun b u q m => by
  have : b ≠ a := fun z => by subst z; rw [h5] at q; cases q; exact m _ rfl
  rw [upd_ne this]; exact s3 b u this q
 refine ⟨by simp [E.len], fun b u q => ?_, fun j x q n => ?_, fun j n => ?_⟩
 ·have : b ≠ a := fun z => by subst z; rw [h3] at q; cases q
  rw [upd_ne this]; exact s3 b u this (E.sm b u q)
 ·have hj : i ≠ j := fun z => n (by rw [z])
  rw [List.getElem?_set_ne hj] at q
  obtain ⟨v, g1, g2⟩ := E.pl j x q n
  exact ⟨v, g1, Rep.monoE s4 _ _ g2⟩
 ·cases n
  exact ⟨d', a, by rw [List.getElem?_set_self hi], h2, h3, ow⟩
theorem EnvO.opnL {ds : List PyData} (E : EnvO P w K Hs H (some i) ρ σ) (h : ρ[i]? = some (some (.list ds))) : ∃ a xs, σ[i]? = some (some (.ref a)) ∧ Hs a = none ∧ H a = some (sealL a xs) ∧ Reps K H ds xs ∧ EnvR K (upd H a (.lst xs)) ρ σ := by
 obtain ⟨d, a, h1, h2, h3, h4⟩ := E.ow i rfl
 rw [h] at h1; cases h1
 obtain ⟨xs, h5, h6⟩ := h4
 have s1 : SameE H (upd H a (.lst xs)) := SameE.upd h5
 refine ⟨a, xs, h2, h3, h5, h6, E.len, fun j x q => ?_⟩
 by_cases hj : i = j
 ·subst hj
  rw [h] at q; cases q
  exact ⟨.ref a, h2, a, xs, rfl, upd_same, Reps.monoE s1 _ _ h6⟩
 ·obtain ⟨v, g1, g2⟩ := E.pl j x q (fun z => hj (Option.some.inj z))
  exact ⟨v, g1, Rep.monoE s1 _ _ g2⟩
end
section
variable {X : Cx} {e a b c tg src : Expr} {es : List Expr} {st : Stmt} {sts rest body : List Stmt} {fa fb fc : Rho → Option PyData} {F G : Rho → Option Out} {pos : Pos}
noncomputable def tMut (P : Program) (w : World) (K : PySem.W.Frag) (i : Nat) (g : Rho → Option PyData) : TE := fun σ H Q => ∃ Hs ρ d', EnvO P w K Hs H (some i) ρ σ ∧ g ρ = some d' ∧ ∀ H', EnvO P w K Hs H' (some i) (ρ.set i (some d')) σ → Q .non H'
noncomputable def mutS (i : Nat) (g : Rho → Option PyData) : Rho → Option Out := fun ρ => (g ρ).map fun d => .nx (ρ.set i (some d))
theorem pso_mut {i : Nat} {g : Rho → Option PyData} (h : PE X e (tMut X.prog X.w X.K i g)) (hs : swapsWith e none pos.line X.env = pure false := by rfl) : PSO X (some i) (.Expr e pos) (mutS i g) := by
 with_unfolding_all
  refine PS.imp (ps_expr h hs) fun D σ H ⟨Hs, ρ, o, E, q, k⟩ => ?_
  cases h1 : g ρ with
  | none => simp [mutS, h1] at q
  | some d =>
   have : Out.nx (ρ.set i (some d)) = o := by simpa [mutS, h1] using q
   subst this
   exact ⟨Hs, ρ, d, E, h1, fun H' E' => k σ H' E'⟩
noncomputable def appL (c d : Option PyData) : Option PyData := match c, d with
 | some (.list ds), some d => if noL d = true ∧ ds.length < 1000000 then some (.list (ds ++ [d])) else none
 | _, _ => none
noncomputable def appD (i : Nat) (fa : Rho → Option PyData) : Rho → Option PyData := fun ρ => appL (lkp i ρ) (fa ρ)
theorem appL_out {c d : Option PyData} {r : PyData} (h : appL c d = some r) : ∃ ds x, c = some (.list ds) ∧ d = some x ∧ noL x = true ∧ ds.length < 1000000 ∧ r = .list (ds ++ [x]) := by
 unfold appL at h
 split at h
 ·split at h
  ·rename_i hc
   cases h
   exact ⟨_, _, rfl, rfl, hc.1, hc.2, rfl⟩
  ·cases h
 ·cases h
theorem small_line {n : Nat} (h : n < 1000000) : n < sizeLine := Nat.lt_of_lt_of_le h (by rw [sizeLine_eq]; decide)
theorem pe_append (i : Nat) {x : Str} {p1 apos cpos : Pos} (h : PD X e fa) (hN : X.N[i]? = some x := by rfl) (hv : Vis X.env.scope x := by first | exact Or.inl rfl | exact Or.inr (Or.inl rfl) | exact Or.inr (Or.inr rfl)) (hd : (x == ("__debug__" : Str)) = false := by decide)
  (hcd : (x == ("__classdict__" : Str)) = false := by decide) (hbase : attributeBase (.Name x p1) "append" X.env (eval (.Name x p1) X.env) = eval (.Name x p1) X.env := by rfl)
  (hfew : ((backTo cpos (starEach [e] X.env)).all (fun x => !x.1) && (backToKw cpos (keywordEach [] X.env)).all (fun x => x.1.isSome) && decide ([e].length + ([] : List Keyword).length + (if ([] : List Keyword).isEmpty then 0 else 1) < 30)) = true := by rfl)
  (hline : (apos.endLine == cpos.line) = true := by rfl) (hs : starEach [e] X.env = (false, eval e X.env) :: starEach [] X.env := by rfl) (hplain : (backTo cpos (starEach [] X.env)).any (·.1) = false := by rfl) :
  PE X (.Call (.Attribute (.Name x p1) "append" apos) [e] [] cpos) (tMut X.prog X.w X.K i (appD i fa)) := by
 with_unfolding_all
  intro pins s σ H Q I ⟨Hs, ρ, d', E, hg, k⟩
  obtain ⟨ds, d, q1, q2, hn, hl, rfl⟩ := appL_out hg
  obtain ⟨a, xs, g2, g3, g4, g5, env⟩ := E.opnL (lkp_some q1)
  have hlen := g5.length
  have W := pe_bm (X := X) (cpos := cpos) (apos := apos) PySem.F.plainAttrs_list PySem.F.slot_list_append PySem.F.type_list_append mt_append (pe_var hN hv hd hcd) (pa_cons h pa_nil hs) hbase hfew hline hs hplain
  refine thn (W pins s σ (upd H a (.lst xs)) (fun v H4 => ∃ H3 y, v = .non ∧ H4 = upd H3 a (.lst (xs ++ [y])) ∧ Same (upd H a (.lst xs)) H3 ∧ Rep X.K H3 d y) (Inv.opened I (.l xs) g4)
   ⟨.ref a, g2, .inl ⟨rfl, _, SqL.of upd_same⟩, ρ, d, env, q2, fun y H3 s3 r3 => ⟨a, xs, y, rfl, rfl, s3 _ _ upd_same, by rw [hlen]; exact small_line hl, H3, y, rfl, rfl, s3, r3⟩⟩) fun u s1 ⟨v, H4, I4, r, H3, y, e1, e2, s3, r3⟩ => ?_
  subst e1
  have e4 : H4 a = some (.lst (xs ++ [y])) := by rw [e2]; exact upd_same
  have sb : ∀ b u, b ≠ a → H b = some u → H4 b = some u := fun b u n q => by rw [e2, upd_ne n]; exact s3 b u (by rw [upd_ne n]; exact q)
  refine ⟨.non, upd H4 a (sealL a (xs ++ [y])), Inv.closed I4 (.l _) e4 (Inv.nofrz I g4), r, k _ (E.put (lkp_some q1) g2 g3 g4 sb ⟨xs ++ [y], upd_same, ?_⟩)⟩
  have s5 : SameE H (upd H4 a (sealL a (xs ++ [y]))) := fun b u q m => by
   have : b ≠ a := fun z => by subst z; rw [g4] at q; cases q; exact m _ rfl
   rw [upd_ne this]; exact sb b u this q
  have s6 : SameN H3 (upd H4 a (sealL a (xs ++ [y]))) := fun b u q m => by
   have e3 : H3 a = some (.lst xs) := s3 _ _ upd_same
   have : b ≠ a := fun z => by subst z; rw [e3] at q; cases q; exact m _ rfl
   rw [upd_ne this, e2, upd_ne this]; exact q
  exact (Reps.monoE s5 _ _ g5).append ⟨y, [], rfl, Rep.monoN s6 _ _ hn r3, rfl⟩
end
end BX
end
section
namespace BX
open PySem PySem.Spec L2
open PyProof.Rows hiding St
section
variable {X : Cx} {e a b c tg src : Expr} {es : List Expr} {st : Stmt} {sts rest body : List Stmt} {fa fb fc : Rho → Option PyData} {F G : Rho → Option Out} {pos : Pos}
@[irreducible] noncomputable def PN (X : Cx) (e : Expr) (f : Rho → Option PyData) : Prop :=
 PE X e fun σ H Q => ∃ ρ d, EnvR X.K H ρ σ ∧ f ρ = some d ∧ ∀ a H', Same H H' → H a = none → OwnAt X.prog X.w X.K H' a d → Q (.ref a) H'
theorem pn_lst {fr : Rho → Option (List PyData)} (h : PAD X es fr) : PN X (.List es pos) (lstD fr) := by
 with_unfolding_all
  intro pins s σ H Q I ⟨ρ, d, en, hf, k⟩
  cases h1 : fr ρ with
  | none => simp [lstD, h1] at hf
  | some ds =>
   by_cases hfew : few ds = true
   ·have : PyData.list ds = d := by simpa [lstD, h1, hfew] using hf
    subst this
    refine thn (pe_lst h pins s σ H (fun v H2 => ∃ a xs H1, v = .ref a ∧ H1 a = none ∧ Same H H1 ∧ H2 = upd H1 a (.lst xs) ∧ Reps X.K H1 ds xs) I ⟨ρ, ds, en, h1, fun vs H1 s1 r1 => ⟨by rw [r1.length]; exact few_le (by simpa [few] using hfew), fun l hl => ⟨l, vs, H1, rfl, hl, s1, rfl, r1⟩⟩⟩) fun u s1 ⟨v, H2, I2, r, a, xs, H1, e1, e2, s1', e3, r1⟩ => ?_
    subst e1
    have e4 : H2 a = some (.lst xs) := by rw [e3]; exact upd_same
    have e5 : upd H2 a (sealL a xs) = upd H1 a (sealL a xs) := by rw [e3, upd_upd]
    have s2 : Same H1 (upd H2 a (sealL a xs)) := by rw [e5]; exact same_upd e2
    exact ⟨.ref a, _, Inv.closed I2 (.l xs) e4 (fun ob u z => by have := I.base.frzs _ _ _ z; rw [s1'.free e2] at this; cases this), r, k a _ (s1'.trans s2) (s1'.free e2) ⟨xs, upd_same, Reps.mono s2 _ _ r1⟩⟩
   ·simp [lstD, h1, hfew] at hf
theorem pn_dict0 : PN X (.Dict [] [] pos) (cst (.dict [(.none, .none)])) := by
 with_unfolding_all
  intro pins s σ H Q I ⟨ρ, d, en, hf, k⟩
  cases hf
  refine thn (pe_dnewK pins s σ H (fun v H2 => ∃ a, v = .ref a ∧ H a = none ∧ H2 = upd H a (.dK [])) I (fun l hl => ⟨l, rfl, hl, rfl⟩)) fun u s1 ⟨v, H2, I2, r, a, e1, e2, e3⟩ => ?_
  subst e1
  have e4 : H2 a = some (.dK []) := by rw [e3]; exact upd_same
  obtain ⟨ob, I3⟩ := Inv.sealedD I2 e4
  have s2 : Same H (upd H2 a (sealD X.prog X.w a ob [])) := by rw [e3, upd_upd]; exact same_upd e2
  exact ⟨.ref a, _, I3, r, k a _ s2 e2 ⟨[], [], ob, rfl, upd_same, rfl⟩⟩
noncomputable def newS (i : Nat) (f : Rho → Option PyData) (G : Rho → Option Out) : Rho → Option Out := fun ρ => (f ρ).bind fun d => if i < ρ.length then (G (ρ.set i (some d))).bind fun o => match o with
  | .rt c => some (.rt c)
  | _ => none
 else none
theorem psso_new (i : Nat) {x : Str} {pos' : Pos} (hN : X.N.Nodup) (he : PN X e fa) (h : PSsO X (some i) rest G) (hi : X.N[i]? = some x := by rfl) (hx : Loc X.env.scope x := by first | exact Or.inl rfl | exact Or.inr rfl) (hs : swapsWith e (some (.Name x pos')) pos.line X.env = pure false := by rfl)
  (hf : X.fn x = true ∨ X.env.scope.names.lookup x = some .local := by first | exact .inl rfl | exact .inr rfl | assumption) : PSsO X none (.Assign [.Name x pos'] e pos :: rest) (newS i fa G) := by
 with_unfolding_all
  refine PSs.imp (pss_cons (ps_set hN hi hx he hs hf) h) fun D σ H ⟨Hs, ρ, o, E, q, k⟩ => ?_
  cases h1 : fa ρ with
  | none => simp [newS, h1] at q
  | some d =>
   by_cases hl : i < ρ.length
   ·cases h2 : G (ρ.set i (some d)) with
    | none => simp [newS, h1, h2] at q
    | some p =>
     cases p with
     | rt c =>
      have : Out.rt c = o := by simpa [newS, h1, h2, hl] using q
      subst this
      refine ⟨ρ, d, E.to, h1, fun a H' s hn ow => ⟨Hs, ρ.set i (some d), .rt c, ⟨by simp [E.len], E.sm.trans s, fun j y q n => ?_, fun j n => ?_⟩, h2, k⟩⟩
      ·have hj : i ≠ j := fun z => n (by rw [z])
       rw [List.getElem?_set_ne hj] at q ⊢
       obtain ⟨v, g1, g2⟩ := E.pl j y q (fun z => nomatch z)
       exact ⟨v, g1, Rep.mono s _ _ g2⟩
      ·cases n
       refine ⟨d, a, by rw [List.getElem?_set_self hl], by rw [List.getElem?_set_self (by rw [← E.len]; exact hl)], E.sm.free hn, ow⟩
     | nx _ => simp [newS, h1, h2, hl] at q
     | bk _ => simp [newS, h1, h2, hl] at q
     | ct _ => simp [newS, h1, h2, hl] at q
   ·simp [newS, h1, hl] at q
noncomputable def isI (n : Int) : PyData → Bool
 | .int m => decide (m = n)
 | _ => false
noncomputable def valM (r : List (PyData × PyData)) (n : Int) : Option PyData := (r.find? fun p => isI n p.1).map (·.2)
noncomputable def putM (r : List (PyData × PyData)) (n : Int) (d : PyData) : List (PyData × PyData) := if r.any (fun p => isI n p.1) = true then r.map (fun p => if isI n p.1 = true then (p.1, d) else p) else r ++ [(.int n, d)]
theorem valM_rep {K : PySem.W.Frag} {H : Hp} (n : Int) : ∀ {r : List (PyData × PyData)} {ks : List (Key × V)}, RepM K H r ks → (valM r n = none ∧ valV ks (Sum.inl n : Key) = none) ∨ ∃ d x, valM r n = some d ∧ valV ks (Sum.inl n : Key) = some x ∧ Rep K H d x
 | [], ks, h => by cases (show ks = [] from h); exact .inl ⟨rfl, rfl⟩
 | (k, d) :: r, ks, ⟨i, x, s, h1, h2, h3, h4⟩ => by
  subst h1; subst h2
  by_cases hn : i = n
  ·subst hn
   exact .inr ⟨d, x, by simp [valM, isI], by simp [valV], h3⟩
  ·have e1 : valM ((.int i, d) :: r) n = valM r n := by simp [valM, isI, hn, List.find?_cons]
   have e2 : valV ((Sum.inl i, x) :: s) (Sum.inl n : Key) = valV s (Sum.inl n) := by
    have : ¬ (Sum.inl i : Key) = Sum.inl n := fun z => hn (Sum.inl.inj z)
    simp [valV, List.find?_cons, this]
   rw [e1, e2]
   exact valM_rep n h4
theorem RepM.any {K : PySem.W.Frag} {H : Hp} (n : Int) : ∀ {r : List (PyData × PyData)} {ks : List (Key × V)}, RepM K H r ks → r.any (fun p => isI n p.1) = ks.any fun kv => decide (kv.1 = (Sum.inl n : Key))
 | [], ks, h => by cases (show ks = [] from h); rfl
 | (k, d) :: r, ks, ⟨i, x, s, h1, h2, h3, h4⟩ => by
  subst h1; subst h2
  rw [List.any_cons, List.any_cons, RepM.any n h4]
  congr 1
  by_cases hn : i = n
  ·subst hn; simp [isI]
  ·have : ¬ (Sum.inl i : Key) = Sum.inl n := fun z => hn (Sum.inl.inj z)
   simp [isI, hn]
theorem RepM.repl {K : PySem.W.Frag} {H : Hp} (n : Int) {d' : PyData} {x' : V} (hr : Rep K H d' x') : ∀ {r : List (PyData × PyData)} {ks : List (Key × V)}, RepM K H r ks →
  RepM K H (r.map fun p => if isI n p.1 = true then (p.1, d') else p) (ks.map fun kv => if kv.1 = (Sum.inl n : Key) then (kv.1, x') else kv)
 | [], ks, h => by cases (show ks = [] from h); exact rfl
 | (k, d) :: r, ks, ⟨i, x, s, h1, h2, h3, h4⟩ => by
  subst h1; subst h2
  by_cases hn : i = n
  ·subst hn
   have c1 : isI i ((PyData.int i, d) : PyData × PyData).1 = true := by simp [isI]
   rw [List.map_cons, List.map_cons, if_pos c1, if_pos rfl]
   exact ⟨i, x', _, rfl, rfl, hr, RepM.repl i hr h4⟩
  ·have c1 : ¬ isI n ((PyData.int i, d) : PyData × PyData).1 = true := by simp [isI, hn]
   have c2 : ¬ ((Sum.inl i, x) : Key × V).1 = Sum.inl n := fun z => hn (Sum.inl.inj z)
   rw [List.map_cons, List.map_cons, if_neg c1, if_neg c2]
   exact ⟨i, x, _, rfl, rfl, h3, RepM.repl n hr h4⟩
theorem RepM.snoc {K : PySem.W.Frag} {H : Hp} (n : Int) {d' : PyData} {x' : V} (hr : Rep K H d' x') : ∀ {r : List (PyData × PyData)} {ks : List (Key × V)}, RepM K H r ks → RepM K H (r ++ [(.int n, d')]) (ks ++ [(Sum.inl n, x')])
 | [], ks, h => by cases (show ks = [] from h); exact ⟨n, x', [], rfl, rfl, hr, rfl⟩
 | (k, d) :: r, ks, ⟨i, x, s, h1, h2, h3, h4⟩ => by
  subst h2
  exact ⟨i, x, _, h1, rfl, h3, RepM.snoc n hr h4⟩
theorem RepM.put {K : PySem.W.Frag} {H : Hp} (n : Int) {d' : PyData} {x' : V} (hr : Rep K H d' x') {r : List (PyData × PyData)} {ks : List (Key × V)} (h : RepM K H r ks) : RepM K H (putM r n d') (putK ks (Sum.inl n) x') := by
 unfold putM putK
 rw [h.any n]
 by_cases c : (ks.any fun kv => decide (kv.1 = (Sum.inl n : Key))) = true
 ·rw [if_pos c, if_pos c]; exact h.repl n hr
 ·rw [if_neg c, if_neg c]; exact h.snoc n hr
theorem RepM.length {K : PySem.W.Frag} {H : Hp} : ∀ {r : List (PyData × PyData)} {ks : List (Key × V)}, RepM K H r ks → ks.length = r.length
 | [], ks, h => by cases (show ks = [] from h); rfl
 | (k, d) :: r, ks, ⟨i, x, s, h1, h2, h3, h4⟩ => by subst h2; simp [RepM.length h4]
noncomputable def rOwnD (P : Program) (w : World) : V → V → V → Hp → (Hp → Prop) → Prop := fun o k v H Q => ∃ a ks ob n, o = .ref a ∧ k = .int n ∧ H a = some (sealD P w a ob ks) ∧ ks.length < sizeLine ∧ ∀ ob', Q (upd H a (sealD P w a ob' (putK ks (Sum.inl n) v)))
theorem set_ownD (hu : X.A.units + 1 < cLine) : PSet X (rOwnD X.prog X.w) := by
 intro pins s σ H o k v ov iv u Q I ro rk rv ⟨a, ks, ob, n, e1, e2, h1, h2, q⟩
 subst e1; subst e2
 cases ro
 obtain ⟨t, rfl⟩ := rk
 refine d_setItem hu (Inv.openD I h1) (DPut.k (k := Sum.inl n) upd_same h2) ⟨t, rfl⟩ rv fun s' I' => ?_
 obtain ⟨ob', I2⟩ := Inv.sealedD I' upd_same
 rw [upd_upd, upd_upd] at I2
 exact ⟨_, I2, q ob'⟩
noncomputable def putD (c v k : Option PyData) : Option PyData := match c, v, k with
 | some (.dict ((.none, .none) :: r)), some d, some (.int n) => if r.length < 1000000 then some (.dict ((.none, .none) :: putM r n d)) else none
 | _, _, _ => none
theorem putD_out {c v k : Option PyData} {o : PyData} (h : putD c v k = some o) : ∃ r d n, c = some (.dict ((.none, .none) :: r)) ∧ v = some d ∧ k = some (.int n) ∧ r.length < 1000000 ∧ o = .dict ((.none, .none) :: putM r n d) := by
 unfold putD at h
 split at h
 ·split at h
  ·rename_i hc
   cases h
   exact ⟨_, _, _, rfl, rfl, rfl, hc, rfl⟩
  ·cases h
 ·cases h
noncomputable def putS (i : Nat) (fk fv : Rho → Option PyData) : Rho → Option Out := fun ρ => (putD (lkp i ρ) (brw (some i) fv ρ) (brw (some i) fk ρ)).map fun d => .nx (ρ.set i (some d))
theorem pso_put (i : Nat) {x : Str} {p1 p2 : Pos} {fk fv : Rho → Option PyData} (hu : X.A.units + 1 < cLine) (hk : PD X b fk) (he : PD X e fv) (hN : X.N[i]? = some x := by rfl) (hv : Vis X.env.scope x := by first | exact Or.inl rfl | exact Or.inr (Or.inl rfl) | exact Or.inr (Or.inr rfl))
  (hd : (x == ("__debug__" : Str)) = false := by decide) (hcd : (x == ("__classdict__" : Str)) = false := by decide)
  (ha : ∀ v, assign (.Subscript (.Name x p1) b p2) X.env v = (do
   let ov ← holding [v] (eval (.Name x p1) X.env)
   let iv ← holding [v, ov] (eval b X.env)
   standAt p2
   holding [v, ov, iv] (setItem ov iv v)
   release [v, ov, iv] []) := by intro _; rfl)
  (hs : swapsWithSole [.Subscript (.Name x p1) b p2] e pos.line X.env = pure false := by rfl) (hw : swappedStores [.Subscript (.Name x p1) b p2] e X.env = pure none := by rfl)
  (h1 : (assignEach [.Subscript (.Name x p1) b p2] X.env).map (·.2) = [assign (.Subscript (.Name x p1) b p2) X.env] := by rfl) : PSO X (some i) (.Assign [.Subscript (.Name x p1) b p2] e pos) (putS i fk fv) := by
 with_unfolding_all
  refine PS.imp (ps_asg (pe_brw (own := some i) he) (pg_sub (pe_var hN hv hd hcd) (pe_brw (own := some i) hk) (set_ownD hu) ha) hs hw h1) fun D σ H ⟨Hs, ρ, o, E, q, k⟩ => ?_
  cases hp : putD (lkp i ρ) (brw (some i) fv ρ) (brw (some i) fk ρ) with
  | none => simp [putS, hp] at q
  | some nw =>
   have : Out.nx (ρ.set i (some nw)) = o := by simpa [putS, hp] using q
   subst this
   obtain ⟨r, d, n, q1, q2, q3, hl, rfl⟩ := putD_out hp
   refine ⟨Hs, ρ, d, E, q2, fun v H1 s1 E1 r1 => ?_⟩
   obtain ⟨d0, a, g1, g2, g3, g4⟩ := E1.ow i rfl
   rw [lkp_some q1] at g1; cases g1
   refine ⟨.ref a, g2, Hs, ρ, .int n, E1, q3, fun kv H2 s2 E2 r2 => ?_⟩
   cases (show kv = V.int n from r2)
   obtain ⟨d1, a1, f1, f2, f3, f4⟩ := E2.ow i rfl
   rw [lkp_some q1] at f1; cases f1
   rw [g2] at f2; cases f2
   obtain ⟨ks, r', ob, e1, e2, e3⟩ := f4
   cases e1
   refine ⟨a, ks, ob, n, rfl, rfl, e2, by rw [e3.length]; exact small_line hl, fun ob' => k _ _ (E2.put (lkp_some q1) g2 f3 e2 (fun _ _ _ z => z) ⟨_, _, ob', rfl, upd_same, ?_⟩)⟩
   have s5 : SameE H2 (upd H2 a (sealD X.prog X.w a ob' (putK ks (Sum.inl n) v))) := SameE.upd e2
   exact RepM.put n (Rep.monoE (s2.trans s5) _ _ r1) (RepM.monoE s5 _ _ e3)
end
end BX
end
section
namespace BX
open PySem PySem.Spec L2
open PyProof.Rows hiding St
noncomputable def pairsOf : PyData → Option (List (PyData × PyData))
 | .dict ((.none, _) :: r) => some r
 | _ => none
theorem pairsOf_rep {K : PySem.W.Frag} {H : Hp} {d : PyData} {r : List (PyData × PyData)} {v : V} (h : pairsOf d = some r) (q : Rep K H d v) : ∃ a ks ob, v = .ref a ∧ H a = some (.frz ob (.dK ks)) ∧ RepM K H r ks := by
 unfold pairsOf at h
 split at h
 ·cases h
  obtain ⟨a, h1, ⟨ns, h2, h3⟩ | ⟨ks, ob, h2, h3⟩ | ⟨x, h2, _⟩ | ⟨x, _, _, h2, _⟩⟩ := q
  ·cases ns with
   | nil => cases h3
   | cons n ns => cases h3
  ·exact ⟨a, ks, ob, h1, h2, h3⟩
  ·cases h2
  ·cases h2
 ·cases h
theorem dget_frz {H : Hp} {a : Addr} {ob : Obj} {ks : List (Key × V)} (h : H a = some (.frz ob (.dK ks))) (n : Int) : DGet H a (.int n) (valV ks (Sum.inl n : Key)) := .inl ⟨ks, Sum.inl n, .inr ⟨ob, h⟩, rfl, rfl⟩
section
variable {X : Cx} {e a b c tg src : Expr} {es : List Expr} {fa fb fc : Rho → Option PyData} {pos : Pos}
noncomputable def dGet (p q : PyData) : Option PyData := match pairsOf p, q with
 | some r, .int n => valM r n
 | _, _ => none
theorem pd_dix (hu : X.A.units + 1 < cLine) (ha : PD X a fa) (hb : PD X b fb) (hs : NoSl b := by intro _ _; rfl) : PD X (.Subscript a b pos) (op2 dGet fa fb) := by
 with_unfolding_all
  refine PE.imp (pe_dget hu ha hb hs) fun σ H Q ⟨ρ, d, en, h, k⟩ => ?_
  cases h1 : fa ρ with
  | none => simp [op2, h1] at h
  | some p =>
   cases h2 : fb ρ with
   | none => simp [op2, h1, h2] at h
   | some q =>
    have h' : dGet p q = some d := by simpa [op2, h1, h2] using h
    unfold dGet at h'
    split at h'
    ·rename_i r n hp
     refine ⟨ρ, p, en, h1, fun v H1 s1 r1 => ⟨ρ, .int n, en.mono s1, h2, fun y H2 s2 r2 => ?_⟩⟩
     cases (show y = V.int n from r2)
     obtain ⟨ad, ks, ob, e1, e2, e3⟩ := pairsOf_rep hp (Rep.mono s2 _ _ r1)
     rcases valM_rep n e3 with ⟨z, _⟩ | ⟨d', x, z1, z2, z3⟩
     ·rw [z] at h'; cases h'
     ·rw [z1] at h'; cases h'
      exact ⟨ad, x, e1, by rw [← z2]; exact dget_frz e2 n, k x H2 (s1.trans s2) z3⟩
    ·cases h'
noncomputable def dGet2 (p q z : PyData) : Option PyData := match pairsOf p, q with
 | some r, .int n => some ((valM r n).getD z)
 | _, _ => none
noncomputable def get2D (fa fb fc : Rho → Option PyData) : Rho → Option PyData := fun ρ => (fa ρ).bind fun p => (fb ρ).bind fun q => (fc ρ).bind fun z => dGet2 p q z
theorem pd_dget2 {apos cpos : Pos} (hu : X.A.units + 1 < cLine) (ha : PD X a fa) (hb : PD X b fb) (hc : PD X c fc) (m : M2 X a "get" apos b c cpos := by exact ⟨rfl, rfl, rfl, rfl⟩) : PD X (.Call (.Attribute a "get" apos) [b, c] [] cpos) (get2D fa fb fc) := by
 with_unfolding_all
  refine PE.imp (pe_dget2 hu ha hb hc m) fun σ H Q ⟨ρ, d, en, h, k⟩ => ?_
  cases h1 : fa ρ with
  | none => simp [get2D, h1] at h
  | some p =>
   cases h2 : fb ρ with
   | none => simp [get2D, h1, h2] at h
   | some q =>
    cases h3 : fc ρ with
    | none => simp [get2D, h1, h2, h3] at h
    | some z =>
     have h' : dGet2 p q z = some d := by simpa [get2D, h1, h2, h3] using h
     unfold dGet2 at h'
     split at h'
     ·rename_i r n hp
      cases h'
      refine ⟨ρ, p, en, h1, fun v H1 s1 r1 => ?_⟩
      obtain ⟨ad, ks, ob, e1, e2, e3⟩ := pairsOf_rep hp r1
      refine ⟨ad, e1, .inl ⟨ks, .inr ⟨ob, e2⟩⟩, ρ, .int n, en.mono s1, h2, fun y H2 s2 r2 => ⟨ρ, z, (en.mono s1).mono s2, h3, fun y3 H3 s3 r3 => ?_⟩⟩
      cases (show y = V.int n from r2)
      refine ⟨_, dget_frz (s3 _ _ (s2 _ _ e2)) n, ?_⟩
      rcases valM_rep n (RepM.mono (s2.trans s3) _ _ e3) with ⟨z1, z2⟩ | ⟨d', x, z1, z2, z3⟩
      ·rw [z2]; exact k _ H3 (s1.trans (s2.trans s3)) (by rw [z1]; exact r3)
      ·rw [z2]; exact k _ H3 (s1.trans (s2.trans s3)) (by rw [z1]; exact z3)
     ·cases h'
noncomputable def dGet1 (p q : PyData) : Option PyData := match pairsOf p, q with
 | some r, .int n => some ((valM r n).getD .none)
 | _, _ => none
theorem pd_dget1 {apos cpos : Pos} (hu : X.A.units + 1 < cLine) (ha : PD X a fa) (hb : PD X b fb) (m : M1 X a "get" apos b cpos := by exact ⟨rfl, rfl, rfl, rfl⟩) : PD X (.Call (.Attribute a "get" apos) [b] [] cpos) (op2 dGet1 fa fb) := by
 with_unfolding_all
  refine PE.imp (pe_dget1 hu ha hb m) fun σ H Q ⟨ρ, d, en, h, k⟩ => ?_
  cases h1 : fa ρ with
  | none => simp [op2, h1] at h
  | some p =>
   cases h2 : fb ρ with
   | none => simp [op2, h1, h2] at h
   | some q =>
    have h' : dGet1 p q = some d := by simpa [op2, h1, h2] using h
    unfold dGet1 at h'
    split at h'
    ·rename_i r n hp
     cases h'
     refine ⟨ρ, p, en, h1, fun v H1 s1 r1 => ?_⟩
     obtain ⟨ad, ks, ob, e1, e2, e3⟩ := pairsOf_rep hp r1
     refine ⟨ad, e1, .inl ⟨ks, .inr ⟨ob, e2⟩⟩, ρ, .int n, en.mono s1, h2, fun y H2 s2 r2 => ?_⟩
     cases (show y = V.int n from r2)
     refine ⟨_, dget_frz (s2 _ _ e2) n, ?_⟩
     rcases valM_rep n (RepM.mono s2 _ _ e3) with ⟨z1, z2⟩ | ⟨d', x, z1, z2, z3⟩
     ·rw [z2]; exact k _ H2 (s1.trans s2) (by rw [z1]; exact rfl)
     ·rw [z2]; exact k _ H2 (s1.trans s2) (by rw [z1]; exact z3)
    ·cases h'
noncomputable def Itd (d : Addr) (ob : Obj) (ks : List (Key × V)) : It :=
 ⟨fun i H => H d = some (.frz ob (.dK ks)) ∧ i < ks.length, fun i H x H' => H' = H ∧ ∃ kv, ks[i]? = some kv ∧ x = kV kv.1, fun i H => H d = some (.frz ob (.dK ks)) ∧ ks.length ≤ i⟩
theorem keyIs_rel {k : Key} {v : Value} (h : keyIs k v = true) : RelV (kV k) v := by
 rcases keyIs_shape h with ⟨i, t, rfl, rfl⟩ | ⟨x, t, rfl, rfl⟩
 ·exact ⟨t, rfl⟩
 ·exact ⟨t, rfl⟩
theorem frz_at {P : Program} {w : World} {H : Hp} {h : Heap} {d : Addr} {ob : Obj} {ks : List (Key × V)} {es : Array DictEntry} {ep : Nat} (ok : HOk P w H h) (e : H d = some (.frz ob (.dK ks))) (hd : ob.data = .dict es ep) : ∃ vs, KV ks vs ∧ h.DictAt (mixKind P w) d vs ep := by
 obtain ⟨h0, z, nm, vs, rel, ob', es', ep', h4, h5, h6, h7⟩ := ok d _ e
 rw [h0] at h4; cases h4
 rw [hd] at h6; cases h6
 exact ⟨vs, rel, ob, es, h0, h5, hd, h7⟩
theorem turn_dict {P : Program} {w : World} {K : PySem.W.Frag} {tg : Expr} (d it : Addr) (hne : d ≠ it) (ob : Obj) (ks : List (Key × V)) (es : Array DictEntry) (ep : Nat) (hd : ob.data = .dict es ep) : Turn P w K tg (Itd d ob ks) [it] it (fun i h => h.IsKeyIter it d i ks.length ep) where
 mem := by simp
 obj := fun i h st b hb => by
  have e : b = it := by simpa using hb
  subst e
  obtain ⟨o, e, c, d⟩ := st
  exact ⟨o, e, fun v z => by rw [d] at z; cases z⟩
 keep := fun i h h' st k => st.at fun o e => k it (by simp) o e
 item := by
  intro X hP hw hK hc i pins s σ H E I hf st hg
  subst hP hw hK
  obtain ⟨hH, hi⟩ := hg
  obtain ⟨vs, rel, dat⟩ := frz_at I.hok hH hd
  have hl := rel.length
  obtain ⟨f0, f1, f2, f3, f4, f5⟩ := hf it (by simp)
  have hi' : i < vs.length := by omega
  obtain ⟨⟨k, x⟩, hx⟩ : ∃ p, vs[i]? = some p := ⟨vs[i], by simp [hi']⟩
  rw [hl] at st
  refine wpAny_pyNext_dict_item st dat hx fun key h' hkey st' sb => ?_
  have I1 : Inv X pins σ H { s with heap := h' } := I.turned (t' := s.toks) (fun b o hb e => (sb.2 b hb).trans e) f0 f1 f3 f4 f5
  obtain ⟨o, e, c, dd⟩ := id st'
  rw [← hl] at st'
  have hk : (ks.map (·.1))[i]? = some k := by rw [rel.keys, List.getElem?_map, hx]; rfl
  rw [List.getElem?_map] at hk
  cases hq : ks[i]? with
  | none => rw [hq] at hk; cases hk
  | some kv =>
   rw [hq] at hk
   have hk' : kv.1 = k := by simpa using hk
   exact ⟨key, rfl, go_of (s := { s with heap := h' }) e c dd (by decide) ⟨kV k, H, I1, keyIs_rel hkey, ⟨rfl, kv, hq, by rw [hk']⟩, st', fun b hb => (hf b hb).1⟩⟩
 done := by
  intro X hP hw hK hc i pins s σ H E I hf st hg
  subst hP hw hK
  obtain ⟨hH, hi⟩ := hg
  obtain ⟨vs, rel, dat⟩ := frz_at I.hok hH hd
  have hl := rel.length
  obtain ⟨f0, f1, f2, f3, f4, f5⟩ := hf it (by simp)
  rw [hl] at st
  exact wpAny_pyNext_dict_end (I.ok.hd hc) st dat (by simp; omega) fun h' eb => ⟨rfl, I.turned (t' := s.toks) (fun b o hb e => eb b o hb e) f0 f1 f3 f4 f5⟩
 self := fun _ _ _ _ _ st h => wpAny_pyIter_keyiter st h
end
end BX
end
section
namespace BX
open PySem PySem.Spec L2
open PyProof.Rows hiding St
noncomputable def isDat : HO → Bool
 | .lst _ => true
 | .tup _ => true
 | .frz _ _ => true
 | _ => false
noncomputable def SameA (H H' : Hp) : Prop := ∀ b o, H b = some o → isDat o = true → H' b = some o
section
variable {K : PySem.W.Frag} {H H' : Hp}
theorem SameA.tup {a : Addr} {xs : List V} (e : SameA H H') (h : SqT K H a xs) : SqT K H' a xs := by
 rcases h with (h | ⟨o, h⟩) | h
 ·exact .inl (.inl (e _ _ h rfl))
 ·exact .inl (.inr ⟨o, e _ _ h rfl⟩)
 ·exact .inr h
theorem SameA.sql {a : Addr} {xs : List V} (e : SameA H H') (h : SqL K H a xs) : SqL K H' a xs := by
 rcases h with (h | ⟨o, h⟩) | h
 ·exact .inl (.inl (e _ _ h rfl))
 ·exact .inl (.inr ⟨o, e _ _ h rfl⟩)
 ·exact .inr h
mutual
theorem Rep.monoA (e : SameA H H') : ∀ (d : PyData) (v : V), Rep K H d v → Rep K H' d v
 | .none, v, h => h
 | .bool _, v, h => h
 | .int _, v, h => h
 | .str _, v, h => h
 | .tuple ds, v, ⟨a, xs, h1, h2, h3⟩ => ⟨a, xs, h1, SameA.tup e h2, Reps.monoA e ds xs h3⟩
 | .list ds, v, ⟨a, xs, h1, h2, h3⟩ => ⟨a, xs, h1, e _ _ h2 rfl, Reps.monoA e ds xs h3⟩
 | .dict kvs, v, ⟨a, h1, h2⟩ => ⟨a, h1, h2.imp (fun ⟨ns, q1, q2⟩ => ⟨ns, SameA.sql e q1, q2⟩) fun z => z.imp (fun ⟨ks, ob, q1, q2⟩ => ⟨ks, ob, e _ _ q1 rfl, RepD.monoA e kvs ks q2⟩) fun y => y.imp id fun ⟨x, C, oe, q1, q2, q3⟩ => ⟨x, C, oe, q1, e _ _ q2 rfl, q3⟩⟩
theorem Reps.monoA (e : SameA H H') : ∀ (ds : List PyData) (xs : List V), Reps K H ds xs → Reps K H' ds xs
 | [], xs, h => h
 | d :: ds, xs, ⟨x, r, h1, h2, h3⟩ => ⟨x, r, h1, Rep.monoA e d x h2, Reps.monoA e ds r h3⟩
theorem RepD.monoA (e : SameA H H') : ∀ (kvs : List (PyData × PyData)) (ks : List (Key × V)), RepD K H kvs ks → RepD K H' kvs ks
 | [], _, h => h
 | (.none, c) :: r, ks, h => RepM.monoA e r ks h
 | (.bool _, _) :: _, _, h => h
 | (.int _, _) :: _, _, h => h
 | (.str _, _) :: _, _, h => h
 | (.list _, _) :: _, _, h => h
 | (.tuple _, _) :: _, _, h => h
 | (.dict _, _) :: _, _, h => h
theorem RepM.monoA (e : SameA H H') : ∀ (kvs : List (PyData × PyData)) (ks : List (Key × V)), RepM K H kvs ks → RepM K H' kvs ks
 | [], _, h => h
 | (k, d) :: r, ks, ⟨i, x, s, h1, h2, h3, h4⟩ => ⟨i, x, s, h1, h2, Rep.monoA e d x h3, RepM.monoA e r s h4⟩
end
end
section
variable {X : Cx} {e a b c tg src : Expr} {es : List Expr} {fa fb fc : Rho → Option PyData} {pos : Pos}
noncomputable def iDct (K : PySem.W.Frag) (tl : TE) : TI := fun σ H R => tl σ H fun x H1 => ∃ d ob ks, x = .ref d ∧ H1 d = some (.frz ob (.dK ks)) ∧ R (Itd d ob ks) H1
theorem pi_dict {l : Expr} {tl : TE} (hl : PE X l tl) : PI X tg l (iDct X.K tl) := by
 intro pins s σ H R I h
 refine thn (hl pins s σ H _ I h) fun v s1 ⟨x, H1, I1, r1, q1⟩ => ?_
 obtain ⟨d, ob, ks, e, hq, q⟩ := q1
 subst e
 cases r1
 obtain ⟨h0, z, nm, vs, rel, ob', es, ep, h4, h5, h6, h7⟩ := I1.hok d _ hq
 rw [h0] at h4; cases h4
 have hl := rel.length
 refine wpAny_pyIter_dict nm (show s1.heap.DictAt (mixKind X.prog X.w) d vs ep from ⟨ob, es, h0, h5, h6, h7⟩) ?_
 rw [← hl]
 refine ⟨s1.heap.objs.size, [s1.heap.objs.size], _, _, H1, rfl, I1.kept (t' := s1.toks) fun b o e => Heap.get?_push_of_some _ e, turn_dict d _ (Nat.ne_of_lt (Heap.lt_size h0)) ob ks es ep h6, ⟨_, Heap.get?_push_size _ rfl, rfl, rfl⟩, fun b hb => ?_, q⟩
 have e : b = s1.heap.objs.size := by simpa using hb
 subst e
 exact I1.fpOk (Nat.le_refl _) (I1.hok.fresh (Nat.le_refl _))
theorem RepM.keys {K : PySem.W.Frag} {H : Hp} : ∀ {r : List (PyData × PyData)} {ks : List (Key × V)} {i : Nat} {d : PyData} {kv : Key × V}, RepM K H r ks → (r.map (·.1))[i]? = some d → ks[i]? = some kv → Rep K H d (kV kv.1)
 | [], ks, i, d, kv, h, e, q => by simp at e
 | (k, c) :: r, ks, 0, d, kv, ⟨i, x, s, h1, h2, h3, h4⟩, e, q => by
  subst h1; subst h2
  simp at e q
  subst e; subst q
  exact rfl
 | (k, c) :: r, ks, j + 1, d, kv, ⟨i, x, s, h1, h2, h3, h4⟩, e, q => by
  subst h2
  exact RepM.keys (i := j) h4 (by simpa using e) (by simpa using q)
noncomputable def itD (fa : Rho → Option PyData) : Rho → Option (List PyData) := fun ρ => (fa ρ).bind fun d => (pairsOf d).map fun r => r.map (·.1)
theorem pid_dict (h : PD X e fa) : PID X tg e (itD fa) := by
 with_unfolding_all
  refine PI.imp (pi_dict h) fun σ H R ⟨ρ, ds, en, q, k⟩ => ?_
  cases h1 : fa ρ with
  | none => simp [itD, h1] at q
  | some d =>
   cases h2 : pairsOf d with
   | none => simp [itD, h1, h2] at q
   | some r =>
    have : r.map (·.1) = ds := by simpa [itD, h1, h2] using q
    subst this
    refine ⟨ρ, _, en, h1, fun v H1 s1 r1 => ?_⟩
    obtain ⟨a, ks, ob, e1, e2, e3⟩ := pairsOf_rep h2 r1
    have hl := e3.length
    refine ⟨a, ob, ks, e1, e2, k _ H1 s1 fun i H2 s2 => ⟨fun hi => ?_, fun hi => ?_, fun x H' y => ?_⟩⟩
    ·exact ⟨s2 _ _ e2 (fun _ z => nomatch z), by rw [hl]; simpa using hi⟩
    ·exact ⟨s2 _ _ e2 (fun _ z => nomatch z), by rw [hl]; simpa using hi⟩
    ·obtain ⟨z1, kv, z2, z3⟩ := y
     subst z1; subst z3
     exact ⟨Same.refl _, fun d hd => RepM.keys (RepM.monoE s2 _ _ e3) hd z2⟩
noncomputable def dct1 (fa fb : Rho → Option PyData) : Rho → Option PyData := fun ρ => (fa ρ).bind fun k => (fb ρ).bind fun d => match k with
 | .int n => some (.dict [(.none, .none), (.int n, d)])
 | _ => none
theorem pd_dict1 (ha : PD X a fa) (hb : PD X b fb) : PD X (.Dict [some a] [b] pos) (dct1 fa fb) := by
 with_unfolding_all
  intro pins s σ H Q I ⟨ρ, d, en, hf, k⟩
  cases h1 : fa ρ with
  | none => simp [dct1, h1] at hf
  | some p =>
   cases h2 : fb ρ with
   | none => simp [dct1, h1, h2] at hf
   | some q =>
    cases p with
    | int n =>
     have : PyData.dict [(.none, .none), (.int n, q)] = d := by simpa [dct1, h1, h2] using hf
     subst this
     have W := pe_disp (X := X) (pos := pos) (pps_cons ha hb pps_nil) rfl rfl (by simp) (by simp)
     refine thn (W pins s σ H (fun v H4 => ∃ l y H3, v = .ref l ∧ H l = none ∧ H3 l = some (.dK []) ∧ Same (upd H l (.dK [])) H3 ∧ Rep X.K H3 q y ∧ H4 = upd H3 l (.dK [(Sum.inl n, y)])) I fun l hl => ?_) fun u s1 ⟨v, H4, I4, r, l, y, H3, e1, e2, e3, e4, e5, e6⟩ => ?_
     ·have s0 : Same H (upd H l (.dK [])) := same_upd hl
      refine ⟨ρ, .int n, en.mono s0, h1, fun x H1 s1 r1 => ⟨ρ, q, (en.mono s0).mono s1, h2, fun y H2 s2 r2 => ?_⟩⟩
      cases (show x = V.int n from r1)
      have el : H2 l = some (.dK []) := s2 _ _ (s1 _ _ upd_same)
      exact ⟨el, [(Sum.inl n, y)], rfl, by simp, l, y, H2, rfl, hl, el, s1.trans s2, r2, rfl⟩
     ·subst e1
      have e7 : H4 l = some (.dK [(Sum.inl n, y)]) := by rw [e6]; exact upd_same
      obtain ⟨ob, I5⟩ := Inv.sealedD I4 e7
      have I6 := Inv.opened I5 (.d ob _) upd_same
      rw [upd_upd] at I6
      have sA : SameA H3 (upd H4 l (.frz ob (.dK [(Sum.inl n, y)]))) := fun b o z dt => by
       have : b ≠ l := fun m => by subst m; rw [e3] at z; cases z; cases dt
       rw [upd_ne this, e6, upd_ne this]; exact z
      have sH : Same H (upd H4 l (.frz ob (.dK [(Sum.inl n, y)]))) := fun b o z => by
       have : b ≠ l := fun m => by subst m; rw [e2] at z; cases z
       rw [upd_ne this, e6, upd_ne this]; exact e4 b o (by rw [upd_ne this]; exact z)
      exact ⟨.ref l, _, I6, r, k _ _ sH ⟨l, rfl, .inr (.inl ⟨_, ob, upd_same, show RepM X.K _ [(.int n, q)] _ from ⟨n, y, [], rfl, rfl, Rep.monoA sA _ _ e5, rfl⟩⟩)⟩⟩
    | _ => simp [dct1, h1, h2] at hf
end
end BX
end
section
namespace BX
open PySem PySem.Spec L2
theorem tuple_mul_1 (l : Addr) (items : Array Value) (n : Nat) (u : Tok) (dd : Option Addr) (sl : Array (Option Value)) :
  Meets (Builtin.«tuple.__mul__» ⟨[.ref l, .int 1 u], []⟩) (fun _ R s => s.heap.get? l = some { cls := .type "tuple", dict := dd, data := .seq items n, slots := sl } ∧ R (.ok (.ret (.ref l))) s) :=
 .of_wp fun prog w A R s h => by
  obtain ⟨hp, g, d, tk, os⟩ := s
  obtain ⟨hl, h⟩ := h
  have e1 : (items.isEmpty || (1 : Int) == 1) = true := by simp
  wp_walk
  exact ⟨_, rfl, h⟩
theorem tuple_mul_0 (l : Addr) (items : Array Value) (n : Nat) (x : Int) (u : Tok) (dd : Option Addr) (sl : Array (Option Value)) (hx : x ≤ 0) (hx2 : -(2 ^ 63) ≤ x) (hi : items.isEmpty = false) :
  Meets (Builtin.«tuple.__mul__» ⟨[.ref l, .int x u], []⟩) (fun _ R s => s.heap.get? l = some { cls := .type "tuple", dict := dd, data := .seq items n, slots := sl } ∧ R (.ok (.ret (.ref s.heap.objs.size))) { s with heap := s.heap.push { cls := .type "tuple", data := .seq #[] } }) :=
 .of_wp fun prog w A R s h => by
  obtain ⟨hp, g, d, tk, os⟩ := s
  obtain ⟨hl, h⟩ := h
  have e0 : (decide (x < -(2 ^ 63)) || decide (x ≥ 2 ^ 63)) = false := by simp; omega
  have e1 : (items.isEmpty || x == 1) = false := by rw [hi]; simp; omega
  have e2 : (decide (x ≤ 0) || items.isEmpty) = true := by simp [hx]
  wp_walk
  refine wpAny_ite_false (by rw [e0]; rfl) ?_
  wp_walk
  refine wpAny_ite_false (by rw [e1]; rfl) ?_
  wp_walk
  exact ⟨_, rfl, h⟩
theorem tuple_mul_2 (l : Addr) (items : Array Value) (n : Nat) (x : Int) (u : Tok) (dd : Option Addr) (sl : Array (Option Value)) (hx : 2 ≤ x) (hx2 : x < 2 ^ 63) (hi : items.isEmpty = false) (hz : (items.size : Int) * x ≤ sizeLine) (hsz : (List.foldl (fun x1 x2 => x1 ++ x2) #[] (List.replicate x.toNat items)).size ≤ sizeLine) :
  Meets (Builtin.«tuple.__mul__» ⟨[.ref l, .int x u], []⟩) (fun _ R s => s.heap.get? l = some { cls := .type "tuple", dict := dd, data := .seq items n, slots := sl } ∧ R (.ok (.ret (.ref s.heap.objs.size))) { s with heap := s.heap.push { cls := .type "tuple", data := .seq (List.foldl (fun x1 x2 => x1 ++ x2) #[] (List.replicate x.toNat items)) } }) :=
 .of_wp fun prog w A R s h => by
  obtain ⟨hp, g, d, tk, os⟩ := s
  obtain ⟨hl, h⟩ := h
  have hs : ((2 ^ 63 - 1) / 8 : Int) ≥ (sizeLine : Int) := by rw [sizeLine_eq]; decide
  have e0 : (decide (x < -(2 ^ 63)) || decide (x ≥ 2 ^ 63)) = false := by simp; omega
  have e1 : (items.isEmpty || x == 1) = false := by rw [hi]; simp; omega
  have e2 : (decide (x ≤ 0) || items.isEmpty) = false := by rw [hi]; simp; omega
  have e3 : ¬ (items.size : Int) * x > (2 ^ 63 - 1) / 8 := by omega
  have e4 : Builtin.Tuple.tupleTooMany ((items.size : Int) * x) = false := by simp [Builtin.Tuple.tupleTooMany]; omega
  wp_walk
  refine wpAny_ite_false (by rw [e0]; rfl) ?_
  wp_walk
  refine wpAny_ite_false (by rw [e1]; rfl) ?_
  wp_walk
  refine wpAny_ite_false (by rw [e2]; rfl) ?_
  wp_walk
  rw [if_neg e3]
  refine wpAny_ite_false (by rw [e4]; rfl) ?_
  wp_walk
  exact ⟨_, rfl, h⟩
theorem noFill_tuple_mul : fillsNumberSlot (.type "tuple") "mul" = pure false :=
 PySem.fillsNumberSlot_seq (id := "tuple.__mul__") (r := some (.builtin "tuple.__rmul__")) F.slot_tuple_mul.lookup (by decide +kernel) F.slot_tuple_rmul.lookup (by decide +kernel)
theorem repeat_tuple : seqRepeat? (.type "tuple") = pure (some (.builtin "tuple.__mul__")) := by
 unfold seqRepeat?
 rw [PySem.seqSlot_of (T := "tuple") (name := "__mul__") (id := "tuple.__mul__") F.slot_tuple_mul.lookup (by decide +kernel), PySem.seqSlot_of (T := "tuple") (name := "__rmul__") (id := "tuple.__rmul__") F.slot_tuple_rmul.lookup (by decide +kernel)]
 rfl
theorem int_rmul_tuple (a : Int) (t : Tok) (l : Addr) (items : Array Value) (n : Nat) (dd : Option Addr) (sl : Array (Option Value)) :
  Meets (Builtin.«int.__rmul__» ⟨[.int a t, .ref l], []⟩) (fun _ R s => s.heap.get? l = some { cls := .type "tuple", dict := dd, data := .seq items n, slots := sl } ∧ R (.ok (.ret Value.notImplemented)) s) :=
 .of_wp fun prog w A R s h => by
  obtain ⟨hp, g, d, tk, os⟩ := s; obtain ⟨hl, h⟩ := h
  wp_walk
  exact ⟨_, rfl, h⟩
section
open PyProof.Rows hiding St
variable {X : Cx} {e a b c tg src : Expr} {es : List Expr} {fa fb fc : Rho → Option PyData} {pos : Pos} {rest : List Expr}
noncomputable def rRepT (K : PySem.W.Frag) : R2 := fun x y H Q => ∃ l k xs, x = .ref l ∧ y = .int k ∧ SqT K H l xs ∧ 0 < xs.length ∧ -(2 ^ 63) ≤ k ∧ k < 2 ^ 63 ∧ (xs.length : Int) * k ≤ sizeLine ∧
 (∀ p, H p = none → Q (.ref p) (upd H p (.tup (List.replicate k.toNat xs).flatten))) ∧ (k = 1 → Q (.ref l) H)
theorem op_repT : OpR X (binaryOp .Mult) (rRepT X.K) := by
 intro pins s σ H x y v u Q I rx ry h
 obtain ⟨l, k, xs, rfl, rfl, hH, hne, h1, h2, hz, q, q1⟩ := h
 cases rx
 obtain ⟨t, rfl⟩ := ry
 obtain ⟨its, r, ⟨⟨oc, od, odt, osl⟩, e, c, n, d⟩, hlz⟩ := I.tuple hH
 have hl := r.length
 cases c
 cases (show odt = _ from d)
 have hi : its.toArray.isEmpty = false := by
  cases its with
  | nil => rw [hl] at hne; simp at hne
  | cons a r' => simp
 refine wpAny_binaryOp_repeat_ref (T := "tuple") (U := "int") (by decide) ⟨_, e, rfl⟩ (fun s' => typeIs_int s' k t) noFill_tuple_mul F.fills_int_mul F.slot_int_rmul repeat_tuple F.slot_int_index.lookup
  (call_meets F.slot_int_rmul (typeIs_int s k t) F.entry_int_rmul (F.args_int_rmul_2 _ _) (int_rmul_tuple k t l its.toArray n od osl) ⟨e, rfl, ⟨_, e, rfl⟩, ?_⟩)
 have fresh : ∀ {ys : List V} {jts : List Value}, Vals ys jts → ys.length ≤ sizeLine → Inv X pins σ (upd H s.heap.objs.size (.tup ys)) { s with heap := s.heap.push { cls := .type "tuple", data := .seq jts.toArray } } := fun {ys jts} rv hy =>
  I.laid (t' := s.toks) (fun b o e => Heap.get?_push_of_some _ e) (Nat.le_refl _) (show ObjOk X.prog X.w _ _ _ (.tup ys) from ⟨hy, jts, rv, IsTup.new _ _⟩)
 by_cases k1 : k = 1
 ·subst k1
  exact call_meets F.slot_tuple_mul ⟨_, e, rfl⟩ F.entry_tuple_mul (F.args_tuple_mul_2 _ _) (tuple_mul_1 l its.toArray n t od osl) ⟨e, .ref l, H, I, rfl, q1 rfl⟩
 ·by_cases k0 : k ≤ 0
  ·have hk : k.toNat = 0 := by omega
   refine call_meets F.slot_tuple_mul ⟨_, e, rfl⟩ F.entry_tuple_mul (F.args_tuple_mul_2 _ _) (tuple_mul_0 l its.toArray n k t od osl k0 h1 hi) ⟨e, .ref _, _, fresh (ys := []) (jts := []) .nil (Nat.zero_le _), rfl, ?_⟩
   have := q _ (I.hok.fresh (Nat.le_refl _))
   rw [hk] at this
   exact this
  ·have hnew : List.foldl (fun x1 x2 => x1 ++ x2) #[] (List.replicate k.toNat its.toArray) = (List.replicate k.toNat its).flatten.toArray := by
    have := foldl_rep its k.toNat []
    rw [List.nil_append] at this
    exact this
   have hlen : ((List.replicate k.toNat xs).flatten.length : Int) = xs.length * k := by
    rw [len_rep, Int.natCast_mul, Int.mul_comm, Int.toNat_of_nonneg (by omega)]
   have hlen2 : (List.replicate k.toNat xs).flatten.length ≤ sizeLine := by omega
   have hl2 := (r.rep k.toNat).length
   refine call_meets F.slot_tuple_mul ⟨_, e, rfl⟩ F.entry_tuple_mul (F.args_tuple_mul_2 _ _) (tuple_mul_2 l its.toArray n k t od osl (by omega) h2 hi (by rw [List.size_toArray, ← hl]; exact hz) (by rw [hnew, List.size_toArray, ← hl2]; exact hlen2)) ⟨e, ?_⟩
   rw [hnew]
   exact ⟨.ref _, _, fresh (r.rep k.toNat) hlen2, rfl, q _ (I.hok.fresh (Nat.le_refl _))⟩
end
end BX
end
section
namespace BX
open PySem PySem.Spec L2
open PyProof.Rows hiding St
section
variable {X : Cx} {e a b c tg src : Expr} {es : List Expr} {fa fb fc : Rho → Option PyData} {pos : Pos} {rest : List Expr}
noncomputable def dRepT (p q : PyData) : Option PyData := match p, q with
 | .tuple ds, .int k => if 0 < ds.length ∧ ds.length < 1000 ∧ -1000 < k ∧ k < 1000 then some (.tuple (List.replicate k.toNat ds).flatten) else none
 | _, _ => none
theorem opd_repT : OpD X (binaryOp .Mult) dRepT := by
 refine ⟨_, op_repT, fun p q d x y H Q h rx ry k => ?_⟩
 unfold dRepT at h
 split at h
 ·rename_i ds n
  split at h
  ·rename_i hc
   cases h
   obtain ⟨a, us, e1, e2, e3⟩ := rx
   cases (show y = V.int n from ry)
   have hl := e3.length
   have hz : (us.length : Int) * n ≤ 1000000 := by
    have h1 : (us.length : Int) * n ≤ us.length * 1000 := Int.mul_le_mul_of_nonneg_left (by omega) (by omega)
    omega
   refine ⟨a, n, us, e1, rfl, e2, by omega, by omega, by omega, Int.le_trans hz (by rw [sizeLine_eq]; decide), fun p hp => ?_, fun h1 => ?_⟩
   ·have s1 := same_upd (o := .tup (List.replicate n.toNat us).flatten) hp
    exact k _ _ s1 ⟨p, _, rfl, SqT.of upd_same, Reps.mono s1 _ _ (e3.rep _)⟩
   ·subst h1
    refine k _ H (Same.refl H) ⟨a, us, rfl, e2, ?_⟩
    simpa using e3
  ·cases h
 ·cases h
noncomputable def ItrD (lo : Int) (n : Nat) : It := ⟨fun i _ => i < n, fun i H x H' => H' = H ∧ x = .int (lo - i), fun i _ => n ≤ i⟩
theorem turn_rangeD {P : Program} {w : World} {K : PySem.W.Frag} {tg : Expr} (it : Addr) (lo : Int) (n : Nat) : Turn P w K tg (ItrD lo n) [it] it (fun i h => IsRangeIter h it (lo + (i : Nat) * (-1)) ((n : Int) - (i : Nat)) (-1)) where
 mem := by simp
 obj := fun i h st b hb => by
  have e : b = it := by simpa using hb
  subst e
  exact ⟨_, st, fun v z => by
   have z' : Data.fields _ = Data.cell v := z
   cases z'⟩
 keep := fun i h h' st k => k it (by simp) _ st
 item := by
  intro X hP hw hK hc i pins s σ H E I hf st hg
  subst hP hw hK
  obtain ⟨f0, f1, f2, f3, f4, f5⟩ := hf it (by simp)
  have W := Walks.range (prog := X.prog) (w := X.w) (I.ok.hd hc) it lo (-1) n
  refine W.item i s _ _ hg st fun v h' tk hv st' kk => ?_
  obtain ⟨t, rfl⟩ := hv
  have I1 : Inv X pins σ H { s with heap := h', toks := tk } := I.turned (fun b o hb e => kk b o (by simpa using hb) e) f0 f1 f3 f4 f5
  refine ⟨_, rfl, go_of (s := { s with heap := h', toks := tk }) (n := "range_iterator") st' rfl rfl (by decide) ⟨.int (lo - i), H, I1, ⟨t, ?_⟩, ⟨rfl, rfl⟩, st', fun b hb => (hf b hb).1⟩⟩
  congr 1
  omega
 done := by
  intro X hP hw hK hc i pins s σ H E I hf st hg
  subst hP hw hK
  obtain ⟨f0, f1, f2, f3, f4, f5⟩ := hf it (by simp)
  exact wpAny_pyNext_range_end (I.ok.hd hc) st (by have : n ≤ i := hg; omega) fun h' eb => ⟨rfl, I.turned (t' := s.toks) (fun b o hb e => eb b o hb e) f0 f1 f3 f4 f5⟩
 self := fun _ _ _ _ _ st h => wpAny_pyIter_rangeiter st h
theorem rangeSize_down (a b : Int) : Builtin.Range.rangeSize a b (-1) = if a > b then a - b else 0 := by
 unfold Builtin.Range.rangeSize
 simp only [show ¬ (-1 : Int) > 0 by decide, if_false, Int.neg_neg, Int.ediv_one]
 split <;> omega
theorem small_down {a b : Int} (ha : -1000000 ≤ a) (ha' : a < 1000000) (hb : -1000000 ≤ b) (hb' : b < 1000000) : Builtin.Range.small a b (-1) = true := by
 unfold Builtin.Range.small
 rw [rangeSize_down]
 simp only [Builtin.Range.rangeFitsLong, Bool.and_eq_true, Bool.or_eq_true, decide_eq_true_eq, beq_iff_eq, show ¬ (-1 : Int) > 0 by decide, if_false]
 split <;> omega
noncomputable def iRng3 (ta : TA) : TI := fun σ H R => ta σ H fun vs H1 => ∃ i j : Int, vs = [.int i, .int j, .int (-1)] ∧ (-1000000 ≤ i ∧ i < 1000000 ∧ -1000000 ≤ j ∧ j < 1000000) ∧ R (ItrD i (i - j).toNat) H1
theorem pi_range3 {ta : TA} {p pos : Pos} (hg : Gl X "range") (hm : X.mg "range" = none) (ha : PA X [a, b, c] ta) (hs : starEach [a, b, c] X.env = [(false, eval a X.env), (false, eval b X.env), (false, eval c X.env)] := by rfl) (hs2 : starEach [b, c] X.env = [(false, eval b X.env), (false, eval c X.env)] := by rfl) :
  PI X tg (.Call (.Name "range" p) [a, b, c] [] pos) (iRng3 ta) := by
 intro pins s σ H R I h
 refine Call_ (ld_blt I hg hm boot_range (PyProof.Rows.callWith_type1 (thn (ha pos pins s σ H _ I h) fun us s1 ⟨vs, H1, I1, r1, q1⟩ => ?_) (by rw [hs, hs2]) (by rw [hs2]; rfl)))
 obtain ⟨i, j, e, ⟨q1, q2, q3, q4⟩, q⟩ := q1
 subst e
 cases r1 with
 | cons r rr =>
  cases rr with
  | cons r' rr =>
   cases rr with
   | cons r'' rr =>
    cases rr
    obtain ⟨t, rfl⟩ := r
    obtain ⟨t', rfl⟩ := r'
    obtain ⟨t'', rfl⟩ := r''
    refine PySem.call_range_3 (by decide) ?_ (Or.inl (PyProof.noPylong_small (by decide)))
    refine wpAny_pyIter_range (IsRange.new ..) (small_down q1 q2 q3 q4) ?_
    have I2 : Inv X pins σ H1 { s1 with heap := s1.heap.push { cls := .type "range", data := .fields #[.int i t, .int j t', .int (-1) t''] }, toks := s1.toks } := I1.kept fun b o e => Heap.get?_push_of_some _ e
    refine ⟨(s1.heap.push { cls := .type "range", data := .fields #[.int i t, .int j t', .int (-1) t''] }).objs.size, [(s1.heap.push { cls := .type "range", data := .fields #[.int i t, .int j t', .int (-1) t''] }).objs.size], _, _, H1, rfl,
     I2.kept (t' := s1.toks) fun b o e => Heap.get?_push_of_some _ e, turn_rangeD _ i (i - j).toNat, ?_, fun b hb => ?_, q⟩
    ·have e1 : i + ((0 : Nat) : Int) * (-1) = i := by simp
     have e2 : (((i - j).toNat : Nat) : Int) - ((0 : Nat) : Int) = Builtin.Range.rangeSize i j (-1) := by rw [rangeSize_down]; split <;> omega
     show IsRangeIter _ _ (i + ((0 : Nat) : Int) * (-1)) ((((i - j).toNat : Nat) : Int) - ((0 : Nat) : Int)) (-1)
     rw [e1, e2]
     exact Heap.get?_push_size _ rfl
    ·have e : b = (s1.heap.push { cls := .type "range", data := .fields #[.int i t, .int j t', .int (-1) t''] }).objs.size := by simpa using hb
     subst e
     exact I2.fpOk (Nat.le_refl _) (I2.hok.fresh (Nat.le_refl _))
noncomputable def rngDn (lo : Int) (n : Nat) : List PyData := (List.range n).map fun (k : Nat) => PyData.int (lo - (k : Int))
noncomputable def rng3 (ds : List PyData) : Option (List PyData) := match ds with
 | [.int i, .int j, .int c] => if c = -1 ∧ -1000000 ≤ i ∧ i < 1000000 ∧ -1000000 ≤ j ∧ j < 1000000 then some (rngDn i (i - j).toNat) else none
 | _ => none
theorem pid_range3 {p pos : Pos} {fr : Rho → Option (List PyData)} (hg : Gl X "range") (hm : X.mg "range" = none) (ha : PAD X [a, b, c] fr) (hs : starEach [a, b, c] X.env = [(false, eval a X.env), (false, eval b X.env), (false, eval c X.env)] := by rfl) (hs2 : starEach [b, c] X.env = [(false, eval b X.env), (false, eval c X.env)] := by rfl) :
  PID X tg (.Call (.Name "range" p) [a, b, c] [] pos) (fun ρ => (fr ρ).bind rng3) := by
 with_unfolding_all
  refine PI.imp (pi_range3 hg hm ha hs hs2) fun σ H R ⟨ρ, ds, en, q, k⟩ => ?_
  cases h1 : fr ρ with
  | none => simp [h1] at q
  | some as =>
   have q' : rng3 as = some ds := by simpa [h1] using q
   refine ⟨ρ, as, en, h1, fun vs H1 s1 r1 => ?_⟩
   unfold rng3 at q'
   split at q'
   ·rename_i i j cc
    split at q'
    ·rename_i hj
     cases q'
     obtain ⟨rfl, hj⟩ := hj
     obtain ⟨x, r, e1, e2, y, r', e3, e4, z, r'', e5, e6, e7⟩ := r1
     cases (show x = V.int i from e2)
     cases (show y = V.int j from e4)
     cases (show z = V.int (-1) from e6)
     cases (show r'' = [] from e7)
     subst e5; subst e3
     refine ⟨i, j, e1, hj, k _ H1 s1 fun n H2 s2 => ?_⟩
     have hl : (rngDn i (i - j).toNat).length = (i - j).toNat := by simp [rngDn]
     refine ⟨fun hi => by rw [hl] at hi; exact hi, fun hi => by rw [hl] at hi; exact hi, fun x H' y => ?_⟩
     obtain ⟨z1, z2⟩ := y
     subst z1
     refine ⟨Same.refl _, fun d hd => ?_⟩
     have hi : n < (i - j).toNat := by
      have := (List.getElem?_eq_some_iff.mp hd).1
      rw [hl] at this; exact this
     have : d = .int (i - n) := by
      simp [rngDn, hi] at hd
      exact hd.symm
     subst this
     exact z2
    ·cases q'
   ·cases q'
noncomputable def andV (fa fb : Rho → Option PyData) : Rho → Option PyData := fun ρ => (fa ρ).bind fun x => (asB x).bind fun t => if t = true then fb ρ else some (.bool false)
theorem pd_one {op : BoolOp} (ha : PD X a fa) : PD X (.BoolOp op [a] pos) fa := by
 with_unfolding_all exact (pe_one ha)
theorem pd_and (ha : PD X a fa) (hb : PD X (.BoolOp .And (b :: rest) pos) fb) : PD X (.BoolOp .And (a :: b :: rest) pos) (andV fa fb) := by
 with_unfolding_all
  refine PE.imp (pe_and ha hb) fun σ H Q ⟨ρ, d, en, h, k⟩ => ?_
  cases h1 : fa ρ with
  | none => simp [andV, h1] at h
  | some x =>
   cases h2 : asB x with
   | none => simp [andV, h1, h2] at h
   | some t =>
    have hx := asB_some h2
    subst hx
    refine ⟨ρ, _, en, h1, fun v H1 s1 r1 => ⟨t, r1, ?_⟩⟩
    cases t with
    | true => rw [if_pos rfl]; exact ⟨ρ, d, en.mono s1, by simpa [andV, h1, h2] using h, fun v H2 s2 r2 => k v H2 (s1.trans s2) r2⟩
    | false =>
     rw [if_neg Bool.false_ne_true]
     have : PyData.bool false = d := by simpa [andV, h1, h2] using h
     subst this
     exact k _ H1 s1 rfl
noncomputable def isNo : PyData → Bool
 | .none => true
 | _ => false
theorem isNo_rep {K : PySem.W.Frag} {H : Hp} {p : PyData} {x : V} (r : Rep K H p x) : decide (x = .non) = isNo p := by
 cases p with
 | none => cases (show x = .non from r); rfl
 | bool b => cases (show x = _ from r); rfl
 | int b => cases (show x = _ from r); rfl
 | str b => cases (show x = _ from r); rfl
 | tuple ds => obtain ⟨a, xs, h, _⟩ := r; subst h; rfl
 | list ds => obtain ⟨a, xs, h, _⟩ := r; subst h; rfl
 | dict ds => obtain ⟨a, h, _⟩ := r; subst h; rfl
noncomputable def dNotN (p q : PyData) : Option PyData := match q with
 | .none => some (.bool (!isNo p))
 | _ => none
theorem opd_notN : OpD X (compareOp .IsNot) dNotN := by
 refine ⟨_, op_notN, fun p q d x y H Q h rx ry k => ?_⟩
 unfold dNotN at h
 split at h
 ·cases h
  exact ⟨ry, by rw [isNo_rep rx]; exact k _ H (Same.refl H) rfl⟩
 ·cases h
end
end BX
end
section
namespace BX
open PySem PySem.Spec L2
open PyProof.Rows hiding St
section
variable {X : Cx} {e a b c tg src : Expr} {es : List Expr} {fa fb fc : Rho → Option PyData} {pos : Pos}
noncomputable def rIns0 : V → List V → Hp → VK → Prop := fun x vs H Q => ∃ l xs y, x = .ref l ∧ vs = [.int 0, y] ∧ H l = some (.lst xs) ∧ xs.length < sizeLine ∧ Q .non (upd H l (.lst (y :: xs)))
theorem mt_insert0 : MtM X "list.insert" rIns0 := by
 intro pins s σ H x vs v us Q I rx rv h
 obtain ⟨l, xs, y, rfl, rfl, hH, hz, q⟩ := h
 cases rx
 cases rv with
 | cons r0 rv =>
  obtain ⟨t, rfl⟩ := r0
  obtain ⟨u, rfl, ru⟩ := Vals.one rv
  obtain ⟨z, its, n, r, hl, e⟩ := I.lstM hH
  refine call_meets F.slot_list_insert ⟨_, e, rfl⟩ F.entry_list_insert (F.args_list_insert_3 _ _ _) (AutoSeq1.list_insert_list_int_val_1 l its.toArray n 0 t u (by decide) (by rw [List.size_toArray]; omega)) ⟨e, ?_⟩
  refine ⟨.non, _, I.lset (its' := u :: its) (t' := s.toks) hH e ?_ (.cons ru r) ?_, rfl, q⟩
  ·simp
  ·rw [List.length_cons]; omega
noncomputable def insL (c z d : Option PyData) : Option PyData := match c, z, d with
 | some (.list ds), some (.int 0), some d => if noL d = true ∧ ds.length < 1000000 then some (.list (d :: ds)) else none
 | _, _, _ => none
noncomputable def insD (i : Nat) (fz fa : Rho → Option PyData) : Rho → Option PyData := fun ρ => insL (lkp i ρ) (fz ρ) (fa ρ)
theorem insL_out {c z d : Option PyData} {r : PyData} (h : insL c z d = some r) : ∃ ds x, c = some (.list ds) ∧ z = some (.int 0) ∧ d = some x ∧ noL x = true ∧ ds.length < 1000000 ∧ r = .list (x :: ds) := by
 unfold insL at h
 split at h
 ·split at h
  ·rename_i hc
   cases h
   exact ⟨_, _, rfl, rfl, rfl, hc.1, hc.2, rfl⟩
  ·cases h
 ·cases h
theorem pe_insert0 (i : Nat) {x : Str} {p1 apos cpos : Pos} {fz : Rho → Option PyData} (hz : PD X b fz) (h : PD X e fa) (hN : X.N[i]? = some x := by rfl) (hv : Vis X.env.scope x := by first | exact Or.inl rfl | exact Or.inr (Or.inl rfl) | exact Or.inr (Or.inr rfl)) (hd : (x == ("__debug__" : Str)) = false := by decide)
  (hcd : (x == ("__classdict__" : Str)) = false := by decide) (hbase : attributeBase (.Name x p1) "insert" X.env (eval (.Name x p1) X.env) = eval (.Name x p1) X.env := by rfl)
  (hfew : ((backTo cpos (starEach [b, e] X.env)).all (fun x => !x.1) && (backToKw cpos (keywordEach [] X.env)).all (fun x => x.1.isSome) && decide ([b, e].length + ([] : List Keyword).length + (if ([] : List Keyword).isEmpty then 0 else 1) < 30)) = true := by rfl)
  (hline : (apos.endLine == cpos.line) = true := by rfl) (hs : starEach [b, e] X.env = (false, eval b X.env) :: starEach [e] X.env := by rfl) (hs2 : starEach [e] X.env = (false, eval e X.env) :: starEach [] X.env := by rfl) (hplain : (backTo cpos (starEach [e] X.env)).any (·.1) = false := by rfl) :
  PE X (.Call (.Attribute (.Name x p1) "insert" apos) [b, e] [] cpos) (tMut X.prog X.w X.K i (insD i fz fa)) := by
 with_unfolding_all
  intro pins s σ H Q I ⟨Hs, ρ, d', E, hg, k⟩
  obtain ⟨ds, d, q1, q0, q2, hn, hl, rfl⟩ := insL_out hg
  obtain ⟨a, xs, g2, g3, g4, g5, env⟩ := E.opnL (lkp_some q1)
  have hlen := g5.length
  have W := pe_bm (X := X) (cpos := cpos) (apos := apos) PySem.F.plainAttrs_list PySem.F.slot_list_insert PySem.F.type_list_insert mt_insert0 (pe_var hN hv hd hcd) (pa_cons hz (pa_cons h pa_nil hs2) hs) hbase hfew hline hs hplain
  refine thn (W pins s σ (upd H a (.lst xs)) (fun v H4 => ∃ H3 y, v = .non ∧ H4 = upd H3 a (.lst (y :: xs)) ∧ Same (upd H a (.lst xs)) H3 ∧ Rep X.K H3 d y) (Inv.opened I (.l xs) g4)
   ⟨.ref a, g2, .inl ⟨rfl, _, SqL.of upd_same⟩, ρ, .int 0, env, q0, fun y0 H2 s2 r2 => ⟨ρ, d, env.mono s2, q2, fun y H3 s3 r3 => ?_⟩⟩) fun u s1 ⟨v, H4, I4, r, H3, y, e1, e2, s3, r3⟩ => ?_
  ·cases (show y0 = V.int 0 from r2)
   exact ⟨a, xs, y, rfl, rfl, s3 _ _ (s2 _ _ upd_same), by rw [hlen]; exact small_line hl, H3, y, rfl, rfl, s2.trans s3, r3⟩
  subst e1
  have e4 : H4 a = some (.lst (y :: xs)) := by rw [e2]; exact upd_same
  have sb : ∀ b u, b ≠ a → H b = some u → H4 b = some u := fun b u n q => by rw [e2, upd_ne n]; exact s3 b u (by rw [upd_ne n]; exact q)
  refine ⟨.non, upd H4 a (sealL a (y :: xs)), Inv.closed I4 (.l _) e4 (Inv.nofrz I g4), r, k _ (E.put (lkp_some q1) g2 g3 g4 sb ⟨y :: xs, upd_same, ?_⟩)⟩
  have s5 : SameE H (upd H4 a (sealL a (y :: xs))) := fun b u q m => by
   have : b ≠ a := fun z => by subst z; rw [g4] at q; cases q; exact m _ rfl
   rw [upd_ne this]; exact sb b u this q
  have s6 : SameN H3 (upd H4 a (sealL a (y :: xs))) := fun b u q m => by
   have e3 : H3 a = some (.lst xs) := s3 _ _ upd_same
   have : b ≠ a := fun z => by subst z; rw [e3] at q; cases q; exact m _ rfl
   rw [upd_ne this, e2, upd_ne this]; exact q
  exact ⟨y, xs, rfl, Rep.monoN s6 _ _ hn r3, Reps.monoE s5 _ _ g5⟩
end
end BX
end
section
namespace BX
open PySem PySem.Spec L2
open PyProof.Rows hiding St
section
variable {X : Cx} {e a b c tg src : Expr} {es : List Expr} {fa fb fc : Rho → Option PyData} {pos : Pos}
theorem Reps.set {K : PySem.W.Frag} {H : Hp} {d : PyData} {v : V} (r : Rep K H d v) : ∀ {ds : List PyData} {xs : List V} (j : Nat), Reps K H ds xs → Reps K H (ds.set j d) (xs.set j v)
 | [], xs, j, h => by cases (show xs = [] from h); exact rfl
 | _ :: ds, xs, 0, ⟨x, q, h1, h2, h3⟩ => by subst h1; exact ⟨v, q, rfl, r, h3⟩
 | _ :: ds, xs, j + 1, ⟨x, q, h1, h2, h3⟩ => by subst h1; exact ⟨x, _, rfl, h2, Reps.set r j h3⟩
noncomputable def dTupOf (ds : List PyData) : Option PyData := match ds with
 | [.list xs] => some (.tuple xs)
 | [.tuple xs] => some (.tuple xs)
 | _ => none
theorem cd_tupOf : CallD X (.type "tuple") dTupOf := by
 refine ⟨_, call_tuple_of, fun ds d xs H Q h r k => ?_⟩
 unfold dTupOf at h
 split at h
 ·cases h
  obtain ⟨x, q, e1, e2, e3⟩ := r
  cases (show q = [] from e3)
  obtain ⟨a, us, g1, g2, g3⟩ := e2
  subst g1
  refine ⟨a, us, e1, .inl ⟨SqL.of g2, fun l hl => ?_⟩⟩
  have s1 := same_upd (o := .tup us) hl
  exact k _ _ s1 ⟨l, us, rfl, SqT.of upd_same, Reps.mono s1 _ _ g3⟩
 ·cases h
  obtain ⟨x, q, e1, e2, e3⟩ := r
  cases (show q = [] from e3)
  obtain ⟨a, us, g1, g2, g3⟩ := e2
  subst g1
  exact ⟨a, us, e1, .inr ⟨g2, k _ H (Same.refl H) ⟨a, us, rfl, g2, g3⟩⟩⟩
 ·cases h
end
end BX
end
section
namespace BX
open PySem PySem.Spec L2
open PyProof.Rows hiding St
noncomputable def rSortG {α : Type} (K : PySem.W.Frag) (enc : α → PyData) (rk : α → Int) (ok : α → Prop) : List V → Hp → VK → Prop := fun vs H Q => ∃ a xs ps, vs = [.ref a] ∧ H a = some (.lst xs) ∧ Reps K H (ps.map enc) xs ∧ ps.length < 64 ∧ (∀ p ∈ ps, ok p) ∧
 ∀ qs : List α, qs.Perm ps → qs.Pairwise (fun a b => rk a ≤ rk b) → ∀ l ys, H l = none → Reps K H (qs.map enc) ys → Q (.ref l) (upd H l (.lst ys))
theorem call_sortG {X : Cx} {α : Type} (z0 : α) (enc : α → PyData) (rk : α → Int) (T : Value) (ok : α → Prop) (At : Heap → Value → α → Prop)
  (hat : ∀ {pins : List (Addr × Obj)} {σ : St} {H : Hp} {s : Shared} {v : V} {x : α} {u : Value} {h' : Heap}, Inv X pins σ H s → ok x → Rep X.K H (enc x) v → RelV v u → (∀ b o, b ≠ X.env.locals → s.heap.get? b = some o → h'.get? b = some o) → At h' u x)
  (hfirst : ∀ {h : Heap} {u : Value} {x : α}, ok x → At h u x → ∃ a o xs n f, u = .ref a ∧ h.get? a = some o ∧ o.cls = .type "tuple" ∧ o.data = .seq xs n ∧ xs[0]? = some f ∧ ∀ M, PySem.W.Looks M h (typeOf f) T)
  (hT : (T == T) = true)
  (hlt : ∀ {s : Shared} {u v : Value} {x y : α} {Q : Bool → Shared → Prop} {E : Value → Shared → Prop}, ok x → ok y → At s.heap u x → At s.heap v y → Q (decide (rk x < rk y)) s → wpAny (model X.prog X.w) X.A.in1.in1 (keyLt' (tuples' (T != Value.type "tuple")) u v) Q E s) :
  CallR X (.builtin "sorted") (rSortG X.K enc rk ok) := by
 intro pins s σ H vs us0 Q I r ⟨a, xs, ps, e, hl, hR, h64, hB, q⟩
 subst e
 obtain ⟨u, rfl, rx⟩ := vals1 r
 cases rx
 obtain ⟨us, rv, pl, hz⟩ := I.list (SqL.of (K := X.K) hl)
 have l1 := hR.length
 have l2 := rv.length
 rw [List.length_map] at l1
 by_cases h2 : us.length < 2
 ·refine sorted_few pl.isList h2 fun h' D c kp ho hD => ?_
  have hps : ps.Pairwise (fun a b => rk a ≤ rk b) := pairwise_few (by omega)
  refine ⟨.ref D, upd H D (.lst xs), I.laid (t' := s.toks) kp hD ⟨hz, us, c, rv, ho⟩, rfl, q ps (List.Perm.refl _) hps D xs (I.hok.fresh hD) hR⟩
 ·obtain ⟨m, F⟩ := I.fr
  have ge2 : 2 ≤ us.length := by omega
  have lt64 : us.length < 64 := by omega
  refine PySem.W.kat_sorted (h₀ := X.base) (L := X.env.locals) (m := m) (news := allNews X.base s.heap X.env.locals) (vs := us) (l := a) F news_all pl.isList ge2 lt64 ?_
  intro D e1 h' F' N' hlt'
  have nD := N' (D, seqObj "list" #[] e1) List.mem_cons_self
  have kpb : ∀ {h2 : Heap}, Fr X.base X.env.locals h2 m → (∀ p ∈ allNews X.base s.heap X.env.locals, h2.get? p.1 = some p.2) → ∀ b o, b ≠ X.env.locals → s.heap.get? b = some o → h2.get? b = some o := fun {h2} F2 N2 b o hb e => by
   cases e3 : X.base.get? b with
   | some u => have := F.keep b u e3; rw [e] at this; cases this; exact F2.keep b _ e3
   | none => exact N2 (b, o) (mem_allNews hb e3 e)
  have kp1 := kpb F' fun p hp => (N' p (List.mem_cons_of_mem _ hp)).1
  have freshD : s.heap.get? D = none := by
   cases e3 : s.heap.get? D with
   | none => rfl
   | some o => exact absurd (hlt' (D, o) (mem_allNews nD.2.1 nD.2.2 e3)) (Nat.lt_irrefl _)
  have pr : ∀ i (hi : i < ps.length), At h' (us.getD i Value.none) ps[i] := fun i hi => by
   obtain ⟨x, ex, er⟩ := hR.get (show (ps.map enc)[i]? = some (enc ps[i]) by simp [hi])
   obtain ⟨v, ev, rv2⟩ := rv.get ex
   rw [getD_some ev]
   exact hat I (hB _ (List.getElem_mem _)) er rv2 kp1
  have hu : us.length = ps.length := by omega
  have kt : ∃ fs : List Value, PySem.W.KatTups h' us fs ∧ fs.length = us.length ∧ ∀ v ∈ fs, ∀ M, PySem.W.Looks M h' (typeOf v) T := by
   have go : ∀ (n : Nat) (ws : List Value), us.drop n = ws → ∃ fs : List Value, PySem.W.KatTups h' ws fs ∧ fs.length = ws.length ∧ ∀ v ∈ fs, ∀ M, PySem.W.Looks M h' (typeOf v) T := by
    intro n ws
    induction ws generalizing n with
    | nil => intro _; exact ⟨[], trivial, rfl, fun v hv => nomatch hv⟩
    | cons w ws ih =>
     intro hd
     have hn : us[n]? = some w := by
      have : (us.drop n)[0]? = some w := by rw [hd]; rfl
      simpa using this
     have hd' : us.drop (n + 1) = ws := by
      have : (us.drop n).drop 1 = ws := by rw [hd]; rfl
      simpa [List.drop_drop, Nat.add_comm] using this
     obtain ⟨fs, t1, t2, t3⟩ := ih (n + 1) hd'
     have hlt2 : n < ps.length := by
      have := (List.getElem?_eq_some_iff.mp hn).1
      omega
     obtain ⟨a2, o, ys, k, f, e1, e2, e3, e4, e5, e6⟩ := hfirst (hB _ (List.getElem_mem _)) (pr n hlt2)
     rw [getD_some hn] at e1
     subst e1
     refine ⟨f :: fs, PySem.W.KatTups.cons e2 e3 e4 e5 t1, by simp [t2], fun v hv => ?_⟩
     rcases List.mem_cons.mp hv with rfl | hv
     ·exact e6
     ·exact t3 v hv
   exact go 0 us rfl
  obtain ⟨fs, t1, t2, t3⟩ := kt
  refine PySem.W.kat_kind (s := { s with heap := h' }) (T := T) t1 (by omega) (fun v hv => t3 v hv _) hT ?_
  show (PySem.W.kas_sort us.length).kasWp (PySem.W.kas_ask X.prog X.w X.A.in1.in1 (tuples' (T != Value.type "tuple")) us) _ { s with heap := h' }
  refine Srt.sort_ok (rk := fun i => rk (ps.getD i z0)) (n := us.length) (s := { s with heap := h' }) (fun i j C hi hj hC => ?_) (by omega) fun p hp hs => ?_
  ·have g1 : ps.getD i z0 = ps[i]'(by omega) := getD_some (List.getElem?_eq_getElem _)
   have g2 : ps.getD j z0 = ps[j]'(by omega) := getD_some (List.getElem?_eq_getElem _)
   simp only [g1, g2] at hC
   exact hlt (s := { s with heap := h' }) (hB _ (List.getElem_mem _)) (hB _ (List.getElem_mem _)) (pr i (by omega)) (pr j (by omega)) hC
  ·have mem : ∀ i ∈ p.toList, i < us.length := fun i hi => by
    have : i ∈ (List.range us.length).toArray := hp.mem_iff.mp (by simpa using hi)
    simpa using this
   have permN : p.toList.Perm (List.range us.length) := by simpa using hp.toList
   refine PySem.W.KasFin.intro (news := (D, seqObj "list" #[] e1) :: allNews X.base s.heap X.env.locals) (g := fun o' => (D, o') :: allNews X.base s.heap X.env.locals) F' N' (.head fun z hz => Nat.ne_of_lt (hlt' z hz)) fun h2 c F2 N2 => ?_
   have kp2 := kpb F2 fun z hz => (N2 z (List.mem_cons_of_mem _ hz)).1
   have hD2 := (N2 (D, PySem.W.listOf (List.toArray (p.toList.map fun i => us.getD i Value.none)) c) List.mem_cons_self).1
   have hln : (p.toList.map fun i => xs.getD i V.non).length ≤ sizeLine := by
    rw [List.length_map, permN.length_eq, List.length_range, sizeLine_eq]; omega
   have I2 := Inv.grownL (ys := p.toList.map fun i => xs.getD i V.non) I F.ns F2.ns kp2 freshD hD2 (vals_perm rv _ mem) hln
   have nH : H D = none := by
    cases e3 : H D with
    | none => rfl
    | some o => obtain ⟨u, z⟩ := ObjOk.there (I.hok D o e3); rw [freshD] at z; cases z
   have eqs : (p.toList.map fun i => (ps.map enc).getD i PyData.none) = (p.toList.map fun i => ps.getD i z0).map enc := by
    rw [List.map_map]
    refine List.map_congr_left fun i hi => ?_
    have hi' := mem i hi
    have g1 : ps.getD i z0 = ps[i]'(by omega) := getD_some (List.getElem?_eq_getElem _)
    show (ps.map enc).getD i PyData.none = enc (ps.getD i z0)
    rw [g1]
    refine getD_some ?_
    rw [List.getElem?_map, List.getElem?_eq_getElem (show i < ps.length by omega)]
    rfl
   have rp := reps_perm hR p.toList fun i hi => by rw [List.length_map]; have := mem i hi; omega
   rw [eqs] at rp
   refine ⟨.ref D, _, I2, rfl, q _ ?_ ?_ D _ nH rp⟩
   ·have e5 : (List.range us.length).map (fun i => ps.getD i z0) = ps := by
     apply List.ext_getElem?
     intro i
     rw [List.getElem?_map]
     by_cases hi : i < us.length
     ·rw [List.getElem?_range hi, List.getElem?_eq_getElem (show i < ps.length by omega)]
      show some (ps.getD i z0) = _
      rw [getD_some (List.getElem?_eq_getElem (show i < ps.length by omega))]
     ·rw [List.getElem?_eq_none_iff.mpr (show (List.range us.length).length ≤ i by rw [List.length_range]; omega), List.getElem?_eq_none_iff.mpr (show ps.length ≤ i by omega)]
      rfl
    have := permN.map (fun i => ps.getD i z0)
    rw [e5] at this
    exact this
   ·rw [List.pairwise_map]
    rw [List.pairwise_iff_getElem]
    intro i j hi hj hij
    have hps : p.size = us.length := hp.size
    have hi' : i < p.size := by simpa using hi
    have hj' : j < p.size := by simpa using hj
    have := hs i j (Nat.le_of_lt hij) (by omega)
    simp only [Srt.val] at this
    have g1 : p.getD i 0 = p.toList[i] := by simp [Array.getD, hi']
    have g2 : p.getD j 0 = p.toList[j] := by simp [Array.getD, hj']
    rw [g1, g2] at this
    exact this
noncomputable abbrev Tri3 := Int × (Int × Int)
structure TripAt (h : Heap) (u : Value) (t : Tri3) : Prop where
 ex : ∃ a o k tk a2, u = .ref a ∧ h.get? a = some o ∧ o.cls = .type "tuple" ∧ o.data = .seq #[.int t.1 tk, .ref a2] k ∧ PairAt h (.ref a2) t.2
theorem pair_reads {h : Heap} {a : Addr} {p : Int × Int} (x : PairAt h (.ref a) p) : Reads h (.ref a) (pairD p) [] := by
 obtain ⟨b, o, k, t, t', e1, e2, e3, e4⟩ := x.ex
 cases e1
 exact .tuple e2 e3 e4 (.cons (.int _ t) (.cons (.int _ t') .nil))
theorem pair_istup {h : Heap} {a : Addr} {p : Int × Int} (x : PairAt h (.ref a) p) : ∃ t t', IsTup h a #[.int p.1 t, .int p.2 t'] := by
 obtain ⟨b, o, k, t, t', e1, e2, e3, e4⟩ := x.ex
 cases e1
 exact ⟨t, t', o, e2, e3, k, e4⟩
theorem eqv_pair (p q : Int × Int) : PyData.eqv (pairD p) (pairD q) = decide (p.1 = q.1 ∧ p.2 = q.2) := by
 simp only [pairD, PyData.eqv, PyData.eqvAll, Bool.and_true]
 rw [Bool.decide_and, Bool.beq_eq_decide_eq, Bool.beq_eq_decide_eq]
section
variable {X : Cx}
theorem notloc {pins : List (Addr × Obj)} {σ : St} {H : Hp} {s : Shared} {a : Addr} {o : Obj} {xs : Array Value} {k : Nat} (I : Inv X pins σ H s) (eo : s.heap.get? a = some o) (dk : o.data = .seq xs k) : a ≠ X.env.locals := fun z => by
 obtain ⟨_, ⟨o', es, ep, h1, h2, _⟩, _⟩ := I.loc
 rw [z] at eo; rw [eo] at h1; cases h1
 rw [dk] at h2; cases h2
theorem pair_at {pins : List (Addr × Obj)} {σ : St} {H : Hp} {s : Shared} {v : V} {p : Int × Int} {u : Value} {h' : Heap} (I : Inv X pins σ H s) (r : Rep X.K H (pairD p) v) (rv : RelV v u) (kp : ∀ b o, b ≠ X.env.locals → s.heap.get? b = some o → h'.get? b = some o) : ∃ a, u = .ref a ∧ PairAt h' u p := by
 obtain ⟨a2, ws, e2, e3, x1, r1, e4, e5, x2, r2, e6, e7, e8⟩ := r
 cases (show x1 = _ from e5)
 cases (show x2 = _ from e7)
 cases (show r2 = [] from e8)
 subst e6; subst e4; subst e2
 cases rv
 obtain ⟨its, r3, ⟨o, eo, co, k, dk⟩, _⟩ := I.tuple e3
 cases r3 with
 | cons y1 r3 =>
  cases r3 with
  | cons y2 r3 =>
   cases r3
   obtain ⟨t, rfl⟩ := y1
   obtain ⟨t', rfl⟩ := y2
   exact ⟨a2, rfl, a2, o, k, t, t', rfl, kp a2 o (notloc I eo dk) eo, co, by simpa using dk⟩
end
section
variable {α : Type}
noncomputable def insG (rk : α → Int) (p : α) : List α → List α
 | [] => [p]
 | q :: r => if rk p ≤ rk q then p :: q :: r else q :: insG rk p r
noncomputable def sortG (rk : α → Int) : List α → List α
 | [] => []
 | p :: r => insG rk p (sortG rk r)
theorem insG_perm (rk : α → Int) (p : α) : ∀ l, (insG rk p l).Perm (p :: l)
 | [] => List.Perm.refl _
 | q :: r => by
  unfold insG
  split
  ·exact List.Perm.refl _
  ·exact ((insG_perm rk p r).cons q).trans (List.Perm.swap p q r)
theorem sortG_perm (rk : α → Int) : ∀ l, (sortG rk l).Perm l
 | [] => List.Perm.refl _
 | p :: r => (insG_perm rk p _).trans ((sortG_perm rk r).cons p)
theorem insG_sorted (rk : α → Int) (p : α) : ∀ l, l.Pairwise (fun a b => rk a ≤ rk b) → (insG rk p l).Pairwise (fun a b => rk a ≤ rk b)
 | [], _ => List.pairwise_singleton _ _
 | q :: r, h => by
  have hq := List.pairwise_cons.mp h
  unfold insG
  split
  ·rename_i hle
   refine List.pairwise_cons.mpr ⟨fun b hb => ?_, h⟩
   rcases List.mem_cons.mp hb with rfl | hb
   ·exact hle
   ·exact Int.le_trans hle (hq.1 b hb)
  ·rename_i hle
   refine List.pairwise_cons.mpr ⟨fun b hb => ?_, insG_sorted rk p r hq.2⟩
   rcases List.mem_cons.mp ((insG_perm rk p r).mem_iff.mp hb) with rfl | hb
   ·omega
   ·exact hq.1 b hb
theorem sortG_sorted (rk : α → Int) : ∀ l, (sortG rk l).Pairwise (fun a b => rk a ≤ rk b)
 | [] => .nil
 | p :: r => insG_sorted rk p _ (sortG_sorted rk r)
theorem sorted_uniq {rk : α → Int} : ∀ {l l' : List α}, l.Pairwise (fun a b => rk a ≤ rk b) → l'.Pairwise (fun a b => rk a ≤ rk b) → l.Perm l' → (∀ p ∈ l, ∀ q ∈ l, rk p = rk q → p = q) → l = l'
 | [], l', _, _, hp, _ => hp.nil_eq
 | a :: l, [], _, _, hp, _ => by have := hp.length_eq; simp at this
 | a :: l, b :: l', h1, h2, hp, hb => by
  have h1' := List.pairwise_cons.mp h1
  have h2' := List.pairwise_cons.mp h2
  have hab : a = b := by
   have ha : a ∈ b :: l' := hp.mem_iff.mp List.mem_cons_self
   have hb' : b ∈ a :: l := hp.mem_iff.mpr List.mem_cons_self
   rcases List.mem_cons.mp ha with e | ha'
   ·exact e
   ·rcases List.mem_cons.mp hb' with e | hb''
    ·exact e.symm
    ·exact hb a List.mem_cons_self b hb' (Int.le_antisymm (h1'.1 b hb'') (h2'.1 a ha'))
  subst hab
  rw [sorted_uniq h1'.2 h2'.2 (List.Perm.cons_inv hp) fun p hp q hq => hb p (List.mem_cons_of_mem _ hp) q (List.mem_cons_of_mem _ hq)]
end
end BX
end
section
namespace BX
open PySem PySem.Spec L2
open PyProof.Rows hiding St
section
variable {X : Cx} {e a b c : Expr} {es rest : List Expr} {fa fb : Rho → Option PyData} {pos : Pos}
noncomputable def items : PyData → Option (List PyData)
 | .list ds => some ds
 | .tuple ds => some ds
 | _ => none
noncomputable def itS (fa : Rho → Option PyData) : Rho → Option (List PyData) := fun ρ => (fa ρ).bind items
theorem pid_seq {tg : Expr} (h : PD X e fa) : PID X tg e (itS fa) := by
 with_unfolding_all
  intro pins s σ H R I ⟨ρ, ds, en, q, k⟩
  cases hf : fa ρ with
  | none => simp [itS, hf] at q
  | some d =>
   have q' : items d = some ds := by simpa [itS, hf] using q
   cases d with
   | list es =>
    cases q'
    exact pid_list (tg := tg) h pins s σ H R I ⟨ρ, ds, en, by simp [itL, hf, itemsL], k⟩
   | tuple es =>
    cases q'
    exact pid_tup (tg := tg) h pins s σ H R I ⟨ρ, ds, en, by simp [itT, hf, itemsT], k⟩
   | _ => cases q'
end
theorem _root_.L2.Room.sort {k : Nat} {A : Around} (r : Room k A) : A.in1.in1.units + 8 < cLine := by
 have := r.un
 show A.units + 1 + 1 + 8 < cLine
 omega
theorem _root_.L2.Room.units1 {k : Nat} {A : Around} (r : Room k A) : A.units + 1 < cLine := by have := r.un; omega
end BX
end
section
namespace BX
open PySem PySem.Spec L2
open PyProof.Rows hiding St
noncomputable def dIntOf (ds : List PyData) : Option PyData := match ds with
 | [.int i] => some (.int i)
 | [.bool k] => some (.int (if k = true then 1 else 0))
 | _ => none
theorem cd_intOf {X : Cx} : CallD X (.type "int") dIntOf := by
 refine ⟨_, call_int1, fun ds d xs H Q h r k => ?_⟩
 unfold dIntOf at h
 split at h
 ·cases h
  obtain ⟨x, q, e1, e2, e3⟩ := r
  cases (show q = [] from e3)
  rename_i i
  cases (show x = V.int i from e2)
  exact .inl ⟨_, e1, k _ _ (Same.refl _) rfl⟩
 ·cases h
  obtain ⟨x, q, e1, e2, e3⟩ := r
  cases (show q = [] from e3)
  rename_i b
  cases (show x = V.bl b from e2)
  exact .inr ⟨_, e1, k _ _ (Same.refl _) rfl⟩
 ·cases h
end BX
end
section
namespace BX
open PySem PySem.Spec L2
open PyProof.Rows hiding St
noncomputable def settD (ps : List (Int × Int)) : PyData := .tuple (ps.map pairD)
noncomputable def rankS : List (Int × Int) → Int
 | [] => 0
 | p :: r => (p.1 * 1000 + p.2) * (1000000 : Int) ^ r.length + rankS r
noncomputable def inP (p : Int × Int) : Bool := decide (0 ≤ p.1) && decide (p.1 < 1000) && decide (0 ≤ p.2) && decide (p.2 < 1000)
noncomputable def inS (n : Nat) (ps : List (Int × Int)) : Bool := decide (ps.length = n) && decide (1 ≤ n) && ps.all inP
theorem pow_pos' (k : Nat) : (0 : Int) < (1000000 : Int) ^ k := by
 induction k with
 | zero => decide
 | succ k ih => rw [Int.pow_succ]; omega
theorem inP_out {p : Int × Int} (h : inP p = true) : 0 ≤ p.1 ∧ p.1 < 1000 ∧ 0 ≤ p.2 ∧ p.2 < 1000 := by
 simp only [inP, Bool.and_eq_true, decide_eq_true_eq] at h; omega
theorem rankS_bd : ∀ (ps : List (Int × Int)), ps.all inP = true → 0 ≤ rankS ps ∧ rankS ps < (1000000 : Int) ^ ps.length
 | [], _ => by simp [rankS]
 | p :: r, h => by
  rw [List.all_cons, Bool.and_eq_true] at h
  obtain ⟨a1, a2, a3, a4⟩ := inP_out h.1
  obtain ⟨b1, b2⟩ := rankS_bd r h.2
  have hp := pow_pos' r.length
  have hm : 0 ≤ p.1 * 1000 + p.2 ∧ p.1 * 1000 + p.2 ≤ 999999 := by omega
  simp only [rankS, List.length_cons, Int.pow_succ]
  generalize p.1 * 1000 + p.2 = m at *
  generalize (1000000 : Int) ^ r.length = P at *
  have h1 : 0 ≤ m * P := Int.mul_nonneg hm.1 (by omega)
  have h2 : m * P ≤ 999999 * P := Int.mul_le_mul_of_nonneg_right hm.2 (by omega)
  omega
theorem mul_lt_of {m m' P x y : Int} (hP : 0 < P) (hx : 0 ≤ x ∧ x < P) (hy : 0 ≤ y ∧ y < P) : (m * P + x < m' * P + y) ↔ (m < m' ∨ (m = m' ∧ x < y)) := by
 rcases Int.lt_trichotomy m m' with h | h | h
 ·have : (m + 1) * P ≤ m' * P := Int.mul_le_mul_of_nonneg_right (by omega) (by omega)
  rw [Int.add_mul] at this
  constructor
  ·intro _; exact .inl h
  ·intro _; omega
 ·subst h
  constructor
  ·intro q; exact .inr ⟨rfl, by omega⟩
  ·intro q; omega
 ·have : (m' + 1) * P ≤ m * P := Int.mul_le_mul_of_nonneg_right (by omega) (by omega)
  rw [Int.add_mul] at this
  constructor
  ·intro q; omega
  ·intro q; omega
theorem rankS_lt {p q : Int × Int} {r r' : List (Int × Int)} (hl : r.length = r'.length) (hp : inP p = true) (hq : inP q = true) (hr : r.all inP = true) (hr' : r'.all inP = true) :
  (rankS (p :: r) < rankS (q :: r')) ↔ ((p.1 < q.1 ∨ (p.1 = q.1 ∧ p.2 < q.2)) ∨ ((p.1 = q.1 ∧ p.2 = q.2) ∧ rankS r < rankS r')) := by
 obtain ⟨a1, a2, a3, a4⟩ := inP_out hp
 obtain ⟨c1, c2, c3, c4⟩ := inP_out hq
 have b := rankS_bd r hr
 have b' := rankS_bd r' hr'
 rw [← hl] at b'
 simp only [rankS]
 rw [← hl, mul_lt_of (pow_pos' r.length) b b']
 constructor
 ·rintro (h | ⟨h, k⟩)
  ·left; omega
  ·right; exact ⟨by omega, k⟩
 ·rintro (h | ⟨h, k⟩)
  ·left; omega
  ·right; exact ⟨by omega, k⟩
theorem rankS_inj : ∀ {r r' : List (Int × Int)}, r.length = r'.length → r.all inP = true → r'.all inP = true → rankS r = rankS r' → r = r'
 | [], [], _, _, _, _ => rfl
 | [], _ :: _, h, _, _, _ => by simp at h
 | _ :: _, [], h, _, _, _ => by simp at h
 | p :: r, q :: r', h, h1, h2, e => by
  rw [List.all_cons, Bool.and_eq_true] at h1 h2
  have hl : r.length = r'.length := by simpa using h
  have l1 := rankS_lt hl h1.1 h2.1 h1.2 h2.2
  have l2 := rankS_lt hl.symm h2.1 h1.1 h2.2 h1.2
  have n1 : ¬ rankS (p :: r) < rankS (q :: r') := by omega
  have n2 : ¬ rankS (q :: r') < rankS (p :: r) := by omega
  rw [l1] at n1
  rw [l2] at n2
  have e1 : p.1 = q.1 ∧ p.2 = q.2 := by omega
  have e2 : rankS r = rankS r' := by omega
  obtain ⟨p1, p2⟩ := p
  obtain ⟨q1, q2⟩ := q
  simp only at e1
  rw [e1.1, e1.2, rankS_inj hl h1.2 h2.2 e2]
noncomputable def PairsAt (h : Heap) : List Value → List (Int × Int) → Prop
 | [], ps => ps = []
 | v :: vs, ps => ∃ p r a, ps = p :: r ∧ v = .ref a ∧ PairAt h (.ref a) p ∧ PairsAt h vs r
theorem PairsAt.len {h : Heap} : ∀ {vs : List Value} {ps : List (Int × Int)}, PairsAt h vs ps → vs.length = ps.length
 | [], ps, e => by cases (show ps = [] from e); rfl
 | v :: vs, ps, ⟨p, r, a, e, _, _, k⟩ => by rw [e, List.length_cons, List.length_cons, k.len]
structure SetAt (h : Heap) (u : Value) (ps : List (Int × Int)) : Prop where
 ex : ∃ a o k vs, u = .ref a ∧ h.get? a = some o ∧ o.cls = .type "tuple" ∧ o.data = .seq (List.toArray vs) k ∧ PairsAt h vs ps
theorem kat_sets {X : Cx} (hu : X.A.in1.in1.units + 8 < cLine) {s : Shared} {Q : Bool → Shared → Prop} : ∀ (us vs : List Value) (ps qs : List (Int × Int)) (i : Nat), PairsAt s.heap us ps → PairsAt s.heap vs qs → ps.length = qs.length → ps.all inP = true → qs.all inP = true → Q (decide (rankS ps < rankS qs)) s →
  PySem.W.KatLex X.prog X.w X.A.in1.in1 false false Q (us.zip vs) i s
 | [], vs, ps, qs, i, a, b, hl, _, _, h => by
  cases (show ps = [] from a)
  cases qs with
  | nil => exact PySem.W.kat_nil (by simpa [rankS] using h)
  | cons q qs => simp at hl
 | u :: us, [], ps, qs, i, a, b, hl, _, _, h => by
  cases (show qs = [] from b)
  obtain ⟨p, r, _, rfl, _⟩ := a
  simp at hl
 | u :: us, v :: vs, ps, qs, i, a, b, hl, h1, h2, h => by
  obtain ⟨p, r, a2, rfl, rfl, pa, ra⟩ := a
  obtain ⟨q, r', b2, rfl, rfl, pb, rb⟩ := b
  rw [List.all_cons, Bool.and_eq_true] at h1 h2
  have hl' : r.length = r'.length := by simpa using hl
  have hr := rankS_lt hl' h1.1 h2.1 h1.2 h2.2
  show PySem.W.KatLex X.prog X.w X.A.in1.in1 false false Q ((.ref a2, .ref b2) :: us.zip vs) i s
  refine PySem.W.kat_cons (SeqAt.eqAt_reads (pairD p) (pairD q) _ s _ _ [] [] (pair_reads pa) (pair_reads pb) rfl rfl ?_ X.prog X.w _ _ ?_)
  ·have : (pairD p).depth = 2 ∨ (pairD p).depth ≤ 8 := .inr (by simp [pairD, PyData.depth, PyData.depthAll])
   omega
  rw [eqv_pair]
  by_cases e2 : p.1 = q.1 ∧ p.2 = q.2
  ·rw [decide_eq_true e2]
   refine PySem.W.kat_yes (kat_sets hu us vs r r' (i + 1) ra rb hl' h1.2 h2.2 ?_)
   have : decide (rankS (p :: r) < rankS (q :: r')) = decide (rankS r < rankS r') := by
    apply decide_eq_decide.mpr
    rw [hr]
    constructor
    ·rintro (z | ⟨_, z⟩)
     ·omega
     ·exact z
    ·exact fun z => .inr ⟨e2, z⟩
   rw [← this]; exact h
  ·rw [decide_eq_false e2]
   obtain ⟨t1, t2, i1⟩ := pair_istup pa
   obtain ⟨t3, t4, i2⟩ := pair_istup pb
   refine PySem.W.kat_no ?_
   rw [Bool.false_and]
   refine PySem.W.kat_one _ _ (HT.lt_tupInts (ns := [p.1, p.2]) (ms := [q.1, q.2]) i1 i2 (.cons _ t1 (.cons _ t2 .nil)) (.cons _ t3 (.cons _ t4 .nil)) (by omega) ?_)
   show Q (HT.lexLt [p.1, p.2] [q.1, q.2]) s
   have : HT.lexLt [p.1, p.2] [q.1, q.2] = decide (rankS (p :: r) < rankS (q :: r')) := by
    rw [HT.lexLt_cons, HT.lexLt_cons, HT.lexLt_nil_nil]
    by_cases c1 : p.1 = q.1
    ·rw [if_pos c1, if_neg (fun z => e2 ⟨c1, z⟩)]
     apply decide_eq_decide.mpr
     rw [hr]
     constructor
     ·exact fun z => .inl (.inr ⟨c1, z⟩)
     ·rintro (z | ⟨z, _⟩)
      ·omega
      ·exact absurd z e2
    ·rw [if_neg c1]
     apply decide_eq_decide.mpr
     rw [hr]
     constructor
     ·exact fun z => .inl (.inl z)
     ·rintro (z | ⟨z, _⟩)
      ·omega
      ·exact absurd z e2
   rw [this]; exact h
theorem set_lt {X : Cx} (hu : X.A.in1.in1.units + 8 < cLine) {n : Nat} {s : Shared} {u v : Value} {p q : List (Int × Int)} {Q : Bool → Shared → Prop} {E : Value → Shared → Prop} (hp : inS n p = true) (hq : inS n q = true) (xu : SetAt s.heap u p) (xv : SetAt s.heap v q)
  (h : Q (decide (rankS p < rankS q)) s) : wpAny (model X.prog X.w) X.A.in1.in1 (keyLt' (tuples' (Value.type "tuple" != Value.type "tuple")) u v) Q E s := by
 obtain ⟨a, oa, ka, us, rfl, ea, _, da, pa⟩ := xu.ex
 obtain ⟨b, ob, kb, vs, rfl, eb, _, db, pb⟩ := xv.ex
 simp only [inS, Bool.and_eq_true, decide_eq_true_eq] at hp hq
 have hT : (Value.type "tuple" != Value.type "tuple") = false := by decide
 rw [hT]
 refine PySem.W.kat_lt ea da eb db ?_
 have hz : decide ((List.toArray us).size < (List.toArray vs).size) = false := by
  rw [List.size_toArray, List.size_toArray, pa.len, pb.len]
  exact decide_eq_false (by omega)
 rw [hz]
 exact kat_sets hu us vs p q 0 pa pb (by omega) hp.2 hq.2 h
section
variable {X : Cx}
theorem pairs_at {pins : List (Addr × Obj)} {σ : St} {H : Hp} {s : Shared} {h' : Heap} (I : Inv X pins σ H s) (kp : ∀ b o, b ≠ X.env.locals → s.heap.get? b = some o → h'.get? b = some o) : ∀ (ps : List (Int × Int)) (xs : List V) (us : List Value), Reps X.K H (ps.map pairD) xs → Vals xs us → PairsAt h' us ps
 | [], xs, us, r, v => by
  cases (show xs = [] from r)
  cases v
  rfl
 | p :: ps, xs, us, r, v => by
  obtain ⟨x, q, rfl, e2, e3⟩ := r
  cases v with
  | cons y v =>
   obtain ⟨a, rfl, pp⟩ := pair_at I e2 y kp
   exact ⟨p, ps, a, rfl, rfl, pp, pairs_at I kp ps _ _ e3 v⟩
theorem set_at {pins : List (Addr × Obj)} {σ : St} {H : Hp} {s : Shared} {v : V} {p : List (Int × Int)} {u : Value} {h' : Heap} (I : Inv X pins σ H s) (r : Rep X.K H (settD p) v) (rv : RelV v u) (kp : ∀ b o, b ≠ X.env.locals → s.heap.get? b = some o → h'.get? b = some o) : SetAt h' u p := by
 obtain ⟨a2, ws, e2, e3, e4⟩ := r
 subst e2
 cases rv
 obtain ⟨its, r3, ⟨o, eo, co, k, dk⟩, _⟩ := I.tuple e3
 exact ⟨a2, o, k, its, rfl, kp a2 o (notloc I eo dk) eo, co, dk, pairs_at I kp p ws its e4 r3⟩
theorem call_sortS (hu : X.A.in1.in1.units + 8 < cLine) (n : Nat) : CallR X (.builtin "sorted") (rSortG X.K settD rankS (fun t => inS n t = true)) :=
 call_sortG [] settD rankS (.type "tuple") _ SetAt (fun I _ r rv kp => set_at I r rv kp) (fun {h u x} hx sx => by
  obtain ⟨a, o, k, vs, e1, e2, e3, e4, pa⟩ := sx.ex
  simp only [inS, Bool.and_eq_true, decide_eq_true_eq] at hx
  cases vs with
  | nil =>
   cases (show x = [] from pa)
   simp at hx
   omega
  | cons v vs =>
   obtain ⟨p, r, b, rfl, rfl, pp, _⟩ := pa
   obtain ⟨b', ob, k', t, t', f1, f2, f3, f4⟩ := pp.ex
   cases f1
   exact ⟨a, o, _, k, .ref b, e1, e2, e3, e4, rfl, fun M A Q E s kp q => wpAny_typeOf (⟨ob, kp _ _ f2, f3⟩ : s.TypeIs (.ref b) "tuple") q⟩) rfl fun hx hy xu xv h => set_lt hu hx hy xu xv h
end
noncomputable def pairOf2 : PyData → Option (Int × Int)
 | .tuple [.int p, .int q] => some (p, q)
 | _ => none
noncomputable def pairsOf2 : List PyData → Option (List (Int × Int))
 | [] => some []
 | d :: ds => (pairOf2 d).bind fun t => (pairsOf2 ds).map fun ts => t :: ts
theorem pairsOf2_map : ∀ {ds : List PyData} {ts : List (Int × Int)}, pairsOf2 ds = some ts → ds = ts.map pairD
 | [], ts, h => by cases h; rfl
 | d :: ds, ts, h => by
  cases h1 : pairOf2 d with
  | none => simp [pairsOf2, h1] at h
  | some t =>
   cases h2 : pairsOf2 ds with
   | none => simp [pairsOf2, h1, h2] at h
   | some r =>
    have : t :: r = ts := by simpa [pairsOf2, h1, h2] using h
    subst this
    have hd : d = pairD t := by
     unfold pairOf2 at h1
     split at h1
     ·cases h1; rfl
     ·cases h1
    rw [hd, pairsOf2_map h2]; rfl
theorem pairsOf2_of : ∀ (ts : List (Int × Int)), pairsOf2 (ts.map pairD) = some ts
 | [] => rfl
 | t :: ts => by
  show (some t).bind (fun t => (pairsOf2 (ts.map pairD)).map fun ts => t :: ts) = _
  rw [pairsOf2_of ts]; rfl
noncomputable def settOf : PyData → Option (List (Int × Int))
 | .tuple ds => pairsOf2 ds
 | _ => none
noncomputable def settsD : List PyData → Option (List (List (Int × Int)))
 | [] => some []
 | d :: ds => (settOf d).bind fun t => (settsD ds).map fun ts => t :: ts
theorem settsD_map : ∀ {ds : List PyData} {ts : List (List (Int × Int))}, settsD ds = some ts → ds = ts.map settD
 | [], ts, h => by cases h; rfl
 | d :: ds, ts, h => by
  cases h1 : settOf d with
  | none => simp [settsD, h1] at h
  | some t =>
   cases h2 : settsD ds with
   | none => simp [settsD, h1, h2] at h
   | some r =>
    have : t :: r = ts := by simpa [settsD, h1, h2] using h
    subst this
    have hd : d = settD t := by
     unfold settOf at h1
     split at h1
     ·rw [pairsOf2_map h1]; rfl
     ·cases h1
    rw [hd, settsD_map h2]; rfl
theorem settsD_of : ∀ (ts : List (List (Int × Int))), settsD (ts.map settD) = some ts
 | [] => rfl
 | t :: ts => by
  show (pairsOf2 (t.map pairD)).bind (fun t => (settsD (ts.map settD)).map fun ts => t :: ts) = _
  rw [pairsOf2_of t, settsD_of ts]; rfl
noncomputable def okSS (ss : List (List (Int × Int))) : Bool := decide (ss.length < 64) && ss.all (inS ((ss.head?.getD []).length))
noncomputable def dSortS (ds : List PyData) : Option PyData := match ds with
 | [.list xs] => (settsD xs).bind fun ts => if okSS ts = true then some (.list ((sortG rankS ts).map settD)) else none
 | _ => none
theorem cd_sortS {X : Cx} (hu : X.A.in1.in1.units + 8 < cLine) : CallD X (.builtin "sorted") dSortS := by
 refine ⟨fun vs H Q => ∃ n, rSortG X.K settD rankS (fun t => inS n t = true) vs H Q, fun pins s σ H vs us Q I r ⟨n, h⟩ => call_sortS hu n pins s σ H vs us Q I r h, fun ds d xs H Q h r k => ?_⟩
 unfold dSortS at h
 split at h
 ·rename_i ys
  cases hp : settsD ys with
  | none => simp [hp] at h
  | some ps =>
   by_cases hc : okSS ps = true
   ·have : PyData.list ((sortG rankS ps).map settD) = d := by simpa [hp, hc] using h
    subst this
    obtain ⟨x, q, e1, e2, e3⟩ := r
    cases (show q = [] from e3)
    obtain ⟨a, us, g1, g2, g3⟩ := e2
    subst g1
    rw [settsD_map hp] at g3
    simp only [okSS, Bool.and_eq_true, decide_eq_true_eq, List.all_eq_true] at hc
    refine ⟨_, a, us, ps, e1, g2, g3, hc.1, hc.2, fun qs p1 p2 l zs hl hz => ?_⟩
    have : qs = sortG rankS ps := sorted_uniq p2 (sortG_sorted rankS ps) (p1.trans (sortG_perm rankS ps).symm) fun p hp q hq e => by
     have i1 := hc.2 p (p1.mem_iff.mp hp)
     have i2 := hc.2 q (p1.mem_iff.mp hq)
     simp only [inS, Bool.and_eq_true, decide_eq_true_eq] at i1 i2
     exact rankS_inj (by omega) i1.2 i2.2 e
    subst this
    exact k _ _ (same_upd hl) ⟨l, zs, rfl, upd_same, Reps.mono (same_upd hl) _ _ hz⟩
   ·simp [hp, hc] at h
 ·cases h
end BX
end
section
namespace Rods
open PySem L2 BX
open PyProof.Rows hiding St
noncomputable def top (i : Nat) : Stmt := PySem.Challenge.pw_beadrods_k12_whole_settings.main.body.getD i (.Pass ⟨0, 0, 0, 0⟩)
structure Bare (mg : Str → Option Value) : Prop where
 isi : mg "isinstance" = none
 bool : mg "bool" = none
 int : mg "int" = none
 tuple : mg "tuple" = none
 zip : mg "zip" = none
 range : mg "range" = none
 all : mg "all" = none
 len : mg "len" = none
 max : mg "max" = none
 min : mg "min" = none
 sum : mg "sum" = none
 sorted : mg "sorted" = none
 abs : mg "abs" = none
 list : mg "list" = none
 enum : mg "enumerate" = none
 vale : mg "ValueError" = none
 str : mg "str" = none
 set : mg "set" = none
 dict : mg "dict" = none
theorem bt_bool : bootBuiltins "bool" = some (.type "bool") := by decide +kernel
theorem bt_int : bootBuiltins "int" = some (.type "int") := by decide +kernel
theorem bt_tuple : bootBuiltins "tuple" = some (.type "tuple") := by decide +kernel
theorem bt_all : bootBuiltins "all" = some (.builtin "all") := by decide +kernel
theorem bt_len : bootBuiltins "len" = some (.builtin "len") := by decide +kernel
theorem bt_max : bootBuiltins "max" = some (.builtin "max") := by decide +kernel
theorem bt_min : bootBuiltins "min" = some (.builtin "min") := by decide +kernel
theorem bt_sum : bootBuiltins "sum" = some (.builtin "sum") := by decide +kernel
theorem bt_sorted : bootBuiltins "sorted" = some (.builtin "sorted") := by decide +kernel
end Rods
namespace Rods
open PySem L2 BX
open PyProof.Rows hiding St
noncomputable abbrev sIsWhole : Stmt := top 7
noncomputable abbrev sRodWorth : Stmt := top 16
noncomputable abbrev sAllRods : Stmt := top 15
noncomputable abbrev sBeads : Stmt := top 20
noncomputable abbrev Body (C : Program → World → PySem.W.Frag → (Str → Option Value) → Heap → Prop) (qual : Str) (st : Stmt) (N : List Str) (k : Nat) (B : Rho → Option Out) : Prop :=
 ∀ (P : Program) (w : World) (K : PySem.W.Frag) (mg : Str → Option Value) (base : Heap) (f : Addr) (cdv : Value) (A : Around) (outer : List Env) (s : Shared) (H : Hp) (E : XK), C P w K mg base → Room k (A.deeper (envOfC qual (defScope st) s.heap.objs.size f cdv)) →
  PSsD (cxOf CX0 P w K mg base N qual (defScope st) f cdv A outer s H E).nox (defBody st) B
theorem sc_isWhole : FnScope ["thing", "least", "most"] ["thing", "least", "most"] (defScope sIsWhole) := ⟨rfl, rfl, rfl, by decide +kernel, rfl, by decide +kernel, by decide +kernel⟩
noncomputable def bIsWhole : { B : Rho → Option Out // Body (fun _ _ _ mg _ => Bare mg) "is_whole" sIsWhole ["thing", "least", "most"] 0 B } :=
 ⟨_, fun P w K mg base f cdv A outer s H E T hr =>
  pssd_cons (psd_if (ptd_bool (pwd_or (ptd_val (pd_isi (.inl rfl) T.isi T.bool bt_bool (pd_var 0))) (pwd_or1 (ptd_not (ptd_val (pd_isi (.inr (.inl rfl)) T.isi T.int bt_int (pd_var 0))))))) (pssd_cons (psd_ret pd_bl) pssd_nil) pssd_nil)
  (pssd_cons (psd_ret (pd_chain opd_le opd_le (pd_var 1) (pd_var 0) (pd_var 2))) pssd_nil)⟩
noncomputable def gIsWhole : List PyData → Option PyData := bodyD ["thing", "least", "most"] 3 bIsWhole.1
theorem sc_rodWorth : FnScope ["manner", "rod"] ["manner", "rod"] (defScope sRodWorth) := ⟨rfl, rfl, rfl, by decide +kernel, rfl, by decide +kernel, by decide +kernel⟩
noncomputable def bRodWorth : { B : Rho → Option Out // Body (fun _ _ _ _ _ => True) "rod_worth" sRodWorth ["manner", "rod"] 0 B } :=
 ⟨_, fun P w K mg base f cdv A outer s H E T hr =>
  pssd_cons (psd_ret (pd_bin opd_add (pd_bin opd_mul (pd_ix (pd_var 1) pd_int) (pd_ix (pd_var 0) pd_int)) (pd_ix (pd_var 1) pd_int))) pssd_nil⟩
noncomputable def gRodWorth : List PyData → Option PyData := bodyD ["manner", "rod"] 2 bRodWorth.1
theorem sc_beads : FnScope ["rod"] ["rod"] (defScope sBeads) := ⟨rfl, rfl, rfl, by decide +kernel, rfl, by decide +kernel, by decide +kernel⟩
noncomputable def bBeads : { B : Rho → Option Out // Body (fun _ _ _ _ _ => True) "beads" sBeads ["rod"] 0 B } :=
 ⟨_, fun P w K mg base f cdv A outer s H E T hr => pssd_cons (psd_ret (pd_bin opd_add (pd_ix (pd_var 0) pd_int) (pd_ix (pd_var 0) pd_int))) pssd_nil⟩
noncomputable def gBeads : List PyData → Option PyData := bodyD ["rod"] 1 bBeads.1
noncomputable def rodRow (i : Nat) (m : Nat) : List PyData := (List.range m).map fun (j : Nat) => PyData.tuple [.int (i : Int), .int (j : Int)]
noncomputable def rodsN (n m : Nat) : List PyData := (List.range n).flatMap fun (i : Nat) => rodRow i m
theorem rodRow_succ (i m : Nat) : rodRow i (m + 1) = rodRow i m ++ [PyData.tuple [.int (i : Int), .int (m : Int)]] := by simp [rodRow, List.range_succ]
theorem rodsN_succ (n m : Nat) : rodsN (n + 1) m = rodsN n m ++ rodRow n m := by simp [rodsN, List.range_succ]
theorem noLs_row (i m : Nat) : noLs (rodRow i m) = true := noLs_all fun d hd => by
 obtain ⟨j, _, rfl⟩ := List.mem_map.mp hd
 simp [noL, noLs]
theorem noLs_rods (n m : Nat) : noLs (rodsN n m) = true := by
 induction n with
 | zero => simp [rodsN, noLs]
 | succ n ih => rw [rodsN_succ, noLs_append, ih, noLs_row]; rfl
theorem len_row (i m : Nat) : (rodRow i m).length = m := by simp [rodRow]
theorem len_rods (n m : Nat) : (rodsN n m).length = n * m := by
 induction n with
 | zero => simp [rodsN]
 | succ n ih => rw [rodsN_succ, List.length_append, ih, len_row, Nat.succ_mul]
noncomputable def gAllRods (ds : List PyData) : Option PyData := match ds with
 | [.tuple [.int u, .int _, .int l, .int _]] => if 0 ≤ u ∧ u < 1000 ∧ 0 ≤ l ∧ l < 1000 then some (.list (rodsN (u + 1).toNat (l + 1).toNat)) else none
 | _ => none
theorem sc_allRods : FnScope ["manner", "rods", "upper", "lower"] ["manner"] (defScope sAllRods) := ⟨rfl, rfl, rfl, by decide +kernel, rfl, by decide +kernel, by decide +kernel⟩
end Rods
namespace Rods
open PySem L2 BX
open PyProof.Rows hiding St
section
variable {P : Program} {w : World} {K : PySem.W.Frag} {mg : Str → Option Value} {base : Heap}
theorem ok_allRods {f : Addr} {fd : FuncData} (F : Fun K "all_rods" "all_rods" sAllRods f fd) (T : Bare mg) : FnOk P w K mg base CX0 1 f fd ["manner"] (Pur K 1 gAllRods) := by
 with_unfolding_all
  refine F.ok sc_allRods (fun vs H Q E h => ?_) (fun cdv A outer s H vs Q E hr h => ?_)
  ·obtain ⟨ds, d, h1, h2, _⟩ := h
   rw [h2.length]; exact h1
  ·obtain ⟨ds, d, h1, h2, h3, k⟩ := h
   unfold gAllRods at h3
   split at h3
   ·rename_i u e l b
    split at h3
    ·rename_i hb
     obtain ⟨hu0, hu1, hl0, hl1⟩ := hb
     cases h3
     refine ⟨_, pss_cons (ps_set (i := 1) sc_allRods.nd rfl (Or.inl rfl) (pe_lst pa_nil))
      (pss_cons (ps_for PassesOwn.never rfl (pi_range1 rfl T.range (pad_cons (pd_bin opd_add (pd_ix (pd_var 0) pd_int) pd_int) pad_nil)) (pg_name (i := 2) sc_allRods.nd rfl (Or.inl rfl))
       (pss_one (ps_for PassesOwn.never rfl (pi_range1 rfl T.range (pad_cons (pd_bin opd_add (pd_ix (pd_var 0) pd_int) pd_int) pad_nil)) (pg_name (i := 3) sc_allRods.nd rfl (Or.inl rfl))
        (pss_one (ps_expr (pe_bm PySem.F.plainAttrs_list PySem.F.slot_list_append PySem.F.type_list_append mt_append (pv 1) (pa_cons (pe_tup (pa_cons (pv 2) (pa_cons (pv 3) pa_nil))) pa_nil)))))))
      (pss_one (ps_ret (pv 1)))), ?_⟩
     obtain ⟨mv, rr, e1, em, e2⟩ := h2
     cases (show rr = [] from e2)
     subst e1
     have nm : noL (PyData.tuple [.int u, .int e, .int l, .int b]) = true := by simp [noL, noLs]
     refine ⟨Nat.zero_le _, fun p hp => ?_⟩
     have envr : ∀ {H2 : Hp} {x2 x3 : Option V} {y : Option V}, Same H H2 → EnvR K H2 [some (PyData.tuple [.int u, .int e, .int l, .int b]), none, none, none] [some mv, y, x2, x3] := fun {H2 x2 x3 y} s2 =>
      ⟨rfl, fun i d q => by
       cases i with
       | zero => cases q; exact ⟨mv, rfl, Rep.mono s2 _ _ em⟩
       | succ i =>
        match i, q with
        | 0, q => cases q
        | 1, q => cases q
        | 2, q => cases q
        | j + 3, q => simp at q⟩
     refine ⟨_, [.int (u + 1)], envr (same_upd hp), by simp [consA, nilA, op2, lkp, dIx, atI, ixN, cst, dAdd], fun vs1 H1 s1 r1 => ?_⟩
     obtain ⟨y1, q1, f1, f2, f3⟩ := r1
     cases (show y1 = V.int (u + 1) from f2)
     cases (show q1 = [] from f3)
     subst f1
     refine ⟨u + 1, rfl, by omega, by omega, for_range (n := (u + 1).toNat) (fun i σ H2 => ∃ x2 x3 xs, σ = [some mv, some (.ref p), x2, x3] ∧ Same H H2 ∧ H2 p = some (.lst xs) ∧ Reps K H2 (rodsN i (l + 1).toNat) xs)
      ⟨none, none, [], rfl, (same_upd hp).trans s1, s1 _ _ upd_same, rfl⟩ ?_ ?_⟩
     ·rintro i σ H2 hi ⟨x2, x3, xs, rfl, s2, hp2, r2⟩
      refine ⟨_, [.int (l + 1)], envr s2, by simp [consA, nilA, op2, lkp, dIx, atI, ixN, cst, dAdd], fun vs2 H3 s3 r3 => ?_⟩
      obtain ⟨y2, q2, g1, g2, g3⟩ := r3
      cases (show y2 = V.int (l + 1) from g2)
      cases (show q2 = [] from g3)
      subst g1
      refine ⟨l + 1, rfl, by omega, by omega, for_range (n := (l + 1).toNat) (fun j σ H4 => ∃ x3 ys, σ = [some mv, some (.ref p), some (.int (0 + i)), x3] ∧ Same H H4 ∧ H4 p = some (.lst ys) ∧ Reps K H4 (rodsN i (l + 1).toNat ++ rodRow i j) ys)
       ⟨x3, xs, rfl, s2.trans s3, s3 _ _ hp2, by simpa [rodRow] using Reps.mono s3 _ _ r2⟩ ?_ ?_⟩
      ·rintro j σ H4 hj ⟨x3', ys, rfl, s4, hp4, r4⟩
       have hlen : ys.length < sizeLine := by
        rw [r4.length, List.length_append, len_rods, len_row, sizeLine_eq]
        have h1 : i * (l + 1).toNat ≤ 1000 * 1001 := Nat.mul_le_mul (by omega) (by omega)
        omega
       refine ⟨_, rfl, .inl ⟨rfl, ys, SqL.of hp4⟩, _, rfl, _, rfl, by show 2 ≤ sizeLine; rw [sizeLine_eq]; decide, fun q hq => ?_⟩
       have npq : p ≠ q := ne_of_none hp4 hq
       refine ⟨p, ys, .ref q, rfl, rfl, by rw [upd_ne npq]; exact hp4, hlen, ?_⟩
       have t1 : SameN H4 (upd (upd H4 q (.tup [.int (0 + (i : Int)), .int (0 + (j : Int))])) p (.lst (ys ++ [.ref q]))) :=
        (Same.n (same_upd hq)).trans (SameN.upd (xs := ys) (by rw [upd_ne npq]; exact hp4))
       refine ⟨_, ys ++ [.ref q], rfl, fun c o hc => ?_, upd_same, ?_⟩
       ·have hc4 := s4 c o hc
        rw [upd_ne (ne_of_none hc hp), upd_ne (ne_of_none hc4 hq)]
        exact hc4
       ·rw [rodRow_succ, ← List.append_assoc]
        refine (Reps.monoN t1 _ _ (by rw [noLs_append, noLs_rods, noLs_row]; rfl) r4).append ⟨.ref q, [], rfl, ⟨q, _, rfl, SqT.of (by rw [upd_ne (Ne.symm npq)]; exact upd_same), ?_⟩, rfl⟩
        exact ⟨_, _, rfl, by show _ = V.int _; rw [Int.zero_add], _, _, rfl, by show _ = V.int _; rw [Int.zero_add], rfl⟩
      ·rintro σ H4 ⟨x3', ys, rfl, s4, hp4, r4⟩
       exact ⟨_, x3', ys, rfl, s4, hp4, by rw [rodsN_succ]; exact r4⟩
     ·rintro σ H2 ⟨x2, x3, xs, rfl, s2, hp2, r2⟩
      exact ⟨_, rfl, k _ _ s2 ⟨p, xs, rfl, hp2, r2⟩⟩
    ·cases h3
   ·cases h3
end
end Rods
namespace Rods
open PySem L2 BX
open PyProof.Rows hiding St
noncomputable abbrev sHasAll : Stmt := top 12
noncomputable abbrev sIsManner : Stmt := top 11
noncomputable abbrev CC := Program → World → PySem.W.Frag → (Str → Option Value) → Heap → Prop
structure CHasAll (P : Program) (w : World) (K : PySem.W.Frag) (mg : Str → Option Value) (base : Heap) : Prop where
 t : Bare mg
 allRods : Callee P w K mg base "all_rods" ["manner"] 1 1 gAllRods
 rodWorth : Callee P w K mg base "rod_worth" ["manner", "rod"] 1 2 gRodWorth
theorem sc_hasAll : FnScope ["manner", "worths"] ["manner"] (defScope sHasAll) := ⟨rfl, rfl, rfl, by decide +kernel, rfl, by decide +kernel, by decide +kernel⟩
theorem nd2 : (["rod", "manner"] : List Str).Nodup := by decide +kernel
theorem nd3 : (["digit", "worths"] : List Str).Nodup := by decide +kernel
noncomputable def bHasAll : { B : Rho → Option Out // Body CHasAll "has_all_digits" sHasAll ["manner", "worths"] 1 B } :=
 ⟨_, fun P w K mg base f cdv A outer s H E C hr =>
  pssd_cons (psd_set 1 sc_hasAll.nd (pd_comp ["rod", "manner"] [none, some 0] rfl (pid_list (pd_callC C.allRods hr (Nat.le_refl _) (pad_cons (pd_var 0) pad_nil) (len_cons len_nil))) (comp_ok (defScope sHasAll) ["manner", "worths"] (by decide +kernel))
   fun cl C' s0 H0 fp pn => ⟨pgd_name 0 nd2, ptsd_nil, pd_callC C.rodWorth hr (Nat.le_refl _) (pad_cons (pd_var 1) (pad_cons (pd_var 0) pad_nil)) (len_cons (len_cons len_nil))⟩))
  (pssd_cons (psd_ret (pd_callB (cd_all rfl) C.t.all bt_all (pad_cons (pd_comp ["digit", "worths"] [none, some 1] rfl (pid_range1 rfl C.t.range (pad_cons (pd_ix (pd_var 0) pd_int) pad_nil)) (comp_ok (defScope sHasAll) ["manner", "worths"] (by decide +kernel))
   fun cl C' s0 H0 fp pn => ⟨pgd_name 0 nd3, ptsd_nil, pd_cmp (opd_in hr.units) (pd_var 0) (pd_var 1)⟩) pad_nil))) pssd_nil)⟩
noncomputable abbrev sCheck : Stmt := top 13
noncomputable abbrev sRodsWith : Stmt := top 17
noncomputable abbrev sMost : Stmt := top 18
noncomputable abbrev sCounts : Stmt := top 19
noncomputable abbrev sFewest : Stmt := top 21
noncomputable def GC (K : PySem.W.Frag) (mg : Str → Option Value) (x : Str) (d : PyData) : Prop := ∃ v u, mg x = some u ∧ RelV v u ∧ ∀ H, Rep K H d v
theorem pd_gc {X : Cx} {pos : Pos} {x : Str} {d : PyData} (c : GC X.K X.mg x d) (hg : Gl X x := by rfl) (hd : (x == ("__debug__" : Str)) = false := by decide) : PD X (.Name x pos) (cst d) := by
 with_unfolding_all
  obtain ⟨v, u, h1, h2, h3⟩ := c
  exact pd_glob hg h1 h2 h3 hd
noncomputable def gHasAll : List PyData → Option PyData := bodyD ["manner", "worths"] 1 bHasAll.1
structure CIsManner (P : Program) (w : World) (K : PySem.W.Frag) (mg : Str → Option Value) (base : Heap) : Prop where
 t : Bare mg
 least : GC K mg "LEAST_PARTS" (.tuple [.int 0, .int 1, .int 0, .int 2])
 most : GC K mg "MOST_PARTS" (.tuple [.int 3, .int 16, .int 12, .int 16])
 isWhole : Callee P w K mg base "is_whole" ["thing", "least", "most"] 1 3 gIsWhole
 hasAll : Callee P w K mg base "has_all_digits" ["manner"] 2 1 gHasAll
theorem sc_isManner : FnScope ["thing", "part", "least", "most"] ["thing"] (defScope sIsManner) := ⟨rfl, rfl, rfl, by decide +kernel, rfl, by decide +kernel, by decide +kernel⟩
noncomputable def bIsManner : { B : Rho → Option Out // Body CIsManner "is_manner" sIsManner ["thing", "part", "least", "most"] 2 B } :=
 ⟨_, fun P w K mg base f cdv A outer s H E C hr =>
  pssd_cons (psd_if (ptd_bool (pwd_or (ptd_not (ptd_val (pd_isi (.inr (.inr rfl)) C.t.isi C.t.tuple bt_tuple (pd_var 0)))) (pwd_or1 (ptd_cmp (opd_ne hr.units) (pd_callB cd_len C.t.len bt_len (pad_cons (pd_var 0) pad_nil)) (pd_callB cd_len C.t.len bt_len (pad_cons (pd_gc C.most) pad_nil)))))) (pssd_cons (psd_ret pd_bl) pssd_nil) pssd_nil)
  (pssd_cons (psd_for PassesOwn.never rfl (pid_zip3 C.t.zip (pad_cons (pd_var 0) (pad_cons (pd_gc C.least) (pad_cons (pd_gc C.most) pad_nil)))) (pgd_tup (n := 3) rfl (pgsd_cons (pgd_name 1 sc_isManner.nd) (pgsd_cons (pgd_name 2 sc_isManner.nd) (pgsd_cons (pgd_name 3 sc_isManner.nd) pgsd_nil))))
   (pssd_cons (psd_if (ptd_not (ptd_val (pd_callC C.isWhole hr (by decide) (pad_cons (pd_var 1) (pad_cons (pd_var 2) (pad_cons (pd_var 3) pad_nil))) (len_cons (len_cons (len_cons len_nil)))))) (pssd_cons (psd_ret pd_bl) pssd_nil) pssd_nil) pssd_nil))
  (pssd_cons (psd_ret (pd_callC C.hasAll hr (Nat.le_refl _) (pad_cons (pd_var 0) pad_nil) (len_cons len_nil))) pssd_nil))⟩
noncomputable def gIsManner : List PyData → Option PyData := bodyD ["thing", "part", "least", "most"] 1 bIsManner.1
structure CCheck (P : Program) (w : World) (K : PySem.W.Frag) (mg : Str → Option Value) (base : Heap) : Prop where
 isManner : Callee P w K mg base "is_manner" ["thing"] 3 1 gIsManner
theorem sc_check : FnScope ["thing"] ["thing"] (defScope sCheck) := ⟨rfl, rfl, rfl, by decide +kernel, rfl, by decide +kernel, by decide +kernel⟩
noncomputable def bCheck : { B : Rho → Option Out // Body CCheck "check_manner" sCheck ["thing"] 3 B } :=
 ⟨_, fun P w K mg base f cdv A outer s H E C hr =>
  pssd_cons (psd_if (ptd_not (ptd_val (pd_callC C.isManner hr (Nat.le_refl _) (pad_cons (pd_var 0) pad_nil) (len_cons len_nil)))) pssd_never pssd_nil) pssd_nil⟩
noncomputable def gCheck : List PyData → Option PyData := bodyD ["thing"] 1 bCheck.1
structure CRodsWith (P : Program) (w : World) (K : PySem.W.Frag) (mg : Str → Option Value) (base : Heap) : Prop where
 allRods : Callee P w K mg base "all_rods" ["manner"] 1 1 gAllRods
 rodWorth : Callee P w K mg base "rod_worth" ["manner", "rod"] 1 2 gRodWorth
theorem sc_rodsWith : FnScope ["manner", "worth"] ["manner", "worth"] (defScope sRodsWith) := ⟨rfl, rfl, rfl, by decide +kernel, rfl, by decide +kernel, by decide +kernel⟩
theorem nd4 : (["rod", "manner", "worth"] : List Str).Nodup := by decide +kernel
noncomputable def bRodsWith : { B : Rho → Option Out // Body CRodsWith "rods_with" sRodsWith ["manner", "worth"] 1 B } :=
 ⟨_, fun P w K mg base f cdv A outer s H E C hr =>
  pssd_cons (psd_ret (pd_comp ["rod", "manner", "worth"] [none, some 0, some 1] rfl (pid_list (pd_callC C.allRods hr (Nat.le_refl _) (pad_cons (pd_var 0) pad_nil) (len_cons len_nil))) (comp_ok (defScope sRodsWith) ["manner", "worth"] (by decide +kernel))
   fun cl C' s0 H0 fp pn => ⟨pgd_name 0 nd4, ptsd_one (ptd_cmp (opd_eq hr.units) (pd_callC C.rodWorth hr (Nat.le_refl _) (pad_cons (pd_var 1) (pad_cons (pd_var 0) pad_nil)) (len_cons (len_cons len_nil))) (pd_var 2)), pd_var 0⟩)) pssd_nil⟩
noncomputable def gRodsWith : List PyData → Option PyData := bodyD ["manner", "worth"] 2 bRodsWith.1
structure CMost (P : Program) (w : World) (K : PySem.W.Frag) (mg : Str → Option Value) (base : Heap) : Prop where
 t : Bare mg
 allRods : Callee P w K mg base "all_rods" ["manner"] 1 1 gAllRods
 rodWorth : Callee P w K mg base "rod_worth" ["manner", "rod"] 1 2 gRodWorth
theorem sc_most : FnScope ["manner"] ["manner"] (defScope sMost) := ⟨rfl, rfl, rfl, by decide +kernel, rfl, by decide +kernel, by decide +kernel⟩
noncomputable def bMost : { B : Rho → Option Out // Body CMost "most_on_rod" sMost ["manner"] 1 B } :=
 ⟨_, fun P w K mg base f cdv A outer s H E C hr =>
  pssd_cons (psd_ret (pd_maxD rfl C.t.max (pd_comp ["rod", "manner"] [none, some 0] rfl (pid_list (pd_callC C.allRods hr (Nat.le_refl _) (pad_cons (pd_var 0) pad_nil) (len_cons len_nil))) (comp_ok (defScope sMost) ["manner"] (by decide +kernel))
   fun cl C' s0 H0 fp pn => ⟨pgd_name 0 nd2, ptsd_nil, pd_callC C.rodWorth hr (Nat.le_refl _) (pad_cons (pd_var 1) (pad_cons (pd_var 0) pad_nil)) (len_cons (len_cons len_nil))⟩))) pssd_nil⟩
noncomputable def gMost : List PyData → Option PyData := bodyD ["manner"] 1 bMost.1
structure CFewest (P : Program) (w : World) (K : PySem.W.Frag) (mg : Str → Option Value) (base : Heap) : Prop where
 t : Bare mg
 rodsWith : Callee P w K mg base "rods_with" ["manner", "worth"] 2 2 gRodsWith
 beads : Callee P w K mg base "beads" ["rod"] 1 1 gBeads
theorem sc_fewest : FnScope ["manner", "worth"] ["manner", "worth"] (defScope sFewest) := ⟨rfl, rfl, rfl, by decide +kernel, rfl, by decide +kernel, by decide +kernel⟩
noncomputable def bFewest : { B : Rho → Option Out // Body CFewest "fewest_beads" sFewest ["manner", "worth"] 2 B } :=
 ⟨_, fun P w K mg base f cdv A outer s H E C hr =>
  pssd_cons (psd_ret (pd_minKD rfl C.beads hr (Nat.le_refl _) C.t.min (pd_callC C.rodsWith hr (by decide) (pad_cons (pd_var 0) (pad_cons (pd_var 1) pad_nil)) (len_cons (len_cons len_nil))))) pssd_nil⟩
noncomputable def gFewest : List PyData → Option PyData := bodyD ["manner", "worth"] 2 bFewest.1
end Rods
namespace BX
open PySem PySem.Spec L2
open PyProof.Rows hiding St
noncomputable def rGetL : V → V → Hp → VK → Prop := fun o i H Q => ∃ p xs k x, o = .ref p ∧ i = .int k ∧ H p = some (.lst xs) ∧ 0 ≤ k ∧ xs[k.toNat]? = some x ∧ Q x H
theorem get_listL {X : Cx} : PGet X rGetL := by
 intro pins s σ H o i ov iv Q I ro ri h
 obtain ⟨p, xs, k, x, rfl, rfl, hp, h0, hx, q⟩ := h
 cases ro
 obtain ⟨t, rfl⟩ := ri
 obtain ⟨its, r, pl, hz⟩ := I.list (SqL.of hp)
 obtain ⟨w, ew, rw'⟩ := r.get hx
 have hl := r.length
 have hn := line63
 have hk : k.toNat < xs.length := (List.getElem?_eq_some_iff.mp hx).1
 exact wpAny_getItem_list pl.isList h0 (by omega) (by simpa using ew) ⟨x, H, I, rw', q⟩
end BX
namespace Rods
open PySem L2 BX
open PyProof.Rows hiding St
noncomputable def bump (m : PyData) : List Int → List PyData → Option (List Int)
 | c, [] => some c
 | c, r :: rs => match gRodWorth [m, r] with
  | some (.int w) => if 0 ≤ w then match c[w.toNat]? with
   | some k => bump m (c.set w.toNat (k + 1)) rs
   | none => none else none
  | _ => none
noncomputable def gCounts (ds : List PyData) : Option PyData := match ds with
 | [m] => if noL m = true then match gCheck [m], gMost [m], gAllRods [m] with
  | some .none, some (.int t), some (.list (.tuple us :: rs)) => if 0 ≤ t ∧ t < 900 ∧ noLs (.tuple us :: rs) = true then (bump m (List.replicate (t + 1).toNat 0) (.tuple us :: rs)).map fun c => .list (c.map .int) else none
  | _, _, _ => none else none
 | _ => none
structure CCounts (P : Program) (w : World) (K : PySem.W.Frag) (mg : Str → Option Value) (base : Heap) : Prop where
 check : Callee P w K mg base "check_manner" ["thing"] 4 1 gCheck
 most : Callee P w K mg base "most_on_rod" ["manner"] 2 1 gMost
 allRods : Callee P w K mg base "all_rods" ["manner"] 1 1 gAllRods
 rodWorth : Callee P w K mg base "rod_worth" ["manner", "rod"] 1 2 gRodWorth
theorem sc_counts : FnScope ["manner", "told", "rod"] ["manner"] (defScope sCounts) := ⟨rfl, rfl, rfl, by decide +kernel, rfl, by decide +kernel, by decide +kernel⟩
theorem reps_ints {K : PySem.W.Frag} {H : Hp} : ∀ (c : List Int), Reps K H (c.map PyData.int) (c.map V.int)
 | [] => rfl
 | i :: c => ⟨_, _, rfl, rfl, reps_ints c⟩
theorem mk3 {K : PySem.W.Frag} {H2 : Hp} {m : PyData} {mv : V} {y x : Option V} (e : Rep K H2 m mv) : EnvR K H2 [some m, none, none] [some mv, y, x] :=
 ⟨rfl, fun i d q => by
  cases i with
  | zero => cases q; exact ⟨mv, rfl, e⟩
  | succ i =>
   match i, q with
   | 0, q => cases q
   | 1, q => cases q
   | j + 2, q => simp at q⟩
theorem mk3' {K : PySem.W.Frag} {H2 : Hp} {m r : PyData} {mv rv : V} {y : Option V} (e : Rep K H2 m mv) (e' : Rep K H2 r rv) : EnvR K H2 [some m, none, some r] [some mv, y, some rv] :=
 ⟨rfl, fun i d q => by
  cases i with
  | zero => cases q; exact ⟨mv, rfl, e⟩
  | succ i =>
   match i, q with
   | 0, q => cases q
   | 1, q => cases q; exact ⟨rv, rfl, e'⟩
   | j + 2, q => simp at q⟩
theorem env3 {K : PySem.W.Frag} {H : Hp} {m : PyData} {σ : St} (en : EnvR K H [some m, none, none] σ) : ∃ mv b c, σ = [some mv, b, c] ∧ Rep K H m mv := by
 obtain ⟨mv, q, e⟩ := en.at' 0 m rfl
 match σ, en.len, q with
 | [a, b, c], _, q =>
  have : a = some mv := by simpa using q
  subst this
  exact ⟨mv, b, c, rfl, e⟩
theorem rep0 (n : Nat) : (List.replicate n [V.int 0]).flatten = (List.replicate n (0 : Int)).map V.int := by
 induction n with
 | zero => rfl
 | succ n ih => rw [List.replicate_succ, List.replicate_succ, List.flatten_cons, ih]; rfl
theorem alias0 {K : PySem.W.Frag} {H : Hp} {us rs : List PyData} {xs : List V} {n : Nat} (r : Reps K H (.tuple us :: rs) xs) (e : xs = (List.replicate n (0 : Int)).map V.int) : False := by
 obtain ⟨x, r', h1, h2, h3⟩ := r
 subst h1
 obtain ⟨a, _, h4, _⟩ := h2
 subst h4
 cases n with
 | zero => cases e
 | succ n => rw [List.replicate_succ] at e; cases e
theorem ixN_of {n : Nat} {i : Int} (h0 : 0 ≤ i) (h : i.toNat < n) : ixN n i = some i.toNat := by
 unfold ixN
 rw [if_pos h0, if_pos (by omega)]
theorem bump_cons {m r : PyData} {rs : List PyData} {c cf : List Int} (h : bump m c (r :: rs) = some cf) : ∃ w1, gRodWorth [m, r] = some (.int w1) ∧ 0 ≤ w1 ∧ ∃ k1, c[w1.toNat]? = some k1 ∧ bump m (c.set w1.toNat (k1 + 1)) rs = some cf := by
 unfold bump at h
 split at h
 ·rename_i w hw
  split at h
  ·rename_i h0
   split at h
   ·rename_i k hk
    exact ⟨w, hw, h0, k, hk, h⟩
   ·cases h
  ·cases h
 ·cases h
end Rods
namespace Rods
open PySem L2 BX
open PyProof.Rows hiding St
section
variable {P : Program} {w : World} {K : PySem.W.Frag} {mg : Str → Option Value} {base : Heap}
theorem ok_counts {f : Addr} {fd : FuncData} (F : Fun K "counts" "counts" sCounts f fd) (C : CCounts P w K mg base) : FnOk P w K mg base CX0 5 f fd ["manner"] (Pur K 1 gCounts) := by
 with_unfolding_all
  refine F.ok sc_counts (fun vs H Q E h => ?_) (fun cdv A outer s H vs Q E hr h => ?_)
  ·obtain ⟨ds, d, h1, h2, _⟩ := h
   rw [h2.length]; exact h1
  ·obtain ⟨ds, d, h1, h2, h3, k⟩ := h
   unfold gCounts at h3
   split at h3
   ·rename_i m
    split at h3
    ·rename_i nm
     split at h3
     ·rename_i t us rs hck hmost hall
      split at h3
      ·rename_i hb
       obtain ⟨ht0, ht1, nr⟩ := hb
       refine ⟨_, pss_cons (psd_expr (pd_callC C.check hr (Nat.le_refl _) (pad_cons (pd_var 0) pad_nil) (len_cons len_nil)))
        (pss_cons (ps_set (i := 1) sc_counts.nd rfl (Or.inl rfl) (pe_op op_rep (pe_lst (pa_cons pe_int pa_nil)) (pd_bin opd_add (pd_callC C.most hr (by decide) (pad_cons (pd_var 0) pad_nil) (len_cons len_nil)) pd_int)))
        (pss_cons (ps_for PassesOwn.never rfl (pi_list (pd_callC C.allRods hr (by decide) (pad_cons (pd_var 0) pad_nil) (len_cons len_nil))) (pg_name (i := 2) sc_counts.nd rfl (Or.inl rfl))
         (pss_one (ps_augS (pv 1) (pd_callC C.rodWorth hr (by decide) (pad_cons (pd_var 0) (pad_cons (pd_var 2) pad_nil)) (len_cons (len_cons len_nil))) get_listL pe_int ip_add set_list)))
        (pss_one (ps_ret (pv 1))))), ?_⟩
       obtain ⟨mv, rr, e1, em, e2⟩ := h2
       cases (show rr = [] from e2)
       subst e1
       have envr : ∀ {H2 : Hp} {y x : Option V}, Rep K H2 m mv → EnvR K H2 [some m, none, none] [some mv, y, x] := fun {H2 y x} e =>
        ⟨rfl, fun i d q => by
         cases i with
         | zero => cases q; exact ⟨mv, rfl, e⟩
         | succ i =>
          match i, q with
          | 0, q => cases q
          | 1, q => cases q
          | j + 2, q => simp at q⟩
       refine ⟨[some m, none, none], .nx [some m, none, none], envr em, by simp [drpS, calD, consA, nilA, lkp, hck], fun σ1 H1 s1 en1 => ?_⟩
       obtain ⟨mv1, b1, c1, rfl, em1⟩ := env3 en1
       clear envr
       have envr : ∀ {H2 : Hp} {y x : Option V}, Rep K H2 m mv1 → EnvR K H2 [some m, none, none] [some mv1, y, x] := fun {H2 y x} e => mk3 e
       refine ⟨by show 1 ≤ sizeLine; rw [sizeLine_eq]; decide, fun z hz => ?_⟩
       have s2 := same_upd (o := .lst [.int 0]) hz
       refine ⟨[some m, none, none], .int (t + 1), envr (Rep.mono s2 _ _ em1), by simp [op2, calD, consA, nilA, lkp, hmost, cst, dAdd], fun v3 H3 s3 r3 => ?_⟩
       cases (show v3 = _ from r3)
       have hz3 : H3 z = some (.lst [.int 0]) := s3 _ _ upd_same
       refine ⟨z, t + 1, [.int 0], rfl, rfl, hz3, by omega, by omega, by rw [sizeLine_eq]; simp; omega, fun p hp => ?_⟩
       rw [rep0]
       have em3 : Rep K H3 m mv1 := Rep.mono (s2.trans s3) _ _ em1
       have s4 := same_upd (o := .lst ((List.replicate (t + 1).toNat (0 : Int)).map V.int)) hp
       refine ⟨[some m, none, none], .list (.tuple us :: rs), envr (Rep.mono s4 _ _ em3), by simp [calD, consA, nilA, lkp, hall], fun v5 H5 s5 r5 => ?_⟩
       obtain ⟨a, xs, e5, ha5, r5⟩ := r5
       subst e5
       have hp5 : H5 p = some (.lst ((List.replicate (t + 1).toNat (0 : Int)).map V.int)) := s5 _ _ upd_same
       have nap : a ≠ p := by
        rintro rfl
        rw [ha5] at hp5
        exact alias0 r5 (by injection (Option.some.inj hp5))
       cases hbm : bump m (List.replicate (t + 1).toNat 0) (.tuple us :: rs) with
       | none => rw [hbm] at h3; cases h3
       | some cf =>
        rw [hbm] at h3
        cases h3
        refine ⟨a, rfl, ⟨xs, SqL.of ha5⟩, for_list (fun i σ H' => ∃ x c, σ = [some mv1, some (.ref p), x] ∧ Same H3 H' ∧ H' p = some (.lst (c.map V.int)) ∧ H' a = some (.lst xs) ∧ Reps K H' (.tuple us :: rs) xs ∧ bump m c ((PyData.tuple us :: rs).drop i) = some cf)
         ⟨c1, _, rfl, s4.trans s5, hp5, ha5, r5, hbm⟩ (fun i σ H' _ ⟨x, c, _, _, _, g, _, _⟩ => SqL.of g) ?_ ?_⟩
        ·rintro i x σ H' hx ⟨x', c, rfl, g1, g2, g3, g4, g5⟩
         have hi : i < (PyData.tuple us :: rs).length := by rw [← g4.length]; exact (List.getElem?_eq_some_iff.mp hx).1
         have hd : (PyData.tuple us :: rs).drop i = (PyData.tuple us :: rs)[i] :: (PyData.tuple us :: rs).drop (i + 1) := List.drop_eq_getElem_cons hi
         rw [hd] at g5
         obtain ⟨w1, hw1, hw0, k1, hk1, hb1⟩ := bump_cons g5
         obtain ⟨y, ey, ry⟩ := g4.get (i := i) (d := (PyData.tuple us :: rs)[i]) (by simp [hi])
         rw [hx] at ey; cases ey
         refine ⟨_, rfl, [some m, none, some ((PyData.tuple us :: rs)[i])], .int w1, mk3' (Rep.mono g1 _ _ em3) ry, by simp [calD, consA, nilA, lkp, hw1], fun v6 H6 s6 r6 => ?_⟩
         cases (show v6 = _ from r6)
         have hp6 := s6 _ _ g2
         refine ⟨p, c.map V.int, w1, .int k1, rfl, rfl, hp6, hw0, by simp [hk1], k1, 1, rfl, rfl, p, c.map V.int, w1, w1.toNat, rfl, rfl, hp6, ixN_of hw0 (by simpa using (List.getElem?_eq_some_iff.mp hk1).1), ?_⟩
         have t1 : SameN H' (upd H6 p (.lst ((c.map V.int).set w1.toNat (.int (k1 + 1))))) := (Same.n s6).trans (SameN.upd hp6)
         refine ⟨_, c.set w1.toNat (k1 + 1), rfl, fun b o hb => ?_, by rw [upd_same, List.map_set], ?_, Reps.monoN t1 _ _ nr g4, hb1⟩
         ·rw [upd_ne (ne_of_none hb hp)]
          exact s6 _ _ (g1 _ _ hb)
         ·rw [upd_ne nap]; exact s6 _ _ g3
        ·rintro σ H' ⟨x', c, rfl, g1, g2, g3, g4, g5⟩
         have : c = cf := by simpa [g4.length, bump] using g5
         subst this
         exact ⟨_, rfl, k _ _ (s1.trans (s2.trans (s3.trans g1))) ⟨p, _, rfl, g2, reps_ints c⟩⟩
      ·cases h3
     ·cases h3
    ·cases h3
   ·cases h3
end
end Rods
namespace Rods
open PySem L2 BX
open PyProof.Rows hiding St
noncomputable abbrev sCheckRods : Stmt := top 27
noncomputable abbrev sCheckNumber : Stmt := top 28
noncomputable abbrev sCheckAsked : Stmt := top 29
noncomputable abbrev sNumberOn : Stmt := top 31
noncomputable abbrev sFullRods : Stmt := top 33
noncomputable abbrev sLastRods : Stmt := top 34
noncomputable abbrev BodyS (C : CC) (qual : Str) (st : Stmt) (N : List Str) (k : Nat) (sts : List Stmt) (B : Rho → Option Out) : Prop :=
 ∀ (P : Program) (w : World) (K : PySem.W.Frag) (mg : Str → Option Value) (base : Heap) (f : Addr) (cdv : Value) (A : Around) (outer : List Env) (s : Shared) (H : Hp) (E : XK), C P w K mg base → Room k (A.deeper (envOfC qual (defScope st) s.heap.objs.size f cdv)) →
  PSsD (cxOf CX0 P w K mg base N qual (defScope st) f cdv A outer s H E).nox sts B
noncomputable abbrev BodyO (own : Nat) (C : CC) (qual : Str) (st : Stmt) (N : List Str) (k : Nat) (sts : List Stmt) (B : Rho → Option Out) : Prop :=
 ∀ (P : Program) (w : World) (K : PySem.W.Frag) (mg : Str → Option Value) (base : Heap) (f : Addr) (cdv : Value) (A : Around) (outer : List Env) (s : Shared) (H : Hp) (E : XK), C P w K mg base → Room k (A.deeper (envOfC qual (defScope st) s.heap.objs.size f cdv)) →
  PSsO (cxOf CX0 P w K mg base N qual (defScope st) f cdv A outer s H E).nox (some own) sts B
noncomputable def forBody : Stmt → List Stmt
 | .For _ _ b _ _ => b
 | _ => []
noncomputable def nthS (l : List Stmt) (i : Nat) : Stmt := l.getD i (.Pass ⟨0, 0, 0, 0⟩)
structure CNum (P : Program) (w : World) (K : PySem.W.Frag) (mg : Str → Option Value) (base : Heap) : Prop where
 rodWorth : Callee P w K mg base "rod_worth" ["manner", "rod"] 1 2 gRodWorth
noncomputable abbrev nNum : List Str := ["manner", "setting", "number", "rod"]
theorem sc_num : FnScope nNum ["manner", "setting"] (defScope sNumberOn) := ⟨rfl, rfl, rfl, by decide +kernel, rfl, by decide +kernel, by decide +kernel⟩
noncomputable def bNumIn : { B : Rho → Option Out // BodyS CNum "number_on" sNumberOn nNum 1 (forBody (nthS (defBody sNumberOn) 1)) B } :=
 ⟨_, fun P w K mg base f cdv A outer s H E C hr =>
  pssd_cons (psd_set 2 sc_num.nd (pd_bin opd_add (pd_bin opd_mul (pd_var 2) (pd_ix (pd_var 0) pd_int)) (pd_callC C.rodWorth hr (Nat.le_refl _) (pad_cons (pd_var 0) (pad_cons (pd_var 3) pad_nil)) (len_cons (len_cons len_nil))))) pssd_nil⟩
noncomputable def bNum : { B : Rho → Option Out // Body CNum "number_on" sNumberOn nNum 1 B } :=
 ⟨_, fun P w K mg base f cdv A outer s H E C hr =>
  pssd_cons (psd_set 2 sc_num.nd pd_int) (pssd_cons (psd_for PassesOwn.never rfl (pid_tup (pd_var 1)) (pgd_name 3 sc_num.nd) (bNumIn.2 P w K mg base f cdv A outer s H E C hr)) (pssd_cons (psd_ret (pd_var 2)) pssd_nil))⟩
noncomputable def gNum : List PyData → Option PyData := bodyD nNum 2 bNum.1
theorem sc_full : FnScope ["manner", "rods"] ["manner", "rods"] (defScope sFullRods) := ⟨rfl, rfl, rfl, by decide +kernel, rfl, by decide +kernel, by decide +kernel⟩
noncomputable def bFull : { B : Rho → Option Out // Body (fun _ _ _ _ _ => True) "full_rods" sFullRods ["manner", "rods"] 0 B } :=
 ⟨_, fun P w K mg base f cdv A outer s H E C hr =>
  pssd_cons (psd_ret (pd_bin opd_repT (pd_tup (pad_cons (pd_tup (pad_cons (pd_ix (pd_var 0) pd_int) (pad_cons (pd_ix (pd_var 0) pd_int) pad_nil))) pad_nil)) (pd_var 1))) pssd_nil⟩
noncomputable def gFull : List PyData → Option PyData := bodyD ["manner", "rods"] 2 bFull.1
structure CLast (P : Program) (w : World) (K : PySem.W.Frag) (mg : Str → Option Value) (base : Heap) : Prop where
 allRods : Callee P w K mg base "all_rods" ["manner"] 1 1 gAllRods
 rodWorth : Callee P w K mg base "rod_worth" ["manner", "rod"] 1 2 gRodWorth
 num : Callee P w K mg base "number_on" ["manner", "setting"] 2 2 gNum
 full : Callee P w K mg base "full_rods" ["manner", "rods"] 1 2 gFull
noncomputable abbrev nLast : List Str := ["manner", "ahead", "number", "base", "most", "told", "rod", "left"]
theorem sc_last : FnScope nLast ["manner", "ahead", "number"] (defScope sLastRods) := ⟨rfl, rfl, rfl, by decide +kernel, rfl, by decide +kernel, by decide +kernel⟩
noncomputable def bLastIn : { B : Rho → Option Out // BodyO 5 CLast "last_rods" sLastRods nLast 2 (forBody (nthS (defBody sLastRods) 3)) B } :=
 ⟨_, fun P w K mg base f cdv A outer s H E C hr =>
  psso_cons (pso_set 7 sc_last.nd (pd_bin opd_sub (pd_var 2) (pd_callC C.rodWorth hr (by decide) (pad_cons (pd_var 0) (pad_cons (pd_var 6) pad_nil)) (len_cons (len_cons len_nil)))))
  (psso_cons (pso_if (ptd_bool (pwd_and (ptd_cmp (opd_eq hr.units) (pd_bin opd_mod (pd_var 7) (pd_var 3)) pd_int) (pwd_and1 (ptd_chain opd_le opd_le pd_int (pd_var 7) (pd_bin opd_mul (pd_var 3) (pd_var 4))))))
   (psso_cons (pso_mut (pe_append 5 (pd_tup (pad_cons (pd_var 6) (pad_cons (pd_bin opd_fdiv (pd_var 7) (pd_var 3)) pad_nil))))) psso_nil) psso_nil) psso_nil)⟩
noncomputable def bLast : { B : Rho → Option Out // Body CLast "last_rods" sLastRods nLast 2 B } :=
 ⟨_, fun P w K mg base f cdv A outer s H E C hr =>
  psso_toD (psso_cons (pso_plain (psd_set 3 sc_last.nd (pd_ix (pd_var 0) pd_int)))
  (psso_cons (pso_plain (psd_set 4 sc_last.nd (pd_callC C.num hr (Nat.le_refl _) (pad_cons (pd_var 0) (pad_cons (pd_callC C.full hr (by decide) (pad_cons (pd_var 0) (pad_cons (pd_var 1) pad_nil)) (len_cons (len_cons len_nil))) pad_nil)) (len_cons (len_cons len_nil)))))
  (psso_new 5 sc_last.nd (pn_lst pad_nil)
  (psso_cons (pso_for PassesOwn.never rfl (pid_list (pd_callC C.allRods hr (by decide) (pad_cons (pd_var 0) pad_nil) (len_cons len_nil))) (pgo_name 6 sc_last.nd) (bLastIn.2 P w K mg base f cdv A outer s H E C hr))
  (psso_cons (pso_ret (pd_var 5)) psso_nil)))))⟩
noncomputable def gLast : List PyData → Option PyData := bodyD nLast 3 bLast.1
structure CChkRods (P : Program) (w : World) (K : PySem.W.Frag) (mg : Str → Option Value) (base : Heap) : Prop where
 isWhole : Callee P w K mg base "is_whole" ["thing", "least", "most"] 1 3 gIsWhole
 most : GC K mg "MOST_RODS" (.int 4)
theorem sc_chkRods : FnScope ["rods"] ["rods"] (defScope sCheckRods) := ⟨rfl, rfl, rfl, by decide +kernel, rfl, by decide +kernel, by decide +kernel⟩
noncomputable def bChkRods : { B : Rho → Option Out // Body CChkRods "check_rods" sCheckRods ["rods"] 1 B } :=
 ⟨_, fun P w K mg base f cdv A outer s H E C hr =>
  pssd_cons (psd_if (ptd_not (ptd_val (pd_callC C.isWhole hr (Nat.le_refl _) (pad_cons (pd_var 0) (pad_cons pd_int (pad_cons (pd_gc C.most) pad_nil))) (len_cons (len_cons (len_cons len_nil)))))) pssd_never pssd_nil) pssd_nil⟩
noncomputable def gChkRods : List PyData → Option PyData := bodyD ["rods"] 1 bChkRods.1
structure CChkNum (P : Program) (w : World) (K : PySem.W.Frag) (mg : Str → Option Value) (base : Heap) : Prop where
 isWhole : Callee P w K mg base "is_whole" ["thing", "least", "most"] 1 3 gIsWhole
 most : GC K mg "MOST_NUMBER" (.int 99999)
theorem sc_chkNum : FnScope ["number"] ["number"] (defScope sCheckNumber) := ⟨rfl, rfl, rfl, by decide +kernel, rfl, by decide +kernel, by decide +kernel⟩
noncomputable def bChkNum : { B : Rho → Option Out // Body CChkNum "check_number" sCheckNumber ["number"] 1 B } :=
 ⟨_, fun P w K mg base f cdv A outer s H E C hr =>
  pssd_cons (psd_if (ptd_not (ptd_val (pd_callC C.isWhole hr (Nat.le_refl _) (pad_cons (pd_var 0) (pad_cons pd_int (pad_cons (pd_gc C.most) pad_nil))) (len_cons (len_cons (len_cons len_nil)))))) pssd_never pssd_nil) pssd_nil⟩
noncomputable def gChkNum : List PyData → Option PyData := bodyD ["number"] 1 bChkNum.1
structure CAsked (P : Program) (w : World) (K : PySem.W.Frag) (mg : Str → Option Value) (base : Heap) : Prop where
 check : Callee P w K mg base "check_manner" ["thing"] 4 1 gCheck
 rods : Callee P w K mg base "check_rods" ["rods"] 2 1 gChkRods
 num : Callee P w K mg base "check_number" ["number"] 2 1 gChkNum
theorem sc_asked : FnScope ["manner", "rods", "number"] ["manner", "rods", "number"] (defScope sCheckAsked) := ⟨rfl, rfl, rfl, by decide +kernel, rfl, by decide +kernel, by decide +kernel⟩
noncomputable def bAsked : { B : Rho → Option Out // Body CAsked "check_asked" sCheckAsked ["manner", "rods", "number"] 4 B } :=
 ⟨_, fun P w K mg base f cdv A outer s H E C hr =>
  pssd_cons (psd_expr (pd_callC C.check hr (Nat.le_refl _) (pad_cons (pd_var 0) pad_nil) (len_cons len_nil)))
  (pssd_cons (psd_expr (pd_callC C.rods hr (by decide) (pad_cons (pd_var 1) pad_nil) (len_cons len_nil)))
  (pssd_cons (psd_expr (pd_callC C.num hr (by decide) (pad_cons (pd_var 2) pad_nil) (len_cons len_nil))) pssd_nil))⟩
noncomputable def gAsked : List PyData → Option PyData := bodyD ["manner", "rods", "number"] 3 bAsked.1
noncomputable abbrev sIsRod : Stmt := top 14
noncomputable abbrev sIsSetting : Stmt := top 25
noncomputable abbrev sCheckSetting : Stmt := top 26
noncomputable abbrev sLeast : Stmt := top 39
noncomputable abbrev sLongF : Stmt := top 40
noncomputable abbrev sPlainS : Stmt := top 41
noncomputable abbrev sPlainR : Stmt := top 42
noncomputable abbrev sDigits : Stmt := top 43
noncomputable abbrev sAllBeads : Stmt := top 44
structure CLongF (P : Program) (w : World) (K : PySem.W.Frag) (mg : Str → Option Value) (base : Heap) : Prop where
 t : Bare mg
 last : Callee P w K mg base "last_rods" ["manner", "ahead", "number"] 3 3 gLast
 beads : Callee P w K mg base "beads" ["rod"] 1 1 gBeads
noncomputable abbrev nLongF : List Str := ["manner", "ahead", "fewest", "longer", "number", "rod", "left", "several"]
theorem sc_longF : FnScope nLongF ["manner", "ahead", "fewest"] (defScope sLongF) := ⟨rfl, rfl, rfl, by decide +kernel, rfl, by decide +kernel, by decide +kernel⟩
noncomputable def bLongFIn : { B : Rho → Option Out // BodyO 3 CLongF "longer_fewest" sLongF nLongF 3 (forBody (nthS (forBody (nthS (defBody sLongF) 1)) 0)) B } :=
 ⟨_, fun P w K mg base f cdv A outer s H E C hr =>
  psso_cons (pso_set 7 sc_longF.nd (pd_bin opd_add (pd_dix (hu_of hr) (pd_var 2) (pd_var 4)) (pd_callC C.beads hr (by decide) (pad_cons (pd_var 5) pad_nil) (len_cons len_nil))))
  (psso_cons (pso_put 3 (hu_of hr) (pd_var 6) (pd_callB (cd_min2 rfl) C.t.min bt_min (pad_cons (pd_var 7) (pad_cons (pd_dget2 (hu_of hr) (pd_var 3) (pd_var 6) (pd_var 7)) pad_nil)))) psso_nil)⟩
noncomputable def bLongFOut : { B : Rho → Option Out // BodyO 3 CLongF "longer_fewest" sLongF nLongF 3 (forBody (nthS (defBody sLongF) 1)) B } :=
 ⟨_, fun P w K mg base f cdv A outer s H E C hr =>
  psso_cons (pso_for PassesOwn.never rfl (pid_list (pd_callC C.last hr (Nat.le_refl _) (pad_cons (pd_var 0) (pad_cons (pd_var 1) (pad_cons (pd_var 4) pad_nil))) (len_cons (len_cons (len_cons len_nil))))) (pgo_tup (n := 2) rfl (pgso_name 5 sc_longF.nd (pgso_name 6 sc_longF.nd pgso_nil))) (bLongFIn.2 P w K mg base f cdv A outer s H E C hr)) psso_nil⟩
noncomputable def bLongF : { B : Rho → Option Out // Body CLongF "longer_fewest" sLongF nLongF 3 B } :=
 ⟨_, fun P w K mg base f cdv A outer s H E C hr =>
  psso_toD (psso_new 3 sc_longF.nd pn_dict0
  (psso_cons (pso_for PassesOwn.never rfl (pid_dict (pd_var 2)) (pgo_name 4 sc_longF.nd) (bLongFOut.2 P w K mg base f cdv A outer s H E C hr))
  (psso_cons (pso_ret (pd_var 3)) psso_nil)))⟩
noncomputable def gLongF : List PyData → Option PyData := bodyD nLongF 3 bLongF.1
structure CLeast (P : Program) (w : World) (K : PySem.W.Frag) (mg : Str → Option Value) (base : Heap) : Prop where
 t : Bare mg
 asked : Callee P w K mg base "check_asked" ["manner", "rods", "number"] 5 3 gAsked
 longer : Callee P w K mg base "longer_fewest" ["manner", "ahead", "fewest"] 4 3 gLongF
noncomputable abbrev nLeast : List Str := ["manner", "rods", "number", "fewest", "ahead"]
theorem sc_least : FnScope nLeast ["manner", "rods", "number"] (defScope sLeast) := ⟨rfl, rfl, rfl, by decide +kernel, rfl, by decide +kernel, by decide +kernel⟩
noncomputable def bLeastIn : { B : Rho → Option Out // BodyS CLeast "least_beads" sLeast nLeast 5 (forBody (nthS (defBody sLeast) 2)) B } :=
 ⟨_, fun P w K mg base f cdv A outer s H E C hr =>
  pssd_cons (psd_set 3 sc_least.nd (pd_callC C.longer hr (by decide) (pad_cons (pd_var 0) (pad_cons (pd_var 4) (pad_cons (pd_var 3) pad_nil))) (len_cons (len_cons (len_cons len_nil))))) pssd_nil⟩
noncomputable def bLeast : { B : Rho → Option Out // Body CLeast "least_beads" sLeast nLeast 5 B } :=
 ⟨_, fun P w K mg base f cdv A outer s H E C hr =>
  pssd_cons (psd_expr (pd_callC C.asked hr (Nat.le_refl _) (pad_cons (pd_var 0) (pad_cons (pd_var 1) (pad_cons (pd_var 2) pad_nil))) (len_cons (len_cons (len_cons len_nil)))))
  (pssd_cons (psd_set 3 sc_least.nd (pd_dict1 (pd_var 2) pd_int))
  (pssd_cons (psd_for PassesOwn.never rfl (pid_range3 rfl C.t.range (pad_cons (pd_bin opd_sub (pd_var 1) pd_int) (pad_cons (pd_neg pd_int) (pad_cons (pd_neg pd_int) pad_nil)))) (pgd_name 4 sc_least.nd) (bLeastIn.2 P w K mg base f cdv A outer s H E C hr))
  (pssd_cons (psd_ret (pd_dget1 (hu_of hr) (pd_var 3) pd_int)) pssd_nil)))⟩
noncomputable def gLeast : List PyData → Option PyData := bodyD nLeast 3 bLeast.1
noncomputable abbrev nDig : List Str := ["base", "rods", "number", "digits", "left"]
noncomputable def whileBody : Stmt → List Stmt
 | .While _ b _ _ => b
 | _ => []
theorem sc_dig : FnScope nDig ["base", "rods", "number"] (defScope sDigits) := ⟨rfl, rfl, rfl, by decide +kernel, rfl, by decide +kernel, by decide +kernel⟩
noncomputable def bDigIn : { B : Rho → Option Out // BodyO 3 (fun _ _ _ mg _ => Bare mg) "digits_by_rods" sDigits nDig 0 (whileBody (nthS (defBody sDigits) 2)) B } :=
 ⟨_, fun P w K mg base f cdv A outer s H E C hr =>
  psso_cons (pso_mut (pe_insert0 3 pd_int (pd_bin opd_mod (pd_var 4) (pd_var 0))))
  (psso_cons (pso_set 4 sc_dig.nd (pd_bin opd_fdiv (pd_var 4) (pd_var 0))) psso_nil)⟩
noncomputable def bDig : { B : Rho → Option Out // Body (fun _ _ _ mg _ => Bare mg) "digits_by_rods" sDigits nDig 0 B } :=
 ⟨_, fun P w K mg base f cdv A outer s H E C hr =>
  psso_toD (psso_new 3 sc_dig.nd (pn_lst pad_nil)
  (psso_cons (pso_set 4 sc_dig.nd (pd_var 2))
  (psso_cons (pso_while 10 PassesOwn.never (ptd_cmp opd_lt (pd_callB cd_len C.len bt_len (pad_cons (pd_var 3) pad_nil)) (pd_bin opd_sub (pd_var 1) pd_int)) (bDigIn.2 P w K mg base f cdv A outer s H E C hr))
  (psso_cons (pso_ret (pd_bin opd_add (pd_lst (pad_cons (pd_var 4) pad_nil)) (pd_var 3))) psso_nil))))⟩
noncomputable def gDig : List PyData → Option PyData := bodyD nDig 3 bDig.1
structure CPlainR (P : Program) (w : World) (K : PySem.W.Frag) (mg : Str → Option Value) (base : Heap) : Prop where
 t : Bare mg
 dig : Callee P w K mg base "digits_by_rods" ["base", "rods", "number"] 1 3 gDig
 fewest : Callee P w K mg base "fewest_beads" ["manner", "worth"] 3 2 gFewest
noncomputable abbrev nPlainR : List Str := ["manner", "rods", "number", "digits"]
theorem sc_plainR : FnScope nPlainR ["manner", "rods", "number"] (defScope sPlainR) := ⟨rfl, rfl, rfl, by decide +kernel, rfl, by decide +kernel, by decide +kernel⟩
theorem ndd : (["digit", "manner"] : List Str).Nodup := by decide +kernel
noncomputable def bPlainR : { B : Rho → Option Out // Body CPlainR "plain_rods" sPlainR nPlainR 3 B } :=
 ⟨_, fun P w K mg base f cdv A outer s H E C hr =>
  pssd_cons (psd_set 3 sc_plainR.nd (pd_callC C.dig hr (by decide) (pad_cons (pd_ix (pd_var 0) pd_int) (pad_cons (pd_var 1) (pad_cons (pd_var 2) pad_nil))) (len_cons (len_cons (len_cons len_nil)))))
  (pssd_cons (psd_if (ptd_cmp opd_ge (pd_ix (pd_var 3) pd_int) (pd_ix (pd_var 0) pd_int)) pssd_never pssd_nil)
  (pssd_cons (psd_ret (pd_callTy cd_tupOf C.t.tuple bt_tuple (pad_cons (pd_comp ["digit", "manner"] [none, some 0] rfl (pid_list (pd_var 3)) (comp_ok (defScope sPlainR) nPlainR (by decide +kernel))
   fun cl C' s0 H0 fp pn => ⟨pgd_name 0 ndd, ptsd_nil, pd_callC C.fewest hr (Nat.le_refl _) (pad_cons (pd_var 1) (pad_cons (pd_var 0) pad_nil)) (len_cons (len_cons len_nil))⟩) pad_nil))) pssd_nil))⟩
noncomputable def gPlainR : List PyData → Option PyData := bodyD nPlainR 3 bPlainR.1
structure CPlainS (P : Program) (w : World) (K : PySem.W.Frag) (mg : Str → Option Value) (base : Heap) : Prop where
 asked : Callee P w K mg base "check_asked" ["manner", "rods", "number"] 5 3 gAsked
 rods : Callee P w K mg base "plain_rods" ["manner", "rods", "number"] 4 3 gPlainR
theorem sc_plainS : FnScope ["manner", "rods", "number"] ["manner", "rods", "number"] (defScope sPlainS) := ⟨rfl, rfl, rfl, by decide +kernel, rfl, by decide +kernel, by decide +kernel⟩
noncomputable def bPlainS : { B : Rho → Option Out // Body CPlainS "plain_setting" sPlainS ["manner", "rods", "number"] 5 B } :=
 ⟨_, fun P w K mg base f cdv A outer s H E C hr =>
  pssd_cons (psd_expr (pd_callC C.asked hr (Nat.le_refl _) (pad_cons (pd_var 0) (pad_cons (pd_var 1) (pad_cons (pd_var 2) pad_nil))) (len_cons (len_cons (len_cons len_nil)))))
  (pssd_cons (psd_ret (pd_callC C.rods hr (by decide) (pad_cons (pd_var 0) (pad_cons (pd_var 1) (pad_cons (pd_var 2) pad_nil))) (len_cons (len_cons (len_cons len_nil))))) pssd_nil)⟩
noncomputable def gPlainS : List PyData → Option PyData := bodyD ["manner", "rods", "number"] 3 bPlainS.1
structure CIsRod (P : Program) (w : World) (K : PySem.W.Frag) (mg : Str → Option Value) (base : Heap) : Prop where
 t : Bare mg
 isWhole : Callee P w K mg base "is_whole" ["thing", "least", "most"] 1 3 gIsWhole
theorem sc_isRod : FnScope ["manner", "thing"] ["manner", "thing"] (defScope sIsRod) := ⟨rfl, rfl, rfl, by decide +kernel, rfl, by decide +kernel, by decide +kernel⟩
noncomputable def bIsRod : { B : Rho → Option Out // Body CIsRod "is_rod" sIsRod ["manner", "thing"] 1 B } :=
 ⟨_, fun P w K mg base f cdv A outer s H E C hr =>
  pssd_cons (psd_if (ptd_bool (pwd_or (ptd_not (ptd_val (pd_isi (.inr (.inr rfl)) C.t.isi C.t.tuple bt_tuple (pd_var 1)))) (pwd_or1 (ptd_cmp (opd_ne hr.units) (pd_callB cd_len C.t.len bt_len (pad_cons (pd_var 1) pad_nil)) pd_int)))) (pssd_cons (psd_ret pd_bl) pssd_nil) pssd_nil)
  (pssd_cons (psd_ret (pd_and (pd_callC C.isWhole hr (Nat.le_refl _) (pad_cons (pd_ix (pd_var 1) pd_int) (pad_cons pd_int (pad_cons (pd_ix (pd_var 0) pd_int) pad_nil))) (len_cons (len_cons (len_cons len_nil)))) (pd_one (pd_callC C.isWhole hr (Nat.le_refl _) (pad_cons (pd_ix (pd_var 1) pd_int) (pad_cons pd_int (pad_cons (pd_ix (pd_var 0) pd_int) pad_nil))) (len_cons (len_cons (len_cons len_nil))))))) pssd_nil)⟩
noncomputable def gIsRod : List PyData → Option PyData := bodyD ["manner", "thing"] 2 bIsRod.1
structure CIsSet (P : Program) (w : World) (K : PySem.W.Frag) (mg : Str → Option Value) (base : Heap) : Prop where
 t : Bare mg
 check : Callee P w K mg base "check_manner" ["thing"] 4 1 gCheck
 isRod : Callee P w K mg base "is_rod" ["manner", "thing"] 2 2 gIsRod
 most : GC K mg "MOST_RODS" (.int 4)
theorem sc_isSet : FnScope ["manner", "thing"] ["manner", "thing"] (defScope sIsSetting) := ⟨rfl, rfl, rfl, by decide +kernel, rfl, by decide +kernel, by decide +kernel⟩
theorem ndp : (["part", "manner"] : List Str).Nodup := by decide +kernel
noncomputable def bIsSet : { B : Rho → Option Out // Body CIsSet "is_setting" sIsSetting ["manner", "thing"] 4 B } :=
 ⟨_, fun P w K mg base f cdv A outer s H E C hr =>
  pssd_cons (psd_expr (pd_callC C.check hr (Nat.le_refl _) (pad_cons (pd_var 0) pad_nil) (len_cons len_nil)))
  (pssd_cons (psd_if (ptd_bool (pwd_or (ptd_not (ptd_val (pd_isi (.inr (.inr rfl)) C.t.isi C.t.tuple bt_tuple (pd_var 1)))) (pwd_or1 (ptd_not (ptd_chain opd_le opd_le pd_int (pd_callB cd_len C.t.len bt_len (pad_cons (pd_var 1) pad_nil)) (pd_gc C.most)))))) (pssd_cons (psd_ret pd_bl) pssd_nil) pssd_nil)
  (pssd_cons (psd_ret (pd_callB (cd_all rfl) C.t.all bt_all (pad_cons (pd_comp ["part", "manner"] [none, some 0] rfl (pid_tup (pd_var 1)) (comp_ok (defScope sIsSetting) ["manner", "thing"] (by decide +kernel))
   fun cl C' s0 H0 fp pn => ⟨pgd_name 0 ndp, ptsd_nil, pd_callC C.isRod hr (by decide) (pad_cons (pd_var 1) (pad_cons (pd_var 0) pad_nil)) (len_cons (len_cons len_nil))⟩) pad_nil))) pssd_nil))⟩
noncomputable def gIsSet : List PyData → Option PyData := bodyD ["manner", "thing"] 2 bIsSet.1
structure CChkSet (P : Program) (w : World) (K : PySem.W.Frag) (mg : Str → Option Value) (base : Heap) : Prop where
 isSet : Callee P w K mg base "is_setting" ["manner", "thing"] 5 2 gIsSet
theorem sc_chkSet : FnScope ["manner", "thing"] ["manner", "thing"] (defScope sCheckSetting) := ⟨rfl, rfl, rfl, by decide +kernel, rfl, by decide +kernel, by decide +kernel⟩
noncomputable def bChkSet : { B : Rho → Option Out // Body CChkSet "check_setting" sCheckSetting ["manner", "thing"] 5 B } :=
 ⟨_, fun P w K mg base f cdv A outer s H E C hr =>
  pssd_cons (psd_if (ptd_not (ptd_val (pd_callC C.isSet hr (Nat.le_refl _) (pad_cons (pd_var 0) (pad_cons (pd_var 1) pad_nil)) (len_cons (len_cons len_nil))))) pssd_never pssd_nil) pssd_nil⟩
noncomputable def gChkSet : List PyData → Option PyData := bodyD ["manner", "thing"] 2 bChkSet.1
structure CAllBeads (P : Program) (w : World) (K : PySem.W.Frag) (mg : Str → Option Value) (base : Heap) : Prop where
 t : Bare mg
 check : Callee P w K mg base "check_setting" ["manner", "thing"] 6 2 gChkSet
 beads : Callee P w K mg base "beads" ["rod"] 1 1 gBeads
theorem sc_allBeads : FnScope ["manner", "setting"] ["manner", "setting"] (defScope sAllBeads) := ⟨rfl, rfl, rfl, by decide +kernel, rfl, by decide +kernel, by decide +kernel⟩
theorem ndo : (["rod"] : List Str).Nodup := by decide +kernel
noncomputable def bAllBeads : { B : Rho → Option Out // Body CAllBeads "all_beads" sAllBeads ["manner", "setting"] 6 B } :=
 ⟨_, fun P w K mg base f cdv A outer s H E C hr =>
  pssd_cons (psd_expr (pd_callC C.check hr (Nat.le_refl _) (pad_cons (pd_var 0) (pad_cons (pd_var 1) pad_nil)) (len_cons (len_cons len_nil))))
  (pssd_cons (psd_ret (pd_callB (cd_sum rfl) C.t.sum bt_sum (pad_cons (pd_comp ["rod"] [none] rfl (pid_tup (pd_var 1)) (comp_ok (defScope sAllBeads) ["manner", "setting"] (by decide +kernel))
   fun cl C' s0 H0 fp pn => ⟨pgd_name 0 ndo, ptsd_nil, pd_callC C.beads hr (by decide) (pad_cons (pd_var 0) pad_nil) (len_cons len_nil)⟩) pad_nil))) pssd_nil)⟩
noncomputable def gAllBeads : List PyData → Option PyData := bodyD ["manner", "setting"] 2 bAllBeads.1
noncomputable abbrev sHowMany : Stmt := top 37
noncomputable abbrev sLonger : Stmt := top 38
noncomputable abbrev sValue : Stmt := top 30
noncomputable abbrev sCell : Stmt := top 46
noncomputable abbrev sDrawn : Stmt := top 47
noncomputable abbrev sManner : Stmt := top 48
noncomputable abbrev sSetting : Stmt := top 49
structure CLonger (P : Program) (w : World) (K : PySem.W.Frag) (mg : Str → Option Value) (base : Heap) : Prop where
 last : Callee P w K mg base "last_rods" ["manner", "ahead", "number"] 3 3 gLast
noncomputable abbrev nLonger : List Str := ["manner", "ahead", "ways", "longer", "number", "rod", "left"]
theorem sc_longer : FnScope nLonger ["manner", "ahead", "ways"] (defScope sLonger) := ⟨rfl, rfl, rfl, by decide +kernel, rfl, by decide +kernel, by decide +kernel⟩
noncomputable def bLongIn : { B : Rho → Option Out // BodyO 3 CLonger "longer_ways" sLonger nLonger 3 (forBody (nthS (forBody (nthS (defBody sLonger) 1)) 0)) B } :=
 ⟨_, fun P w K mg base f cdv A outer s H E C hr =>
  psso_cons (pso_put 3 (hu_of hr) (pd_var 6) (pd_bin opd_add (pd_dget2 (hu_of hr) (pd_var 3) (pd_var 6) pd_int) (pd_dix (hu_of hr) (pd_var 2) (pd_var 4)))) psso_nil⟩
noncomputable def bLongOut : { B : Rho → Option Out // BodyO 3 CLonger "longer_ways" sLonger nLonger 3 (forBody (nthS (defBody sLonger) 1)) B } :=
 ⟨_, fun P w K mg base f cdv A outer s H E C hr =>
  psso_cons (pso_for PassesOwn.never rfl (pid_list (pd_callC C.last hr (Nat.le_refl _) (pad_cons (pd_var 0) (pad_cons (pd_var 1) (pad_cons (pd_var 4) pad_nil))) (len_cons (len_cons (len_cons len_nil))))) (pgo_tup (n := 2) rfl (pgso_name 5 sc_longer.nd (pgso_name 6 sc_longer.nd pgso_nil))) (bLongIn.2 P w K mg base f cdv A outer s H E C hr)) psso_nil⟩
noncomputable def bLonger : { B : Rho → Option Out // Body CLonger "longer_ways" sLonger nLonger 3 B } :=
 ⟨_, fun P w K mg base f cdv A outer s H E C hr =>
  psso_toD (psso_new 3 sc_longer.nd pn_dict0
  (psso_cons (pso_for PassesOwn.never rfl (pid_dict (pd_var 2)) (pgo_name 4 sc_longer.nd) (bLongOut.2 P w K mg base f cdv A outer s H E C hr))
  (psso_cons (pso_ret (pd_var 3)) psso_nil)))⟩
noncomputable def gLonger : List PyData → Option PyData := bodyD nLonger 3 bLonger.1
structure CHow (P : Program) (w : World) (K : PySem.W.Frag) (mg : Str → Option Value) (base : Heap) : Prop where
 t : Bare mg
 asked : Callee P w K mg base "check_asked" ["manner", "rods", "number"] 5 3 gAsked
 longer : Callee P w K mg base "longer_ways" ["manner", "ahead", "ways"] 4 3 gLonger
noncomputable abbrev nHow : List Str := ["manner", "rods", "number", "ways", "ahead"]
theorem sc_how : FnScope nHow ["manner", "rods", "number"] (defScope sHowMany) := ⟨rfl, rfl, rfl, by decide +kernel, rfl, by decide +kernel, by decide +kernel⟩
noncomputable def bHowIn : { B : Rho → Option Out // BodyS CHow "how_many" sHowMany nHow 5 (forBody (nthS (defBody sHowMany) 2)) B } :=
 ⟨_, fun P w K mg base f cdv A outer s H E C hr =>
  pssd_cons (psd_set 3 sc_how.nd (pd_callC C.longer hr (by decide) (pad_cons (pd_var 0) (pad_cons (pd_var 4) (pad_cons (pd_var 3) pad_nil))) (len_cons (len_cons (len_cons len_nil))))) pssd_nil⟩
noncomputable def bHow : { B : Rho → Option Out // Body CHow "how_many" sHowMany nHow 5 B } :=
 ⟨_, fun P w K mg base f cdv A outer s H E C hr =>
  pssd_cons (psd_expr (pd_callC C.asked hr (Nat.le_refl _) (pad_cons (pd_var 0) (pad_cons (pd_var 1) (pad_cons (pd_var 2) pad_nil))) (len_cons (len_cons (len_cons len_nil)))))
  (pssd_cons (psd_set 3 sc_how.nd (pd_dict1 (pd_var 2) pd_int))
  (pssd_cons (psd_for PassesOwn.never rfl (pid_range3 rfl C.t.range (pad_cons (pd_bin opd_sub (pd_var 1) pd_int) (pad_cons (pd_neg pd_int) (pad_cons (pd_neg pd_int) pad_nil)))) (pgd_name 4 sc_how.nd) (bHowIn.2 P w K mg base f cdv A outer s H E C hr))
  (pssd_cons (psd_ret (pd_dget2 (hu_of hr) (pd_var 3) pd_int pd_int)) pssd_nil)))⟩
noncomputable def gHow : List PyData → Option PyData := bodyD nHow 3 bHow.1
noncomputable abbrev nMS : List Str := ["manner", "setting"]
structure CValue (P : Program) (w : World) (K : PySem.W.Frag) (mg : Str → Option Value) (base : Heap) : Prop where
 check : Callee P w K mg base "check_setting" ["manner", "thing"] 6 2 gChkSet
 num : Callee P w K mg base "number_on" ["manner", "setting"] 2 2 gNum
theorem sc_value : FnScope nMS nMS (defScope sValue) := ⟨rfl, rfl, rfl, by decide +kernel, rfl, by decide +kernel, by decide +kernel⟩
noncomputable def bValue : { B : Rho → Option Out // Body CValue "value" sValue nMS 6 B } :=
 ⟨_, fun P w K mg base f cdv A outer s H E C hr =>
  pssd_cons (psd_expr (pd_callC C.check hr (by decide) (pad_cons (pd_var 0) (pad_cons (pd_var 1) pad_nil)) (len_cons (len_cons len_nil)))) (pssd_cons (psd_ret (pd_callC C.num hr (by decide) (pad_cons (pd_var 0) (pad_cons (pd_var 1) pad_nil)) (len_cons (len_cons len_nil)))) pssd_nil)⟩
noncomputable def gValue : List PyData → Option PyData := bodyD nMS 2 bValue.1
theorem sc_cell : FnScope ["_law_script", "_law_k"] ["_law_script", "_law_k"] (defScope sCell) := ⟨rfl, rfl, rfl, by decide +kernel, rfl, by decide +kernel, by decide +kernel⟩
noncomputable def bCell : { B : Rho → Option Out // Body (fun _ _ _ mg _ => Bare mg) "_law_cell" sCell ["_law_script", "_law_k"] 0 B } :=
 ⟨_, fun P w K mg base f cdv A outer s H E C hr =>
  pssd_cons (psd_if (ptd_cmp (opd_eq hr.units) (pd_var 0) (pd_lst pad_nil)) (pssd_cons (psd_ret (pd_bin opd_mul pd_int (pd_var 1))) pssd_nil) pssd_nil)
  (pssd_cons (psd_ret (pd_bin opd_add (pd_ix (pd_var 0) (pd_bin opd_mod (pd_var 1) (pd_callB cd_len C.len bt_len (pad_cons (pd_var 0) pad_nil)))) (pd_bin opd_mul pd_int (pd_bin opd_fdiv (pd_var 1) (pd_callB cd_len C.len bt_len (pad_cons (pd_var 0) pad_nil)))))) pssd_nil)⟩
noncomputable def gCell : List PyData → Option PyData := bodyD ["_law_script", "_law_k"] 2 bCell.1
structure CDrawn (P : Program) (w : World) (K : PySem.W.Frag) (mg : Str → Option Value) (base : Heap) : Prop where
 cell : Callee P w K mg base "_law_cell" ["_law_script", "_law_k"] 1 2 gCell
theorem sc_drawn : FnScope ["_law_script", "_law_k", "_law_many", "_law_cell_here"] ["_law_script", "_law_k", "_law_many"] (defScope sDrawn) := ⟨rfl, rfl, rfl, by decide +kernel, rfl, by decide +kernel, by decide +kernel⟩
noncomputable def bDrawn : { B : Rho → Option Out // Body CDrawn "_law_drawn" sDrawn ["_law_script", "_law_k", "_law_many", "_law_cell_here"] 1 B } :=
 ⟨_, fun P w K mg base f cdv A outer s H E C hr =>
  pssd_cons (psd_set 3 sc_drawn.nd (pd_bin opd_mod (pd_bin opd_add (pd_bin opd_mul (pd_bin opd_mod (pd_callC C.cell hr (Nat.le_refl _) (pad_cons (pd_var 0) (pad_cons (pd_var 1) pad_nil)) (len_cons (len_cons len_nil))) pd_int) pd_int) (pd_bin opd_mul pd_int (pd_bin opd_add (pd_var 1) pd_int))) pd_int))
  (pssd_cons (psd_set 3 sc_drawn.nd (pd_bin opd_mod (pd_bin opd_add (pd_bin opd_mul (pd_var 3) (pd_var 3)) (pd_bin opd_fdiv (pd_var 3) pd_int)) pd_int))
  (pssd_cons (psd_ret (pd_bin opd_mod (pd_bin opd_fdiv (pd_bin opd_mod (pd_bin opd_add (pd_bin opd_mul (pd_var 3) (pd_var 3)) (pd_bin opd_fdiv (pd_var 3) pd_int)) pd_int) pd_int) (pd_var 2))) pssd_nil))⟩
noncomputable def gDrawn : List PyData → Option PyData := bodyD ["_law_script", "_law_k", "_law_many", "_law_cell_here"] 3 bDrawn.1
noncomputable abbrev nManner : List Str := ["_law_script", "_law_at", "_law_known", "_law_way", "_law_each", "_law_upper", "_law_lower"]
structure CManner (P : Program) (w : World) (K : PySem.W.Frag) (mg : Str → Option Value) (base : Heap) : Prop where
 t : Bare mg
 drawn : Callee P w K mg base "_law_drawn" ["_law_script", "_law_k", "_law_many"] 2 3 gDrawn
theorem sc_manner : FnScope nManner ["_law_script", "_law_at"] (defScope sManner) := ⟨rfl, rfl, rfl, by decide +kernel, rfl, by decide +kernel, by decide +kernel⟩
noncomputable def four (a b c d : Int) : PyData := .tuple [.int a, .int b, .int c, .int d]
noncomputable def known1 : List PyData := [four 1 5 4 10, four 2 5 5 10, four 0 1 9 10, four 1 5 5 10, four 0 1 10 10, four 1 2 1 4, four 0 1 1 2]
noncomputable def known2 : List PyData := [four 1 4 3 8, four 1 3 2 5, four 3 4 3 16, four 2 3 2 7, four 1 1 1 3]
noncomputable def bManner : { B : Rho → Option Out // Body CManner "_law_manner" sManner nManner 2 B } :=
 ⟨_, fun P w K mg base f cdv A outer s H E C hr =>
  pssd_cons (psd_set 2 sc_manner.nd (pd_lit 3 (.list known1) (by kernel_rfl)))
  (pssd_cons (psd_set 2 sc_manner.nd (pd_bin opd_add (pd_var 2) (pd_lit 3 (.list known2) (by kernel_rfl))))
  (pssd_cons (psd_set 3 sc_manner.nd (pd_callC C.drawn hr (Nat.le_refl _) (pad_cons (pd_var 0) (pad_cons (pd_var 1) (pad_cons (pd_bin opd_mul pd_int (pd_callB cd_len C.t.len bt_len (pad_cons (pd_var 2) pad_nil))) pad_nil))) (len_cons (len_cons (len_cons len_nil)))))
  (pssd_cons (psd_if (ptd_cmp opd_lt (pd_var 3) (pd_callB cd_len C.t.len bt_len (pad_cons (pd_var 2) pad_nil))) (pssd_cons (psd_ret (pd_ix (pd_var 2) (pd_var 3))) pssd_nil) pssd_nil)
  (pssd_cons (psd_set 4 sc_manner.nd (pd_bin opd_add pd_int (pd_callC C.drawn hr (Nat.le_refl _) (pad_cons (pd_var 0) (pad_cons (pd_bin opd_add (pd_var 1) pd_int) (pad_cons pd_int pad_nil))) (len_cons (len_cons (len_cons len_nil))))))
  (pssd_cons (psd_set 5 sc_manner.nd (pd_callC C.drawn hr (Nat.le_refl _) (pad_cons (pd_var 0) (pad_cons (pd_bin opd_add (pd_var 1) pd_int) (pad_cons pd_int pad_nil))) (len_cons (len_cons (len_cons len_nil)))))
  (pssd_cons (psd_set 6 sc_manner.nd (pd_bin opd_add (pd_callB (cd_max2 rfl) C.t.max bt_max (pad_cons (pd_bin opd_sub (pd_var 4) pd_int) (pad_cons pd_int pad_nil))) (pd_callC C.drawn hr (Nat.le_refl _) (pad_cons (pd_var 0) (pad_cons (pd_bin opd_add (pd_var 1) pd_int) (pad_cons pd_int pad_nil))) (len_cons (len_cons (len_cons len_nil))))))
  (pssd_cons (psd_ret (pd_tup (pad_cons (pd_var 5) (pad_cons (pd_var 4) (pad_cons (pd_var 6) (pad_cons (pd_bin opd_add pd_int (pd_callC C.drawn hr (Nat.le_refl _) (pad_cons (pd_var 0) (pad_cons (pd_bin opd_add (pd_var 1) pd_int) (pad_cons (pd_callB (cd_min2 rfl) C.t.min bt_min (pad_cons pd_int (pad_cons (pd_bin opd_add (pd_bin opd_mul (pd_var 5) (pd_var 4)) (pd_var 6)) pad_nil))) pad_nil))) (len_cons (len_cons (len_cons len_nil))))) pad_nil)))))) pssd_nil)))))))⟩
noncomputable def gManner : List PyData → Option PyData := bodyD nManner 2 bManner.1
structure CSetting (P : Program) (w : World) (K : PySem.W.Frag) (mg : Str → Option Value) (base : Heap) : Prop where
 t : Bare mg
 drawn : Callee P w K mg base "_law_drawn" ["_law_script", "_law_k", "_law_many"] 2 3 gDrawn
noncomputable abbrev nSet : List Str := ["_law_script", "_law_at", "_law_manner_here", "_law_most", "_law_rods_here", "_law_found", "_law_k", "_law_rod"]
theorem sc_set : FnScope nSet ["_law_script", "_law_at", "_law_manner_here", "_law_most"] (defScope sSetting) := ⟨rfl, rfl, rfl, by decide +kernel, rfl, by decide +kernel, by decide +kernel⟩
noncomputable def bSetIn : { B : Rho → Option Out // BodyS CSetting "_law_setting" sSetting nSet 2 (forBody (nthS (defBody sSetting) 2)) B } :=
 ⟨_, fun P w K mg base f cdv A outer s H E C hr =>
  (pssd_cons (psd_set 7 sc_set.nd (pd_tup (pad_cons (pd_callC C.drawn hr (by decide) (pad_cons (pd_var 0) (pad_cons (pd_bin opd_add (pd_bin opd_add (pd_var 1) pd_int) (pd_bin opd_mul pd_int (pd_var 6))) (pad_cons (pd_bin opd_add (pd_ix (pd_var 2) pd_int) pd_int) pad_nil))) (len_cons (len_cons (len_cons len_nil)))) (pad_cons (pd_callC C.drawn hr (by decide) (pad_cons (pd_var 0) (pad_cons (pd_bin opd_add (pd_bin opd_add (pd_var 1) pd_int) (pd_bin opd_mul pd_int (pd_var 6))) (pad_cons (pd_bin opd_add (pd_ix (pd_var 2) pd_int) pd_int) pad_nil))) (len_cons (len_cons (len_cons len_nil)))) pad_nil))))
  (pssd_cons (psd_set 5 sc_set.nd (pd_bin opd_add (pd_var 5) (pd_tup (pad_cons (pd_var 7) pad_nil))))
  pssd_nil))⟩
noncomputable def bSet : { B : Rho → Option Out // Body CSetting "_law_setting" sSetting nSet 2 B } :=
 ⟨_, fun P w K mg base f cdv A outer s H E C hr =>
  (pssd_cons (psd_set 4 sc_set.nd (pd_bin opd_add pd_int (pd_callC C.drawn hr (by decide) (pad_cons (pd_var 0) (pad_cons (pd_var 1) (pad_cons (pd_var 3) pad_nil))) (len_cons (len_cons (len_cons len_nil))))))
  (pssd_cons (psd_set 5 sc_set.nd (pd_tup pad_nil))
  (pssd_cons (psd_for PassesOwn.never rfl (pid_range1 rfl C.t.range (pad_cons (pd_var 4) pad_nil)) (pgd_name 6 sc_set.nd) (bSetIn.2 P w K mg base f cdv A outer s H E C hr))
  (pssd_cons (psd_ret (pd_var 5))
  pssd_nil))))⟩
noncomputable def gSet : List PyData → Option PyData := bodyD nSet 4 bSet.1
end Rods
namespace Rods
open PySem L2 BX
open PyProof.Rows hiding St
noncomputable abbrev sGreatest : Stmt := top 32
structure CGreatest (P : Program) (w : World) (K : PySem.W.Frag) (mg : Str → Option Value) (base : Heap) : Prop where
 c_check : Callee P w K mg base "check_manner" ["thing"] 4 1 gCheck
 c_chkRods : Callee P w K mg base "check_rods" ["rods"] 2 1 gChkRods
 c_num : Callee P w K mg base "number_on" ["manner", "setting"] 2 2 gNum
 c_full : Callee P w K mg base "full_rods" ["manner", "rods"] 1 2 gFull
noncomputable abbrev nGreatest : List Str := ["manner", "rods"]
theorem sc_Greatest : FnScope nGreatest ["manner", "rods"] (defScope sGreatest) := ⟨rfl, rfl, rfl, by decide +kernel, rfl, by decide +kernel, by decide +kernel⟩
noncomputable def bGreatest : { B : Rho → Option Out // Body CGreatest "greatest" sGreatest nGreatest 4 B } :=
 ⟨_, fun P w K mg base f cdv A outer s H E C hr =>
  (pssd_cons (psd_expr (pd_callC C.c_check hr (by decide) (pad_cons (pd_var 0) pad_nil) (len_cons len_nil)))
  (pssd_cons (psd_expr (pd_callC C.c_chkRods hr (by decide) (pad_cons (pd_var 1) pad_nil) (len_cons len_nil)))
  (pssd_cons (psd_ret (pd_callC C.c_num hr (by decide) (pad_cons (pd_var 0) (pad_cons (pd_callC C.c_full hr (by decide) (pad_cons (pd_var 0) (pad_cons (pd_var 1) pad_nil)) (len_cons (len_cons len_nil))) pad_nil)) (len_cons (len_cons len_nil))))
  pssd_nil)))⟩
noncomputable def gGreatest : List PyData → Option PyData := bodyD nGreatest 2 bGreatest.1
noncomputable abbrev sLongerEnds : Stmt := top 36
structure CLongerEnds (P : Program) (w : World) (K : PySem.W.Frag) (mg : Str → Option Value) (base : Heap) : Prop where
 c_last : Callee P w K mg base "last_rods" ["manner", "ahead", "number"] 3 3 gLast
noncomputable abbrev nLongerEnds : List Str := ["manner", "ahead", "ends", "longer", "number", "rod", "left"]
theorem sc_LongerEnds : FnScope nLongerEnds ["manner", "ahead", "ends"] (defScope sLongerEnds) := ⟨rfl, rfl, rfl, by decide +kernel, rfl, by decide +kernel, by decide +kernel⟩
theorem nd_k12_0 : (["end", "rod"] : List Str).Nodup := by decide +kernel
noncomputable def bLongerEnds2 : { B : Rho → Option Out // BodyO 3 CLongerEnds "longer_ends" sLongerEnds nLongerEnds 3 (forBody (nthS (forBody (nthS (defBody sLongerEnds) 1)) 0)) B } :=
 ⟨_, fun P w K mg base f cdv A outer s H E C hr =>
  (psso_cons (pso_put 3 hr.units1 (pd_var 6) (pd_bin opd_add (pd_dget2 hr.units1 (pd_var 3) (pd_var 6) (pd_lst pad_nil)) (pd_comp ["end", "rod"] [none, some 5] rfl (pid_seq (pd_dix hr.units1 (pd_var 2) (pd_var 4))) (comp_ok (defScope sLongerEnds) nLongerEnds (by decide +kernel))
   fun cl C' s0 H0 fp pn => ⟨(pgd_name 0 nd_k12_0), ptsd_nil, (pd_bin opd_add (pd_tup (pad_cons (pd_var 1) pad_nil)) (pd_var 0))⟩)))
  psso_nil)⟩
noncomputable def bLongerEnds1 : { B : Rho → Option Out // BodyO 3 CLongerEnds "longer_ends" sLongerEnds nLongerEnds 3 (forBody (nthS (defBody sLongerEnds) 1)) B } :=
 ⟨_, fun P w K mg base f cdv A outer s H E C hr =>
  (psso_cons (pso_for PassesOwn.never rfl (pid_seq (pd_callC C.c_last hr (by decide) (pad_cons (pd_var 0) (pad_cons (pd_var 1) (pad_cons (pd_var 4) pad_nil))) (len_cons (len_cons (len_cons len_nil))))) (pgo_tup (n := 2) rfl (pgso_name 5 sc_LongerEnds.nd (pgso_name 6 sc_LongerEnds.nd pgso_nil))) (bLongerEnds2.2 P w K mg base f cdv A outer s H E C hr))
  psso_nil)⟩
noncomputable def bLongerEnds : { B : Rho → Option Out // Body CLongerEnds "longer_ends" sLongerEnds nLongerEnds 3 B } :=
 ⟨_, fun P w K mg base f cdv A outer s H E C hr =>
  (psso_toD (psso_new 3 sc_LongerEnds.nd pn_dict0
  (psso_cons (pso_for PassesOwn.never rfl (pid_dict (pd_var 2)) (pgo_name 4 sc_LongerEnds.nd) (bLongerEnds1.2 P w K mg base f cdv A outer s H E C hr))
  (psso_cons (pso_ret (pd_var 3))
  psso_nil))))⟩
noncomputable def gLongerEnds : List PyData → Option PyData := bodyD nLongerEnds 3 bLongerEnds.1
noncomputable abbrev sAllSettings : Stmt := top 35
structure CAllSettings (P : Program) (w : World) (K : PySem.W.Frag) (mg : Str → Option Value) (base : Heap) : Prop where
 t : Bare mg
 c_asked : Callee P w K mg base "check_asked" ["manner", "rods", "number"] 5 3 gAsked
 c_LongerEnds : Callee P w K mg base "longer_ends" ["manner", "ahead", "ends"] 4 3 gLongerEnds
noncomputable abbrev nAllSettings : List Str := ["manner", "rods", "number", "ends", "ahead"]
theorem sc_AllSettings : FnScope nAllSettings ["manner", "rods", "number"] (defScope sAllSettings) := ⟨rfl, rfl, rfl, by decide +kernel, rfl, by decide +kernel, by decide +kernel⟩
noncomputable def bAllSettings1 : { B : Rho → Option Out // BodyS CAllSettings "all_settings" sAllSettings nAllSettings 5 (forBody (nthS (defBody sAllSettings) 2)) B } :=
 ⟨_, fun P w K mg base f cdv A outer s H E C hr =>
  (pssd_cons (psd_set 3 sc_AllSettings.nd (pd_callC C.c_LongerEnds hr (by decide) (pad_cons (pd_var 0) (pad_cons (pd_var 4) (pad_cons (pd_var 3) pad_nil))) (len_cons (len_cons (len_cons len_nil)))))
  pssd_nil)⟩
noncomputable def bAllSettings : { B : Rho → Option Out // Body CAllSettings "all_settings" sAllSettings nAllSettings 5 B } :=
 ⟨_, fun P w K mg base f cdv A outer s H E C hr =>
  (pssd_cons (psd_expr (pd_callC C.c_asked hr (by decide) (pad_cons (pd_var 0) (pad_cons (pd_var 1) (pad_cons (pd_var 2) pad_nil))) (len_cons (len_cons (len_cons len_nil)))))
  (pssd_cons (psd_set 3 sc_AllSettings.nd (pd_dict1 (pd_var 2) (pd_lit 2 (.list [.tuple []]) (by kernel_rfl))))
  (pssd_cons (psd_for PassesOwn.never rfl (pid_range3 rfl C.t.range (pad_cons (pd_bin opd_sub (pd_var 1) pd_int) (pad_cons (pd_neg pd_int) (pad_cons (pd_neg pd_int) pad_nil)))) (pgd_name 4 sc_AllSettings.nd) (bAllSettings1.2 P w K mg base f cdv A outer s H E C hr))
  (pssd_cons (psd_ret (pd_callB (cd_sortS hr.sort) C.t.sorted bt_sorted (pad_cons (pd_dget2 hr.units1 (pd_var 3) pd_int (pd_lst pad_nil)) pad_nil)))
  pssd_nil))))⟩
noncomputable def gAllSettings : List PyData → Option PyData := bodyD nAllSettings 3 bAllSettings.1
noncomputable abbrev sLParted : Stmt := top 54
structure CLParted (P : Program) (w : World) (K : PySem.W.Frag) (mg : Str → Option Value) (base : Heap) : Prop where
 t : Bare mg
 c_counts : Callee P w K mg base "counts" ["manner"] 5 1 gCounts
 c_most : Callee P w K mg base "most_on_rod" ["manner"] 2 1 gMost
 c_how : Callee P w K mg base "how_many" ["manner", "rods", "number"] 6 3 gHow
noncomputable abbrev nLParted : List Str := ["_law_manner_here", "_law_rods_here", "_law_number", "_law_row", "_law_found", "_law_worth", "_law_over"]
theorem sc_LParted : FnScope nLParted ["_law_manner_here", "_law_rods_here", "_law_number"] (defScope sLParted) := ⟨rfl, rfl, rfl, by decide +kernel, rfl, by decide +kernel, by decide +kernel⟩
noncomputable def bLParted1 : { B : Rho → Option Out // BodyS CLParted "_law_parted" sLParted nLParted 6 (forBody (nthS (defBody sLParted) 2)) B } :=
 ⟨_, fun P w K mg base f cdv A outer s H E C hr =>
  (pssd_cons (psd_if (ptd_cmp (opd_eq hr.units) (pd_bin opd_mod (pd_bin opd_sub (pd_var 2) (pd_var 5)) (pd_ix (pd_var 0) pd_int)) pd_int) (pssd_cons (psd_set 6 sc_LParted.nd (pd_bin opd_fdiv (pd_bin opd_sub (pd_var 2) (pd_var 5)) (pd_ix (pd_var 0) pd_int)))
  (pssd_cons (psd_set 4 sc_LParted.nd (pd_bin opd_add (pd_var 4) (pd_bin opd_mul (pd_ix (pd_var 3) (pd_var 5)) (pd_if (ptd_cmp opd_gt (pd_var 1) pd_int) (pd_callC C.c_how hr (by decide) (pad_cons (pd_var 0) (pad_cons (pd_bin opd_sub (pd_var 1) pd_int) (pad_cons (pd_var 6) pad_nil))) (len_cons (len_cons (len_cons len_nil)))) (pd_callTy cd_intOf C.t.int bt_int (pad_cons (pd_cmp (opd_eq hr.units) (pd_var 6) pd_int) pad_nil))))))
  pssd_nil)) pssd_nil)
  pssd_nil)⟩
noncomputable def bLParted : { B : Rho → Option Out // Body CLParted "_law_parted" sLParted nLParted 6 B } :=
 ⟨_, fun P w K mg base f cdv A outer s H E C hr =>
  (pssd_cons (psd_set 3 sc_LParted.nd (pd_callC C.c_counts hr (by decide) (pad_cons (pd_var 0) pad_nil) (len_cons len_nil)))
  (pssd_cons (psd_set 4 sc_LParted.nd pd_int)
  (pssd_cons (psd_for PassesOwn.never rfl (pid_range1 rfl C.t.range (pad_cons (pd_bin opd_add (pd_callB (cd_min2 rfl) C.t.min bt_min (pad_cons (pd_callC C.c_most hr (by decide) (pad_cons (pd_var 0) pad_nil) (len_cons len_nil)) (pad_cons (pd_var 2) pad_nil))) pd_int) pad_nil)) (pgd_name 5 sc_LParted.nd) (bLParted1.2 P w K mg base f cdv A outer s H E C hr))
  (pssd_cons (psd_ret (pd_var 4))
  pssd_nil))))⟩
noncomputable def gLParted : List PyData → Option PyData := bodyD nLParted 3 bLParted.1
noncomputable abbrev sLaw : Stmt := top 55
structure CLaw (P : Program) (w : World) (K : PySem.W.Frag) (mg : Str → Option Value) (base : Heap) : Prop where
 t : Bare mg
 c_manner : Callee P w K mg base "_law_manner" ["_law_script", "_law_at"] 3 2 gManner
 c_setting : Callee P w K mg base "_law_setting" ["_law_script", "_law_at", "_law_manner_here", "_law_most"] 3 4 gSet
 c_value : Callee P w K mg base "value" ["manner", "setting"] 7 2 gValue
 c_LParted : Callee P w K mg base "_law_parted" ["_law_manner_here", "_law_rods_here", "_law_number"] 7 3 gLParted
 c_how : Callee P w K mg base "how_many" ["manner", "rods", "number"] 6 3 gHow
 c_least : Callee P w K mg base "least_beads" ["manner", "rods", "number"] 6 3 gLeast
 c_AllSettings : Callee P w K mg base "all_settings" ["manner", "rods", "number"] 6 3 gAllSettings
 c_allBeads : Callee P w K mg base "all_beads" ["manner", "setting"] 7 2 gAllBeads
 c_plainS : Callee P w K mg base "plain_setting" ["manner", "rods", "number"] 6 3 gPlainS
 c_isSet : Callee P w K mg base "is_setting" ["manner", "thing"] 5 2 gIsSet
 c_Greatest : Callee P w K mg base "greatest" ["manner", "rods"] 5 2 gGreatest
noncomputable abbrev nLaw : List Str := ["_law_script", "_law_manner_here", "_law_setting_here", "_law_rods_here", "_law_number", "_law_due", "_law_few", "_law_some", "_law_far_here", "_law_k", "_law_small", "_law_plain", "_law_wide", "_law_top"]
theorem sc_Law : FnScope nLaw ["_law_script"] (defScope sLaw) := ⟨rfl, rfl, rfl, by decide +kernel, rfl, by decide +kernel, by decide +kernel⟩
theorem nd_k12_1 : (["_law_one", "_law_number", "_law_manner_here"] : List Str).Nodup := by decide +kernel
theorem nd_k12_2 : (["_law_one", "_law_manner_here"] : List Str).Nodup := by decide +kernel
theorem nd_k12_3 : (["_law_some", "_law_manner_here", "_law_rods_here"] : List Str).Nodup := by decide +kernel
noncomputable def bLaw1 : { B : Rho → Option Out // BodyS CLaw "law" sLaw nLaw 7 (forBody (nthS (defBody sLaw) 10)) B } :=
 ⟨_, fun P w K mg base f cdv A outer s H E C hr =>
  (pssd_cons (psd_set 8 sc_Law.nd (pd_bin opd_mul (pd_var 8) (pd_ix (pd_var 1) pd_int)))
  pssd_nil)⟩
noncomputable def bLaw : { B : Rho → Option Out // Body CLaw "law" sLaw nLaw 7 B } :=
 ⟨_, fun P w K mg base f cdv A outer s H E C hr =>
  (pssd_cons (psd_set 1 sc_Law.nd (pd_callC C.c_manner hr (by decide) (pad_cons (pd_var 0) (pad_cons pd_int pad_nil)) (len_cons (len_cons len_nil))))
  (pssd_cons (psd_set 2 sc_Law.nd (pd_callC C.c_setting hr (by decide) (pad_cons (pd_var 0) (pad_cons pd_int (pad_cons (pd_var 1) (pad_cons pd_int pad_nil)))) (len_cons (len_cons (len_cons (len_cons len_nil))))))
  (pssd_cons (psd_set 3 sc_Law.nd (pd_callB cd_len C.t.len bt_len (pad_cons (pd_var 2) pad_nil)))
  (pssd_cons (psd_set 4 sc_Law.nd (pd_callC C.c_value hr (by decide) (pad_cons (pd_var 1) (pad_cons (pd_var 2) pad_nil)) (len_cons (len_cons len_nil))))
  (pssd_cons (psd_set 5 sc_Law.nd (pd_callC C.c_LParted hr (by decide) (pad_cons (pd_var 1) (pad_cons (pd_var 3) (pad_cons (pd_var 4) pad_nil))) (len_cons (len_cons (len_cons len_nil)))))
  (pssd_cons (psd_if (ptd_bool (pwd_or (ptd_cmp (opd_ne hr.units) (pd_callC C.c_how hr (by decide) (pad_cons (pd_var 1) (pad_cons (pd_var 3) (pad_cons (pd_var 4) pad_nil))) (len_cons (len_cons (len_cons len_nil)))) (pd_var 5)) (pwd_or1 (ptd_cmp opd_lt (pd_var 5) pd_int)))) (pssd_cons (psd_ret pd_bl)
  pssd_nil) pssd_nil)
  (pssd_cons (psd_set 6 sc_Law.nd (pd_callC C.c_least hr (by decide) (pad_cons (pd_var 1) (pad_cons (pd_var 3) (pad_cons (pd_var 4) pad_nil))) (len_cons (len_cons (len_cons len_nil)))))
  (pssd_cons (psd_if (ptd_bool (pwd_and (ptd_cmp opd_lt (pd_var 3) pd_int) (pwd_and1 (ptd_cmp opd_gt (pd_callC C.c_least hr (by decide) (pad_cons (pd_var 1) (pad_cons (pd_bin opd_add (pd_var 3) pd_int) (pad_cons (pd_var 4) pad_nil))) (len_cons (len_cons (len_cons len_nil)))) (pd_var 6))))) (pssd_cons (psd_ret pd_bl)
  pssd_nil) pssd_nil)
  (pssd_cons (psd_if (ptd_cmp opd_lt (pd_var 5) pd_int) (pssd_cons (psd_set 7 sc_Law.nd (pd_callC C.c_AllSettings hr (by decide) (pad_cons (pd_var 1) (pad_cons (pd_var 3) (pad_cons (pd_var 4) pad_nil))) (len_cons (len_cons (len_cons len_nil)))))
  (pssd_cons (psd_if (ptd_bool (pwd_or (ptd_cmp (opd_notIn hr.units) (pd_var 2) (pd_var 7)) (pwd_or (ptd_cmp (opd_ne hr.units) (pd_callB cd_len C.t.len bt_len (pad_cons (pd_var 7) pad_nil)) (pd_var 5)) (pwd_or1 (ptd_cmp (opd_ne hr.units) (pd_comp ["_law_one", "_law_number", "_law_manner_here"] [none, some 4, some 1] rfl (pid_seq (pd_var 7)) (comp_ok (defScope sLaw) nLaw (by decide +kernel))
   fun cl C' s0 H0 fp pn => ⟨(pgd_name 0 nd_k12_1), (ptsd_one (ptd_cmp (opd_ne hr.units) (pd_callC C.c_value hr (by decide) (pad_cons (pd_var 2) (pad_cons (pd_var 0) pad_nil)) (len_cons (len_cons len_nil))) (pd_var 1))), (pd_var 0)⟩) (pd_lst pad_nil)))))) (pssd_cons (psd_ret pd_bl)
  pssd_nil) pssd_nil)
  (pssd_cons (psd_if (ptd_cmp (opd_ne hr.units) (pd_callB (cd_min1 rfl) C.t.min bt_min (pad_cons (pd_comp ["_law_one", "_law_manner_here"] [none, some 1] rfl (pid_seq (pd_var 7)) (comp_ok (defScope sLaw) nLaw (by decide +kernel))
   fun cl C' s0 H0 fp pn => ⟨(pgd_name 0 nd_k12_2), ptsd_nil, (pd_callC C.c_allBeads hr (by decide) (pad_cons (pd_var 1) (pad_cons (pd_var 0) pad_nil)) (len_cons (len_cons len_nil)))⟩) pad_nil)) (pd_var 6)) (pssd_cons (psd_ret pd_bl)
  pssd_nil) pssd_nil)
  pssd_nil))) pssd_nil)
  (pssd_cons (psd_set 8 sc_Law.nd pd_int)
  (pssd_cons (psd_for PassesOwn.never rfl (pid_range1 rfl C.t.range (pad_cons (pd_var 3) pad_nil)) (pgd_name 9 sc_Law.nd) (bLaw1.2 P w K mg base f cdv A outer s H E C hr))
  (pssd_cons (psd_set 10 sc_Law.nd (pd_bin opd_mod (pd_var 4) (pd_var 8)))
  (pssd_cons (psd_set 11 sc_Law.nd (pd_callC C.c_plainS hr (by decide) (pad_cons (pd_var 1) (pad_cons (pd_var 3) (pad_cons (pd_var 10) pad_nil))) (len_cons (len_cons (len_cons len_nil)))))
  (pssd_cons (psd_if (ptd_bool (pwd_or (ptd_not (ptd_val (pd_callC C.c_isSet hr (by decide) (pad_cons (pd_var 1) (pad_cons (pd_var 11) pad_nil)) (len_cons (len_cons len_nil))))) (pwd_or1 (ptd_cmp (opd_ne hr.units) (pd_callC C.c_value hr (by decide) (pad_cons (pd_var 1) (pad_cons (pd_var 11) pad_nil)) (len_cons (len_cons len_nil))) (pd_var 10))))) (pssd_cons (psd_ret pd_bl)
  pssd_nil) pssd_nil)
  (pssd_cons (psd_if (ptd_cmp opd_lt (pd_callC C.c_allBeads hr (by decide) (pad_cons (pd_var 1) (pad_cons (pd_var 11) pad_nil)) (len_cons (len_cons len_nil))) (pd_callC C.c_least hr (by decide) (pad_cons (pd_var 1) (pad_cons (pd_var 3) (pad_cons (pd_var 10) pad_nil))) (len_cons (len_cons (len_cons len_nil))))) (pssd_cons (psd_ret pd_bl)
  pssd_nil) pssd_nil)
  (pssd_cons (psd_set 12 sc_Law.nd (pd_callC C.c_plainS hr (by decide) (pad_cons (pd_var 1) (pad_cons (pd_bin opd_add (pd_var 3) pd_int) (pad_cons (pd_var 10) pad_nil))) (len_cons (len_cons (len_cons len_nil)))))
  (pssd_cons (psd_if (ptd_cmp (opd_ne hr.units) (pd_var 12) (pd_bin opd_add (pd_lit 3 (.tuple [.tuple [.int 0, .int 0]]) (by kernel_rfl)) (pd_var 11))) (pssd_cons (psd_ret pd_bl)
  pssd_nil) pssd_nil)
  (pssd_cons (psd_set 13 sc_Law.nd (pd_callC C.c_Greatest hr (by decide) (pad_cons (pd_var 1) (pad_cons (pd_var 3) pad_nil)) (len_cons (len_cons len_nil))))
  (pssd_cons (psd_if (ptd_bool (pwd_or (ptd_cmp opd_gt (pd_var 4) (pd_var 13)) (pwd_or1 (ptd_cmp opd_notN (pd_callC C.c_least hr (by decide) (pad_cons (pd_var 1) (pad_cons (pd_var 3) (pad_cons (pd_bin opd_add (pd_var 13) pd_int) pad_nil))) (len_cons (len_cons (len_cons len_nil)))) pd_non)))) (pssd_cons (psd_ret pd_bl)
  pssd_nil) pssd_nil)
  (pssd_cons (psd_ret (pd_cmp (opd_eq hr.units) (pd_comp ["_law_some", "_law_manner_here", "_law_rods_here"] [none, some 1, some 3] rfl (pid_seq (pd_tup (pad_cons (pd_var 13) (pad_cons (pd_bin opd_add (pd_var 13) pd_int) pad_nil)))) (comp_ok (defScope sLaw) nLaw (by decide +kernel))
   fun cl C' s0 H0 fp pn => ⟨(pgd_name 0 nd_k12_3), ptsd_nil, (pd_callC C.c_how hr (by decide) (pad_cons (pd_var 1) (pad_cons (pd_var 2) (pad_cons (pd_var 0) pad_nil))) (len_cons (len_cons (len_cons len_nil))))⟩) (pd_lit 2 (.list [.int 1, .int 0]) (by kernel_rfl))))
  pssd_nil))))))))))))))))))))⟩
noncomputable def gLaw : List PyData → Option PyData := bodyD nLaw 1 bLaw.1
end Rods
end
section
namespace Rods
open PySem L2 BX
open PyProof.Rows hiding St
theorem gIsWhole_int (i a b : Int) : gIsWhole [.int i, .int a, .int b] = some (.bool (decide (a ≤ i) && decide (i ≤ b))) := by
 by_cases h : a ≤ i <;> simp [gIsWhole, bodyD, bIsWhole, startR, seqS, ifS, orB, tst, lkp, isiB, tyn, asB, notB, chn, dCmp, retD, nxtS, h]
theorem gRodWorth_eq (u e l b x y : Int) (h : -18446744073709551616 < x ∧ x < 18446744073709551616) : gRodWorth [.tuple [.int u, .int e, .int l, .int b], .tuple [.int x, .int y]] = some (.int (x * e + y)) := by
 simp [gRodWorth, bodyD, bRodWorth, startR, seqS, op2, lkp, dIx, atI, ixN, retD, nxtS, cst, dMul, dAdd, h]
theorem gBeads_eq (x y : Int) : gBeads [.tuple [.int x, .int y]] = some (.int (x + y)) := by
 simp [gBeads, bodyD, bBeads, startR, seqS, op2, lkp, dIx, atI, ixN, retD, nxtS, cst, dAdd]
noncomputable def okN (u e l b : Int) : Bool := decide (0 ≤ u) && decide (u ≤ 3) && decide (1 ≤ e) && decide (e ≤ 5) && decide (e - 1 ≤ l) && decide (1 ≤ l) && decide (l ≤ 11) && decide (2 ≤ b) && decide (b ≤ 16) && decide (b ≤ u * e + l + 1)
noncomputable def rodsU (u l : Int) : List PyData := rodsN (u + 1).toNat (l + 1).toNat
noncomputable def worthOf (e : Int) : PyData → Int
 | .tuple [.int x, .int y] => x * e + y
 | _ => -1
noncomputable def fpr (m : PyData) (d : Int) : Int × Int := match gFewest [m, .int d] with
 | some (.tuple [.int x, .int y]) => (x, y)
 | _ => (0, 0)
noncomputable def pr (p : Int × Int) : PyData := .tuple [.int p.1, .int p.2]
noncomputable def sett (ps : List (Int × Int)) : PyData := .tuple (ps.map pr)
noncomputable def unP : PyData → Option (Int × Int)
 | .tuple [.int x, .int y] => some (x, y)
 | _ => none
noncomputable def okP (u l : Int) (p : Int × Int) : Bool := decide (0 ≤ p.1) && decide (p.1 ≤ u) && decide (0 ≤ p.2) && decide (p.2 ≤ l)
noncomputable def okS (u l : Int) (ps : List (Int × Int)) : Bool := decide (1 ≤ ps.length) && decide (ps.length ≤ 4) && ps.all (okP u l)
noncomputable def wt (e : Int) (p : Int × Int) : Int := p.1 * e + p.2
noncomputable def val (b e : Int) (ps : List (Int × Int)) : Int := ps.foldl (fun n p => n * b + wt e p) 0
noncomputable def bds (ps : List (Int × Int)) : Int := (ps.map fun p => p.1 + p.2).sum
noncomputable def dgl (b : Int) : Nat → Int → List Int
 | 0, _ => []
 | 1, n => [n]
 | k + 2, n => dgl b (k + 1) (n / b) ++ [n % b]
noncomputable def pln (m : PyData) (b : Int) (r : Nat) (n : Int) : List (Int × Int) := (dgl b r n).map (fpr m)
noncomputable def f00 : Int × Int := (0, 0)
noncomputable def cnt1 (e : Int) : List Int → List PyData → List Int
 | c, [] => c
 | c, r :: rs => cnt1 e (c.set (worthOf e r).toNat (c.getD (worthOf e r).toNat 0 + 1)) rs
noncomputable def cntL (u e l : Int) : List Int := cnt1 e (List.replicate (u * e + l + 1).toNat 0) (rodsU u l)
noncomputable def cnt (u e l n : Int) : Int := ((rodsU u l).filter fun r => worthOf e r == n).length
noncomputable def okM (u e l b : Int) : Bool := decide (0 ≤ u) && decide (u ≤ 3) && decide (1 ≤ e) && decide (e ≤ 5) && decide (e - 1 ≤ l) && decide (1 ≤ l) && decide (l ≤ 10) && decide (2 ≤ b) && decide (b ≤ 16) && decide (b ≤ u * e + l + 1)
theorem mem_rodsN {n m : Nat} {d : PyData} (h : d ∈ rodsN n m) : ∃ i j : Nat, i < n ∧ j < m ∧ d = .tuple [.int i, .int j] := by
 obtain ⟨i, hi, hd⟩ := List.mem_flatMap.mp h
 obtain ⟨j, hj, rfl⟩ := List.mem_map.mp hd
 exact ⟨i, j, List.mem_range.mp hi, List.mem_range.mp hj, rfl⟩
theorem okD_int (i : Int) : okD (.int i) = true := by simp [okD, PyData.canLay0, PyData.depth]
theorem gAllRods_eq {u e l b : Int} (hu : 0 ≤ u) (hu' : u < 100) (hl : 0 ≤ l) (hl' : l < 100) : gAllRods [four u e l b] = some (.list (rodsU u l)) := by
 simp [gAllRods, four, rodsU, hu, hl, show u < 1000 by omega, show l < 1000 by omega]
theorem few_rods {u l : Int} (hu' : u < 100) (hl' : l < 100) : few (rodsU u l) = true := by
 simp only [few, rodsU, len_rods, decide_eq_true_eq]
 have : (u + 1).toNat * (l + 1).toNat ≤ 100 * 100 := Nat.mul_le_mul (by omega) (by omega)
 omega
theorem worth_rod {u e l b : Int} (hu' : u < 100) {d : PyData} (h : d ∈ rodsU u l) : gRodWorth [four u e l b, d] = some (.int (worthOf e d)) := by
 obtain ⟨i, j, hi, hj, rfl⟩ := mem_rodsN h
 exact gRodWorth_eq u e l b i j (by omega)
theorem insOf_ints {α : Type} (f : α → Int) : ∀ xs : List α, insOf (xs.map fun d => PyData.int (f d)) = some (xs.map f)
 | [] => rfl
 | x :: xs => by simp [insOf, inOf, insOf_ints f xs]
theorem okD_ints (ns : List Int) : okD (.list (ns.map PyData.int)) = true := by
 have h1 : ∀ ns : List Int, PyData.canLayAll0 (ns.map PyData.int) = true := fun ns => by
  induction ns with
  | nil => rfl
  | cons n ns ih => simp [PyData.canLayAll0, PyData.canLay0, ih]
 have h2 : ∀ ns : List Int, PyData.depthAll (ns.map PyData.int) = 0 := fun ns => by
  induction ns with
  | nil => rfl
  | cons n ns ih => simp [PyData.depthAll, PyData.depth, ih]
 simp [okD, PyData.canLay0, h1, PyData.depth, h2]
theorem any_ints (ns : List Int) (d : Int) : (ns.map PyData.int).any (fun z => PyData.eqv z (.int d)) = ns.any (fun z => z == d) := by
 induction ns with
 | nil => rfl
 | cons n ns ih => simp only [List.map_cons, List.any_cons, ih]; rfl
theorem bls_map {α : Type} (f : α → Bool) : ∀ xs : List α, bls (xs.map fun d => PyData.bool (f d)) = some (xs.map f)
 | [] => rfl
 | x :: xs => by simp [bls, asB, bls_map f xs]
theorem ix0 (u e l b : Int) : dIx (four u e l b) (.int 0) = some (.int u) := rfl
theorem ix2 (u e l b : Int) : dIx (four u e l b) (.int 2) = some (.int l) := rfl
theorem ix3 (u e l b : Int) : dIx (four u e l b) (.int 3) = some (.int b) := rfl
theorem rng1_eq {j : Int} (h : 0 ≤ j) (h' : j < 1000000) : rng1 [.int j] = some (rngL 0 j.toNat) := by
 unfold rng1
 exact if_pos (by omega)
theorem eqv_int (a b : Int) : PyData.eqv (.int a) (.int b) = (a == b) := by unfold PyData.eqv; rfl
theorem gHasAll_eq {u e l b : Int} (hu : 0 ≤ u) (hu' : u < 100) (hl : 0 ≤ l) (hl' : l < 100) (hb : 0 ≤ b) (hb' : b < 100) : gHasAll [four u e l b] = some (.bool ((List.range b.toNat).all fun d => ((rodsU u l).map (worthOf e)).any fun z => z == (d : Int))) := by
 have h1 := gAllRods_eq (e := e) (b := b) hu hu' hl hl'
 have h2 := few_rods hu' hl'
 have h4 : few (rngL 0 b.toNat) = true := by simp [few, rngL]; omega
 simp only [gHasAll, bodyD, bHasAll, startR, seqS, retD, compD, itL, calD, consA, nilA, lkp, itemsL, List.length_cons, List.length_nil, if_true, List.map_cons, List.map_nil, List.cons_append, List.nil_append, zzA, zzC, zzD, zzE, h1, h2, capR, asgS]
 rw [compL_map (fun d => .int (worthOf e d))]
 ·simp only [asgN, nxtS, op2, cst, lkp, zzD, zzE, zzF, zzG, List.replicate, List.length_cons, List.length_nil, zzA, zzB, zzC, ix3, rng1_eq hb (show b < 1000000 by omega), h4, if_true]
  rw [compL_map (fun d => .bool (((rodsU u l).map (worthOf e)).any fun z => z == (inOf d).getD 0))]
  ·have : (rngL 0 b.toNat).map (fun d => PyData.bool (((rodsU u l).map (worthOf e)).any fun z => z == (inOf d).getD 0)) = (List.range b.toNat).map fun (d : Nat) => PyData.bool (((rodsU u l).map (worthOf e)).any fun z => z == (d : Int)) := by
    simp [rngL, inOf, Function.comp_def]
   simp only [zzE, zzD, this, dAll, bls_map (fun (d : Nat) => ((rodsU u l).map (worthOf e)).any fun z => z == (d : Int)), List.all_map, Function.comp_def, id]
  ·intro d hd
   obtain ⟨k, _, rfl⟩ := List.mem_map.mp hd
   have h5 : (rodsU u l).map (fun d => PyData.int (worthOf e d)) = ((rodsU u l).map (worthOf e)).map PyData.int := by simp
   have h6 := okD_ints ((rodsU u l).map (worthOf e))
   simp only [op2, lkp, zzG, zzA, zzB, zzC, zzD, dIn, okD_int, h5, h6, any_ints]
   simp [inOf]
 ·intro d hd
  simp [calD, consA, nilA, lkp, worth_rod (b := b) (e := e) hu' hd]
theorem gIsManner_eq {u e l b : Int} (hu : 0 ≤ u) (hu' : u ≤ 3) (he : 1 ≤ e) (he' : e ≤ 16) (hl : 0 ≤ l) (hl' : l ≤ 12) (hb : 2 ≤ b) (hb' : b ≤ 16) : gIsManner [four u e l b] = gHasAll [four u e l b] := by
 have g := gHasAll_eq (e := e) hu (by omega) hl (by omega) (show 0 ≤ b by omega) (by omega)
 have w1 : gIsWhole [.int u, .int 0, .int 3] = some (.bool true) := by rw [gIsWhole_int]; simp [hu, hu']
 have w2 : gIsWhole [.int e, .int 1, .int 16] = some (.bool true) := by rw [gIsWhole_int]; simp [he, he']
 have w3 : gIsWhole [.int l, .int 0, .int 12] = some (.bool true) := by rw [gIsWhole_int]; simp [hl, hl']
 have w4 : gIsWhole [.int b, .int 2, .int 16] = some (.bool true) := by rw [gIsWhole_int]; simp [hb, hb']
 have z : zip3D [four u e l b, .tuple [.int 0, .int 1, .int 0, .int 2], .tuple [.int 3, .int 16, .int 12, .int 16]] = some [.tuple [.int u, .int 0, .int 3], .tuple [.int e, .int 1, .int 16], .tuple [.int l, .int 0, .int 12], .tuple [.int b, .int 2, .int 16]] := rfl
 rw [g]
 rw [show four u e l b = .tuple [.int u, .int e, .int l, .int b] from rfl] at g z ⊢
 simp [gIsManner, bodyD, bIsManner, startR, seqS, ifS, orB, notB, tst, isiB, tyn, asB, lkp, op2, calD, consA, nilA, dLen, cst, dNe, okD_int, eqv_int, nxtS, forS, z, loopD, asgT, asgCons, asgNil, asgN, w1, w2, w3, w4, retD, g]
theorem gCheck_eq {m : PyData} (h : gIsManner [m] = some (.bool true)) : gCheck [m] = some .none := by
 simp [gCheck, bodyD, bCheck, startR, seqS, ifS, notB, tst, asB, calD, consA, nilA, lkp, h, nxtS]
theorem few_nil : few [] = true := by simp [few]
theorem add_int (i j : Int) : dAdd (.int i) (.int j) = some (.int (i + j)) := rfl
theorem mul_small {i j : Int} (h : -1000000000000 < i ∧ i < 1000000000000) : dMul (.int i) (.int j) = some (.int (i * j)) := by
 unfold dMul; exact if_pos (.inl ⟨by omega, by omega⟩)
theorem mod_pos {i j : Int} (h : 0 < j) : dMod (.int i) (.int j) = some (.int (i % j)) := by unfold dMod; exact if_pos h
theorem fdiv_pos {i j : Int} (h : 0 < j) (h' : j < 1000000000) : dFdiv (.int i) (.int j) = some (.int (i / j)) := by unfold dFdiv; exact if_pos ⟨h, by omega⟩
theorem gCell_ex (ns : List Int) (hn : ns.length < 1000000) (k : Int) (hk : 0 ≤ k) : ∃ c, gCell [scr ns, .int k] = some (.int c) := by
 cases ns with
 | nil =>
  refine ⟨7 * k, ?_⟩
  simp [gCell, bodyD, bCell, startR, seqS, ifS, tst, op2, lkp, lstD, nilA, few, dEq, scr, isScr, asB, retD, cst, mul_small, nxtS]
 | cons n ns =>
  have hl : 0 < (((n :: ns).map fun n => (PyData.int n, PyData.none)).length : Int) := by simp
  have hl' : (((n :: ns).map fun n => (PyData.int n, PyData.none)).length : Int) < 1000000 := by simp at hn ⊢; omega
  have hsc := isScr_map (n :: ns)
  have e1 : dEq (scr (n :: ns)) (.list []) = some (.bool false) := by
   show (if isScr ((n :: ns).map fun n => (PyData.int n, PyData.none)) = true then some (PyData.bool ((n :: ns).map fun n => (PyData.int n, PyData.none)).isEmpty) else none) = _
   rw [if_pos hsc]; rfl
  have e2 : dLen [scr (n :: ns)] = some (.int (((n :: ns).map fun n => (PyData.int n, PyData.none)).length)) := by
   show (if isScr ((n :: ns).map fun n => (PyData.int n, PyData.none)) = true then some (PyData.int ((n :: ns).map fun n => (PyData.int n, PyData.none)).length) else none) = _
   rw [if_pos hsc]
  generalize hL : (((n :: ns).map fun n => (PyData.int n, PyData.none)).length : Int) = L at *
  have h0 : 0 ≤ k % L := Int.emod_nonneg _ (by omega)
  have h1 : k % L < L := Int.emod_lt_of_pos _ hl
  have e3 : ∃ c, dIx (scr (n :: ns)) (.int (k % L)) = some (.int c) := by
   have hlen : ((n :: ns).map fun n => (PyData.int n, PyData.none)).length < 1000000 := by omega
   have hlt : (k % L).toNat < ((n :: ns).map fun n => (PyData.int n, PyData.none)).length := by omega
   have hx : ixN ((n :: ns).map fun n => (PyData.int n, PyData.none)).length (k % L) = some (k % L).toNat := ixN_of h0 hlt
   refine ⟨((n :: ns)[(k % L).toNat]'(by simpa using hlt)), ?_⟩
   show (if ((n :: ns).map fun n => (PyData.int n, PyData.none)).length < 1000000 ∧ isScr ((n :: ns).map fun n => (PyData.int n, PyData.none)) = true then (atI ((n :: ns).map fun n => (PyData.int n, PyData.none)) (k % L)).map (·.1) else none) = _
   rw [if_pos ⟨hlen, hsc⟩]
   unfold atI
   rw [hx, zzD, List.getElem?_eq_getElem hlt, zzE, List.getElem_map]
  obtain ⟨c, e3⟩ := e3
  refine ⟨c + 6553 * (k / L), ?_⟩
  simp [gCell, bodyD, bCell, startR, seqS, ifS, tst, op2, lkp, lstD, nilA, few, asB, retD, cst, nxtS, calD, consA, e1, e2, e3, mod_pos hl, fdiv_pos hl (show L < 1000000000 by omega), mul_small, add_int]
theorem gDrawn_ex (ns : List Int) (hn : ns.length < 1000000) (k m : Int) (hk : 0 ≤ k) (hm : 0 < m) : ∃ r, gDrawn [scr ns, .int k, .int m] = some (.int r) ∧ 0 ≤ r ∧ r < m := by
 obtain ⟨c, hc⟩ := gCell_ex ns hn k hk
 generalize h1 : (c % 2147483563 * 69069 + 104723 * (k + 1)) % 2147483563 = a
 generalize h2 : (a * a + a / 3) % 2147483399 = d
 have ha : 0 ≤ a ∧ a < 2147483563 := by rw [← h1]; exact ⟨Int.emod_nonneg _ (by omega), Int.emod_lt_of_pos _ (by omega)⟩
 have hd : 0 ≤ d ∧ d < 2147483399 := by rw [← h2]; exact ⟨Int.emod_nonneg _ (by omega), Int.emod_lt_of_pos _ (by omega)⟩
 have hc' : 0 ≤ c % 2147483563 ∧ c % 2147483563 < 2147483563 := ⟨Int.emod_nonneg _ (by omega), Int.emod_lt_of_pos _ (by omega)⟩
 refine ⟨(d * d + d / 7) % 2147483647 / 11 % m, ?_, Int.emod_nonneg _ (by omega), Int.emod_lt_of_pos _ hm⟩
 have m1 : dMul (.int (c % 2147483563)) (.int 69069) = some (.int (c % 2147483563 * 69069)) := mul_small (by omega)
 have m2 : dMul (.int 104723) (.int (k + 1)) = some (.int (104723 * (k + 1))) := mul_small (by omega)
 have m3 : dMul (.int a) (.int a) = some (.int (a * a)) := mul_small (by omega)
 have m4 : dMul (.int d) (.int d) = some (.int (d * d)) := mul_small (by omega)
 simp [gDrawn, bodyD, bDrawn, startR, seqS, asgS, asgN, op2, lkp, nilA, retD, cst, nxtS, calD, consA, hc, m1, m2, m3, m4, mod_pos, fdiv_pos, add_int, h1, h2, hm]
theorem known_ok (w : Int) (h0 : 0 ≤ w) (h : w < 12) : ∃ u e l b, dIx (.list (known1 ++ known2)) (.int w) = some (four u e l b) ∧ okM u e l b = true := by
 obtain ⟨n, rfl⟩ := Int.eq_ofNat_of_zero_le h0
 have hn : n < 12 := by omega
 have : ∀ n < 12, ∃ u e l b, dIx (.list (known1 ++ known2)) (.int (n : Nat)) = some (four u e l b) ∧ okM u e l b = true := by
  intro n hn
  match n, hn with
  | 0, _ => exact ⟨_, _, _, _, rfl, by decide⟩
  | 1, _ => exact ⟨_, _, _, _, rfl, by decide⟩
  | 2, _ => exact ⟨_, _, _, _, rfl, by decide⟩
  | 3, _ => exact ⟨_, _, _, _, rfl, by decide⟩
  | 4, _ => exact ⟨_, _, _, _, rfl, by decide⟩
  | 5, _ => exact ⟨_, _, _, _, rfl, by decide⟩
  | 6, _ => exact ⟨_, _, _, _, rfl, by decide⟩
  | 7, _ => exact ⟨_, _, _, _, rfl, by decide⟩
  | 8, _ => exact ⟨_, _, _, _, rfl, by decide⟩
  | 9, _ => exact ⟨_, _, _, _, rfl, by decide⟩
  | 10, _ => exact ⟨_, _, _, _, rfl, by decide⟩
  | 11, _ => exact ⟨_, _, _, _, rfl, by decide⟩
  | k + 12, h => omega
 exact this n hn
theorem gManner_ex (ns : List Int) (hn : ns.length < 1000000) (k : Int) (hk : 0 ≤ k) : ∃ u e l b, gManner [scr ns, .int k] = some (four u e l b) ∧ okM u e l b = true := by
 obtain ⟨w, hw, hw0, hw1⟩ := gDrawn_ex ns hn k 24 hk (by omega)
 have a1 : dAdd (.list known1) (.list known2) = some (.list (known1 ++ known2)) := rfl
 have a2 : dLen [.list (known1 ++ known2)] = some (.int 12) := rfl
 have a3 : dMul (.int 2) (.int 12) = some (.int 24) := rfl
 by_cases hlt : w < 12
 ·obtain ⟨u, e, l, b, h1, h2⟩ := known_ok w hw0 hlt
  refine ⟨u, e, l, b, ?_, h2⟩
  simp [gManner, bodyD, bManner, startR, seqS, asgS, asgN, op2, lkp, nilA, retD, cst, nxtS, calD, consA, ifS, tst, asB, a1, a2, a3, hw, dCmp, hlt, h1]
 ·obtain ⟨r1, e1, p1, q1⟩ := gDrawn_ex ns hn (k + 1) 5 (by omega) (by omega)
  obtain ⟨r2, e2, p2, q2⟩ := gDrawn_ex ns hn (k + 2) 4 (by omega) (by omega)
  obtain ⟨r3, e3, p3, q3⟩ := gDrawn_ex ns hn (k + 3) 4 (by omega) (by omega)
  generalize hlo : (if (1 : Int) > 1 + r1 - 1 then 1 else 1 + r1 - 1) + r3 = lo
  have hlo1 : 1 ≤ lo ∧ r1 ≤ lo ∧ lo ≤ 10 := by
   rw [← hlo]; split <;> omega
  have hue : 0 ≤ r2 * (1 + r1) ∧ r2 * (1 + r1) ≤ 3 * 5 := ⟨Int.mul_nonneg p2 (by omega), Int.mul_le_mul (by omega) (by omega) (by omega) (by omega)⟩
  generalize hmn : (if r2 * (1 + r1) + lo < 15 then r2 * (1 + r1) + lo else 15) = mn
  have hmn1 : 0 < mn ∧ mn ≤ 15 ∧ mn ≤ r2 * (1 + r1) + lo := by
   rw [← hmn]; split <;> omega
  obtain ⟨r4, e4, p4, q4⟩ := gDrawn_ex ns hn (k + 4) mn (by omega) (by omega)
  refine ⟨r2, 1 + r1, lo, 2 + r4, ?_, ?_⟩
  ·have m1 : dMul (.int r2) (.int (1 + r1)) = some (.int (r2 * (1 + r1))) := mul_small (by omega)
   have x1 : dMax2 [.int (1 + r1 - 1), .int 1] = some (.int (if (1 : Int) > 1 + r1 - 1 then 1 else 1 + r1 - 1)) := rfl
   have x2 : dMin2 [.int 15, .int (r2 * (1 + r1) + lo)] = some (.int (if r2 * (1 + r1) + lo < 15 then r2 * (1 + r1) + lo else 15)) := rfl
   have x3 : dSub (.int (1 + r1)) (.int 1) = some (.int (1 + r1 - 1)) := rfl
   simp only [gManner, bodyD, bManner, startR, seqS, asgS, asgN, op2, lkp, nilA, retD, cst, nxtS, calD, consA, ifS, tst, asB, a1, a2, a3, hw, dCmp, hlt, zzD, zzE, zzF, zzG, List.replicate, List.length_cons, List.length_nil, if_true, List.map_cons, List.map_nil, List.cons_append, List.nil_append, zzA, zzB, zzC, add_int, e1, e2, e3, m1, x1, x2, x3, decide_false, hlo, hmn, e4]
   simp [e1, e2, e3, m1, x1, x2, x3, hlo, hmn, e4, add_int, lkp, tupD, consA, nilA, few, four]
   simp only [tupD, consA, nilA, lkp, op2, calD, cst, zzD, zzE, zzA, zzB, zzC, add_int, m1, x2, hmn, e4]
   simp
  ·have := hue.1
   simp [okM]
   omega
theorem gMost_eq {u e l b : Int} (hu : 0 ≤ u) (hu' : u < 100) (hl : 0 ≤ l) (hl' : l < 100) : gMost [four u e l b] = some (maxO none ((rodsU u l).map (worthOf e))) := by
 have h1 := gAllRods_eq (e := e) (b := b) hu hu' hl hl'
 have h2 := few_rods hu' hl'
 simp only [gMost, bodyD, bMost, startR, seqS, retD, compD, itL, calD, consA, nilA, lkp, itemsL, List.length_cons, List.length_nil, if_true, List.map_cons, List.map_nil, List.cons_append, List.nil_append, zzA, zzC, zzD, zzE, h1, h2, capR]
 rw [compL_map (fun d => .int (worthOf e d))]
 ·simp [dMaxD, insOf_ints]
 ·intro d hd
  simp [calD, consA, nilA, lkp, worth_rod (b := b) (e := e) hu' hd]
theorem bump_eq {u e l b : Int} (hu' : u < 100) : ∀ (rs : List PyData) (c : List Int), (∀ r ∈ rs, r ∈ rodsU u l ∧ 0 ≤ worthOf e r ∧ (worthOf e r).toNat < c.length) → bump (four u e l b) c rs = some (cnt1 e c rs)
 | [], c, _ => rfl
 | r :: rs, c, h => by
  obtain ⟨h1, h2, h3⟩ := h r List.mem_cons_self
  have ih := bump_eq hu' (b := b) rs (c.set (worthOf e r).toNat (c.getD (worthOf e r).toNat 0 + 1)) fun q hq => by
   obtain ⟨a1, a2, a3⟩ := h q (List.mem_cons_of_mem _ hq)
   exact ⟨a1, a2, by rw [List.length_set]; exact a3⟩
  have hg : c[(worthOf e r).toNat]? = some (c.getD (worthOf e r).toNat 0) := by simp [List.getD, h3]
  unfold bump
  rw [worth_rod (b := b) (e := e) hu' h1]
  simp only [h2, if_true, hg, ih, cnt1]
noncomputable def isInt (t : Int) : PyData → Bool
 | .int x => x == t
 | _ => false
noncomputable def chkN (u e l : Int) : Bool :=
 isInt (u * e + l) (maxO none ((rodsU u l).map (worthOf e))) &&
 ((List.range (u * e + l + 1).toNat).all fun n => (rodsU u l).any fun r => worthOf e r == (n : Int)) &&
 ((rodsU u l).all fun r => decide (0 ≤ worthOf e r) && decide (worthOf e r ≤ u * e + l)) &&
 decide (cntL u e l = (List.range (u * e + l + 1).toNat).map fun (n : Nat) => cnt u e l n)
noncomputable def allN : Bool := (List.range 4).all fun (i : Nat) => (List.range 5).all fun (j : Nat) => (List.range 11).all fun (k : Nat) => decide (k + 1 < j) || chkN i (j + 1) (k + 1)
structure Chk (u e l : Int) : Prop where
 most : maxO none ((rodsU u l).map (worthOf e)) = .int (u * e + l)
 dig : ∀ n : Nat, n < (u * e + l + 1).toNat → ((rodsU u l).any fun r => worthOf e r == (n : Int)) = true
 rng : ∀ r ∈ rodsU u l, 0 ≤ worthOf e r ∧ worthOf e r ≤ u * e + l
 lst : cntL u e l = (List.range (u * e + l + 1).toNat).map fun (n : Nat) => cnt u e l n
theorem chk_of {u e l : Int} (h : chkN u e l = true) : Chk u e l := by
 simp only [chkN, Bool.and_eq_true, List.all_eq_true, decide_eq_true_eq] at h
 obtain ⟨⟨⟨h1, h2⟩, h3⟩, h4⟩ := h
 refine ⟨?_, fun n hn => h2 n (List.mem_range.mpr hn), fun r hr => h3 r hr, h4⟩
 generalize maxO none ((rodsU u l).map (worthOf e)) = x at h1
 cases x <;> simp [isInt] at h1
 rw [h1]
theorem split_N {u e l b : Int} (h : okN u e l b = true) : 0 ≤ u ∧ u ≤ 3 ∧ 1 ≤ e ∧ e ≤ 5 ∧ e - 1 ≤ l ∧ 1 ≤ l ∧ l ≤ 11 ∧ 2 ≤ b ∧ b ≤ 16 ∧ b ≤ u * e + l + 1 := by
 simp only [okN, Bool.and_eq_true, decide_eq_true_eq] at h
 omega
theorem chk_ok {u e l b : Int} (H : allN = true) (h : okN u e l b = true) : Chk u e l := by
 obtain ⟨a1, a2, a3, a4, a5, a6, a7, _⟩ := split_N h
 simp only [allN, List.all_eq_true, Bool.or_eq_true, decide_eq_true_eq] at H
 have := H u.toNat (List.mem_range.mpr (by omega)) (e - 1).toNat (List.mem_range.mpr (by omega)) (l - 1).toNat (List.mem_range.mpr (by omega))
 rcases this with z | z
 ·exfalso; omega
 ·rw [show ((u.toNat : Nat) : Int) = u by omega, show (((e - 1).toNat : Nat) : Int) + 1 = e by omega, show (((l - 1).toNat : Nat) : Int) + 1 = l by omega] at z
  exact chk_of z
theorem okM_okN {u e l b : Int} (h : okM u e l b = true) : okN u e l b = true := by
 simp only [okM, okN, Bool.and_eq_true, decide_eq_true_eq] at h ⊢
 omega
theorem dig_ok {u e l b : Int} (H : allN = true) (h : okN u e l b = true) {n : Int} (h0 : 0 ≤ n) (hn : n < b) : ((rodsU u l).any fun r => worthOf e r == n) = true := by
 obtain ⟨a1, a2, a3, a4, a5, a6, a7, a8, a9, a10⟩ := split_N h
 have := (chk_ok H h).dig n.toNat (by omega)
 rw [show ((n.toNat : Nat) : Int) = n by omega] at this
 exact this
noncomputable def rodsW (u e l w : Int) : List PyData := (rodsU u l).filter fun r => worthOf e r == w
theorem gRodsWith_eq {u e l b w : Int} (hu : 0 ≤ u) (hu' : u < 100) (hl : 0 ≤ l) (hl' : l < 100) : gRodsWith [four u e l b, .int w] = some (.list (rodsW u e l w)) := by
 have h1 := gAllRods_eq (e := e) (b := b) hu hu' hl hl'
 have h2 := few_rods hu' hl'
 simp only [gRodsWith, bodyD, bRodsWith, startR, seqS, retD, compD, itL, calD, consA, nilA, lkp, itemsL, List.length_cons, List.length_nil, if_true, List.map_cons, List.map_nil, List.cons_append, List.nil_append, zzA, zzC, zzD, zzE, h1, h2, capR]
 rw [compL_eq (fun d => worthOf e d == w) id]
 ·simp [rodsW]
 ·intro d hd
  simp [tst, op2, calD, consA, nilA, lkp, worth_rod (b := b) (e := e) hu' hd, dEq, okD_int, PyData.eqv, asB]
 ·intro d hd _
  simp [lkp]
theorem minBy_mem (kf : PyData → Int) : ∀ (r : List PyData) (d : PyData), minBy kf d r = d ∨ minBy kf d r ∈ r
 | [], d => .inl rfl
 | x :: r, d => by
  unfold minBy
  split
  ·rcases minBy_mem kf r x with z | z
   ·exact .inr (by rw [z]; exact List.mem_cons_self)
   ·exact .inr (List.mem_cons_of_mem _ z)
  ·rcases minBy_mem kf r d with z | z
   ·exact .inl z
   ·exact .inr (List.mem_cons_of_mem _ z)
noncomputable def rodOf (m : PyData) (d : Int) : PyData := pr (fpr m d)
theorem fewest_ok {u e l b : Int} (H : allN = true) (h : okN u e l b = true) {d : Int} (h0 : 0 ≤ d) (hd : d < b) :
  gFewest [four u e l b, .int d] = some (rodOf (four u e l b) d) ∧ wt e (fpr (four u e l b) d) = d ∧ okP u l (fpr (four u e l b) d) = true := by
 obtain ⟨a1, a2, a3, a4, a5, a6, a7, a8, a9, a10⟩ := split_N h
 have hw := gRodsWith_eq (e := e) (b := b) (w := d) a1 (show u < 100 by omega) (show 0 ≤ l by omega) (show l < 100 by omega)
 have any := dig_ok H h h0 hd
 have rods : ∀ r ∈ rodsW u e l d, ∃ i j : Nat, r = .tuple [.int i, .int j] ∧ (i : Int) * e + j = d ∧ (i : Int) ≤ u ∧ (j : Int) ≤ l := fun r hr => by
  obtain ⟨h1, h2⟩ := List.mem_filter.mp hr
  obtain ⟨i, j, q1, q2, rfl⟩ := mem_rodsN h1
  exact ⟨i, j, rfl, by simpa [worthOf] using h2, by omega, by omega⟩
 have kb : ∀ i j : Nat, gBeads [.tuple [.int i, .int j]] = some (.int (i + j)) := fun i j => gBeads_eq i j
 have hk : keysOk gBeads (rodsW u e l d) = true := List.all_eq_true.mpr fun r hr => by
  obtain ⟨i, j, rfl, _, _⟩ := rods r hr
  rw [kb]; rfl
 have mem : minO (keyAt gBeads) none (rodsW u e l d) ∈ rodsW u e l d := by
  cases hr : rodsW u e l d with
  | nil =>
   exfalso
   obtain ⟨r, h1, h2⟩ := List.any_eq_true.mp any
   have : r ∈ rodsW u e l d := List.mem_filter.mpr ⟨h1, h2⟩
   rw [hr] at this; cases this
  | cons r rs =>
   show minBy (keyAt gBeads) r rs ∈ r :: rs
   rcases minBy_mem (keyAt gBeads) rs r with z | z
   ·rw [z]; exact List.mem_cons_self
   ·exact List.mem_cons_of_mem _ z
 obtain ⟨i, j, e1, e2, e3, e4⟩ := rods _ mem
 have g : gFewest [four u e l b, .int d] = some (.tuple [.int i, .int j]) := by
  have hm : dMinKD gBeads (.list (rodsW u e l d)) = some (.tuple [.int i, .int j]) := by
   show (if keysOk gBeads (rodsW u e l d) = true then some (minO (keyAt gBeads) none (rodsW u e l d)) else none) = _
   rw [if_pos hk, e1]
  simp [gFewest, bodyD, bFewest, startR, seqS, calD, consA, nilA, lkp, retD, hw, hm]
 have f : fpr (four u e l b) d = ((i : Int), (j : Int)) := by unfold fpr; rw [g]
 unfold rodOf
 rw [f]
 refine ⟨g, e2, ?_⟩
 simp only [okP, Bool.and_eq_true, decide_eq_true_eq]
 exact ⟨⟨⟨by omega, e3⟩, by omega⟩, e4⟩
end Rods
theorem Rods.allN_true : Rods.allN = true := by decide +kernel
namespace Rods
open PySem L2 BX
open PyProof.Rows hiding St
theorem loopW_t {tc : Rho → Option Bool} {F : Rho → Option Out} {n : Nat} {ρ ρ' : Rho} (h : tc ρ = some true) (h' : F ρ = some (.nx ρ')) : loopW tc F (n + 1) ρ = loopW tc F n ρ' := by
 show (tc ρ).bind _ = _
 rw [h, h']
 rfl
theorem loopW_f {tc : Rho → Option Bool} {F : Rho → Option Out} {n : Nat} {ρ : Rho} (h : tc ρ = some false) : loopW tc F (n + 1) ρ = some (.nx ρ) := by
 show (tc ρ).bind _ = _
 rw [h]
 rfl
theorem seq_nx {F G : Rho → Option Out} {ρ ρ1 : Rho} (h : F ρ = some (.nx ρ1)) : seqS F G ρ = G ρ1 := by
 unfold seqS
 rw [h]
 rfl
theorem body_rt {N : List Str} {n : Nat} {B : Rho → Option Out} {ds : List PyData} {d : PyData} (hl : ds.length = n) (h : B (startR N ds) = some (.rt d)) : bodyD N n B ds = some d := by
 unfold bodyD
 rw [if_pos hl, h]
noncomputable def tcD : Rho → Option Bool := tst (op2 (dCmp fun i j => decide (i < j)) (calD dLen (consA (lkp 3) nilA)) (op2 dSub (lkp 1) (cst (.int 1))))
theorem digIn {b k : Int} {r n : Option PyData} {ds : List PyData} (hb : 0 < b) (hb' : b ≤ 16) (hl : ds.length < 1000) :
  bDigIn.1 [some (.int b), r, n, some (.list ds), some (.int k)] = some (.nx [some (.int b), r, n, some (.list (.int (k % b) :: ds)), some (.int (k / b))]) := by
 have m1 : ∀ i : Int, dMod (.int i) (.int b) = some (.int (i % b)) := fun i => mod_pos hb
 have m2 : ∀ i : Int, dFdiv (.int i) (.int b) = some (.int (i / b)) := fun i => fdiv_pos hb (by omega)
 have hl' : ds.length < 1000000 := by omega
 simp [bDigIn, seqS, mutS, insD, insL, op2, lkp, cst, m1, m2, noL, hl', asgS, asgN, brw, hid, nxtS]
theorem tcD_eq {b : Option PyData} {r : Int} {n k : Option PyData} {ds : List PyData} : tcD [b, some (.int r), n, some (.list ds), k] = some (decide ((ds.length : Int) < r - 1)) := by
 simp [tcD, tst, op2, calD, consA, nilA, lkp, cst, dLen, dSub, dCmp, asB]
theorem dig_of {b r n : Int} {ds : List PyData} {k : Int} (hl : loopW tcD bDigIn.1 10 [some (.int b), some (.int r), some (.int n), some (.list []), some (.int n)] = some (.nx [some (.int b), some (.int r), some (.int n), some (.list ds), some (.int k)]))
  (hd : ds.length < 100) (hn : noLs ds = true) : gDig [.int b, .int r, .int n] = some (.list (.int k :: ds)) := by
 have f0 : few [] = true := few_nil
 have f1 : few [PyData.int k] = true := by rw [few]; exact decide_eq_true (by show 1 < 1000000; decide)
 have f2 : few ([PyData.int k] ++ ds) = true := by
  rw [few]
  refine decide_eq_true ?_
  rw [List.length_append, List.length_singleton]
  omega
 have e : bDig.1 [some (.int b), some (.int r), some (.int n), none, none] = some (.rt (.list (.int k :: ds))) := by
  simp only [bDig]
  show newS 3 (lstD nilA) (seqS (asgS (brw (some 3) (lkp 2)) (asgN 4)) (seqS (loopW tcD bDigIn.1 10) (seqS (retD (op2 dAdd (lstD (consA (lkp 4) nilA)) (lkp 3))) nxtS))) _ = _
  have h2 : seqS (loopW tcD bDigIn.1 10) (seqS (retD (op2 dAdd (lstD (consA (lkp 4) nilA)) (lkp 3))) nxtS) [some (.int b), some (.int r), some (.int n), some (.list []), some (.int n)] = some (.rt (.list (.int k :: ds))) := by
   unfold seqS
   rw [hl]
   simp only [zzD, retD, op2, lstD, consA, nilA, lkp, zzA, zzB, zzC, zzE, f1, if_true, dAdd, f2]
   rfl
  have h1 : asgS (brw (some 3) (lkp 2)) (asgN 4) [some (.int b), some (.int r), some (.int n), some (.list []), none] = some (.nx [some (.int b), some (.int r), some (.int n), some (.list []), some (.int n)]) := rfl
  have h3 : seqS (asgS (brw (some 3) (lkp 2)) (asgN 4)) (seqS (loopW tcD bDigIn.1 10) (seqS (retD (op2 dAdd (lstD (consA (lkp 4) nilA)) (lkp 3))) nxtS)) [some (.int b), some (.int r), some (.int n), some (.list []), none] = some (.rt (.list (.int k :: ds))) := by
   rw [← h2]
   conv => lhs; unfold seqS
   rw [h1]
   rfl
  unfold newS
  simp only [lstD, nilA, zzD, f0, if_true, List.length_cons, List.length_nil]
  rw [if_pos (by decide)]
  simp only [zzF, zzG, h3, zzD]
 exact body_rt rfl e
theorem gDig_eq {b n : Int} (hb : 0 < b) (hb' : b ≤ 16) {r : Nat} (h1 : 1 ≤ r) (h4 : r ≤ 4) : gDig [.int b, .int (r : Int), .int n] = some (.list ((dgl b r n).map .int)) := by
 have : r = 1 ∨ r = 2 ∨ r = 3 ∨ r = 4 := by omega
 rcases this with e | e | e | e <;> subst e
 ·refine dig_of (ds := []) (k := n) ?_ (by simp) (by simp [noLs, noL])
  rw [loopW_f (tcD_eq.trans (by rfl))]
 ·refine dig_of (ds := [.int (n % b)]) (k := n / b) ?_ (by simp) (by simp [noLs, noL])
  rw [loopW_t (tcD_eq.trans (by rfl)) (digIn hb hb' (by simp)), loopW_f (tcD_eq.trans (by rfl))]
 ·refine dig_of (ds := [.int (n / b % b), .int (n % b)]) (k := n / b / b) ?_ (by simp) (by simp [noLs, noL])
  rw [loopW_t (tcD_eq.trans (by rfl)) (digIn hb hb' (by simp)), loopW_t (tcD_eq.trans (by rfl)) (digIn hb hb' (by simp)), loopW_f (tcD_eq.trans (by rfl))]
 ·refine dig_of (ds := [.int (n / b / b % b), .int (n / b % b), .int (n % b)]) (k := n / b / b / b) ?_ (by simp) (by simp [noLs, noL])
  rw [loopW_t (tcD_eq.trans (by rfl)) (digIn hb hb' (by simp)), loopW_t (tcD_eq.trans (by rfl)) (digIn hb hb' (by simp)), loopW_t (tcD_eq.trans (by rfl)) (digIn hb hb' (by simp)), loopW_f (tcD_eq.trans (by rfl))]
theorem pw1 (b : Int) : b ^ 1 = b := by rw [Int.pow_succ, Int.pow_zero, Int.one_mul]
theorem pw_pos {b : Int} (hb : 0 < b) : ∀ r : Nat, 0 < b ^ r
 | 0 => by simp
 | r + 1 => by rw [Int.pow_succ]; exact Int.mul_pos (pw_pos hb r) hb
theorem pw_le {b : Int} (h0 : 0 < b) (h : b ≤ 16) : ∀ r : Nat, b ^ r ≤ 16 ^ r
 | 0 => by simp
 | r + 1 => by
  rw [Int.pow_succ, Int.pow_succ]
  exact Int.mul_le_mul (pw_le h0 h r) h (by omega) (Int.le_of_lt (pw_pos (by decide) r))
theorem pw_le4 {b : Int} (h0 : 0 < b) (h : b ≤ 16) {r : Nat} (hr : r ≤ 4) : b ^ r ≤ 65536 := by
 have : r = 0 ∨ r = 1 ∨ r = 2 ∨ r = 3 ∨ r = 4 := by omega
 have := pw_le h0 h r
 rcases ‹r = 0 ∨ _› with e | e | e | e | e <;> subst e <;> first | (exact Int.le_trans this (by decide))
theorem dgl_succ (b : Int) (k : Nat) (n : Int) : dgl b (k + 2) n = dgl b (k + 1) (n / b) ++ [n % b] := rfl
theorem dgl_len (b : Int) : ∀ (r : Nat) (n : Int), (dgl b r n).length = r
 | 0, _ => rfl
 | 1, _ => rfl
 | k + 2, n => by rw [dgl_succ, List.length_append, dgl_len b (k + 1)]; rfl
theorem div_lt_pw {b n : Int} (hb : 0 < b) {k : Nat} (h : n < b ^ (k + 1)) : n / b < b ^ k :=
 Int.ediv_lt_of_lt_mul hb (by rw [← Int.pow_succ]; exact h)
theorem dgl_rng {b : Int} (hb : 0 < b) : ∀ (r : Nat) (n : Int), 0 ≤ n → n < b ^ r → ∀ d ∈ dgl b r n, 0 ≤ d ∧ d < b
 | 0, n, _, _, d, hd => by cases hd
 | 1, n, h0, h1, d, hd => by
  rw [show dgl b 1 n = [n] from rfl, List.mem_singleton] at hd
  subst hd
  exact ⟨h0, by rw [pw1] at h1; exact h1⟩
 | k + 2, n, h0, h1, d, hd => by
  rw [dgl_succ] at hd
  rcases List.mem_append.mp hd with q | q
  ·exact dgl_rng hb (k + 1) (n / b) (Int.ediv_nonneg h0 (by omega)) (div_lt_pw hb h1) d q
  ·rw [List.mem_singleton] at q
   subst q
   exact ⟨Int.emod_nonneg _ (by omega), Int.emod_lt_of_pos _ hb⟩
theorem dgl_head {b : Int} (hb : 0 < b) : ∀ (k : Nat) (n : Int), 0 ≤ n → ∃ x r, dgl b (k + 1) n = x :: r ∧ (n < b ^ (k + 1) → x < b) ∧ (b ^ (k + 1) ≤ n → b ≤ x)
 | 0, n, h0 => ⟨n, [], rfl, fun h => by rw [Nat.zero_add, pw1] at h; exact h, fun h => by rw [Nat.zero_add, pw1] at h; exact h⟩
 | k + 1, n, h0 => by
  obtain ⟨x, r, e, h1, h2⟩ := dgl_head hb k (n / b) (Int.ediv_nonneg h0 (by omega))
  refine ⟨x, r ++ [n % b], ?_, fun h => h1 (div_lt_pw hb h), fun h => h2 ?_⟩
  ·rw [dgl_succ, e]; rfl
  ·refine Int.le_ediv_of_mul_le hb ?_
   rw [← Int.pow_succ]; exact h
theorem val_snoc (b e : Int) (ps : List (Int × Int)) (p : Int × Int) : val b e (ps ++ [p]) = val b e ps * b + wt e p := by simp [val]
end Rods
namespace Rods
open PySem L2 BX
open PyProof.Rows hiding St
section
variable {u e l b : Int}
theorem val_pln (H : allN = true) (h : okN u e l b = true) : ∀ (r : Nat) (n : Int), 1 ≤ r → 0 ≤ n → n < b ^ r → val b e (pln (four u e l b) b r n) = n
 | 0, n, h1, _, _ => by omega
 | 1, n, _, h0, hn => by
  have := (fewest_ok H h h0 (show n < b by rw [pw1] at hn; exact hn)).2.1
  show 0 * b + wt e (fpr (four u e l b) n) = n
  rw [this]; omega
 | k + 2, n, _, h0, hn => by
  obtain ⟨a1, a2, a3, a4, a5, a6, a7, a8, a9, a10⟩ := split_N h
  have hb : 0 < b := by omega
  have ih := val_pln H h (k + 1) (n / b) (by omega) (Int.ediv_nonneg h0 (by omega)) (div_lt_pw hb hn)
  have hd := (fewest_ok H h (d := n % b) (Int.emod_nonneg _ (by omega)) (Int.emod_lt_of_pos _ hb)).2.1
  unfold pln at ih ⊢
  rw [dgl_succ, List.map_append, List.map_singleton, val_snoc, ih, hd, Int.mul_comm]
  exact Int.mul_ediv_add_emod n b
theorem pln_len (m : PyData) (b : Int) (r : Nat) (n : Int) : (pln m b r n).length = r := by rw [pln, List.length_map, dgl_len]
theorem pln_ok (H : allN = true) (h : okN u e l b = true) {r : Nat} {n : Int} (h1 : 1 ≤ r) (h4 : r ≤ 4) (h0 : 0 ≤ n) (hn : n < b ^ r) : okS u l (pln (four u e l b) b r n) = true := by
 obtain ⟨a1, a2, a3, a4, a5, a6, a7, a8, a9, a10⟩ := split_N h
 simp only [okS, Bool.and_eq_true, decide_eq_true_eq, pln_len]
 refine ⟨⟨h1, h4⟩, List.all_eq_true.mpr fun p hp => ?_⟩
 obtain ⟨d, hd, rfl⟩ := List.mem_map.mp hp
 obtain ⟨d0, d1⟩ := dgl_rng (show 0 < b by omega) r n h0 hn d hd
 exact (fewest_ok H h d0 d1).2.2
theorem okP_split {u l : Int} {p : Int × Int} (h : okP u l p = true) : 0 ≤ p.1 ∧ p.1 ≤ u ∧ 0 ≤ p.2 ∧ p.2 ≤ l := by
 simp only [okP, Bool.and_eq_true, decide_eq_true_eq] at h
 exact ⟨h.1.1.1, h.1.1.2, h.1.2, h.2⟩
theorem wt_nn {e u l : Int} (he : 1 ≤ e) {p : Int × Int} (h : okP u l p = true) : 0 ≤ wt e p := by
 obtain ⟨h1, h2, h3, h4⟩ := okP_split h
 have := Int.mul_nonneg h1 (show 0 ≤ e by omega)
 unfold wt; omega
theorem wt_le {e u l : Int} (he : 1 ≤ e) (he5 : e ≤ 5) (hu : u ≤ 3) (hl : l ≤ 11) {p : Int × Int} (h : okP u l p = true) : wt e p ≤ 26 := by
 obtain ⟨h1, h2, h3, h4⟩ := okP_split h
 have : p.1 * e ≤ 3 * 5 := Int.mul_le_mul (by omega) he5 (by omega) (by omega)
 unfold wt; omega
theorem fold_bd {b e u l : Int} (h2 : 2 ≤ b) (hb : b ≤ 16) (he : 1 ≤ e) (he5 : e ≤ 5) (hu : u ≤ 3) (hl : l ≤ 11) : ∀ (ps : List (Int × Int)) (acc : Int), ps.all (okP u l) = true → 0 ≤ acc → 0 ≤ ps.foldl (fun n p => n * b + wt e p) acc ∧ ps.foldl (fun n p => n * b + wt e p) acc + 30 ≤ (acc + 30) * 16 ^ ps.length
 | [], acc, _, h => ⟨h, by simp⟩
 | p :: ps, acc, hp, h => by
  rw [List.all_cons, Bool.and_eq_true] at hp
  have w0 := wt_nn he hp.1
  have w1 := wt_le he he5 hu hl hp.1
  have ha : 0 ≤ acc * b := Int.mul_nonneg h (by omega)
  have hb2 : acc * b ≤ acc * 16 := Int.mul_le_mul_of_nonneg_left hb h
  obtain ⟨h1, h3⟩ := fold_bd h2 hb he he5 hu hl ps (acc * b + wt e p) hp.2 (by omega)
  refine ⟨h1, Int.le_trans h3 ?_⟩
  rw [List.length_cons, Int.pow_succ, Int.mul_comm (16 ^ ps.length) 16, ← Int.mul_assoc]
  refine Int.mul_le_mul_of_nonneg_right ?_ (Int.le_of_lt (pw_pos (by decide) _))
  omega
theorem val_nn (h : okN u e l b = true) {ps : List (Int × Int)} (hp : ps.all (okP u l) = true) : 0 ≤ val b e ps := by
 obtain ⟨a1, a2, a3, a4, a5, a6, a7, a8, a9, a10⟩ := split_N h
 exact (fold_bd a8 a9 a3 a4 a2 a7 ps 0 hp (by omega)).1
end
end Rods
namespace Rods
open PySem L2 BX
open PyProof.Rows hiding St
theorem few_len {ds : List PyData} (h : ds.length < 10000) : few ds = true := by
 rw [few]
 refine decide_eq_true ?_
 omega
theorem gIsM {u e l b : Int} (H : allN = true) (h : okN u e l b = true) : gIsManner [four u e l b] = some (.bool true) := by
 obtain ⟨a1, a2, a3, a4, a5, a6, a7, a8, a9, a10⟩ := split_N h
 rw [gIsManner_eq a1 a2 a3 (by omega) (by omega) (by omega) a8 a9, gHasAll_eq a1 (by omega) (by omega) (by omega) (by omega) (by omega)]
 congr 2
 refine List.all_eq_true.mpr fun d hd => ?_
 have := dig_ok H h (n := (d : Int)) (by omega) (by have := List.mem_range.mp hd; omega)
 simpa [List.any_map, Function.comp_def] using this
theorem okS_split {u l : Int} {ps : List (Int × Int)} (h : okS u l ps = true) : 1 ≤ ps.length ∧ ps.length ≤ 4 ∧ ps.all (okP u l) = true := by
 simp only [okS, Bool.and_eq_true, decide_eq_true_eq] at h
 exact ⟨h.1.1, h.1.2, h.2⟩
theorem okS_mk {u l : Int} {ps : List (Int × Int)} (h1 : 1 ≤ ps.length) (h2 : ps.length ≤ 4) (h3 : ps.all (okP u l) = true) : okS u l ps = true := by
 simp only [okS, Bool.and_eq_true, decide_eq_true_eq]
 exact ⟨⟨h1, h2⟩, h3⟩
end Rods
namespace Rods
open PySem L2 BX
open PyProof.Rows hiding St
section
variable {u e l b : Int} {ps qs : List (Int × Int)}
theorem num_loop (h : okN u e l b = true) {S : PyData} : ∀ (qs : List (Int × Int)) (acc : Int) (x : Option PyData), qs.all (okP u l) = true → 0 ≤ acc → (acc + 30) * 16 ^ qs.length ≤ 1000000000 →
  ∃ y, loopD (asgN 3) bNumIn.1 (qs.map pr) [some (four u e l b), some S, some (.int acc), x] = some (.nx [some (four u e l b), some S, some (.int (qs.foldl (fun n p => n * b + wt e p) acc)), y])
 | [], acc, x, _, _, _ => ⟨x, rfl⟩
 | q :: qs, acc, x, hq, h0, hB => by
  obtain ⟨a1, a2, a3, a4, a5, a6, a7, a8, a9, a10⟩ := split_N h
  rw [List.all_cons, Bool.and_eq_true] at hq
  obtain ⟨q1, q2, q3, q4⟩ := okP_split hq.1
  have w0 := wt_nn a3 hq.1
  have w1 := wt_le a3 a4 a2 a7 hq.1
  have hp := pw_pos (b := 16) (by decide) qs.length
  rw [List.length_cons, Int.pow_succ, Int.mul_comm (16 ^ qs.length) 16, ← Int.mul_assoc] at hB
  have ha : 0 ≤ acc * b := Int.mul_nonneg h0 (by omega)
  have hb2 : acc * b ≤ acc * 16 := Int.mul_le_mul_of_nonneg_left a9 h0
  have hB' : (acc * b + wt e q + 30) * 16 ^ qs.length ≤ 1000000000 := Int.le_trans (Int.mul_le_mul_of_nonneg_right (by omega) (Int.le_of_lt hp)) hB
  have hacc : acc ≤ 1000000000 := by
   have h1 : (acc + 30) * 16 * 1 ≤ (acc + 30) * 16 * 16 ^ qs.length := Int.mul_le_mul_of_nonneg_left (by omega) (by omega)
   omega
  have m1 : dMul (.int acc) (.int b) = some (.int (acc * b)) := mul_small ⟨by omega, by omega⟩
  have w' : gRodWorth [four u e l b, pr q] = some (.int (wt e q)) := gRodWorth_eq u e l b q.1 q.2 (by omega)
  have step : bNumIn.1 [some (four u e l b), some S, some (.int acc), some (pr q)] = some (.nx [some (four u e l b), some S, some (.int (acc * b + wt e q)), some (pr q)]) := by
   simp only [bNumIn, seqS, asgS, op2, calD, consA, nilA, lkp, cst, asgN, zzA, zzB, zzC, zzD, zzE, ix3, m1, w', add_int, zzF, zzG, nxtS]
  obtain ⟨y, hy⟩ := num_loop h (S := S) qs (acc * b + wt e q) (some (pr q)) hq.2 (by omega) hB'
  refine ⟨y, ?_⟩
  rw [List.map_cons]
  simp only [loopD, asgN, zzD, zzF, zzG, step]
  exact hy
theorem gNum_eq (h : okN u e l b = true) (h4 : ps.length ≤ 4) (hp : ps.all (okP u l) = true) : gNum [four u e l b, sett ps] = some (.int (val b e ps)) := by
 have hB : (0 + 30 : Int) * 16 ^ ps.length ≤ 1000000000 := by
  have := pw_le4 (b := 16) (by decide) (by decide) h4
  omega
 obtain ⟨y, hy⟩ := num_loop h (S := sett ps) ps 0 none hp (by omega) hB
 refine body_rt rfl ?_
 show bNum.1 [some (four u e l b), some (sett ps), none, none] = _
 simp only [bNum]
 refine (seq_nx (ρ1 := [some (four u e l b), some (sett ps), some (.int 0), none]) ?_).trans ?_
 ·simp only [asgS, cst, asgN, zzD, zzE, zzF, zzG]
 refine (seq_nx (ρ1 := [some (four u e l b), some (sett ps), some (.int (val b e ps)), y]) ?_).trans ?_
 ·show (itT (lkp 1) _).bind _ = _
  rw [show itT (lkp 1) [some (four u e l b), some (sett ps), some (.int 0), none] = some (ps.map pr) from rfl]
  exact hy
 rfl
theorem gIsRod_eq {p : Int × Int} (hp : okP u l p = true) : gIsRod [four u e l b, pr p] = some (.bool true) := by
 obtain ⟨q1, q2, q3, q4⟩ := okP_split hp
 have w1 : gIsWhole [.int p.1, .int 0, .int u] = some (.bool true) := by rw [gIsWhole_int]; simp [q1, q2]
 have w2 : gIsWhole [.int p.2, .int 0, .int l] = some (.bool true) := by rw [gIsWhole_int]; simp [q3, q4]
 simp [gIsRod, bodyD, bIsRod, startR, seqS, ifS, orB, notB, tst, isiB, tyn, asB, lkp, op2, calD, consA, nilA, dLen, cst, dNe, okD_int, eqv_int, nxtS, retD, andV, pr, four, dIx, atI, ixN, w1, w2]
theorem gIsSet_eq (H : allN = true) (h : okN u e l b = true) (hs : okS u l ps = true) : gIsSet [four u e l b, sett ps] = some (.bool true) := by
 obtain ⟨h1, h4, hp⟩ := okS_split hs
 have g0 := gCheck_eq (gIsM H h)
 have hf : few (ps.map pr) = true := few_len (by rw [List.length_map]; omega)
 have c1 : dCmp (fun i j => decide (i ≤ j)) (.int 1) (.int ((ps.map pr).length : Int)) = some (.bool true) := by
  show some (PyData.bool (decide ((1 : Int) ≤ ((ps.map pr).length : Int)))) = _
  rw [decide_eq_true (by rw [List.length_map]; omega)]
 have c2 : dCmp (fun i j => decide (i ≤ j)) (.int ((ps.map pr).length : Int)) (.int 4) = some (.bool true) := by
  show some (PyData.bool (decide (((ps.map pr).length : Int) ≤ 4))) = _
  rw [decide_eq_true (by rw [List.length_map]; omega)]
 refine body_rt rfl ?_
 show bIsSet.1 [some (four u e l b), some (sett ps)] = _
 simp only [bIsSet]
 refine (seq_nx (ρ1 := [some (four u e l b), some (sett ps)]) ?_).trans ?_
 ·simp only [drpS, calD, consA, nilA, lkp, zzA, zzB, zzC, zzD, zzE, g0]
 refine (seq_nx (ρ1 := [some (four u e l b), some (sett ps)]) ?_).trans ?_
 ·simp [ifS, orB, notB, tst, isiB, tyn, asB, lkp, sett, chn, calD, consA, nilA, dLen, cst, nxtS]
  simp [List.length_map] at c1 c2
  simp [c1, c2]
  rfl
 simp only [seqS, retD, calD, consA, nilA, compD, itT, lkp, sett, itemsT, zzA, zzB, zzC, zzD, zzE, hf, if_true, capR, List.map_cons, List.map_nil, zzH]
 rw [compL_map (fun _ => .bool true)]
 ·have : bls ((ps.map pr).map fun _ => PyData.bool true) = some ((ps.map pr).map fun _ => true) := bls_map (fun _ => true) _
  simp only [zzE, zzD, dAll, this]
  simp
 ·intro d hd
  obtain ⟨p, hp', rfl⟩ := List.mem_map.mp hd
  simp [calD, consA, nilA, lkp, gIsRod_eq (e := e) (b := b) (List.all_eq_true.mp hp p hp')]
theorem gChkS_eq (H : allN = true) (h : okN u e l b = true) (hs : okS u l ps = true) : gChkSet [four u e l b, sett ps] = some .none := by
 have g := gIsSet_eq H h hs
 simp [gChkSet, bodyD, bChkSet, startR, seqS, ifS, notB, tst, asB, calD, consA, nilA, lkp, g, nxtS]
theorem gValue_eq (H : allN = true) (h : okN u e l b = true) (hs : okS u l ps = true) : gValue [four u e l b, sett ps] = some (.int (val b e ps)) := by
 obtain ⟨h1, h4, hp⟩ := okS_split hs
 have g := gChkS_eq H h hs
 have g2 := gNum_eq h h4 hp
 simp [gValue, bodyD, bValue, startR, seqS, drpS, retD, calD, consA, nilA, lkp, g, g2, nxtS]
theorem insOf_map' (ns : List Int) : insOf (ns.map PyData.int) = some ns := by simpa using insOf_ints (fun i : Int => i) ns
theorem gAll_eq (H : allN = true) (h : okN u e l b = true) (hs : okS u l ps = true) : gAllBeads [four u e l b, sett ps] = some (.int (bds ps)) := by
 obtain ⟨h1, h4, hp⟩ := okS_split hs
 have g := gChkS_eq H h hs
 have hf : few (ps.map pr) = true := few_len (by rw [List.length_map]; omega)
 refine body_rt rfl ?_
 show bAllBeads.1 [some (four u e l b), some (sett ps)] = _
 simp only [bAllBeads]
 refine (seq_nx (ρ1 := [some (four u e l b), some (sett ps)]) ?_).trans ?_
 ·simp only [drpS, calD, consA, nilA, lkp, zzA, zzB, zzC, zzD, zzE, g]
 simp only [seqS, retD, calD, consA, nilA, compD, itT, lkp, sett, itemsT, zzA, zzB, zzC, zzD, zzE, hf, if_true, capR, List.map_cons, List.map_nil, zzH]
 rw [compL_map (fun d => .int (((unP d).map fun p => p.1 + p.2).getD 0))]
 ·have : (ps.map pr).map (fun d => PyData.int (((unP d).map fun p => p.1 + p.2).getD 0)) = (ps.map fun p => p.1 + p.2).map PyData.int := by
   rw [List.map_map, List.map_map]
   refine List.map_congr_left fun p _ => ?_
   rfl
  simp only [zzE, zzD, this, dSum, insOf_map', bds]
 ·intro d hd
  obtain ⟨p, hp', rfl⟩ := List.mem_map.mp hd
  have := gBeads_eq p.1 p.2
  simp [calD, consA, nilA, lkp, pr, unP, this]
end
end Rods
namespace Rods
open PySem L2 BX
open PyProof.Rows hiding St
theorem gChkN_eq {n : Int} (h0 : 0 ≤ n) (h1 : n ≤ 99999) : gChkNum [.int n] = some .none := by
 have w : gIsWhole [.int n, .int 0, .int 99999] = some (.bool true) := by rw [gIsWhole_int]; simp [h0, h1]
 simp [gChkNum, bodyD, bChkNum, startR, seqS, ifS, notB, tst, asB, calD, consA, nilA, lkp, cst, w, nxtS]
theorem gChkR_eq {n : Int} (h0 : 1 ≤ n) (h1 : n ≤ 4) : gChkRods [.int n] = some .none := by
 have w : gIsWhole [.int n, .int 1, .int 4] = some (.bool true) := by rw [gIsWhole_int]; simp [h0, h1]
 simp [gChkRods, bodyD, bChkRods, startR, seqS, ifS, notB, tst, asB, calD, consA, nilA, lkp, cst, w, nxtS]
end Rods
namespace Rods
open PySem L2 BX
open PyProof.Rows hiding St
section
variable {u e l b : Int} {ps qs : List (Int × Int)}
theorem dEq_int (i j : Int) : dEq (.int i) (.int j) = some (.bool (decide (i = j))) := by
 have : (i == j) = decide (i = j) := rfl
 simp only [dEq, okD_int, eqv_int, and_self, if_true, this]
theorem headI {b : Int} {r : Nat} {n x : Int} {xs : List Int} (h4 : r ≤ 4) (hx : dgl b r n = x :: xs) : dIx (.list ((dgl b r n).map .int)) (.int 0) = some (.int x) := by
 have hl := dgl_len b r n
 have hlt : ((dgl b r n).map PyData.int).length < 1000000 := by rw [List.length_map, hl]; omega
 show (if ((dgl b r n).map PyData.int).length < 1000000 then atI ((dgl b r n).map PyData.int) 0 else none) = _
 rw [if_pos hlt, hx]
 simp [atI, ixN]
theorem gPlainR_eq (H : allN = true) (h : okN u e l b = true) {r : Nat} {n : Int} (h1 : 1 ≤ r) (h4 : r ≤ 4) (h0 : 0 ≤ n) (hn : n < b ^ r) : gPlainR [four u e l b, .int (r : Int), .int n] = some (sett (pln (four u e l b) b r n)) := by
 obtain ⟨a1, a2, a3, a4, a5, a6, a7, a8, a9, a10⟩ := split_N h
 have hb : 0 < b := by omega
 have hd := gDig_eq (n := n) hb a9 h1 h4
 have hg := dgl_rng hb r n h0 hn
 have hl := dgl_len b r n
 obtain ⟨k, rfl⟩ : ∃ k, r = k + 1 := ⟨r - 1, by omega⟩
 obtain ⟨x, xs, hx, hx1, _⟩ := dgl_head hb k n h0
 have hi := headI h4 hx
 have hc : dCmp (fun i j => decide (j ≤ i)) (.int x) (.int b) = some (.bool false) := by
  show some (PyData.bool (decide (b ≤ x))) = _
  rw [decide_eq_false (by have := hx1 hn; omega)]
 have hf : few ((dgl b (k + 1) n).map .int) = true := few_len (by rw [List.length_map, hl]; omega)
 generalize hr : ((k + 1 : Nat) : Int) = rr at hd ⊢
 refine body_rt rfl ?_
 show bPlainR.1 [some (four u e l b), some (.int rr), some (.int n), none] = _
 simp only [bPlainR]
 refine (seq_nx (ρ1 := [some (four u e l b), some (.int rr), some (.int n), some (.list ((dgl b (k + 1) n).map .int))]) ?_).trans ?_
 ·simp only [asgS, calD, consA, nilA, op2, lkp, cst, asgN, zzA, zzB, zzC, zzD, zzE, ix3, hd, zzF, zzG]
 refine (seq_nx (ρ1 := [some (four u e l b), some (.int rr), some (.int n), some (.list ((dgl b (k + 1) n).map .int))]) ?_).trans ?_
 ·simp only [ifS, tst, op2, lkp, cst, zzA, zzB, zzC, zzD, hi, ix3, hc, asB, Bool.false_eq_true, if_false, nxtS]
 simp only [seqS, retD, calD, consA, nilA, compD, itL, lkp, itemsL, zzA, zzB, zzC, zzD, zzE, hf, if_true, capR, List.map_cons, List.map_nil, zzH]
 rw [compL_map (fun d => rodOf (four u e l b) ((inOf d).getD 0))]
 ·simp [dTupOf, sett, pln, rodOf, inOf, Function.comp_def]
 ·intro d hd
  obtain ⟨i, hi, rfl⟩ := List.mem_map.mp hd
  simp [calD, consA, nilA, lkp, inOf, (fewest_ok H h (hg i hi).1 (hg i hi).2).1]
theorem gPlainS_eq (H : allN = true) (h : okN u e l b = true) {r : Nat} {n : Int} (h1 : 1 ≤ r) (h4 : r ≤ 4) (h0 : 0 ≤ n) (hn : n < b ^ r) : gPlainS [four u e l b, .int (r : Int), .int n] = some (sett (pln (four u e l b) b r n)) := by
 obtain ⟨a1, a2, a3, a4, a5, a6, a7, a8, a9, a10⟩ := split_N h
 have hle := pw_le4 (show 0 < b by omega) a9 h4
 have g1 := gCheck_eq (gIsM H h)
 have g2 : gChkRods [.int (r : Int)] = some .none := gChkR_eq (by omega) (by omega)
 have g3 : gChkNum [.int n] = some .none := gChkN_eq h0 (by omega)
 have g4 : gAsked [four u e l b, .int (r : Int), .int n] = some .none := by
  simp [gAsked, bodyD, bAsked, startR, seqS, drpS, calD, consA, nilA, lkp, g1, g2, g3, nxtS]
 have g5 := gPlainR_eq H h h1 h4 h0 hn
 simp [gPlainS, bodyD, bPlainS, startR, seqS, drpS, retD, calD, consA, nilA, lkp, g4, g5, nxtS]
theorem len_sett (ps : List (Int × Int)) : dLen [sett ps] = some (.int (ps.length : Int)) := by
 show some (PyData.int ((ps.map pr).length : Int)) = _
 rw [List.length_map]
theorem eqv_pr (p q : Int × Int) : PyData.eqv (pr p) (pr q) = decide (p = q) := by
 obtain ⟨a, b⟩ := p
 obtain ⟨c, d⟩ := q
 simp only [pr, PyData.eqv, PyData.eqvAll, Prod.mk.injEq, Bool.and_true, Bool.decide_and]
 rfl
theorem eqvAll_pr : ∀ (ps qs : List (Int × Int)), PyData.eqvAll (ps.map pr) (qs.map pr) = decide (ps = qs)
 | [], [] => by simp [PyData.eqvAll]
 | [], q :: qs => by simp [PyData.eqvAll]
 | p :: ps, [] => by simp [PyData.eqvAll]
 | p :: ps, q :: qs => by simp [PyData.eqvAll, eqv_pr, eqvAll_pr ps qs]
theorem eqv_sett (ps qs : List (Int × Int)) : PyData.eqv (sett ps) (sett qs) = decide (ps = qs) := by
 unfold sett PyData.eqv
 exact eqvAll_pr ps qs
theorem okD_sett (ps : List (Int × Int)) : okD (sett ps) = true := by
 have h1 : ∀ ps : List (Int × Int), PyData.canLayAll0 (ps.map pr) = true := fun ps => by
  induction ps with
  | nil => rfl
  | cons p ps ih => simp [PyData.canLayAll0, PyData.canLay0, pr, ih]
 have h2 : ∀ ps : List (Int × Int), PyData.depthAll (ps.map pr) ≤ 1 := fun ps => by
  induction ps with
  | nil => simp [PyData.depthAll]
  | cons p ps ih => simp [PyData.depthAll, PyData.depth, pr] at ih ⊢; omega
 have := h2 ps
 simp [okD, sett, PyData.canLay0, h1, PyData.depth]
 omega
theorem ne_sett (ps qs : List (Int × Int)) : dNe (sett ps) (sett qs) = some (.bool (!decide (ps = qs))) := by
 unfold dNe
 rw [if_pos ⟨okD_sett ps, okD_sett qs⟩, eqv_sett]
end
end Rods
namespace Rods
open PySem L2 BX
open PyProof.Rows hiding St
theorem flat1 {α : Type} (x : α) : ∀ n : Nat, (List.replicate n [x]).flatten = List.replicate n x
 | 0 => rfl
 | n + 1 => by rw [List.replicate_succ, List.flatten_cons, flat1 x n, List.replicate_succ]; rfl
noncomputable def mostN (u e l b : Int) (a : Nat) : Int := val b e (List.replicate a (u, l))
theorem all_full {u e l b : Int} (h : okN u e l b = true) (a : Nat) : (List.replicate a (u, l)).all (okP u l) = true := by
 obtain ⟨a1, a2, a3, a4, a5, a6, a7, a8, a9, a10⟩ := split_N h
 refine List.all_eq_true.mpr fun p hp => ?_
 rw [(List.mem_replicate.mp hp).2]
 simp only [okP, Bool.and_eq_true, decide_eq_true_eq]
 exact ⟨⟨⟨a1, Int.le_refl _⟩, by omega⟩, Int.le_refl _⟩
theorem gFull_eq {u e l b : Int} (a : Nat) (ha : a < 4) : gFull [four u e l b, .int (a : Int)] = some (sett (List.replicate a (u, l))) := by
 refine body_rt rfl ?_
 have f1 : few [pr (u, l)] = true := few_len (by simp)
 have f2 : few [PyData.int u, .int l] = true := few_len (by simp)
 have rp : dRepT (.tuple [.tuple [.int u, .int l]]) (.int (a : Int)) = some (sett (List.replicate a (u, l))) := by
  show (if 0 < [pr (u, l)].length ∧ [pr (u, l)].length < 1000 ∧ -1000 < (a : Int) ∧ (a : Int) < 1000 then some (PyData.tuple (List.replicate (a : Int).toNat [pr (u, l)]).flatten) else none) = _
  rw [if_pos ⟨by simp, by simp, by omega, by omega⟩, flat1]
  simp [sett]
 have f1' : few [PyData.tuple [.int u, .int l]] = true := f1
 generalize (a : Int) = aa at *
 show bFull.1 [some (four u e l b), some (.int aa)] = _
 simp only [bFull, seqS, retD, op2, tupD, consA, nilA, lkp, cst, zzA, zzB, zzC, zzD, zzE, ix0, ix2, f1', f2, if_true, rp]
noncomputable def leftOf (e n : Int) (r : PyData) : Int := n - worthOf e r
noncomputable def okL (e b m n : Int) (r : PyData) : Bool := decide (leftOf e n r % b = 0) && (decide (0 ≤ leftOf e n r) && decide (leftOf e n r ≤ b * m))
noncomputable def lastT (e b n : Int) (r : PyData) : PyData := .tuple [r, .int (leftOf e n r / b)]
theorem last_t1 {u e l b m n : Int} (hu' : u < 100) (hb : 0 < b) (hb' : b < 100) {A x7 : Option PyData} {ds : List PyData} (hds : ds.length < 1000000) {R : PyData} (nR : noL R = true) {L : Int} : tst (op2 dEq (op2 dMod (lkp 7) (lkp 3)) (cst (.int 0))) [some (four u e l b), A, some (.int n), some (.int b), some (.int m), some (.list ds), some R, some (.int L)] = some (decide (L % b = 0)) := by
 have mb : dMul (.int b) (.int m) = some (.int (b * m)) := mul_small (by omega)
 have md := fun x => mod_pos (i := x) hb
 have fd := fun x => fdiv_pos (i := x) hb (by omega)
 have sb : ∀ x y : Int, dSub (.int x) (.int y) = some (.int (x - y)) := fun _ _ => rfl
 have le : ∀ x y : Int, dCmp (fun i j => decide (i ≤ j)) (.int x) (.int y) = some (.bool (decide (x ≤ y))) := fun _ _ => rfl
 simp only [tst, op2, lkp, cst, zzA, zzB, zzC, zzD, md, dEq_int, asB]
theorem last_t2 {u e l b m n : Int} (hu' : u < 100) (hb : 0 < b) (hb' : b < 100) {A x7 : Option PyData} {ds : List PyData} (hds : ds.length < 1000000) {R : PyData} (nR : noL R = true) {L : Int} : tst (chn (dCmp fun i j => decide (i ≤ j)) (dCmp fun i j => decide (i ≤ j)) (cst (.int 0)) (lkp 7) (op2 dMul (lkp 3) (lkp 4))) [some (four u e l b), A, some (.int n), some (.int b), some (.int m), some (.list ds), some R, some (.int L)] = some (decide (0 ≤ L) && decide (L ≤ b * m)) := by
 have mb : dMul (.int b) (.int m) = some (.int (b * m)) := mul_small (by omega)
 have md := fun x => mod_pos (i := x) hb
 have fd := fun x => fdiv_pos (i := x) hb (by omega)
 have sb : ∀ x y : Int, dSub (.int x) (.int y) = some (.int (x - y)) := fun _ _ => rfl
 have le : ∀ x y : Int, dCmp (fun i j => decide (i ≤ j)) (.int x) (.int y) = some (.bool (decide (x ≤ y))) := fun _ _ => rfl
 simp only [tst, chn, op2, lkp, cst, zzA, zzB, zzC, zzD, le, mb, asB]
 by_cases c2 : 0 ≤ L
 ·simp [c2, asB]
 ·simp [c2, asB]
theorem last_t3 {u e l b m n : Int} (hu' : u < 100) (hb : 0 < b) (hb' : b < 100) {A x7 : Option PyData} {ds : List PyData} (hds : ds.length < 1000000) {R : PyData} (nR : noL R = true) {L : Int} : mutS 5 (appD 5 (tupD (consA (lkp 6) (consA (op2 dFdiv (lkp 7) (lkp 3)) nilA)))) [some (four u e l b), A, some (.int n), some (.int b), some (.int m), some (.list ds), some R, some (.int L)] = some (.nx [some (four u e l b), A, some (.int n), some (.int b), some (.int m), some (.list (ds ++ [.tuple [R, .int (L / b)]])), some R, some (.int L)]) := by
 have mb : dMul (.int b) (.int m) = some (.int (b * m)) := mul_small (by omega)
 have md := fun x => mod_pos (i := x) hb
 have fd := fun x => fdiv_pos (i := x) hb (by omega)
 have sb : ∀ x y : Int, dSub (.int x) (.int y) = some (.int (x - y)) := fun _ _ => rfl
 have le : ∀ x y : Int, dCmp (fun i j => decide (i ≤ j)) (.int x) (.int y) = some (.bool (decide (x ≤ y))) := fun _ _ => rfl
 have hn : noL (.tuple [R, .int (L / b)]) = true := by simp [noL, noLs, nR]
 have hf2 : few [R, PyData.int (L / b)] = true := by simp [few]
 simp only [mutS, appD, tupD, consA, nilA, op2, lkp, zzA, zzB, zzC, zzD, zzE, fd, hf2, if_true, appL, hn, hds, and_self, zzF, zzG]
theorem last_step0 {u e l b m n : Int} (hu' : u < 100) (hb : 0 < b) (hb' : b < 100) {A x7 : Option PyData} {ds : List PyData} (hds : ds.length < 1000000) {R : PyData} (nR : noL R = true) {L : Int} (hL' : n - worthOf e R = L) (hw : gRodWorth [four u e l b, R] = some (.int (worthOf e R))) :
  bLastIn.1 [some (four u e l b), A, some (.int n), some (.int b), some (.int m), some (.list ds), some R, x7] =
   some (.nx [some (four u e l b), A, some (.int n), some (.int b), some (.int m), some (.list (ds ++ if (decide (L % b = 0) && (decide (0 ≤ L) && decide (L ≤ b * m))) = true then [.tuple [R, .int (L / b)]] else [])), some R, some (.int L)]) := by
 have sb : ∀ x y : Int, dSub (.int x) (.int y) = some (.int (x - y)) := fun _ _ => rfl
 simp only [bLastIn]
 refine (seq_nx (ρ1 := [some (four u e l b), A, some (.int n), some (.int b), some (.int m), some (.list ds), some R, some (.int L)]) ?_).trans ?_
 ·simp only [asgS, brw, hid, op2, lkp, calD, consA, nilA, zzF, zzG, zzA, zzB, zzC, zzD, zzE, hw, sb, asgN, hL']
 ·have q1 := last_t1 (u := u) (e := e) (l := l) (m := m) (n := n) hu' hb hb' (A := A) (x7 := x7) hds nR (L := L)
  have q2 := last_t2 (u := u) (e := e) (l := l) (m := m) (n := n) hu' hb hb' (A := A) (x7 := x7) hds nR (L := L)
  have q3 := last_t3 (u := u) (e := e) (l := l) (m := m) (n := n) hu' hb hb' (A := A) (x7 := x7) hds nR (L := L)
  cases c1 : decide (L % b = 0) with
  | false => simp only [seqS, ifS, andB, q1, c1, zzD, Bool.false_eq_true, if_false, nxtS, Bool.false_and, List.append_nil]
  | true =>
   cases c2 : (decide (0 ≤ L) && decide (L ≤ b * m)) with
   | false => simp only [seqS, ifS, andB, q1, q2, c1, c2, zzD, if_true, Bool.false_eq_true, if_false, nxtS, Bool.and_false, List.append_nil]
   | true => simp only [seqS, ifS, andB, q1, q2, q3, c1, c2, zzD, if_true, nxtS, Bool.and_self]
theorem last_step {u e l b m n : Int} (hu' : u < 100) (hb : 0 < b) (hb' : b < 100) {A x7 : Option PyData} {ds : List PyData} (hds : ds.length < 1000000) {r : PyData} (hr : r ∈ rodsU u l) :
  bLastIn.1 [some (four u e l b), A, some (.int n), some (.int b), some (.int m), some (.list ds), some r, x7] =
   some (.nx [some (four u e l b), A, some (.int n), some (.int b), some (.int m), some (.list (ds ++ if okL e b m n r = true then [lastT e b n r] else [])), some r, some (.int (leftOf e n r))]) := by
 have hw := worth_rod (e := e) (b := b) hu' hr
 have nR : noL r = true := by obtain ⟨i, j, _, _, rfl⟩ := mem_rodsN hr; simp [noL, noLs]
 exact last_step0 hu' hb hb' hds nR rfl hw
theorem last_loop {u e l b m n : Int} (hu' : u < 100) (hb : 0 < b) (hb' : b < 100) {A : Option PyData} : ∀ (rs ds : List PyData) (x6 x7 : Option PyData), (∀ r ∈ rs, r ∈ rodsU u l) → ds.length + rs.length < 1000000 →
  ∃ y6 y7, loopD (asgN 6) bLastIn.1 rs [some (four u e l b), A, some (.int n), some (.int b), some (.int m), some (.list ds), x6, x7] =
   some (.nx [some (four u e l b), A, some (.int n), some (.int b), some (.int m), some (.list (ds ++ (rs.filter (okL e b m n)).map (lastT e b n))), y6, y7])
 | [], ds, x6, x7, _, _ => ⟨x6, x7, by simp [loopD]⟩
 | r :: rs, ds, x6, x7, h, hl => by
  have hl' : ds.length + (rs.length + 1) < 1000000 := hl
  have s := last_step (l := l) (e := e) (m := m) (n := n) hu' hb hb' (A := A) (x7 := x7) (ds := ds) (by omega) (h r List.mem_cons_self)
  obtain ⟨y6, y7, ih⟩ := last_loop (l := l) (e := e) (m := m) (n := n) hu' hb hb' (A := A) rs (ds ++ if okL e b m n r = true then [lastT e b n r] else []) (some r) (some (.int (leftOf e n r))) (fun x hx => h x (List.mem_cons_of_mem _ hx)) (by split <;> simp <;> omega)
  refine ⟨y6, y7, ?_⟩
  rw [loopD]
  simp only [asgN, zzF, zzG, zzD, s, ih]
  by_cases c : okL e b m n r = true
  ·simp [c, List.filter_cons]
  ·simp [c, List.filter_cons]
theorem gLast_eq {u e l b n : Int} (h : okN u e l b = true) (a : Nat) (ha : a < 4) :
  gLast [four u e l b, .int (a : Int), .int n] = some (.list (((rodsU u l).filter (okL e b (mostN u e l b a) n)).map (lastT e b n))) := by
 obtain ⟨a1, a2, a3, a4, a5, a6, a7, a8, a9, a10⟩ := split_N h
 have hu : 0 ≤ u := a1
 have hu' : u < 100 := by omega
 have hl : 0 ≤ l := by omega
 have hl' : l < 100 := by omega
 have hb : 0 < b := by omega
 have hb' : b < 100 := by omega
 refine body_rt rfl ?_
 have h1 := gFull_eq (u := u) (e := e) (l := l) (b := b) a ha
 have h2 : gNum [four u e l b, sett (List.replicate a (u, l))] = some (.int (mostN u e l b a)) := gNum_eq h (by rw [List.length_replicate]; omega) (all_full h a)
 have h3 := gAllRods_eq (e := e) (b := b) hu hu' hl hl'
 have hf := few_rods (u := u) (l := l) hu' hl'
 have hlen : (rodsU u l).length < 1000000 := by simpa [few] using hf
 obtain ⟨y6, y7, lp⟩ := last_loop (u := u) (l := l) (e := e) (m := mostN u e l b a) (n := n) hu' hb hb' (A := some (.int (a : Int))) (rodsU u l) [] none none (fun _ h => h) (by simpa using hlen)
 show bLast.1 [some (four u e l b), some (.int (a : Int)), some (.int n), none, none, none, none, none] = _
 simp only [bLast]
 refine (seq_nx (ρ1 := [some (four u e l b), some (.int (a : Int)), some (.int n), some (.int b), none, none, none, none]) ?_).trans ?_
 ·simp only [asgS, op2, lkp, cst, asgN, zzA, zzC, zzD, zzE, ix3, zzF, zzG]
 refine (seq_nx (ρ1 := [some (four u e l b), some (.int (a : Int)), some (.int n), some (.int b), some (.int (mostN u e l b a)), none, none, none]) ?_).trans ?_
 ·simp only [asgS, calD, consA, nilA, lkp, asgN, zzA, zzB, zzC, zzD, zzE, h1, h2, zzF, zzG]
 have f0 : few ([] : List PyData) = true := few_nil
 simp only [newS, lstD, nilA, f0, zzD, if_true, List.length_cons, List.length_nil, Nat.lt_add_one, zzF, zzG]
 have q : seqS (forS (fun ρ => itL (calD gAllRods (consA (lkp 0) nilA)) (hid (some 5) ρ)) (asgN 6) bLastIn.1) (seqS (retD (lkp 5)) nxtS) [some (four u e l b), some (.int (a : Int)), some (.int n), some (.int b), some (.int (mostN u e l b a)), some (.list []), none, none] =
   some (.rt (.list (((rodsU u l).filter (okL e b (mostN u e l b a) n)).map (lastT e b n)))) := by
  refine (seq_nx (ρ1 := [some (four u e l b), some (.int (a : Int)), some (.int n), some (.int b), some (.int (mostN u e l b a)), some (.list ([] ++ ((rodsU u l).filter (okL e b (mostN u e l b a) n)).map (lastT e b n))), y6, y7]) ?_).trans ?_
  ·simp only [forS, itL, itemsL, calD, consA, nilA, lkp, hid, zzF, zzG, zzA, zzC, zzD, zzE, h3, lp]
  ·simp only [seqS, retD, lkp, zzA, zzB, zzC, zzE, zzD, List.nil_append]
 rw [if_pos (by decide), q]
 rfl
noncomputable abbrev KI := List (Int × Int)
noncomputable def enc (kv : KI) : List (PyData × PyData) := kv.map fun p => (.int p.1, .int p.2)
noncomputable def dI (kv : KI) : PyData := .dict ((.none, .none) :: enc kv)
noncomputable def fndK (kv : KI) (k : Int) : Option Int := (kv.find? fun p => decide (p.1 = k)).map (·.2)
noncomputable def getK (kv : KI) (k : Int) : Int := (fndK kv k).getD 0
noncomputable def putI (kv : KI) (k v : Int) : KI := if kv.any (fun p => decide (p.1 = k)) = true then kv.map (fun p => if p.1 = k then (p.1, v) else p) else kv ++ [(k, v)]
theorem valM_enc (kv : KI) (k : Int) : valM (enc kv) k = (fndK kv k).map .int := by
 induction kv with
 | nil => rfl
 | cons p kv ih =>
  by_cases h : p.1 = k
  ·simp [valM, enc, fndK, isI, h]
  ·have e1 : valM (enc (p :: kv)) k = valM (enc kv) k := by simp [valM, enc, isI, h, List.find?_cons]
   have e2 : fndK (p :: kv) k = fndK kv k := by simp [fndK, h, List.find?_cons]
   rw [e1, e2, ih]
theorem putM_enc (kv : KI) (k v : Int) : putM (enc kv) k (.int v) = enc (putI kv k v) := by
 have h1 : (enc kv).any (fun p => isI k p.1) = kv.any fun p => decide (p.1 = k) := by simp [enc, List.any_map, Function.comp_def, isI]
 unfold putM putI
 rw [h1]
 by_cases c : kv.any (fun p => decide (p.1 = k)) = true
 ·rw [if_pos c, if_pos c]
  simp only [enc, List.map_map]
  apply List.map_congr_left
  intro p _
  by_cases h : p.1 = k <;> simp [isI, h]
 ·rw [if_neg c, if_neg c]
  simp [enc]
theorem len_putI (kv : KI) (k v : Int) : (putI kv k v).length ≤ kv.length + 1 := by
 unfold putI
 split <;> simp
theorem fnd_mem {kv : KI} : ∀ {p : Int × Int}, p ∈ kv → ∃ c, fndK kv p.1 = some c := by
 intro p hp
 have : (kv.find? fun q => decide (q.1 = p.1)).isSome = true := by
  rw [List.find?_isSome]
  exact ⟨p, hp, by simp⟩
 cases h : kv.find? fun q => decide (q.1 = p.1) with
 | none => rw [h] at this; cases this
 | some q => exact ⟨q.2, by simp [fndK, h]⟩
theorem fnd_cons (p : Int × Int) (kv : KI) (x : Int) : fndK (p :: kv) x = if p.1 = x then some p.2 else fndK kv x := by
 by_cases h : p.1 = x <;> simp [fndK, List.find?_cons, h]
theorem fnd_map (k v x : Int) : ∀ kv : KI, fndK (kv.map fun p => if p.1 = k then (p.1, v) else p) x = if x = k then (if kv.any (fun p => decide (p.1 = k)) = true then some v else none) else fndK kv x
 | [] => by simp [fndK]
 | p :: kv => by
  rw [List.map_cons, fnd_cons, fnd_cons, fnd_map k v x kv]
  by_cases hp : p.1 = k
  ·by_cases hx : x = k
   ·subst hx; simp [hp]
   ·have hkx : ¬ k = x := fun z => hx z.symm
    simp [hp, hx, hkx]
  ·by_cases hx : x = k
   ·subst hx; rw [List.any_cons, decide_eq_false hp, Bool.false_or]; simp [hp]
   ·by_cases hq : p.1 = x <;> simp [hp, hx, hq]
theorem fnd_app (k v x : Int) : ∀ kv : KI, fndK (kv ++ [(k, v)]) x = if kv.any (fun p => decide (p.1 = x)) = true then fndK kv x else if k = x then some v else none
 | [] => by rw [List.nil_append, fnd_cons]; simp [fndK]
 | p :: kv => by
  rw [List.cons_append, fnd_cons, fnd_cons, fnd_app k v x kv]
  by_cases hp : p.1 = x
  ·simp [hp]
  ·rw [List.any_cons, decide_eq_false hp, Bool.false_or, if_neg hp, if_neg hp]
theorem fnd_none {kv : KI} {x : Int} (h : ¬ kv.any (fun p => decide (p.1 = x)) = true) : fndK kv x = none := by
 induction kv with
 | nil => rfl
 | cons p kv ih =>
  rw [fnd_cons]
  by_cases hp : p.1 = x
  ·exact absurd (by simp [hp]) h
  ·rw [if_neg hp]; exact ih (by simpa [hp] using h)
theorem fnd_put (kv : KI) (k v x : Int) : fndK (putI kv k v) x = if x = k then some v else fndK kv x := by
 unfold putI
 by_cases c : kv.any (fun p => decide (p.1 = k)) = true
 ·rw [if_pos c, fnd_map, if_pos c]
 ·rw [if_neg c, fnd_app]
  by_cases hx : x = k
  ·subst hx
   rw [if_neg c, if_pos rfl, if_pos rfl]
  ·have hkx : ¬ k = x := fun z => hx z.symm
   rw [if_neg hx, if_neg hkx]
   by_cases d : kv.any (fun p => decide (p.1 = x)) = true
   ·rw [if_pos d]
   ·rw [if_neg d, fnd_none d]
noncomputable def rp (u l : Int) : List (Int × Int) := (List.range (u + 1).toNat).flatMap fun (i : Nat) => (List.range (l + 1).toNat).map fun (j : Nat) => ((i : Int), (j : Int))
theorem rods_rp (u l : Int) : rodsU u l = (rp u l).map pr := by
 simp [rodsU, rodsN, rodRow, rp, List.map_flatMap, List.map_map, Function.comp_def, pr]
theorem mem_rp {u l : Int} {p : Int × Int} (h : okP u l p = true) : p ∈ rp u l := by
 obtain ⟨q1, q2, q3, q4⟩ := okP_split h
 refine List.mem_flatMap.mpr ⟨p.1.toNat, List.mem_range.mpr (by omega), List.mem_map.mpr ⟨p.2.toNat, List.mem_range.mpr (by omega), ?_⟩⟩
 exact Prod.ext (by show ((p.1.toNat : Nat) : Int) = p.1; omega) (by show ((p.2.toNat : Nat) : Int) = p.2; omega)
theorem rp_ok {u l : Int} {p : Int × Int} (h : p ∈ rp u l) : okP u l p = true := by
 obtain ⟨i, hi, h2⟩ := List.mem_flatMap.mp h
 obtain ⟨j, hj, rfl⟩ := List.mem_map.mp h2
 have := List.mem_range.mp hi
 have := List.mem_range.mp hj
 simp only [okP, Bool.and_eq_true, decide_eq_true_eq]
 exact ⟨⟨⟨by omega, by omega⟩, by omega⟩, by omega⟩
theorem rp_len (u l : Int) : (rp u l).length = (rodsU u l).length := by rw [rods_rp, List.length_map]
theorem rp_few {u e l b : Int} (h : okN u e l b = true) : (rp u l).length ≤ 48 := by
 obtain ⟨a1, a2, a3, a4, a5, a6, a7, a8, a9, a10⟩ := split_N h
 rw [rp_len]
 show (rodsN (u + 1).toNat (l + 1).toNat).length ≤ 48
 rw [len_rods]
 exact Nat.le_trans (Nat.mul_le_mul (show (u + 1).toNat ≤ 4 by omega) (show (l + 1).toNat ≤ 12 by omega)) (by decide)
noncomputable def bd (p : Int × Int) : Int := p.1 + p.2
noncomputable def okQ (e b M n : Int) (p : Int × Int) : Bool := decide ((n - wt e p) % b = 0) && (decide (0 ≤ n - wt e p) && decide (n - wt e p ≤ b * M))
noncomputable def lps (u e l b : Int) (a : Nat) (n : Int) : List ((Int × Int) × Int) := ((rp u l).filter (okQ e b (mostN u e l b a) n)).map fun p => (p, (n - wt e p) / b)
noncomputable def encL (q : (Int × Int) × Int) : PyData := .tuple [pr q.1, .int q.2]
theorem gLast_lps {u e l b n : Int} (h : okN u e l b = true) (a : Nat) (ha : a < 4) : gLast [four u e l b, .int (a : Int), .int n] = some (.list ((lps u e l b a n).map encL)) := by
 rw [gLast_eq h a ha, rods_rp, List.filter_map, List.map_map]
 unfold lps
 rw [List.map_map]
 rfl
theorem lps_len (u e l b : Int) (a : Nat) (n : Int) : (lps u e l b a n).length ≤ (rp u l).length := by unfold lps; rw [List.length_map]; exact List.length_filter_le _ _
noncomputable def minTo (acc : KI) (q : Int × Int) : KI := putI acc q.1 (if (fndK acc q.1).getD q.2 < q.2 then (fndK acc q.1).getD q.2 else q.2)
theorem minTo_len (acc : KI) (q : Int × Int) : (minTo acc q).length ≤ acc.length + 1 := len_putI _ _ _
theorem minFold_len : ∀ (xs : List (Int × Int)) (acc : KI), (xs.foldl minTo acc).length ≤ acc.length + xs.length
 | [], acc => by simp
 | x :: xs, acc => by
  have h1 := minFold_len xs (minTo acc x)
  have h2 := minTo_len acc x
  rw [List.foldl_cons, List.length_cons]
  omega
noncomputable def IsMin (d : Option Int) (P : Int → Prop) : Prop := (∀ v, d = some v → P v) ∧ ∀ v, P v → ∃ m, d = some m ∧ m ≤ v
theorem IsMin.imp {d : Option Int} {P P' : Int → Prop} (h : IsMin d P) (h1 : ∀ v, P v → P' v) (h2 : ∀ v, P' v → ∃ w, P w ∧ w ≤ v) : IsMin d P' :=
 ⟨fun v e => h1 v (h.1 v e), fun v p => by
  obtain ⟨w, hw, hl⟩ := h2 v p
  obtain ⟨m, hm, hl2⟩ := h.2 w hw
  exact ⟨m, hm, Int.le_trans hl2 hl⟩⟩
theorem IsMin.uniq {d d' : Option Int} {P : Int → Prop} (h : IsMin d P) (h' : IsMin d' P) : d = d' := by
 cases d with
 | none =>
  cases d' with
  | none => rfl
  | some v => obtain ⟨m, hm, _⟩ := h.2 v (h'.1 v rfl); cases hm
 | some v =>
  obtain ⟨m, hm, hl⟩ := h'.2 v (h.1 v rfl)
  obtain ⟨m', hm', hl'⟩ := h.2 m (h'.1 m hm)
  cases hm'
  rw [hm]
  congr 1
  omega
theorem minFold_spec (k : Int) : ∀ (xs : List (Int × Int)) (acc : KI), IsMin (fndK (xs.foldl minTo acc) k) fun v => fndK acc k = some v ∨ (k, v) ∈ xs
 | [], acc => ⟨fun v e => .inl e, fun v p => by
   rcases p with q | q
   ·exact ⟨v, q, Int.le_refl _⟩
   ·cases q⟩
 | x :: xs, acc => by
  rw [List.foldl_cons]
  have ih := minFold_spec k xs (minTo acc x)
  have hf : fndK (minTo acc x) k = if k = x.1 then some (if (fndK acc x.1).getD x.2 < x.2 then (fndK acc x.1).getD x.2 else x.2) else fndK acc k := fnd_put _ _ _ _
  by_cases hk : k = x.1
  ·rw [if_pos hk] at hf
   subst hk
   refine ih.imp (fun v p => ?_) fun v p => ?_
   ·rcases p with q | q
    ·rw [hf] at q
     have q := Option.some.inj q
     by_cases hlt : (fndK acc x.1).getD x.2 < x.2
     ·rw [if_pos hlt] at q
      cases hc : fndK acc x.1 with
      | none => rw [hc] at hlt; exact absurd hlt (Int.lt_irrefl _)
      | some c => rw [hc] at q; exact .inl (by rw [← q]; rfl)
     ·rw [if_neg hlt] at q
      exact .inr (by rw [← q]; exact List.mem_cons_self)
    ·exact .inr (List.mem_cons_of_mem _ q)
   ·rcases p with q | q
    ·refine ⟨_, .inl hf, ?_⟩
     rw [q]
     show (if v < x.2 then v else x.2) ≤ v
     split <;> omega
    ·rcases List.mem_cons.mp q with z | z
     ·refine ⟨_, .inl hf, ?_⟩
      have : v = x.2 := by rw [← z]
      rw [this]
      split <;> omega
     ·exact ⟨v, .inr z, Int.le_refl _⟩
  ·rw [if_neg hk] at hf
   refine ih.imp (fun v p => ?_) fun v p => ?_
   ·rcases p with q | q
    ·exact .inl (by rw [← hf]; exact q)
    ·exact .inr (List.mem_cons_of_mem _ q)
   ·rcases p with q | q
    ·exact ⟨v, .inl (by rw [hf]; exact q), Int.le_refl _⟩
    ·rcases List.mem_cons.mp q with z | z
     ·exact absurd (by rw [← z]) hk
     ·exact ⟨v, .inr z, Int.le_refl _⟩
theorem minFold0 (k : Int) (xs : List (Int × Int)) : IsMin (fndK (xs.foldl minTo []) k) fun v => (k, v) ∈ xs :=
 (minFold_spec k xs []).imp (fun v p => by rcases p with q | q; cases q; exact q) fun v p => ⟨v, .inr p, Int.le_refl _⟩
theorem fnd_key {kv : KI} {n c : Int} (h : fndK kv n = some c) : ∃ p ∈ kv, p.1 = n ∧ getK kv n = c := by
 unfold fndK at h
 cases hq : kv.find? fun p => decide (p.1 = n) with
 | none => rw [hq] at h; cases h
 | some q =>
  refine ⟨q, List.mem_of_find?_eq_some hq, by simpa using List.find?_some hq, ?_⟩
  unfold getK fndK
  rw [hq]
  rw [hq] at h
  exact Option.some.inj h
theorem get2_dI (acc : KI) (k v : Int) : dGet2 (dI acc) (.int k) (.int v) = some (.int ((fndK acc k).getD v)) := by
 show some ((valM (enc acc) k).getD (.int v)) = _
 rw [valM_enc]
 cases fndK acc k <;> rfl
theorem put_dI {acc : KI} {k v : Int} (hl : acc.length < 1000000) : putD (some (dI acc)) (some (.int v)) (some (.int k)) = some (dI (putI acc k v)) := by
 have hle : (enc acc).length < 1000000 := by simpa [enc] using hl
 show (if (enc acc).length < 1000000 then some (PyData.dict ((.none, .none) :: putM (enc acc) k (.int v))) else none) = _
 rw [if_pos hle, putM_enc]
 rfl
theorem put_min {m A W n R : Option PyData} {acc : KI} {k v : Int} (hl : acc.length < 1000000) :
  putS 3 (lkp 6) (calD dMin2 (consA (lkp 7) (consA (get2D (lkp 3) (lkp 6) (lkp 7)) nilA))) [m, A, W, some (dI acc), n, R, some (.int k), some (.int v)] = some (.nx [m, A, W, some (dI (minTo acc (k, v))), n, R, some (.int k), some (.int v)]) := by
 have g2 := get2_dI acc k v
 have fk : brw (some 3) (lkp 6) [m, A, W, some (dI acc), n, R, some (.int k), some (.int v)] = some (.int k) := by
  simp only [brw, hid, lkp, zzF, zzG, zzA, zzB, zzC]
 have mn : ∀ i j : Int, dMin2 [.int i, .int j] = some (.int (if j < i then j else i)) := fun _ _ => rfl
 have fv : brw (some 3) (calD dMin2 (consA (lkp 7) (consA (get2D (lkp 3) (lkp 6) (lkp 7)) nilA))) [m, A, W, some (dI acc), n, R, some (.int k), some (.int v)] = some (.int (if (fndK acc k).getD v < v then (fndK acc k).getD v else v)) := by
  simp only [brw, hid, calD, consA, nilA, get2D, lkp, zzF, zzG, zzA, zzB, zzC, Option.join_none, zzH, zzD, zzI, zzE, g2, mn]
  rfl
 have l3 : lkp 3 [m, A, W, some (dI acc), n, R, some (.int k), some (.int v)] = some (dI acc) := rfl
 simp only [putS, l3, fk, fv, put_dI hl, zzE, zzF, zzG]
 rfl
theorem beads_pr (p : Int × Int) : gBeads [pr p] = some (.int (bd p)) := gBeads_eq p.1 p.2
theorem longF_in {m A : Option PyData} {r : List (PyData × PyData)} {acc : KI} {n k c : Int} {p : Int × Int} {x7 : Option PyData} (hc : valM r n = some (.int c)) (hl : acc.length < 1000000) :
  bLongFIn.1 [m, A, some (.dict ((.none, .none) :: r)), some (dI acc), some (.int n), some (pr p), some (.int k), x7] = some (.nx [m, A, some (.dict ((.none, .none) :: r)), some (dI (minTo acc (k, c + bd p))), some (.int n), some (pr p), some (.int k), some (.int (c + bd p))]) := by
 have g1 : dGet (.dict ((.none, .none) :: r)) (.int n) = some (.int c) := hc
 have fs : brw (some 3) (op2 dAdd (op2 dGet (lkp 2) (lkp 4)) (calD gBeads (consA (lkp 5) nilA))) [m, A, some (.dict ((.none, .none) :: r)), some (dI acc), some (.int n), some (pr p), some (.int k), x7] = some (.int (c + bd p)) := by
  simp only [brw, hid, op2, calD, consA, nilA, lkp, zzF, zzG, zzA, zzB, zzC, zzD, zzE, g1, beads_pr, add_int]
 simp only [bLongFIn]
 refine (seq_nx (ρ1 := [m, A, some (.dict ((.none, .none) :: r)), some (dI acc), some (.int n), some (pr p), some (.int k), some (.int (c + bd p))]) ?_).trans ?_
 ·simp only [asgS, fs, asgN, zzD, zzE, zzF, zzG]
 refine (seq_nx (put_min hl)).trans rfl
theorem longF_loop {m A : Option PyData} {r : List (PyData × PyData)} {n c : Int} (hc : valM r n = some (.int c)) : ∀ (qs : List ((Int × Int) × Int)) (acc : KI) (x5 x6 x7 : Option PyData), acc.length + qs.length < 1000000 →
  ∃ y5 y6 y7, loopD (asgT 2 (asgCons (asgN 5) (asgCons (asgN 6) asgNil))) bLongFIn.1 (qs.map encL) [m, A, some (.dict ((.none, .none) :: r)), some (dI acc), some (.int n), x5, x6, x7] =
   some (.nx [m, A, some (.dict ((.none, .none) :: r)), some (dI ((qs.map fun q => (q.2, c + bd q.1)).foldl minTo acc)), some (.int n), y5, y6, y7])
 | [], acc, x5, x6, x7, _ => ⟨x5, x6, x7, rfl⟩
 | q :: qs, acc, x5, x6, x7, hl => by
  have hl' : acc.length + (qs.length + 1) < 1000000 := hl
  have h2 := minTo_len acc (q.2, c + bd q.1)
  obtain ⟨y5, y6, y7, ih⟩ := longF_loop (m := m) (A := A) hc qs (minTo acc (q.2, c + bd q.1)) (some (pr q.1)) (some (.int q.2)) (some (.int (c + bd q.1))) (by omega)
  refine ⟨y5, y6, y7, ?_⟩
  have s := longF_in (m := m) (A := A) (acc := acc) (k := q.2) (p := q.1) (x7 := x7) hc (by omega)
  have ga : asgT 2 (asgCons (asgN 5) (asgCons (asgN 6) asgNil)) (encL q) [m, A, some (.dict ((.none, .none) :: r)), some (dI acc), some (.int n), x5, x6, x7] = some [m, A, some (.dict ((.none, .none) :: r)), some (dI acc), some (.int n), some (pr q.1), some (.int q.2), x7] := rfl
  rw [List.map_cons, loopD, ga, zzD, s, zzD]
  exact ih
noncomputable def ctr (u e l b : Int) (a : Nat) (kv : KI) (p : Int × Int) : List (Int × Int) := (lps u e l b a p.1).map fun q => (q.2, getK kv p.1 + bd q.1)
theorem ctr_len (u e l b : Int) (a : Nat) (kv : KI) (p : Int × Int) : (ctr u e l b a kv p).length ≤ (rp u l).length := by unfold ctr; rw [List.length_map]; exact lps_len ..
theorem longF_out {u e l b : Int} (h : okN u e l b = true) (a : Nat) (ha : a < 4) {kv : KI} {n : Int} (hv : valM (enc kv) n = some (.int (getK kv n))) {acc : KI} (hacc : acc.length + (rp u l).length < 1000000) {p : Int × Int} (hp : p.1 = n) {x5 x6 x7 : Option PyData} :
  ∃ y5 y6 y7, bLongFOut.1 [some (four u e l b), some (.int (a : Int)), some (dI kv), some (dI acc), some (.int n), x5, x6, x7] =
   some (.nx [some (four u e l b), some (.int (a : Int)), some (dI kv), some (dI ((ctr u e l b a kv p).foldl minTo acc)), some (.int n), y5, y6, y7]) := by
 have h1 := gLast_lps (n := n) h a ha
 have hq := lps_len u e l b a n
 obtain ⟨y5, y6, y7, lp⟩ := longF_loop (m := some (four u e l b)) (A := some (.int (a : Int))) hv (lps u e l b a n) acc x5 x6 x7 (by omega)
 refine ⟨y5, y6, y7, ?_⟩
 unfold ctr
 rw [hp]
 simp only [bLongFOut]
 refine (seq_nx (ρ1 := [some (four u e l b), some (.int (a : Int)), some (dI kv), some (dI (((lps u e l b a n).map fun q => (q.2, getK kv n + bd q.1)).foldl minTo acc)), some (.int n), y5, y6, y7]) ?_).trans rfl
 simp only [forS, itL, itemsL, calD, consA, nilA, lkp, hid, zzF, zzG, zzA, zzB, zzC, zzD, zzE, h1]
 exact lp
theorem val_key {kv : KI} {p : Int × Int} (hp : p ∈ kv) : valM (enc kv) p.1 = some (.int (getK kv p.1)) := by
 obtain ⟨c, hc⟩ := fnd_mem hp
 rw [valM_enc, hc]; unfold getK; rw [hc]; rfl
theorem longF_outs {u e l b : Int} (h : okN u e l b = true) (a : Nat) (ha : a < 4) (kv : KI) : ∀ (ps : KI) (acc : KI) (x4 x5 x6 x7 : Option PyData), (∀ p ∈ ps, p ∈ kv) → acc.length + (ps.length + 1) * (rp u l).length < 1000000 →
  ∃ y4 y5 y6 y7, loopD (asgN 4) bLongFOut.1 (ps.map fun p => .int p.1) [some (four u e l b), some (.int (a : Int)), some (dI kv), some (dI acc), x4, x5, x6, x7] =
   some (.nx [some (four u e l b), some (.int (a : Int)), some (dI kv), some (dI ((ps.flatMap (ctr u e l b a kv)).foldl minTo acc)), y4, y5, y6, y7])
 | [], acc, x4, x5, x6, x7, _, _ => ⟨x4, x5, x6, x7, rfl⟩
 | p :: ps, acc, x4, x5, x6, x7, hp, hl2 => by
  have e4 : (ps.length + 1 + 1) * (rp u l).length = (ps.length + 1) * (rp u l).length + (rp u l).length := by rw [Nat.succ_mul]
  have hl3 : acc.length + (ps.length + 1 + 1) * (rp u l).length < 1000000 := hl2
  obtain ⟨y5, y6, y7, s⟩ := longF_out h a ha (kv := kv) (n := p.1) (val_key (hp p List.mem_cons_self)) (acc := acc) (x5 := x5) (x6 := x6) (x7 := x7) (by
   have : (rp u l).length ≤ (ps.length + 1) * (rp u l).length := Nat.le_mul_of_pos_left _ (by omega)
   omega) (p := p) rfl
  have h2 := minFold_len (ctr u e l b a kv p) acc
  have h3 := ctr_len u e l b a kv p
  obtain ⟨z4, z5, z6, z7, ih⟩ := longF_outs h a ha kv ps ((ctr u e l b a kv p).foldl minTo acc) (some (.int p.1)) y5 y6 y7 (fun q hq => hp q (List.mem_cons_of_mem _ hq)) (by omega)
  refine ⟨z4, z5, z6, z7, ?_⟩
  rw [List.map_cons, loopD]
  simp only [asgN, zzF, zzG, zzD]
  rw [s, zzD, List.flatMap_cons, List.foldl_append]
  exact ih
noncomputable def longFd (u e l b : Int) (a : Nat) (kv : KI) : KI := (kv.flatMap (ctr u e l b a kv)).foldl minTo []
theorem flat_len {α β : Type} (f : α → List β) (k : Nat) (hf : ∀ x, (f x).length ≤ k) : ∀ xs : List α, (xs.flatMap f).length ≤ xs.length * k
 | [] => by simp
 | x :: xs => by
  rw [List.flatMap_cons, List.length_append, List.length_cons, Nat.succ_mul]
  have := flat_len f k hf xs
  have := hf x
  omega
theorem longFd_len (u e l b : Int) (a : Nat) (kv : KI) : (longFd u e l b a kv).length ≤ kv.length * (rp u l).length := by
 have h1 := minFold_len (kv.flatMap (ctr u e l b a kv)) []
 have h2 := flat_len (ctr u e l b a kv) (rp u l).length (ctr_len u e l b a kv) kv
 rw [List.length_nil, Nat.zero_add] at h1
 exact Nat.le_trans h1 h2
theorem keys_dI (kv : KI) : (BX.pairsOf (dI kv)).map (fun r => r.map (·.1)) = some (kv.map fun p => PyData.int p.1) := by
 show some ((enc kv).map (·.1)) = _
 simp [enc, List.map_map, Function.comp_def]
theorem gLongF_eq {u e l b : Int} (h : okN u e l b = true) (a : Nat) (ha : a < 4) (kv : KI) (hk : (kv.length + 1) * (rp u l).length < 1000000) :
  gLongF [four u e l b, .int (a : Int), dI kv] = some (dI (longFd u e l b a kv)) := by
 refine body_rt rfl ?_
 obtain ⟨y4, y5, y6, y7, lp⟩ := longF_outs h a ha kv kv [] none none none none (fun _ h => h) (by simpa using hk)
 show bLongF.1 [some (four u e l b), some (.int (a : Int)), some (dI kv), none, none, none, none, none] = _
 have pr := keys_dI kv
 have q : seqS (forS (fun ρ => itD (lkp 2) (hid (some 3) ρ)) (asgN 4) bLongFOut.1) (seqS (retD (lkp 3)) nxtS) [some (four u e l b), some (.int (a : Int)), some (dI kv), some (dI []), none, none, none, none] = some (.rt (dI (longFd u e l b a kv))) := by
  refine (seq_nx (ρ1 := [some (four u e l b), some (.int (a : Int)), some (dI kv), some (dI (longFd u e l b a kv)), y4, y5, y6, y7]) ?_).trans rfl
  simp only [forS, itD, lkp, hid, zzF, zzG, zzA, zzB, zzC, zzD, pr]
  exact lp
 simp only [bLongF, newS, cst, zzD, List.length_cons, List.length_nil, zzF, zzG]
 rw [if_pos (by decide)]
 have q' : seqS (forS (fun ρ => itD (lkp 2) (hid (some 3) ρ)) (asgN 4) bLongFOut.1) (seqS (retD (lkp 3)) nxtS) [some (four u e l b), some (.int (a : Int)), some (dI kv), some (.dict [(.none, .none)]), none, none, none, none] = some (.rt (dI (longFd u e l b a kv))) := q
 rw [q']
 rfl
end Rods
namespace BX
open PySem PySem.Spec L2
open PyProof.Rows hiding St
theorem loop_inv {ga : PyData → Rho → Option Rho} {F : Rho → Option Out} (Iv : Nat → Rho → Prop) : ∀ (ds : List PyData) (i : Nat) (ρ : Rho), Iv i ρ →
  (∀ j d ρ, ds[j]? = some d → Iv (i + j) ρ → ∃ ρ1 ρ2, ga d ρ = some ρ1 ∧ F ρ1 = some (.nx ρ2) ∧ Iv (i + j + 1) ρ2) → ∃ ρ', loopD ga F ds ρ = some (.nx ρ') ∧ Iv (i + ds.length) ρ'
 | [], i, ρ, h, _ => ⟨ρ, rfl, h⟩
 | d :: ds, i, ρ, h, hs => by
  obtain ⟨ρ1, ρ2, h1, h2, h3⟩ := hs 0 d ρ rfl h
  obtain ⟨ρ', h4, h5⟩ := loop_inv Iv ds (i + 1) ρ2 h3 fun j d ρ hd hi => by
   have := hs (j + 1) d ρ (by simpa using hd) (by rw [show i + (j + 1) = i + 1 + j by omega]; exact hi)
   rw [show i + 1 + j + 1 = i + (j + 1) + 1 by omega]; exact this
  refine ⟨ρ', ?_, by rw [List.length_cons, show i + (ds.length + 1) = i + 1 + ds.length by omega]; exact h5⟩
  simp [loopD, h1, h2, h4]
theorem rngL_get {n j : Nat} {d : PyData} (h : (rngL 0 n)[j]? = some d) : j < n ∧ d = .int j := by
 simp only [rngL, List.getElem?_map] at h
 cases hj : (List.range n)[j]? with
 | none => rw [hj] at h; cases h
 | some k =>
  rw [hj] at h
  obtain ⟨h1, h2⟩ := List.getElem?_eq_some_iff.mp hj
  simp at h1 h2
  subst h2
  simp at h
  exact ⟨h1, h.symm⟩
theorem rngL_len (n : Nat) : (rngL 0 n).length = n := by simp [rngL]
end BX
namespace Rods
open PySem L2 BX
open PyProof.Rows hiding St
section
variable {u e l b : Int}
theorem val_cons (b e : Int) (p : Int × Int) (t : List (Int × Int)) : val b e (p :: t) = wt e p * b ^ t.length + val b e t := by
 have key : ∀ (t : List (Int × Int)) (acc : Int), t.foldl (fun n p => n * b + wt e p) acc = acc * b ^ t.length + val b e t := by
  intro t
  induction t with
  | nil => intro acc; simp [val]
  | cons q t ih =>
   intro acc
   rw [List.foldl_cons, ih]
   show _ = acc * b ^ (q :: t).length + (q :: t).foldl (fun n p => n * b + wt e p) 0
   rw [List.foldl_cons, ih, List.length_cons, Int.pow_succ, Int.mul_comm (b ^ t.length) b, ← Int.mul_assoc, Int.add_mul, Int.zero_mul, Int.zero_add, Int.add_assoc]
 show (p :: t).foldl (fun n p => n * b + wt e p) 0 = _
 rw [List.foldl_cons, key]
 simp
theorem mostN_succ (a : Nat) : mostN u e l b (a + 1) = mostN u e l b a * b + wt e (u, l) := by
 unfold mostN
 rw [List.replicate_succ']
 exact val_snoc _ _ _ _
noncomputable def Sp (u e l b : Int) (r : Nat) (n v : Int) : Prop := ∃ t : List (Int × Int), t.length = r ∧ t.all (okP u l) = true ∧ val b e t = n ∧ bds t = v
theorem bds_cons (p : Int × Int) (t : List (Int × Int)) : bds (p :: t) = bd p + bds t := by simp [bds, bd]
theorem mem_ctr {a : Nat} {kv : KI} {k v : Int} (hb : 0 < b) : (k, v) ∈ kv.flatMap (ctr u e l b a kv) ↔ ∃ p c, okP u l p = true ∧ fndK kv (k * b + wt e p) = some c ∧ 0 ≤ k ∧ k ≤ mostN u e l b a ∧ v = c + bd p := by
 constructor
 ·intro h
  obtain ⟨q, hq, h2⟩ := List.mem_flatMap.mp h
  obtain ⟨x, hx, h3⟩ := List.mem_map.mp h2
  obtain ⟨p, hp, rfl⟩ := List.mem_map.mp hx
  obtain ⟨hp1, hp2⟩ := List.mem_filter.mp hp
  simp only [okQ, Bool.and_eq_true, decide_eq_true_eq] at hp2
  obtain ⟨o1, o2, o3⟩ := hp2
  obtain ⟨c, hc⟩ := fnd_mem hq
  have hk : (q.1 - wt e p) / b = k := congrArg Prod.fst h3
  have hv : getK kv q.1 + bd p = v := congrArg Prod.snd h3
  have hd := Int.mul_ediv_add_emod (q.1 - wt e p) b
  rw [o1, hk, Int.mul_comm] at hd
  have e1 : k * b + wt e p = q.1 := by omega
  refine ⟨p, c, rp_ok hp1, by rw [e1]; exact hc, ?_, ?_, ?_⟩
  ·rw [← hk]; exact Int.ediv_nonneg o2 (by omega)
  ·rw [← hk]
   exact Int.le_of_lt_add_one (Int.ediv_lt_of_lt_mul hb (by
    have : (mostN u e l b a + 1) * b = b * mostN u e l b a + b := by rw [Int.add_mul, Int.mul_comm]; omega
    omega))
  ·rw [← hv]; unfold getK; rw [hc]; rfl
 ·rintro ⟨p, c, hp, hc, h0, h1, rfl⟩
  obtain ⟨q, hq, hq1, hq2⟩ := fnd_key hc
  refine List.mem_flatMap.mpr ⟨q, hq, List.mem_map.mpr ⟨(p, k), ?_, ?_⟩⟩
  ·refine List.mem_map.mpr ⟨p, List.mem_filter.mpr ⟨mem_rp hp, ?_⟩, ?_⟩
   ·simp only [okQ, Bool.and_eq_true, decide_eq_true_eq]
    have e1 : q.1 - wt e p = k * b := by omega
    rw [e1]
    refine ⟨Int.mul_emod_left _ _, Int.mul_nonneg h0 (by omega), ?_⟩
    rw [Int.mul_comm]
    exact Int.mul_le_mul_of_nonneg_left h1 (by omega)
   ·have e1 : q.1 - wt e p = k * b := by omega
    rw [e1, Int.mul_ediv_cancel _ (by omega)]
  ·rw [hq1, hq2]
noncomputable def BkD (u e l b N : Int) (r j : Nat) (D : KI) : Prop := ∀ k, IsMin (fndK D k) fun v => (j = 0 ∨ (0 ≤ k ∧ k ≤ mostN u e l b (r - j))) ∧ ∃ t : List (Int × Int), t.length = j ∧ t.all (okP u l) = true ∧ k * b ^ j + val b e t = N ∧ bds t = v
theorem bk_zero (N : Int) (r : Nat) : BkD u e l b N r 0 [(N, 0)] := fun k => by
 rw [fnd_cons]
 refine ⟨fun v hv => ?_, fun v ⟨_, t, h1, h2, h3, h4⟩ => ?_⟩
 ·by_cases hk : N = k
  ·rw [if_pos hk] at hv
   cases hv
   exact ⟨.inl rfl, [], rfl, rfl, by subst hk; simp [val], rfl⟩
  ·rw [if_neg hk] at hv; cases hv
 ·have : t = [] := List.eq_nil_of_length_eq_zero h1
  subst this
  have : N = k := by simp [val] at h3; omega
  exact ⟨0, by rw [if_pos this], by rw [← h4]; exact Int.le_refl _⟩
theorem bk_step (h : okN u e l b = true) {N : Int} {r j : Nat} (hj : j < r) {D : KI} (H : BkD u e l b N r j D) : BkD u e l b N r (j + 1) (longFd u e l b (r - (j + 1)) D) := fun k => by
 obtain ⟨a1, a2, a3, a4, a5, a6, a7, a8, a9, a10⟩ := split_N h
 have hb : 0 < b := by omega
 refine (minFold0 k (D.flatMap (ctr u e l b (r - (j + 1)) D))).imp (fun v pp => ?_) fun v pp => ?_
 ·obtain ⟨p, c, hp, hc, h0, h1, rfl⟩ := (mem_ctr hb).mp pp
  obtain ⟨_, t, t1, t2, t3, t4⟩ := (H _).1 c hc
  refine ⟨.inr ⟨h0, h1⟩, p :: t, by rw [List.length_cons, t1], by rw [List.all_cons, hp, t2]; rfl, ?_, by rw [bds_cons, t4]; omega⟩
  rw [val_cons, t1, ← t3, Int.add_mul, Int.pow_succ, Int.mul_comm (b ^ j) b, ← Int.mul_assoc]
  omega
 ·obtain ⟨hk, t, t1, t2, t3, t4⟩ := pp
  obtain ⟨h0, h1⟩ := hk.resolve_left (by omega)
  cases t with
  | nil => cases t1
  | cons p t =>
   rw [List.all_cons, Bool.and_eq_true] at t2
   have t1' : t.length = j := by simpa using t1
   have w0 := wt_nn a3 t2.1
   obtain ⟨q1, q2, q3, q4⟩ := okP_split t2.1
   have w1 : wt e p ≤ wt e (u, l) := by
    have := Int.mul_le_mul_of_nonneg_right q2 (show 0 ≤ e by omega)
    unfold wt; show p.1 * e + p.2 ≤ u * e + l; omega
   have hr : r - j = (r - (j + 1)) + 1 := by omega
   have hm := mostN_succ (u := u) (e := e) (l := l) (b := b) (r - (j + 1))
   have hkb : k * b ≤ mostN u e l b (r - (j + 1)) * b := Int.mul_le_mul_of_nonneg_right h1 (by omega)
   have hkb0 : 0 ≤ k * b := Int.mul_nonneg h0 (by omega)
   obtain ⟨c, hc, hl⟩ := (H (k * b + wt e p)).2 (bds t) ⟨.inr ⟨by omega, by rw [hr, hm]; omega⟩, t, t1', t2.2, by
    rw [val_cons, t1', Int.pow_succ, Int.mul_comm (b ^ j) b, ← Int.mul_assoc] at t3
    rw [Int.add_mul]; omega, rfl⟩
   refine ⟨c + bd p, (mem_ctr hb).mpr ⟨p, c, t2.1, hc, h0, h1, rfl⟩, ?_⟩
   rw [bds_cons] at t4
   omega
theorem bk_end {N : Int} {r : Nat} (hr : 1 ≤ r) {D : KI} (H : BkD u e l b N r r D) : IsMin (fndK D 0) (Sp u e l b r N) :=
 (H 0).imp (fun v ⟨_, t, t1, t2, t3, t4⟩ => ⟨t, t1, t2, by rw [Int.zero_mul] at t3; omega, t4⟩) fun v ⟨t, t1, t2, t3, t4⟩ => ⟨v, ⟨.inr ⟨Int.le_refl _, by rw [Nat.sub_self]; exact Int.le_refl _⟩, t, t1, t2, by rw [Int.zero_mul]; omega, t4⟩, Int.le_refl _⟩
end
end Rods
namespace Rods
open PySem L2 BX
open PyProof.Rows hiding St
noncomputable def ofO : Option Int → PyData
 | some v => .int v
 | none => .none
end Rods
namespace Rods
open PySem L2 BX
open PyProof.Rows hiding St
section
variable {u e l b : Int}
theorem len_ok {kv : KI} (h : okN u e l b = true) {j : Nat} (hj : j ≤ 2) (hk : kv.length ≤ 48 ^ j) : (kv.length + 1) * (rp u l).length < 1000000 := by
 have h1 := rp_few h
 have h2 : kv.length + 1 ≤ 2305 := by
  have : j = 0 ∨ j = 1 ∨ j = 2 := by omega
  rcases this with q | q | q <;> subst q <;> simp at hk <;> omega
 exact Nat.lt_of_le_of_lt (Nat.mul_le_mul h2 h1) (by decide)
theorem len_next {kv kv' : KI} (h : okN u e l b = true) {j : Nat} (hk : kv.length ≤ 48 ^ j) (hk' : kv'.length ≤ kv.length * (rp u l).length) : kv'.length ≤ 48 ^ (j + 1) := by
 rw [Nat.pow_succ]
 exact Nat.le_trans hk' (Nat.mul_le_mul hk (rp_few h))
theorem gAsked_eq (H : allN = true) (h : okN u e l b = true) {r n : Int} (h1 : 1 ≤ r) (h4 : r ≤ 4) (h0 : 0 ≤ n) (hn : n ≤ 99999) : gAsked [four u e l b, .int r, .int n] = some .none := by
 have g1 := gCheck_eq (gIsM H h)
 have g2 : gChkRods [.int r] = some .none := gChkR_eq h1 h4
 have g3 : gChkNum [.int n] = some .none := gChkN_eq h0 hn
 simp [gAsked, bodyD, bAsked, startR, seqS, drpS, calD, consA, nilA, lkp, g1, g2, g3, nxtS]
theorem get1_dI (kv : KI) (k : Int) : dGet1 (dI kv) (.int k) = some (ofO (fndK kv k)) := by
 show some ((valM (enc kv) k).getD .none) = _
 rw [valM_enc]
 cases fndK kv k <;> rfl
theorem rng3_down {r : Nat} (h1 : 1 ≤ r) (h3 : r ≤ 3) : rng3 [.int ((r : Int) - 1), .int (-1), .int (-1)] = some ((List.range r).map fun (j : Nat) => .int (((r - (j + 1) : Nat) : Int))) := by
 have : r = 1 ∨ r = 2 ∨ r = 3 := by omega
 rcases this with q | q | q <;> subst q <;> rfl
theorem get_down {r j : Nat} {d : PyData} (h : ((List.range r).map fun (j : Nat) => PyData.int (((r - (j + 1) : Nat) : Int)))[j]? = some d) : j < r ∧ d = .int (((r - (j + 1) : Nat) : Int)) := by
 rw [List.getElem?_map] at h
 cases hj : (List.range r)[j]? with
 | none => rw [hj] at h; cases h
 | some k =>
  rw [hj] at h
  obtain ⟨h1, h2⟩ := List.getElem?_eq_some_iff.mp hj
  simp at h1 h2
  subst h2
  simp at h
  exact ⟨h1, h.symm⟩
theorem least_in {kv kv' : KI} {a : Nat} {R N : Option PyData} (g : gLongF [four u e l b, .int (a : Int), dI kv] = some (dI kv')) : bLeastIn.1 [some (four u e l b), R, N, some (dI kv), some (.int (a : Int))] = some (.nx [some (four u e l b), R, N, some (dI kv'), some (.int (a : Int))]) := by
 simp only [bLeastIn, seqS, asgS, calD, consA, nilA, lkp, asgN, zzA, zzB, zzC, zzD, zzE, g, zzF, zzG, nxtS]
theorem gLeast_ex (H : allN = true) (h : okN u e l b = true) {r : Nat} (h1 : 1 ≤ r) (h3 : r ≤ 3) {n : Int} (h0 : 0 ≤ n) (hn : n ≤ 99999) : ∃ d, gLeast [four u e l b, .int (r : Int), .int n] = some (ofO d) ∧ IsMin d (Sp u e l b r n) := by
 have ga := gAsked_eq H h (r := (r : Int)) (n := n) (by omega) (by omega) h0 hn
 obtain ⟨ρ', hl, hI⟩ := loop_inv (ga := asgN 4) (F := bLeastIn.1) (fun i ρ => ∃ D x4, ρ = [some (four u e l b), some (.int (r : Int)), some (.int n), some (dI D), x4] ∧ BkD u e l b n r i D ∧ D.length ≤ 48 ^ i) ((List.range r).map fun (j : Nat) => .int (((r - (j + 1) : Nat) : Int))) 0
  [some (four u e l b), some (.int (r : Int)), some (.int n), some (dI [(n, 0)]), none] ⟨_, _, rfl, bk_zero n r, by simp⟩ (fun j d ρ hd hi => by
   obtain ⟨hj, rfl⟩ := get_down hd
   obtain ⟨D, x4, rfl, hD, hlen⟩ := hi
   rw [Nat.zero_add] at hD hlen
   have g := gLongF_eq h (r - (j + 1)) (by omega) D (len_ok h (j := j) (by omega) hlen)
   exact ⟨_, _, rfl, least_in g, _, _, rfl, by rw [Nat.zero_add]; exact bk_step h hj hD, by rw [Nat.zero_add]; exact len_next h hlen (longFd_len ..)⟩)
 obtain ⟨D, x4, rfl, hD, hlen⟩ := hI
 rw [List.length_map, List.length_range, Nat.zero_add] at hD
 refine ⟨fndK D 0, body_rt rfl ?_, bk_end h1 hD⟩
 have s1 : dSub (.int (r : Int)) (.int 1) = some (.int ((r : Int) - 1)) := rfl
 have ng : dNeg (.int 1) = some (.int (-1)) := rfl
 have rg := rng3_down h1 h3
 have g1 := get1_dI D 0
 show bLeast.1 [some (four u e l b), some (.int (r : Int)), some (.int n), none, none] = _
 generalize ((List.range r).map fun (j : Nat) => PyData.int (((r - (j + 1) : Nat) : Int))) = R at *
 generalize four u e l b = m at *
 generalize (r : Int) = rr at *
 simp only [bLeast]
 refine (seq_nx (ρ1 := [some m, some (.int rr), some (.int n), none, none]) ?_).trans ?_
 ·simp only [drpS, calD, consA, nilA, lkp, zzA, zzB, zzC, zzD, zzE, ga]
 refine (seq_nx (ρ1 := [some m, some (.int rr), some (.int n), some (dI [(n, 0)]), none]) ?_).trans ?_
 ·rfl
 refine (seq_nx (ρ1 := [some m, some (.int rr), some (.int n), some (dI D), x4]) ?_).trans ?_
 ·simp only [forS, consA, nilA, op2, lkp, cst, zzA, zzB, zzC, zzD, zzE, s1, ng, rg]
  exact hl
 simp only [seqS, retD, op2, lkp, cst, zzA, zzB, zzC, zzD, zzE, g1]
theorem rg_nat {n : Nat} (hn : n ≤ 1000) : rng1 [.int (n : Int)] = some (rngL 0 n) := by
 have := rng1_eq (j := (n : Int)) (by omega) (by omega)
 rw [show ((n : Int)).toNat = n by omega] at this
 exact this
theorem exists_min (P : Int → Prop) (h0 : ∀ v, P v → 0 ≤ v) : ∃ d, IsMin d P := by
 by_cases hx : ∃ v, P v
 ·obtain ⟨v, hv⟩ := hx
  have : ∀ (k : Nat) (v : Int), v = (k : Int) → P v → ∃ d, IsMin d P := by
   intro k
   induction k using Nat.strongRecOn with
   | _ k ih =>
    intro v hk hv
    by_cases hs : ∃ w, P w ∧ w < v
    ·obtain ⟨w, hw, hlt⟩ := hs
     have := h0 w hw
     exact ih w.toNat (by omega) w (by omega) hw
    ·exact ⟨some v, fun w e => by cases e; exact hv, fun w hw => ⟨v, rfl, Int.not_lt.mp fun z => hs ⟨w, hw, z⟩⟩⟩
  exact this v.toNat v (by have := h0 v hv; omega) hv
 ·exact ⟨none, (fun v e => by cases e), (fun v hv => absurd ⟨v, hv⟩ hx)⟩
theorem sp_nn {r : Nat} {n v : Int} (h : Sp u e l b r n v) : 0 ≤ v := by
 obtain ⟨t, k1, h2, k2, h4⟩ := h
 rw [← h4]
 clear h4 k1 k2
 revert h2
 induction t with
 | nil => intro _; simp [bds]
 | cons p t ih =>
  intro h2
  rw [List.all_cons, Bool.and_eq_true] at h2
  have := ih h2.2
  obtain ⟨q1, q2, q3, q4⟩ := okP_split h2.1
  rw [bds_cons]
  unfold bd
  omega
noncomputable def LB (u e l b : Int) (r : Nat) (n : Int) : Option Int := Classical.choose (exists_min (Sp u e l b r n) fun _ h => sp_nn h)
theorem LB_min (u e l b : Int) (r : Nat) (n : Int) : IsMin (LB u e l b r n) (Sp u e l b r n) := Classical.choose_spec (exists_min (Sp u e l b r n) fun _ h => sp_nn h)
theorem gLeast_eq (H : allN = true) (h : okN u e l b = true) {r : Nat} (h1 : 1 ≤ r) (h3 : r ≤ 3) {n : Int} (h0 : 0 ≤ n) (hn : n ≤ 99999) : gLeast [four u e l b, .int (r : Int), .int n] = some (ofO (LB u e l b r n)) := by
 obtain ⟨d, g, hd⟩ := gLeast_ex H h h1 h3 h0 hn
 rw [g, hd.uniq (LB_min u e l b r n)]
end
end Rods
namespace Rods
open PySem L2 BX
open PyProof.Rows hiding St
noncomputable def addTo (kv : KI) (k c : Int) : KI := putI kv k (getK kv k + c)
noncomputable abbrev longE (m A W : Option PyData) (acc : KI) (n : Int) (R : Option PyData) (k : Option PyData) : Rho := [m, A, W, some (dI acc), some (.int n), R, k]
theorem long_in {m A R : Option PyData} {r : List (PyData × PyData)} {acc : KI} {n k c : Int} (hc : valM r n = some (.int c)) (hl : acc.length < 1000000) :
  bLongIn.1 (longE m A (some (.dict ((.none, .none) :: r))) acc n R (some (.int k))) = some (.nx (longE m A (some (.dict ((.none, .none) :: r))) (addTo acc k c) n R (some (.int k)))) := by
 have hle : (enc acc).length < 1000000 := by simpa [enc] using hl
 have g2 : dGet2 (dI acc) (.int k) (.int 0) = some (.int (getK acc k)) := by
  show some ((valM (enc acc) k).getD (.int 0)) = _
  rw [valM_enc]
  unfold getK
  cases fndK acc k <;> rfl
 have g1 : dGet (.dict ((.none, .none) :: r)) (.int n) = some (.int c) := hc
 have fv : brw (some 3) (op2 dAdd (get2D (lkp 3) (lkp 6) (cst (.int 0))) (op2 dGet (lkp 2) (lkp 4))) (longE m A (some (.dict ((.none, .none) :: r))) acc n R (some (.int k))) = some (.int (getK acc k + c)) := by
  simp only [brw, hid, op2, get2D, lkp, cst, zzF, zzG, zzA, zzB, zzC, Option.join_none, zzH, zzD, g1, g2, add_int]
  rfl
 have fk : brw (some 3) (lkp 6) (longE m A (some (.dict ((.none, .none) :: r))) acc n R (some (.int k))) = some (.int k) := by
  simp only [brw, hid, lkp, zzF, zzG, zzA, zzB, zzC]
 have pt : putD (some (dI acc)) (some (.int (getK acc k + c))) (some (.int k)) = some (dI (addTo acc k c)) := by
  show (if (enc acc).length < 1000000 then some (PyData.dict ((.none, .none) :: putM (enc acc) k (.int (getK acc k + c)))) else none) = _
  rw [if_pos hle, putM_enc]
  rfl
 have l3 : lkp 3 (longE m A (some (.dict ((.none, .none) :: r))) acc n R (some (.int k))) = some (dI acc) := rfl
 simp only [bLongIn, seqS, putS, l3, fv, fk, pt, zzE, zzD, nxtS, zzF, zzG]
theorem len_addTo (kv : KI) (k c : Int) : (addTo kv k c).length ≤ kv.length + 1 := len_putI _ _ _
theorem len_fold (c : Int) : ∀ (ks : List Int) (acc : KI), (ks.foldl (fun a k => addTo a k c) acc).length ≤ acc.length + ks.length
 | [], acc => by simp
 | k :: ks, acc => by
  have h1 := len_fold c ks (addTo acc k c)
  have h2 := len_addTo acc k c
  rw [List.foldl_cons, List.length_cons]
  omega
theorem long_loop {m A : Option PyData} {r : List (PyData × PyData)} {n c : Int} (hc : valM r n = some (.int c)) (e b : Int) (nn : Int) : ∀ (rs : List PyData) (acc : KI) (x5 x6 : Option PyData), acc.length + rs.length < 1000000 →
  ∃ y5 y6, loopD (asgT 2 (asgCons (asgN 5) (asgCons (asgN 6) asgNil))) bLongIn.1 (rs.map (lastT e b nn)) (longE m A (some (.dict ((.none, .none) :: r))) acc n x5 x6) =
   some (.nx (longE m A (some (.dict ((.none, .none) :: r))) ((rs.map fun x => leftOf e nn x / b).foldl (fun a k => addTo a k c) acc) n y5 y6))
 | [], acc, x5, x6, _ => ⟨x5, x6, rfl⟩
 | x :: rs, acc, x5, x6, hl => by
  have hl' : acc.length + (rs.length + 1) < 1000000 := hl
  have h2 := len_addTo acc (leftOf e nn x / b) c
  obtain ⟨y5, y6, ih⟩ := long_loop (m := m) (A := A) hc e b nn rs (addTo acc (leftOf e nn x / b) c) (some x) (some (.int (leftOf e nn x / b))) (by omega)
  refine ⟨y5, y6, ?_⟩
  have s := long_in (m := m) (A := A) (R := some x) (acc := acc) (k := leftOf e nn x / b) hc (by omega)
  have ga : asgT 2 (asgCons (asgN 5) (asgCons (asgN 6) asgNil)) (lastT e b nn x) (longE m A (some (.dict ((.none, .none) :: r))) acc n x5 x6) = some (longE m A (some (.dict ((.none, .none) :: r))) acc n (some x) (some (.int (leftOf e nn x / b)))) := rfl
  rw [List.map_cons, loopD, ga, zzD, s, zzD]
  exact ih
noncomputable def lefts (u e l b : Int) (a : Nat) (n : Int) : List Int := ((rodsU u l).filter (okL e b (mostN u e l b a) n)).map fun x => leftOf e n x / b
noncomputable def longF (u e l b : Int) (a : Nat) (kv : KI) : KI := kv.foldl (fun acc p => (lefts u e l b a p.1).foldl (fun x k => addTo x k (getK kv p.1)) acc) []
theorem long_out {u e l b : Int} (h : okN u e l b = true) (a : Nat) (ha : a < 4) {r : List (PyData × PyData)} {n c : Int} (hc : valM r n = some (.int c)) {acc : KI} (hacc : acc.length + (rodsU u l).length < 1000000) {x5 x6 : Option PyData} :
  ∃ y5 y6, bLongOut.1 (longE (some (four u e l b)) (some (.int (a : Int))) (some (.dict ((.none, .none) :: r))) acc n x5 x6) =
   some (.nx (longE (some (four u e l b)) (some (.int (a : Int))) (some (.dict ((.none, .none) :: r))) ((lefts u e l b a n).foldl (fun x k => addTo x k c) acc) n y5 y6)) := by
 have h1 := gLast_eq (e := e) (n := n) h a ha
 have hfl : ((rodsU u l).filter (okL e b (mostN u e l b a) n)).length ≤ (rodsU u l).length := List.length_filter_le _ _
 obtain ⟨y5, y6, lp⟩ := long_loop (m := some (four u e l b)) (A := some (.int (a : Int))) hc e b n ((rodsU u l).filter (okL e b (mostN u e l b a) n)) acc x5 x6 (by omega)
 refine ⟨y5, y6, ?_⟩
 simp only [bLongOut]
 refine (seq_nx (ρ1 := longE (some (four u e l b)) (some (.int (a : Int))) (some (.dict ((.none, .none) :: r))) ((lefts u e l b a n).foldl (fun x k => addTo x k c) acc) n y5 y6) ?_).trans rfl
 simp only [forS, itL, itemsL, calD, consA, nilA, lkp, hid, longE, zzF, zzG, zzA, zzB, zzC, zzD, zzE, h1]
 exact lp
theorem len_long (u e l b : Int) (a : Nat) (kv : KI) (c : Int → Int) : ∀ (ps : KI) (acc : KI), (ps.foldl (fun acc p => (lefts u e l b a p.1).foldl (fun x k => addTo x k (c p.1)) acc) acc).length ≤ acc.length + ps.length * (rodsU u l).length
 | [], acc => by simp
 | p :: ps, acc => by
  rw [List.foldl_cons]
  have h1 := len_long u e l b a kv c ps ((lefts u e l b a p.1).foldl (fun x k => addTo x k (c p.1)) acc)
  have h2 := len_fold (c p.1) (lefts u e l b a p.1) acc
  have h3 : (lefts u e l b a p.1).length ≤ (rodsU u l).length := by unfold lefts; rw [List.length_map]; exact List.length_filter_le _ _
  have h4 : (ps.length + 1) * (rodsU u l).length = ps.length * (rodsU u l).length + (rodsU u l).length := by rw [Nat.succ_mul]
  rw [List.length_cons, h4]
  omega
theorem longer_loop {u e l b : Int} (h : okN u e l b = true) (a : Nat) (ha : a < 4) (kv : KI) : ∀ (ps : KI) (acc : KI) (x4 x5 x6 : Option PyData), (∀ p ∈ ps, p ∈ kv) → acc.length + (ps.length + 1) * (rodsU u l).length < 1000000 →
  ∃ y4 y5 y6, loopD (asgN 4) bLongOut.1 (ps.map fun p => .int p.1) [some (four u e l b), some (.int (a : Int)), some (dI kv), some (dI acc), x4, x5, x6] =
   some (.nx [some (four u e l b), some (.int (a : Int)), some (dI kv), some (dI (ps.foldl (fun acc p => (lefts u e l b a p.1).foldl (fun x k => addTo x k (getK kv p.1)) acc) acc)), y4, y5, y6])
 | [], acc, x4, x5, x6, _, _ => ⟨x4, x5, x6, rfl⟩
 | p :: ps, acc, x4, x5, x6, hp, hl2 => by
  have e4 : (ps.length + 1 + 1) * (rodsU u l).length = (ps.length + 1) * (rodsU u l).length + (rodsU u l).length := by rw [Nat.succ_mul]
  have hl3 : acc.length + (ps.length + 1 + 1) * (rodsU u l).length < 1000000 := hl2
  obtain ⟨c, hc⟩ := fnd_mem (hp p List.mem_cons_self)
  have hv : valM (enc kv) p.1 = some (.int (getK kv p.1)) := by rw [valM_enc, hc]; unfold getK; rw [hc]; rfl
  obtain ⟨y5, y6, s⟩ := long_out (e := e) h a ha (r := enc kv) (n := p.1) hv (acc := acc) (x5 := x5) (x6 := x6) (by
   have : (rodsU u l).length ≤ (ps.length + 1) * (rodsU u l).length := Nat.le_mul_of_pos_left _ (by omega)
   omega)
  have h2 := len_fold (getK kv p.1) (lefts u e l b a p.1) acc
  have h3 : (lefts u e l b a p.1).length ≤ (rodsU u l).length := by unfold lefts; rw [List.length_map]; exact List.length_filter_le _ _
  obtain ⟨z4, z5, z6, ih⟩ := longer_loop (e := e) h a ha kv ps ((lefts u e l b a p.1).foldl (fun x k => addTo x k (getK kv p.1)) acc) (some (.int p.1)) y5 y6 (fun q hq => hp q (List.mem_cons_of_mem _ hq)) (by omega)
  refine ⟨z4, z5, z6, ?_⟩
  rw [List.map_cons, loopD]
  simp only [asgN, zzF, zzG, zzD]
  have s' : bLongOut.1 [some (four u e l b), some (.int (a : Int)), some (dI kv), some (dI acc), some (.int p.1), x5, x6] = _ := s
  rw [s', zzD]
  exact ih
theorem gLonger_eq {u e l b : Int} (h : okN u e l b = true) (a : Nat) (ha : a < 4) (kv : KI) (hk : (kv.length + 1) * (rodsU u l).length < 1000000) :
  gLonger [four u e l b, .int (a : Int), dI kv] = some (dI (longF u e l b a kv)) := by
 refine body_rt rfl ?_
 obtain ⟨y4, y5, y6, lp⟩ := longer_loop (e := e) h a ha kv kv [] none none none (fun _ h => h) (by simpa using hk)
 show bLonger.1 [some (four u e l b), some (.int (a : Int)), some (dI kv), none, none, none, none] = _
 have pr : (BX.pairsOf (dI kv)).map (fun r => r.map (·.1)) = some (kv.map fun p => PyData.int p.1) := by
  show some ((enc kv).map (·.1)) = _
  simp [enc, List.map_map, Function.comp_def]
 have q : seqS (forS (fun ρ => itD (lkp 2) (hid (some 3) ρ)) (asgN 4) bLongOut.1) (seqS (retD (lkp 3)) nxtS) [some (four u e l b), some (.int (a : Int)), some (dI kv), some (dI []), none, none, none] = some (.rt (dI (longF u e l b a kv))) := by
  refine (seq_nx (ρ1 := [some (four u e l b), some (.int (a : Int)), some (dI kv), some (dI (longF u e l b a kv)), y4, y5, y6]) ?_).trans rfl
  simp only [forS, itD, lkp, hid, zzF, zzG, zzA, zzB, zzC, zzD, pr]
  exact lp
 simp only [bLonger, newS, cst, zzD, List.length_cons, List.length_nil, zzF, zzG]
 rw [if_pos (by decide)]
 have q' : seqS (forS (fun ρ => itD (lkp 2) (hid (some 3) ρ)) (asgN 4) bLongOut.1) (seqS (retD (lkp 3)) nxtS) [some (four u e l b), some (.int (a : Int)), some (dI kv), some (.dict [(.none, .none)]), none, none, none] = some (.rt (dI (longF u e l b a kv))) := q
 rw [q']
 rfl
theorem fndK_cons (p : Int × Int) (kv : KI) (x : Int) : fndK (p :: kv) x = if p.1 = x then some p.2 else fndK kv x := by
 by_cases h : p.1 = x <;> simp [fndK, h, List.find?_cons]
theorem fndK_none {kv : KI} {k : Int} (h : ¬ kv.any (fun p => decide (p.1 = k)) = true) : fndK kv k = none := by
 have : kv.find? (fun p => decide (p.1 = k)) = none := by
  rw [List.find?_eq_none]
  intro p hp z
  exact h (List.any_eq_true.mpr ⟨p, hp, z⟩)
 simp [fndK, this]
noncomputable def ndK (kv : KI) : Prop := (kv.map (·.1)).Nodup
theorem nd_put {kv : KI} {k v : Int} (h : ndK kv) : ndK (putI kv k v) := by
 unfold putI
 by_cases c : kv.any (fun p => decide (p.1 = k)) = true
 ·rw [if_pos c]
  unfold ndK at h ⊢
  have : (kv.map fun p => if p.1 = k then (p.1, v) else p).map (·.1) = kv.map (·.1) := by
   rw [List.map_map]
   apply List.map_congr_left
   intro p _
   by_cases q : p.1 = k <;> simp [q]
  rw [this]; exact h
 ·rw [if_neg c]
  unfold ndK at h ⊢
  rw [List.map_append, List.nodup_append]
  refine ⟨h, by simp, ?_⟩
  intro x hx y hy
  have hy' : y = k := by simpa using hy
  subst hy'
  intro z
  subst z
  obtain ⟨p, hp, e⟩ := List.mem_map.mp hx
  exact c (List.any_eq_true.mpr ⟨p, hp, by simpa using e⟩)
theorem nd_fold (c : Int) : ∀ (ks : List Int) (acc : KI), ndK acc → ndK (ks.foldl (fun a k => addTo a k c) acc)
 | [], acc, h => h
 | k :: ks, acc, h => nd_fold c ks _ (nd_put h)
theorem getK_mem : ∀ {kv : KI} {p : Int × Int}, ndK kv → p ∈ kv → getK kv p.1 = p.2
 | [], p, _, h => by simp at h
 | q :: kv, p, hn, h => by
  unfold ndK at hn
  rw [List.map_cons, List.nodup_cons] at hn
  unfold getK
  rw [fndK_cons]
  rcases List.mem_cons.mp h with rfl | h
  ·simp
  ·have : ¬ q.1 = p.1 := fun z => hn.1 (List.mem_map.mpr ⟨p, h, z.symm⟩)
   rw [if_neg this]
   exact getK_mem hn.2 h
noncomputable def smK (kv : KI) (f : Int → Int) : Int := (kv.map fun p => p.2 * f p.1).sum
theorem smK_map (k v : Int) (f : Int → Int) : ∀ kv : KI, ndK kv → kv.any (fun p => decide (p.1 = k)) = true → smK (kv.map fun p => if p.1 = k then (p.1, v) else p) f = smK kv f + (v - getK kv k) * f k
 | [], _, h => by simp at h
 | p :: kv, hn, h => by
  unfold ndK at hn
  rw [List.map_cons, List.nodup_cons] at hn
  by_cases h1 : p.1 = k
  ·have hid : kv.map (fun p => if p.1 = k then (p.1, v) else p) = kv := by
    conv => rhs; rw [← List.map_id kv]
    apply List.map_congr_left
    intro q hq
    have : ¬ q.1 = k := fun z => hn.1 (List.mem_map.mpr ⟨q, hq, z.trans h1.symm⟩)
    simp [this]
   rw [List.map_cons, hid]
   have g : getK (p :: kv) k = p.2 := by unfold getK; rw [fndK_cons, if_pos h1]; rfl
   rw [g]
   simp only [h1, if_true, smK, List.map_cons, List.sum_cons, Int.sub_mul]
   omega
  ·have c : kv.any (fun p => decide (p.1 = k)) = true := by simpa [h1] using h
   have ih := smK_map k v f kv hn.2 c
   have g : getK (p :: kv) k = getK kv k := by unfold getK; rw [fndK_cons, if_neg h1]
   rw [List.map_cons, if_neg h1, g]
   simp only [smK, List.map_cons, List.sum_cons] at ih ⊢
   rw [ih]
   omega
theorem smK_add {kv : KI} {k c : Int} {f : Int → Int} (h : ndK kv) : smK (addTo kv k c) f = smK kv f + c * f k := by
 unfold addTo putI
 by_cases q : kv.any (fun p => decide (p.1 = k)) = true
 ·rw [if_pos q, smK_map k _ f kv h q]
  have : getK kv k + c - getK kv k = c := by omega
  rw [this]
 ·rw [if_neg q]
  have g : getK kv k = 0 := by unfold getK; rw [fndK_none q]; rfl
  rw [g]
  simp [smK]
theorem smK_fold (c : Int) (f : Int → Int) : ∀ (ks : List Int) (acc : KI), ndK acc → smK (ks.foldl (fun a k => addTo a k c) acc) f = smK acc f + c * (ks.map f).sum
 | [], acc, _ => by simp
 | k :: ks, acc, h => by
  rw [List.foldl_cons, smK_fold c f ks (addTo acc k c) (nd_put h), smK_add h, List.map_cons, List.sum_cons, Int.mul_add]
  omega
theorem sum_nonneg : ∀ {xs : List Int}, (∀ x ∈ xs, 0 ≤ x) → 0 ≤ xs.sum
 | [], _ => by simp
 | x :: xs, h => by
  have := sum_nonneg (xs := xs) fun y hy => h y (List.mem_cons_of_mem _ hy)
  have := h x List.mem_cons_self
  rw [List.sum_cons]; omega
theorem sum_ge : ∀ {xs : List Int} {y : Int}, (∀ x ∈ xs, 0 ≤ x) → y ∈ xs → y ≤ xs.sum
 | [], y, _, h => by simp at h
 | x :: xs, y, h, hy => by
  have h1 := sum_nonneg (xs := xs) fun z hz => h z (List.mem_cons_of_mem _ hz)
  rw [List.sum_cons]
  rcases List.mem_cons.mp hy with rfl | hy
  ·omega
  ·have h2 := sum_ge (xs := xs) (fun z hz => h z (List.mem_cons_of_mem _ hz)) hy
   have := h x List.mem_cons_self
   omega
theorem sum_filter (p : PyData → Bool) (h : PyData → Int) : ∀ rs : List PyData, ((rs.filter p).map h).sum = (rs.map fun r => if p r = true then h r else 0).sum
 | [] => rfl
 | r :: rs => by
  rw [List.map_cons, List.sum_cons, ← sum_filter p h rs]
  by_cases c : p r = true
  ·rw [List.filter_cons_of_pos c, if_pos c, List.map_cons, List.sum_cons]
  ·rw [List.filter_cons_of_neg c, if_neg c]; omega
theorem sum_add (f g : Nat → Int) : ∀ ks : List Nat, (ks.map fun k => f k + g k).sum = (ks.map f).sum + (ks.map g).sum
 | [] => rfl
 | k :: ks => by simp only [List.map_cons, List.sum_cons, sum_add f g ks]; omega
theorem sum_zero (f : Nat → Int) : ∀ ks : List Nat, (∀ k ∈ ks, f k = 0) → (ks.map f).sum = 0
 | [], _ => rfl
 | k :: ks, h => by
  rw [List.map_cons, List.sum_cons, sum_zero f ks fun x hx => h x (List.mem_cons_of_mem _ hx), h k List.mem_cons_self]; rfl
theorem sum_one (f : Nat → Int) (k0 : Nat) : ∀ N : Nat, k0 < N → (∀ k, k < N → k ≠ k0 → f k = 0) → ((List.range N).map f).sum = f k0
 | 0, h, _ => by omega
 | N + 1, h, hz => by
  rw [List.range_succ, List.map_append, List.sum_append]
  by_cases c : k0 = N
  ·subst c
   rw [sum_zero f _ fun k hk => hz k (by have := List.mem_range.mp hk; omega) (by have := List.mem_range.mp hk; omega)]
   simp
  ·rw [sum_one f k0 N (by omega) fun k hk => hz k (by omega)]
   have := hz N (by omega) (fun z => c z.symm)
   simp [this]
theorem sum_worth (w : PyData → Int) (g : Int → Int) (N : Nat) : ∀ rs : List PyData, (∀ r ∈ rs, 0 ≤ w r ∧ w r < N) → (rs.map fun r => g (w r)).sum = ((List.range N).map fun (k : Nat) => (((rs.filter fun r => w r == (k : Int)).length : Nat) : Int) * g k).sum
 | [], _ => by
  rw [sum_zero _ _ fun k _ => by simp]
  rfl
 | r :: rs, h => by
  have ih := sum_worth w g N rs fun x hx => h x (List.mem_cons_of_mem _ hx)
  obtain ⟨h0, h1⟩ := h r List.mem_cons_self
  have key : ((List.range N).map fun (k : Nat) => ((((r :: rs).filter fun r => w r == (k : Int)).length : Nat) : Int) * g k).sum =
    ((List.range N).map fun (k : Nat) => (if k = (w r).toNat then g (w r) else 0) + (((rs.filter fun r => w r == (k : Int)).length : Nat) : Int) * g k).sum := by
   congr 1
   apply List.map_congr_left
   intro k _
   by_cases c : w r = (k : Int)
   ·have c1 : k = (w r).toNat := by omega
    have c2 : (w r == (k : Int)) = true := by simpa using c
    have fp : (r :: rs).filter (fun r => w r == (k : Int)) = r :: rs.filter (fun r => w r == (k : Int)) := List.filter_cons_of_pos c2
    rw [if_pos c1, fp, List.length_cons, c]
    rw [Int.natCast_add, Int.add_mul]
    simp; omega
   ·have c1 : ¬ k = (w r).toNat := by omega
    have c2 : ¬ (w r == (k : Int)) = true := by simpa using c
    have fp : (r :: rs).filter (fun r => w r == (k : Int)) = rs.filter (fun r => w r == (k : Int)) := List.filter_cons_of_neg c2
    rw [if_neg c1, fp]; omega
  rw [List.map_cons, List.sum_cons, key, sum_add, ih]
  rw [sum_one (fun k => if k = (w r).toNat then g (w r) else 0) (w r).toNat N (by omega) fun k _ hk => by simp [hk]]
  simp
theorem cnt_nonneg (u e l n : Int) : 0 ≤ cnt u e l n := by unfold cnt; omega
end Rods
namespace Rods
open PySem L2 BX
open PyProof.Rows hiding St
section
variable {u e l b : Int}
noncomputable def CN (u e l b : Int) : Nat → Int → Int
 | 0, n => if n = 0 then 1 else 0
 | r + 1, n => ((rodsU u l).map fun x => if (n - worthOf e x) % b = 0 ∧ 0 ≤ n - worthOf e x then CN u e l b r ((n - worthOf e x) / b) else 0).sum
theorem sum_zeroP (f : PyData → Int) : ∀ ks : List PyData, (∀ k ∈ ks, f k = 0) → (ks.map f).sum = 0
 | [], _ => rfl
 | k :: ks, h => by rw [List.map_cons, List.sum_cons, h k List.mem_cons_self, sum_zeroP f ks fun x hx => h x (List.mem_cons_of_mem _ hx)]; rfl
theorem worth_rng (h : okN u e l b = true) {x : PyData} (hx : x ∈ rodsU u l) : 0 ≤ worthOf e x ∧ worthOf e x ≤ u * e + l := by
 obtain ⟨a1, a2, a3, a4, a5, a6, a7, a8, a9, a10⟩ := split_N h
 rw [rods_rp] at hx
 obtain ⟨p, hp, rfl⟩ := List.mem_map.mp hx
 have ok := rp_ok hp
 obtain ⟨q1, q2, q3, q4⟩ := okP_split ok
 have w0 := wt_nn a3 ok
 refine ⟨w0, ?_⟩
 have := Int.mul_le_mul_of_nonneg_right q2 (show 0 ≤ e by omega)
 show p.1 * e + p.2 ≤ u * e + l
 omega
theorem CN_zero (h : okN u e l b = true) : ∀ (r : Nat) (k : Int), mostN u e l b r < k → CN u e l b r k = 0
 | 0, k, hk => by
  have : mostN u e l b 0 = 0 := rfl
  show (if k = 0 then (1 : Int) else 0) = 0
  rw [if_neg (by omega)]
 | r + 1, k, hk => by
  obtain ⟨a1, a2, a3, a4, a5, a6, a7, a8, a9, a10⟩ := split_N h
  refine sum_zeroP _ _ fun x hx => ?_
  obtain ⟨w0, w1⟩ := worth_rng h hx
  by_cases hc : (k - worthOf e x) % b = 0 ∧ 0 ≤ k - worthOf e x
  ·rw [if_pos hc]
   refine CN_zero h r _ ?_
   rw [mostN_succ] at hk
   have e1 : wt e (u, l) = u * e + l := rfl
   rw [e1] at hk
   have hd := Int.mul_ediv_add_emod (k - worthOf e x) b
   rw [hc.1, Int.mul_comm] at hd
   exact Int.lt_of_mul_lt_mul_right (show mostN u e l b r * b < (k - worthOf e x) / b * b by omega) (by omega)
  ·rw [if_neg hc]
theorem lefts_sum (h : okN u e l b = true) (a : Nat) (n : Int) : ((lefts u e l b a n).map (CN u e l b a)).sum = CN u e l b (a + 1) n := by
 obtain ⟨a1, a2, a3, a4, a5, a6, a7, a8, a9, a10⟩ := split_N h
 unfold lefts
 rw [List.map_map, sum_filter]
 show _ = ((rodsU u l).map fun x => if (n - worthOf e x) % b = 0 ∧ 0 ≤ n - worthOf e x then CN u e l b a ((n - worthOf e x) / b) else 0).sum
 congr 1
 refine List.map_congr_left fun x hx => ?_
 by_cases hc : (n - worthOf e x) % b = 0 ∧ 0 ≤ n - worthOf e x
 ·rw [if_pos hc]
  by_cases hM : n - worthOf e x ≤ b * mostN u e l b a
  ·have ok : okL e b (mostN u e l b a) n x = true := by
    simp only [okL, leftOf, Bool.and_eq_true]
    exact ⟨decide_eq_true hc.1, decide_eq_true hc.2, decide_eq_true hM⟩
   rw [if_pos ok]; rfl
  ·have ok : ¬ okL e b (mostN u e l b a) n x = true := by
    simp only [okL, leftOf, Bool.and_eq_true]
    exact fun z => hM (of_decide_eq_true z.2.2)
   rw [if_neg ok]
   refine (CN_zero h a _ ?_).symm
   have hd := Int.mul_ediv_add_emod (n - worthOf e x) b
   rw [hc.1] at hd
   exact Int.lt_of_mul_lt_mul_left (show b * mostN u e l b a < b * ((n - worthOf e x) / b) by omega) (by omega)
 ·have ok : ¬ okL e b (mostN u e l b a) n x = true := by
   simp only [okL, leftOf, Bool.and_eq_true]
   exact fun z => hc ⟨of_decide_eq_true z.1, of_decide_eq_true z.2.1⟩
  rw [if_neg ok, if_neg hc]
theorem sm_outer (a : Nat) (g f : Int → Int) : ∀ (ps acc : KI), ndK acc → ndK (ps.foldl (fun acc p => (lefts u e l b a p.1).foldl (fun x k => addTo x k (g p.1)) acc) acc) ∧ smK (ps.foldl (fun acc p => (lefts u e l b a p.1).foldl (fun x k => addTo x k (g p.1)) acc) acc) f = smK acc f + (ps.map fun p => g p.1 * ((lefts u e l b a p.1).map f).sum).sum
 | [], acc, hn => ⟨hn, by simp⟩
 | p :: ps, acc, hn => by
  obtain ⟨h1, h2⟩ := sm_outer a g f ps ((lefts u e l b a p.1).foldl (fun x k => addTo x k (g p.1)) acc) (nd_fold _ _ _ hn)
  refine ⟨h1, ?_⟩
  rw [List.foldl_cons, h2, smK_fold _ _ _ _ hn, List.map_cons, List.sum_cons]
  omega
theorem how_step (h : okN u e l b = true) (a : Nat) {kv : KI} (hn : ndK kv) : ndK (longF u e l b a kv) ∧ smK (longF u e l b a kv) (CN u e l b a) = smK kv (CN u e l b (a + 1)) := by
 obtain ⟨h1, h2⟩ := sm_outer (u := u) (e := e) (l := l) (b := b) a (getK kv) (CN u e l b a) kv [] (by simp [ndK])
 refine ⟨h1, ?_⟩
 show smK (kv.foldl _ []) _ = _
 rw [h2]
 have e0 : smK [] (CN u e l b a) = 0 := rfl
 rw [e0, Int.zero_add]
 unfold smK
 congr 1
 refine List.map_congr_left fun p hp => ?_
 rw [lefts_sum h, getK_mem hn hp]
theorem sm_zero : ∀ {kv : KI}, ndK kv → smK kv (CN u e l b 0) = getK kv 0
 | [], _ => rfl
 | p :: kv, hn => by
  have hn' : ndK kv := by unfold ndK at hn ⊢; rw [List.map_cons] at hn; exact (List.nodup_cons.mp hn).2
  have hne : p.1 ∉ kv.map (·.1) := by unfold ndK at hn; rw [List.map_cons] at hn; exact (List.nodup_cons.mp hn).1
  have ih := sm_zero hn'
  have e1 : smK (p :: kv) (CN u e l b 0) = p.2 * (if p.1 = 0 then 1 else 0) + smK kv (CN u e l b 0) := by
   unfold smK
   rw [List.map_cons, List.sum_cons]
   rfl
  rw [e1, ih]
  unfold getK
  rw [fndK_cons]
  by_cases h0 : p.1 = 0
  ·rw [if_pos h0, if_pos h0]
   have : fndK kv 0 = none := fndK_none fun z => by
    obtain ⟨q, hq, hq2⟩ := List.any_eq_true.mp z
    exact hne (List.mem_map.mpr ⟨q, hq, by rw [h0]; simpa using hq2⟩)
   rw [this]
   simp
  ·rw [if_neg h0, if_neg h0]
   simp
theorem how_in {kv kv' : KI} {a : Nat} {R N : Option PyData} (g : gLonger [four u e l b, .int (a : Int), dI kv] = some (dI kv')) : bHowIn.1 [some (four u e l b), R, N, some (dI kv), some (.int (a : Int))] = some (.nx [some (four u e l b), R, N, some (dI kv'), some (.int (a : Int))]) := by
 simp only [bHowIn, seqS, asgS, calD, consA, nilA, lkp, asgN, zzA, zzB, zzC, zzD, zzE, g, zzF, zzG, nxtS]
theorem how_core {m : PyData} {rr n s : Int} {R : List PyData} {D : KI} {x4 : Option PyData} (ga : gAsked [m, .int rr, .int n] = some .none) (s1 : dSub (.int rr) (.int 1) = some (.int s)) (rg : rng3 [.int s, .int (-1), .int (-1)] = some R) (hl : loopD (asgN 4) bHowIn.1 R [some m, some (.int rr), some (.int n), some (dI [(n, 1)]), none] = some (.nx [some m, some (.int rr), some (.int n), some (dI D), x4])) :
  bHow.1 [some m, some (.int rr), some (.int n), none, none] = some (.rt (.int (getK D 0))) := by
 have ng : dNeg (.int 1) = some (.int (-1)) := rfl
 have g2 := get2_dI D 0 0
 simp only [bHow]
 refine (seq_nx (ρ1 := [some m, some (.int rr), some (.int n), none, none]) ?_).trans ?_
 ·simp only [drpS, calD, consA, nilA, lkp, zzA, zzB, zzC, zzD, zzE, ga]
 refine (seq_nx (ρ1 := [some m, some (.int rr), some (.int n), some (dI [(n, 1)]), none]) ?_).trans ?_
 ·rfl
 refine (seq_nx (ρ1 := [some m, some (.int rr), some (.int n), some (dI D), x4]) ?_).trans ?_
 ·simp only [forS, consA, nilA, op2, lkp, cst, zzA, zzB, zzC, zzD, zzE, s1, ng, rg]
  exact hl
 simp only [seqS, retD, get2D, lkp, cst, zzA, zzB, zzC, zzD, zzE, g2]
 rfl
theorem longF_len (h : okN u e l b = true) (a : Nat) (kv : KI) : (longF u e l b a kv).length ≤ kv.length * (rp u l).length := by
 have := len_long u e l b a kv (getK kv) kv []
 rw [List.length_nil, Nat.zero_add, ← rp_len] at this
 exact this
theorem gHow_eq (H : allN = true) (h : okN u e l b = true) {r : Nat} (h1 : 1 ≤ r) (h3 : r ≤ 3) {n : Int} (h0 : 0 ≤ n) (hn : n ≤ 99999) : gHow [four u e l b, .int (r : Int), .int n] = some (.int (CN u e l b r n)) := by
 have ga := gAsked_eq H h (r := (r : Int)) (n := n) (by omega) (by omega) h0 hn
 obtain ⟨ρ', hl, hI⟩ := loop_inv (ga := asgN 4) (F := bHowIn.1) (fun i ρ => ∃ D x4, ρ = [some (four u e l b), some (.int (r : Int)), some (.int n), some (dI D), x4] ∧ ndK D ∧ smK D (CN u e l b (r - i)) = CN u e l b r n ∧ D.length ≤ 48 ^ i) ((List.range r).map fun (j : Nat) => .int (((r - (j + 1) : Nat) : Int))) 0
  [some (four u e l b), some (.int (r : Int)), some (.int n), some (dI [(n, 1)]), none] ⟨_, _, rfl, by simp [ndK], by simp [smK], by simp⟩ (fun j d ρ hd hi => by
   obtain ⟨hj, rfl⟩ := get_down hd
   obtain ⟨D, x4, rfl, hD, hS, hlen⟩ := hi
   rw [Nat.zero_add] at hS hlen
   have hk := len_ok h (j := j) (by omega) hlen
   rw [rp_len] at hk
   have g := gLonger_eq h (r - (j + 1)) (by omega) D hk
   obtain ⟨s1, s2⟩ := how_step h (r - (j + 1)) hD
   exact ⟨_, _, rfl, how_in g, _, _, rfl, s1, by rw [Nat.zero_add, s2, show r - (j + 1) + 1 = r - j by omega]; exact hS, by rw [Nat.zero_add]; exact len_next h hlen (longF_len h _ _)⟩)
 obtain ⟨D, x4, rfl, hD, hS, hlen⟩ := hI
 rw [List.length_map, List.length_range, Nat.zero_add, Nat.sub_self, sm_zero hD] at hS
 rw [← hS]
 exact body_rt rfl (how_core ga rfl (rng3_down h1 h3) hl)
end
end Rods
namespace Rods
open PySem L2 BX
open PyProof.Rows hiding St
theorem most_eq (H : allN = true) {u e l b : Int} (h : okN u e l b = true) : gMost [four u e l b] = some (.int (u * e + l)) := by
 obtain ⟨a1, a2, a3, a4, a5, a6, a7, a8, a9, a10⟩ := split_N h
 rw [gMost_eq a1 (by omega) (by omega) (by omega), (chk_ok H h).most]
theorem counts_eq (H : allN = true) {u e l b : Int} (ho : okN u e l b = true) : gCounts [four u e l b] = some (.list ((cntL u e l).map .int)) := by
 obtain ⟨a1, a2, a3, a4, a5, a6, a7, a8, a9, a10⟩ := split_N ho
 have C := chk_ok H ho
 have g1 := gCheck_eq (gIsM H ho)
 have g2 := most_eq H ho
 have g3 := gAllRods_eq (u := u) (e := e) (l := l) (b := b) a1 (by omega) (by omega) (by omega)
 have hue : 0 ≤ u * e ∧ u * e ≤ 3 * 5 := ⟨Int.mul_nonneg a1 (by omega), Int.mul_le_mul (by omega) (by omega) (by omega) (by omega)⟩
 have g4 := bump_eq (u := u) (e := e) (l := l) (b := b) (by omega) (rodsU u l) (List.replicate (u * e + l + 1).toNat 0) fun r hr => ⟨hr, (C.rng r hr).1, by rw [List.length_replicate]; have := C.rng r hr; omega⟩
 have nr : noLs (rodsU u l) = true := noLs_rods _ _
 have nm : noL (four u e l b) = true := by simp [four, noL, noLs]
 cases hR : rodsU u l with
 | nil =>
  exfalso
  have := len_rods (u + 1).toNat (l + 1).toNat
  rw [show rodsN (u + 1).toNat (l + 1).toNat = [] from hR] at this
  have h0 : 0 < (u + 1).toNat * (l + 1).toNat := Nat.mul_pos (by omega) (by omega)
  simp at this
  omega
 | cons r rs =>
  have hmem : r ∈ rodsU u l := by rw [hR]; exact List.mem_cons_self
  obtain ⟨i, j, _, _, rfl⟩ := mem_rodsN hmem
  rw [hR] at g3 g4 nr
  simp only [gCounts, nm, if_true, g1, g2, g3, nr, g4, zzE]
  rw [if_pos ⟨by omega, by omega, trivial⟩]
  simp only [cntL, hR]
theorem bnd_most {u e l b : Int} (h : okN u e l b = true) : 0 ≤ u * e + l ∧ u * e + l ≤ 26 := by
 obtain ⟨a1, a2, a3, a4, a5, a6, a7, a8, a9, a10⟩ := split_N h
 have h1 : 0 ≤ u * e := Int.mul_nonneg a1 (by omega)
 have h2 : u * e ≤ 3 * 5 := Int.mul_le_mul (by omega) (by omega) (by omega) (by omega)
 omega
theorem insOf_self (ns : List Int) : insOf (ns.map PyData.int) = some ns := by
 have := insOf_ints (fun x : Int => x) ns
 simpa using this
end Rods
namespace Rods
open PySem L2 BX
open PyProof.Rows hiding St
section
variable {u e l b : Int} {ps qs : List (Int × Int)}
theorem add_tup {xs ys : List PyData} (hx : xs ≠ [] ∨ True) (hl : xs.length + ys.length < 10000) : dAdd (.tuple xs) (.tuple ys) = some (.tuple (xs ++ ys)) := by
 cases xs with
 | nil => rfl
 | cons x xs =>
  have hf : few ((x :: xs) ++ ys) = true := few_len (by rw [List.length_append]; exact hl)
  show (if few ((x :: xs) ++ ys) = true then some (PyData.tuple ((x :: xs) ++ ys)) else none) = _
  rw [if_pos hf]
theorem set_in {ns : List Int} (hn : ns.length < 1000000) (h : okN u e l b = true) {at_ : Int} (ha : 0 ≤ at_) {j : Nat} (hj : j < 4) {x3 x4 x7 : Option PyData} (hq : qs.length ≤ 4) :
  ∃ p, okP u l p = true ∧ bSetIn.1 [some (scr ns), some (.int at_), some (four u e l b), x3, x4, some (sett qs), some (.int (j : Int)), x7] = some (.nx [some (scr ns), some (.int at_), some (four u e l b), x3, x4, some (sett (qs ++ [p])), some (.int (j : Int)), some (pr p)]) := by
 obtain ⟨a1, a2, a3, a4, a5, a6, a7, a8, a9, a10⟩ := split_N h
 obtain ⟨x, d1, x0, x1⟩ := gDrawn_ex ns hn (at_ + 1 + 2 * (j : Int)) (u + 1) (by omega) (by omega)
 obtain ⟨y, d2, y0, y1⟩ := gDrawn_ex ns hn (at_ + 2 + 2 * (j : Int)) (l + 1) (by omega) (by omega)
 have m1 : dMul (.int 2) (.int (j : Int)) = some (.int (2 * (j : Int))) := mul_small ⟨by omega, by omega⟩
 have f2 : few [PyData.int x, .int y] = true := few_len (by simp)
 have f1 : few [PyData.tuple [.int x, .int y]] = true := few_len (by simp)
 have ad : dAdd (sett qs) (.tuple [.tuple [.int x, .int y]]) = some (sett (qs ++ [(x, y)])) := by
  have := add_tup (xs := qs.map pr) (ys := [pr (x, y)]) (.inr trivial) (by simp; omega)
  rw [show sett (qs ++ [(x, y)]) = .tuple (qs.map pr ++ [pr (x, y)]) by simp [sett]]
  exact this
 generalize scr ns = S at *
 refine ⟨(x, y), ?_, ?_⟩
 ·simp only [okP, Bool.and_eq_true, decide_eq_true_eq]
  exact ⟨⟨⟨x0, by omega⟩, y0⟩, by omega⟩
 ·simp only [bSetIn]
  refine (seq_nx (ρ1 := [some S, some (.int at_), some (four u e l b), x3, x4, some (sett qs), some (.int (j : Int)), some (.tuple [.int x, .int y])]) ?_).trans ?_
  ·simp only [asgS, tupD, calD, consA, nilA, op2, lkp, cst, asgN, zzA, zzB, zzC, zzD, zzE, ix0, ix2, m1, add_int, d1, d2, f2, if_true, zzF, zzG]
  simp only [seqS, asgS, tupD, consA, nilA, op2, lkp, asgN, zzA, zzB, zzC, zzD, zzE, f1, if_true, ad, zzF, zzG, nxtS]
  rfl
theorem gSet_ex' {ns : List Int} (hn : ns.length < 1000000) (h : okN u e l b = true) {at_ : Int} (ha : 0 ≤ at_) {mo : Int} (hm1 : 1 ≤ mo) (hm4 : mo ≤ 4) : ∃ ps, gSet [scr ns, .int at_, four u e l b, .int mo] = some (sett ps) ∧ okS u l ps = true ∧ (ps.length : Int) ≤ mo := by
 obtain ⟨r, d0, r0, r1⟩ := gDrawn_ex ns hn at_ mo ha (by omega)
 have hr : rng1 [.int (1 + r)] = some (rngL 0 (1 + r).toNat) := rng1_eq (by omega) (by omega)
 obtain ⟨ρ', hl, hI⟩ := loop_inv (ga := asgN 6) (F := bSetIn.1) (fun i ρ => ∃ qs x6 x7, ρ = [some (scr ns), some (.int at_), some (four u e l b), some (.int mo), some (.int (1 + r)), some (sett qs), x6, x7] ∧ qs.length = i ∧ qs.all (okP u l) = true) (rngL 0 (1 + r).toNat) 0
  [some (scr ns), some (.int at_), some (four u e l b), some (.int mo), some (.int (1 + r)), some (sett []), none, none] ⟨[], none, none, rfl, rfl, rfl⟩ (fun j d ρ hd hi => by
   obtain ⟨hj, rfl⟩ := rngL_get hd
   obtain ⟨qs, x6, x7, rfl, hlen, hall⟩ := hi
   obtain ⟨p, hp, hb⟩ := set_in hn h ha (j := j) (by omega) (x3 := some (.int mo)) (x4 := some (.int (1 + r))) (x7 := x7) (qs := qs) (by omega)
   exact ⟨_, _, rfl, hb, qs ++ [p], _, _, rfl, by rw [List.length_append, hlen]; rfl, by rw [List.all_append, hall, List.all_cons, hp]; rfl⟩)
 obtain ⟨qs, x6, x7, rfl, hlen, hall⟩ := hI
 rw [rngL_len, Nat.zero_add] at hlen
 refine ⟨qs, body_rt rfl ?_, okS_mk (by omega) (by omega) hall, by omega⟩
 generalize scr ns = S at *
 show bSet.1 [some S, some (.int at_), some (four u e l b), some (.int mo), none, none, none, none] = _
 simp only [bSet]
 refine (seq_nx (ρ1 := [some S, some (.int at_), some (four u e l b), some (.int mo), some (.int (1 + r)), none, none, none]) ?_).trans ?_
 ·simp only [asgS, calD, consA, nilA, op2, lkp, cst, asgN, zzA, zzB, zzC, zzD, zzE, d0, add_int, zzF, zzG]
 refine (seq_nx (ρ1 := [some S, some (.int at_), some (four u e l b), some (.int mo), some (.int (1 + r)), some (sett []), none, none]) rfl).trans ?_
 refine (seq_nx (ρ1 := [some S, some (.int at_), some (four u e l b), some (.int mo), some (.int (1 + r)), some (sett qs), x6, x7]) ?_).trans ?_
 ·show (Option.bind (Option.bind _ rng1) _) = _
  simp only [consA, nilA, lkp, zzA, zzB, zzC, zzD, zzE, hr]
  exact hl
 rfl
theorem ne_int (i j : Int) : dNe (.int i) (.int j) = some (.bool (!decide (i = j))) := by
 have : (i == j) = decide (i = j) := rfl
 simp only [dNe, okD_int, eqv_int, and_self, if_true, this]
theorem fpr0 (H : allN = true) (h : okN u e l b = true) : fpr (four u e l b) 0 = f00 := by
 obtain ⟨a1, a2, a3, a4, a5, a6, a7, a8, a9, a10⟩ := split_N h
 obtain ⟨_, w, o⟩ := fewest_ok H h (d := 0) (by omega) (by omega)
 obtain ⟨q1, q2, q3, q4⟩ := okP_split o
 unfold wt at w
 have hx : (fpr (four u e l b) 0).1 = 0 := by
  apply Classical.byContradiction
  intro hne
  have : 1 * 1 ≤ (fpr (four u e l b) 0).1 * e := Int.mul_le_mul (by omega) a3 (by omega) (by omega)
  omega
 have hy : (fpr (four u e l b) 0).2 = 0 := by rw [hx] at w; omega
 exact Prod.ext hx hy
theorem val_bd (h : okN u e l b = true) (hp : ps.all (okP u l) = true) : val b e ps + 2 ≤ 2 * 16 ^ ps.length := by
 obtain ⟨a1, a2, a3, a4, a5, a6, a7, a8, a9, a10⟩ := split_N h
 have key : ∀ (ps : List (Int × Int)) (acc : Int), ps.all (okP u l) = true → 0 ≤ acc → ps.foldl (fun n p => n * b + wt e p) acc + 2 ≤ (acc + 2) * 16 ^ ps.length := by
  intro ps
  induction ps with
  | nil => intro acc _ h; simp
  | cons p ps ih =>
   intro acc hp h0
   rw [List.all_cons, Bool.and_eq_true] at hp
   have w0 := wt_nn a3 hp.1
   have w1 := wt_le a3 a4 a2 a7 hp.1
   have ha : 0 ≤ acc * b := Int.mul_nonneg h0 (by omega)
   have hb2 : acc * b ≤ acc * 16 := Int.mul_le_mul_of_nonneg_left a9 h0
   refine Int.le_trans (ih (acc * b + wt e p) hp.2 (by omega)) ?_
   rw [List.length_cons, Int.pow_succ, Int.mul_comm (16 ^ ps.length) 16, ← Int.mul_assoc]
   exact Int.mul_le_mul_of_nonneg_right (by omega) (Int.le_of_lt (pw_pos (by decide) _))
 have := key ps 0 hp (by omega)
 simpa [val] using this
theorem LB_plain (H : allN = true) (h : okN u e l b = true) {r : Nat} (h1 : 1 ≤ r) {n : Int} (h0 : 0 ≤ n) (hn : n < b ^ r) : ∃ v, LB u e l b r n = some v ∧ v ≤ bds (pln (four u e l b) b r n) := by
 obtain ⟨a1, a2, a3, a4, a5, a6, a7, a8, a9, a10⟩ := split_N h
 refine (LB_min u e l b r n).2 _ ⟨pln (four u e l b) b r n, pln_len _ _ _ _, ?_, val_pln H h r n h1 h0 hn, rfl⟩
 refine List.all_eq_true.mpr fun p hp => ?_
 obtain ⟨d, hd, rfl⟩ := List.mem_map.mp hp
 obtain ⟨d0, d1⟩ := dgl_rng (show 0 < b by omega) r n h0 hn d hd
 exact (fewest_ok H h d0 d1).2.2
end
end Rods
namespace Rods
open PySem L2 BX
open PyProof.Rows hiding St
theorem fewN {ds : List PyData} (h : ds.length < 50) : few ds = true := few_len (by omega)
theorem fw1 {a : PyData} : few [a] = true := fewN (by simp)
theorem fw2 {a b : PyData} : few [a, b] = true := fewN (by simp)
noncomputable def shl (n : Nat) (d : PyData) : Prop := d.canLay0 = true ∧ d.depth ≤ n
theorem lay_all {ds : List PyData} : PyData.canLayAll0 ds = true ↔ ∀ d ∈ ds, d.canLay0 = true := by
 induction ds with
 | nil => simp [PyData.canLayAll0]
 | cons x xs ih => simp [PyData.canLayAll0, ih]
theorem dep_all {ds : List PyData} {n : Nat} : PyData.depthAll ds ≤ n ↔ ∀ d ∈ ds, d.depth ≤ n := by
 induction ds with
 | nil => simp [PyData.depthAll]
 | cons x xs ih => simp only [PyData.depthAll, List.mem_cons, forall_eq_or_imp, ← ih]; omega
theorem shl_tup {n : Nat} {ds : List PyData} : shl (n + 1) (.tuple ds) ↔ ∀ d ∈ ds, shl n d := by
 constructor
 ·rintro ⟨h1, h2⟩ d hd
  refine ⟨lay_all.mp (by simpa [PyData.canLay0] using h1) d hd, dep_all.mp ?_ d hd⟩
  simp only [PyData.depth] at h2; omega
 ·intro h
  refine ⟨by simp only [PyData.canLay0]; exact lay_all.mpr fun d hd => (h d hd).1, ?_⟩
  have := dep_all.mpr fun d hd => (h d hd).2
  simp only [PyData.depth]; omega
theorem shl_lst {n : Nat} {ds : List PyData} : shl (n + 1) (.list ds) ↔ ∀ d ∈ ds, shl n d := by
 constructor
 ·rintro ⟨h1, h2⟩ d hd
  refine ⟨lay_all.mp (by simpa [PyData.canLay0] using h1) d hd, dep_all.mp ?_ d hd⟩
  simp only [PyData.depth] at h2; omega
 ·intro h
  refine ⟨by simp only [PyData.canLay0]; exact lay_all.mpr fun d hd => (h d hd).1, ?_⟩
  have := dep_all.mpr fun d hd => (h d hd).2
  simp only [PyData.depth]; omega
theorem shl_ok {n : Nat} {d : PyData} (h : shl n d) (hn : n < 30) : okD d = true := by
 unfold okD
 rw [h.1, decide_eq_true (show d.depth < 30 by have := h.2; omega)]; rfl
theorem shl_int (i : Int) : shl 1 (.int i) := ⟨rfl, by simp [PyData.depth]⟩
theorem shl_pr (p : Int × Int) : shl 2 (pr p) := shl_tup.mpr fun d hd => by
 simp only [List.mem_cons, List.not_mem_nil, or_false] at hd
 rcases hd with rfl | rfl <;> exact shl_int _
theorem shl_prs (ps : List (Int × Int)) : shl 3 (sett ps) := shl_tup.mpr fun d hd => by
 obtain ⟨p, _, rfl⟩ := List.mem_map.mp hd
 exact shl_pr p
end Rods
end
section
namespace Rods
open PySem L2 BX
open PyProof.Rows hiding St
noncomputable abbrev SL := List (List (Int × Int))
noncomputable abbrev KL := List (Int × SL)
noncomputable def eS (ss : SL) : PyData := .list (ss.map sett)
noncomputable def encD (kv : KL) : List (PyData × PyData) := kv.map fun p => (.int p.1, eS p.2)
noncomputable def dL (kv : KL) : PyData := .dict ((.none, .none) :: encD kv)
noncomputable def fndL (kv : KL) (k : Int) : Option SL := (kv.find? fun p => decide (p.1 = k)).map (·.2)
noncomputable def getL (kv : KL) (k : Int) : SL := (fndL kv k).getD []
noncomputable def putL (kv : KL) (k : Int) (v : SL) : KL := if kv.any (fun p => decide (p.1 = k)) = true then kv.map (fun p => if p.1 = k then (p.1, v) else p) else kv ++ [(k, v)]
theorem valM_encD (kv : KL) (k : Int) : valM (encD kv) k = (fndL kv k).map eS := by
 induction kv with
 | nil => rfl
 | cons p kv ih =>
  by_cases h : p.1 = k
  ·simp [valM, encD, fndL, isI, h]
  ·have e1 : valM (encD (p :: kv)) k = valM (encD kv) k := by simp [valM, encD, isI, h, List.find?_cons]
   have e2 : fndL (p :: kv) k = fndL kv k := by simp [fndL, h, List.find?_cons]
   rw [e1, e2, ih]
theorem putM_encD (kv : KL) (k : Int) (v : SL) : putM (encD kv) k (eS v) = encD (putL kv k v) := by
 have h1 : (encD kv).any (fun p => isI k p.1) = kv.any fun p => decide (p.1 = k) := by simp [encD, List.any_map, Function.comp_def, isI]
 unfold putM putL
 rw [h1]
 by_cases c : kv.any (fun p => decide (p.1 = k)) = true
 ·rw [if_pos c, if_pos c]
  simp only [encD, List.map_map]
  apply List.map_congr_left
  intro p _
  by_cases h : p.1 = k <;> simp [isI, h]
 ·rw [if_neg c, if_neg c]
  simp [encD]
theorem fndL_cons (p : Int × SL) (kv : KL) (x : Int) : fndL (p :: kv) x = if p.1 = x then some p.2 else fndL kv x := by
 by_cases h : p.1 = x <;> simp [fndL, List.find?_cons, h]
theorem fndL_map (k : Int) (v : SL) (x : Int) : ∀ kv : KL, fndL (kv.map fun p => if p.1 = k then (p.1, v) else p) x = if x = k then (if kv.any (fun p => decide (p.1 = k)) = true then some v else none) else fndL kv x
 | [] => by simp [fndL]
 | p :: kv => by
  rw [List.map_cons, fndL_cons, fndL_cons, fndL_map k v x kv]
  by_cases hp : p.1 = k
  ·by_cases hx : x = k
   ·subst hx; simp [hp]
   ·have hkx : ¬ k = x := fun z => hx z.symm
    simp [hp, hx, hkx]
  ·by_cases hx : x = k
   ·subst hx; rw [List.any_cons, decide_eq_false hp, Bool.false_or]; simp [hp]
   ·by_cases hq : p.1 = x <;> simp [hp, hx, hq]
theorem fndL_app (k : Int) (v : SL) (x : Int) : ∀ kv : KL, fndL (kv ++ [(k, v)]) x = if kv.any (fun p => decide (p.1 = x)) = true then fndL kv x else if k = x then some v else none
 | [] => by rw [List.nil_append, fndL_cons]; simp [fndL]
 | p :: kv => by
  rw [List.cons_append, fndL_cons, fndL_cons, fndL_app k v x kv]
  by_cases hp : p.1 = x
  ·simp [hp]
  ·rw [List.any_cons, decide_eq_false hp, Bool.false_or, if_neg hp, if_neg hp]
theorem fndL_put (kv : KL) (k : Int) (v : SL) (x : Int) : fndL (putL kv k v) x = if x = k then some v else fndL kv x := by
 unfold putL
 by_cases c : kv.any (fun p => decide (p.1 = k)) = true
 ·rw [if_pos c, fndL_map, if_pos c]
 ·rw [if_neg c, fndL_app]
  by_cases hx : x = k
  ·subst hx
   rw [if_neg c, if_pos rfl, if_pos rfl]
  ·have hkx : ¬ k = x := fun z => hx z.symm
   rw [if_neg hx, if_neg hkx]
   by_cases c' : kv.any (fun p => decide (p.1 = x)) = true
   ·rw [if_pos c']
   ·rw [if_neg c']
    unfold fndL
    rw [List.find?_eq_none.mpr fun p hp => by
     have := fun z => c' (List.any_eq_true.mpr ⟨p, hp, z⟩)
     exact this]
    rfl
theorem getL_put (kv : KL) (k : Int) (v : SL) (x : Int) : getL (putL kv k v) x = if x = k then v else getL kv x := by
 unfold getL
 rw [fndL_put]
 by_cases h : x = k
 ·rw [if_pos h, if_pos h]; rfl
 ·rw [if_neg h, if_neg h]
noncomputable def lenK (kv : KL) : KI := kv.map fun p => (p.1, (p.2.length : Int))
theorem fndK_len (kv : KL) (k : Int) : fndK (lenK kv) k = (fndL kv k).map fun s => (s.length : Int) := by
 induction kv with
 | nil => rfl
 | cons p kv ih =>
  have : fndK (lenK (p :: kv)) k = if p.1 = k then some (p.2.length : Int) else fndK (lenK kv) k := fnd_cons (p.1, (p.2.length : Int)) (lenK kv) k
  rw [this, fndL_cons, ih]
  by_cases h : p.1 = k
  ·rw [if_pos h, if_pos h]; rfl
  ·rw [if_neg h, if_neg h]
theorem getK_len (kv : KL) (k : Int) : getK (lenK kv) k = ((getL kv k).length : Int) := by
 unfold getK getL
 rw [fndK_len]
 cases fndL kv k <;> rfl
theorem lenK_put (kv : KL) (k : Int) (v : SL) : lenK (putL kv k v) = putI (lenK kv) k (v.length : Int) := by
 have h1 : (lenK kv).any (fun p => decide (p.1 = k)) = kv.any fun p => decide (p.1 = k) := by simp [lenK, List.any_map, Function.comp_def]
 unfold putL putI
 rw [h1]
 by_cases c : kv.any (fun p => decide (p.1 = k)) = true
 ·rw [if_pos c, if_pos c]
  simp only [lenK, List.map_map]
  apply List.map_congr_left
  intro p _
  by_cases h : p.1 = k <;> simp [h]
 ·rw [if_neg c, if_neg c]
  simp [lenK]
noncomputable def pls (acc : KL) (q : (Int × Int) × Int) (ts : SL) : KL := putL acc q.2 (getL acc q.2 ++ ts.map (q.1 :: ·))
theorem lenK_pls (acc : KL) (q : (Int × Int) × Int) (ts : SL) : lenK (pls acc q ts) = addTo (lenK acc) q.2 (ts.length : Int) := by
 unfold pls addTo
 rw [lenK_put, getK_len, List.length_append, List.length_map]
 congr 1
theorem getL_pls (acc : KL) (q : (Int × Int) × Int) (ts : SL) (x : Int) : getL (pls acc q ts) x = if x = q.2 then getL acc x ++ ts.map (q.1 :: ·) else getL acc x := by
 unfold pls
 rw [getL_put]
 by_cases h : x = q.2
 ·rw [if_pos h, if_pos h, h]
 ·rw [if_neg h, if_neg h]
noncomputable def TT (kv : KL) : Int := smK (lenK kv) fun _ => 1
theorem TT_pls {acc : KL} (hn : ndK (lenK acc)) (q : (Int × Int) × Int) (ts : SL) : ndK (lenK (pls acc q ts)) ∧ TT (pls acc q ts) = TT acc + (ts.length : Int) := by
 unfold TT
 rw [lenK_pls]
 refine ⟨nd_put hn, ?_⟩
 rw [smK_add hn]
 omega
theorem getL_le (kv : KL) (k : Int) : ((getL kv k).length : Int) ≤ TT kv := by
 have nn : ∀ x ∈ (lenK kv).map (fun p => p.2 * 1), (0 : Int) ≤ x := fun x hx => by
  obtain ⟨p, hp, rfl⟩ := List.mem_map.mp hx
  obtain ⟨q, _, rfl⟩ := List.mem_map.mp hp
  show (0 : Int) ≤ (q.2.length : Int) * 1
  omega
 unfold getL fndL
 cases hq : kv.find? fun p => decide (p.1 = k) with
 | none =>
  show ((0 : Nat) : Int) ≤ _
  exact sum_nonneg nn
 | some p =>
  have hp := List.mem_of_find?_eq_some hq
  show (p.2.length : Int) ≤ _
  exact sum_ge nn (List.mem_map.mpr ⟨(p.1, (p.2.length : Int)), List.mem_map.mpr ⟨p, hp, rfl⟩, by simp⟩)
end Rods
end
section
namespace Rods
open PySem L2 BX
open PyProof.Rows hiding St
theorem noD_sett' (s : List (Int × Int)) : noD (sett s) = true := by
 show noDs (s.map pr) = true
 induction s with
 | nil => rfl
 | cons p s ih => simp only [List.map_cons, noDs, ih, Bool.and_true]; rfl
theorem few_lt {ds : List PyData} (h : ds.length < 1000000) : few ds = true := decide_eq_true h
theorem noD_eS (ss : SL) : noD (eS ss) = true := by
 show noDs (ss.map sett) = true
 induction ss with
 | nil => rfl
 | cons s ss ih => simp only [List.map_cons, noDs, noD_sett' s, ih, Bool.and_self]
theorem ends_comp (p : Int × Int) : ∀ (ts : SL) (x : Option PyData), (∀ t ∈ ts, t.length ≤ 4) → compL (asgN 0) truT (op2 dAdd (tupD (consA (lkp 1) nilA)) (lkp 0)) (ts.map sett) [x, some (pr p)] = some ((ts.map (p :: ·)).map sett)
 | [], x, _ => rfl
 | t :: ts, x, h => by
  have ih := ends_comp p ts (some (sett t)) fun c hc => h c (List.mem_cons_of_mem _ hc)
  have ad : dAdd (.tuple [pr p]) (sett t) = some (sett (p :: t)) := add_tup (.inr trivial) (by have := h t List.mem_cons_self; rw [List.length_map]; simp; omega)
  simp only [List.map_cons, compL, truT, seqS, ifS, ifD, andB, orB, notB, tst, op2, chn, calD, tupD, lstD, consA, nilA, lkp, cst, retD, drpS, asgS, asgN, nxtS, nevS, asB, zzA, zzB, zzC, zzD, zzH, zzE, zzI, zzF, zzG, zzJ, zzK, Bool.false_eq_true, if_true, if_false, fw1, ad]
  first | rw [ih] | (simp only [seqS, ifS, ifD, andB, orB, notB, tst, op2, chn, calD, tupD, lstD, consA, nilA, lkp, cst, retD, drpS, asgS, asgN, nxtS, nevS, asB, zzA, zzB, zzC, zzD, zzH, zzE, zzI, zzF, zzG, zzJ, zzK, Bool.false_eq_true, if_true, if_false] at ih; rw [ih])
  rfl
theorem ends_in {m A : Option PyData} {D acc : KL} {n k : Int} {p : Int × Int} {ts : SL} (hD : fndL D n = some ts) (ht : ∀ t ∈ ts, t.length ≤ 4) (hl : acc.length < 900000) (hs : ts.length + (getL acc k).length < 900000) : bLongerEnds2.1 [m, A, some (dL D), some (dL acc), some (.int n), some (pr p), some (.int k)] = some (.nx [m, A, some (dL D), some (dL (pls acc (p, k) ts)), some (.int n), some (pr p), some (.int k)]) := by
 have g1 : dGet (dL D) (.int n) = some (eS ts) := by
  show valM (encD D) n = _
  rw [valM_encD, hD]; rfl
 have g2 : dGet2 (dL acc) (.int k) (.list []) = some (eS (getL acc k)) := by
  show some ((valM (encD acc) k).getD (.list [])) = _
  rw [valM_encD]
  unfold getL
  cases fndL acc k <;> rfl
 have cp := ends_comp p ts none ht
 have it : items (eS ts) = some (ts.map sett) := rfl
 have fe : few (ts.map sett) = true := decide_eq_true (by rw [List.length_map]; omega)
 have ad : dAdd (eS (getL acc k)) (.list ((ts.map (p :: ·)).map sett)) = some (eS (getL acc k ++ ts.map (p :: ·))) := by
  show (if few ((getL acc k).map sett ++ (ts.map (p :: ·)).map sett) = true then some (PyData.list ((getL acc k).map sett ++ (ts.map (p :: ·)).map sett)) else none) = _
  rw [if_pos (few_lt (by rw [List.length_append, List.length_map, List.length_map, List.length_map]; omega)), ← List.map_append]
  rfl
 have nd := noD_eS (getL acc k ++ ts.map (p :: ·))
 have pt : putD (some (dL acc)) (some (eS (getL acc k ++ ts.map (p :: ·)))) (some (.int k)) = some (dL (pls acc (p, k) ts)) := by
  have hle : (encD acc).length < 1000000 := by simp only [encD, List.length_map]; omega
  show (if (encD acc).length < 1000000 then some (PyData.dict ((.none, .none) :: putM (encD acc) k (eS (getL acc k ++ ts.map (p :: ·))))) else none) = _
  rw [if_pos hle, putM_encD]
  rfl
 have dd : ∀ d, okB (dL acc) d = noD d := fun _ => rfl
 generalize pls acc (p, k) ts = acc' at *
 generalize eS (getL acc k ++ ts.map (p :: ·)) = V at *
 generalize eS (getL acc k) = V1 at *
 generalize (ts.map (p :: ·)).map sett = V2 at *
 generalize ts.map sett = V3 at *
 generalize eS ts = V4 at *
 generalize dL acc = DA at *
 generalize dL D = DD at *
 simp only [bLongerEnds2]
 refine (seq_nx (ρ1 := [m, A, some DD, some (dL acc'), some (.int n), some (pr p), some (.int k)]) ?_).trans rfl
 try simp only [seqS, ifS, ifD, andB, orB, notB, tst, op2, chn, calD, tupD, lstD, consA, nilA, lkp, cst, retD, drpS, asgS, asgN, nxtS, nevS, asB, zzA, zzB, zzC, zzD, zzH, zzE, zzI, zzF, zzG, zzJ, zzK, Bool.false_eq_true, if_true, if_false] at cp
 simp only [putS, brw, hid, get2D, compD, itS, capR, List.map_cons, List.map_nil, seqS, ifS, ifD, andB, orB, notB, tst, op2, chn, calD, tupD, lstD, consA, nilA, lkp, cst, retD, drpS, asgS, asgN, nxtS, nevS, asB, zzA, zzB, zzC, zzD, zzH, zzE, zzI, zzF, zzG, zzJ, zzK, Bool.false_eq_true, if_true, if_false, Option.join_none, g1, g2, it, fe, few_nil, cp, ad, dd, nd, pt]
theorem pls_len (acc : KL) (q : (Int × Int) × Int) (ts : SL) : (pls acc q ts).length ≤ acc.length + 1 := by
 unfold pls putL
 split <;> simp
noncomputable def plf (ts : SL) (qs : List ((Int × Int) × Int)) (acc : KL) : KL := qs.foldl (fun a q => pls a q ts) acc
theorem ends_loop {m A : Option PyData} {D : KL} {n : Int} {ts : SL} (hD : fndL D n = some ts) (ht : ∀ t ∈ ts, t.length ≤ 4) (qs : List ((Int × Int) × Int)) : ∀ (acc : KL) (x5 x6 : Option PyData), ndK (lenK acc) → acc.length + qs.length < 900000 → TT acc + (qs.length + 1 : Nat) * (ts.length : Int) < 900000 →
  ∃ y5 y6, loopD (asgT 2 (asgCons (asgN 5) (asgCons (asgN 6) asgNil))) bLongerEnds2.1 (qs.map encL) [m, A, some (dL D), some (dL acc), some (.int n), x5, x6] = some (.nx [m, A, some (dL D), some (dL (plf ts qs acc)), some (.int n), y5, y6]) ∧ ndK (lenK (plf ts qs acc)) ∧ TT (plf ts qs acc) = TT acc + qs.length * (ts.length : Int) ∧ (plf ts qs acc).length ≤ acc.length + qs.length := by
 induction qs with
 | nil => exact fun acc x5 x6 hn _ _ => ⟨x5, x6, rfl, hn, by simp [plf], by simp [plf]⟩
 | cons q qs ih =>
  intro acc x5 x6 hn hl hT
  rw [List.length_cons] at hl hT
  obtain ⟨n1, t1⟩ := TT_pls hn q ts
  have l1 := pls_len acc q ts
  have gl := getL_le acc q.2
  have e1 : ((qs.length + 1 + 1 : Nat) : Int) * (ts.length : Int) = ((qs.length + 1 : Nat) : Int) * (ts.length : Int) + (ts.length : Int) := by
   rw [show ((qs.length + 1 + 1 : Nat) : Int) = ((qs.length + 1 : Nat) : Int) + 1 by omega, Int.add_mul, Int.one_mul]
  have e2 : ((qs.length + 1 : Nat) : Int) * (ts.length : Int) = (qs.length : Int) * (ts.length : Int) + (ts.length : Int) := by
   rw [show ((qs.length + 1 : Nat) : Int) = (qs.length : Int) + 1 by omega, Int.add_mul, Int.one_mul]
  have p0 : 0 ≤ ((qs.length + 1 : Nat) : Int) * (ts.length : Int) := Int.mul_nonneg (by omega) (by omega)
  have s := ends_in (m := m) (A := A) (D := D) (n := n) (k := q.2) (p := q.1) hD ht (acc := acc) (by omega) (by omega)
  obtain ⟨y5, y6, lp, a1, a2, a3⟩ := ih (pls acc q ts) (some (pr q.1)) (some (.int q.2)) n1 (by omega) (by rw [t1]; omega)
  refine ⟨y5, y6, ?_, a1, ?_, ?_⟩
  ·rw [List.map_cons]
   have ga : asgT 2 (asgCons (asgN 5) (asgCons (asgN 6) asgNil)) (encL q) [m, A, some (dL D), some (dL acc), some (.int n), x5, x6] = some [m, A, some (dL D), some (dL acc), some (.int n), some (pr q.1), some (.int q.2)] := rfl
   rw [loopD, ga, zzD, s, zzD]
   exact lp
  ·show TT (plf ts qs (pls acc q ts)) = _
   rw [a2, t1, List.length_cons, e2]; omega
  ·show (plf ts qs (pls acc q ts)).length ≤ _
   rw [List.length_cons]; omega
section
variable {u e l b : Int}
theorem ends_out (h : okN u e l b = true) (a : Nat) (ha : a < 4) {D acc : KL} {n : Int} {ts : SL} (hD : fndL D n = some ts) (ht : ∀ t ∈ ts, t.length ≤ 4) (hn : ndK (lenK acc)) (hl : acc.length + 48 < 900000) (hT : TT acc + 49 * (ts.length : Int) < 900000) {x5 x6 : Option PyData} :
  ∃ y5 y6, bLongerEnds1.1 [some (four u e l b), some (.int (a : Int)), some (dL D), some (dL acc), some (.int n), x5, x6] = some (.nx [some (four u e l b), some (.int (a : Int)), some (dL D), some (dL (plf ts (lps u e l b a n) acc)), some (.int n), y5, y6]) ∧ ndK (lenK (plf ts (lps u e l b a n) acc)) ∧ TT (plf ts (lps u e l b a n) acc) ≤ TT acc + 48 * (ts.length : Int) ∧ (plf ts (lps u e l b a n) acc).length ≤ acc.length + 48 := by
 have h1 := gLast_lps (n := n) h a ha
 have hq : (lps u e l b a n).length ≤ 48 := Nat.le_trans (lps_len u e l b a n) (rp_few h)
 have m1 : ((lps u e l b a n).length : Int) * (ts.length : Int) ≤ 48 * (ts.length : Int) := Int.mul_le_mul_of_nonneg_right (by omega) (by omega)
 obtain ⟨y5, y6, lp, b1, b2, b3⟩ := ends_loop (m := some (four u e l b)) (A := some (.int (a : Int))) hD ht (lps u e l b a n) acc x5 x6 hn (by omega) (by
  rw [show (((lps u e l b a n).length + 1 : Nat) : Int) = ((lps u e l b a n).length : Int) + 1 by omega, Int.add_mul, Int.one_mul]; omega)
 refine ⟨y5, y6, ?_, b1, by omega, by omega⟩
 generalize plf ts (lps u e l b a n) acc = acc' at *
 simp only [bLongerEnds1]
 refine (seq_nx (ρ1 := [some (four u e l b), some (.int (a : Int)), some (dL D), some (dL acc'), some (.int n), y5, y6]) ?_).trans rfl
 generalize dL D = DD at *
 simp only [forS, itS, hid, seqS, ifS, ifD, andB, orB, notB, tst, op2, chn, calD, tupD, lstD, consA, nilA, lkp, cst, retD, drpS, asgS, asgN, nxtS, nevS, asB, zzA, zzB, zzC, zzD, zzH, zzE, zzI, zzF, zzG, zzJ, zzK, Bool.false_eq_true, if_true, if_false, h1]
 exact lp
noncomputable def longL (u e l b : Int) (a : Nat) (D : KL) (ps acc : KL) : KL := ps.foldl (fun acc p => plf (getL D p.1) (lps u e l b a p.1) acc) acc
noncomputable def sz (ps : KL) : Int := (ps.map fun p => (p.2.length : Int)).sum
theorem ends_outs (h : okN u e l b = true) (a : Nat) (ha : a < 4) (D : KL) (ps : KL) : ∀ (acc : KL) (x4 x5 x6 : Option PyData), (∀ p ∈ ps, fndL D p.1 = some p.2 ∧ ∀ t ∈ p.2, t.length ≤ 4) → ndK (lenK acc) → acc.length + 48 * (ps.length + 1) < 900000 → TT acc + 49 * sz ps < 900000 →
  ∃ y4 y5 y6, loopD (asgN 4) bLongerEnds1.1 (ps.map fun p => .int p.1) [some (four u e l b), some (.int (a : Int)), some (dL D), some (dL acc), x4, x5, x6] = some (.nx [some (four u e l b), some (.int (a : Int)), some (dL D), some (dL (longL u e l b a D ps acc)), y4, y5, y6]) ∧ ndK (lenK (longL u e l b a D ps acc)) ∧ TT (longL u e l b a D ps acc) ≤ TT acc + 48 * sz ps ∧ (longL u e l b a D ps acc).length ≤ acc.length + 48 * ps.length := by
 induction ps with
 | nil => exact fun acc x4 x5 x6 _ hn _ _ => ⟨x4, x5, x6, rfl, hn, by simp [longL, sz], by simp [longL]⟩
 | cons p ps ih =>
  intro acc x4 x5 x6 hp hn hl hT
  have s0 : sz (p :: ps) = (p.2.length : Int) + sz ps := by simp [sz]
  have s1 : 0 ≤ sz ps := sum_nonneg fun x hx => by obtain ⟨q, _, rfl⟩ := List.mem_map.mp hx; omega
  rw [List.length_cons] at hl
  rw [s0] at hT
  obtain ⟨f1, f2⟩ := hp p List.mem_cons_self
  have gg : getL D p.1 = p.2 := by unfold getL; rw [f1]; rfl
  obtain ⟨y5, y6, st, c1, c2, c3⟩ := ends_out h a ha f1 f2 hn (by omega) (by omega) (x5 := x5) (x6 := x6)
  obtain ⟨z4, z5, z6, lp, d1, d2, d3⟩ := ih (plf p.2 (lps u e l b a p.1) acc) (some (.int p.1)) y5 y6 (fun q hq => hp q (List.mem_cons_of_mem _ hq)) c1 (by omega) (by omega)
  have eL : longL u e l b a D (p :: ps) acc = longL u e l b a D ps (plf p.2 (lps u e l b a p.1) acc) := by
   show longL u e l b a D ps (plf (getL D p.1) (lps u e l b a p.1) acc) = _
   rw [gg]
  rw [eL, s0, List.length_cons]
  refine ⟨z4, z5, z6, ?_, d1, by omega, by omega⟩
  rw [List.map_cons, loopD]
  simp only [asgN, zzF, zzG, zzD]
  rw [st, zzD]
  exact lp
end
end Rods
end
section
namespace Rods
open PySem L2 BX
open PyProof.Rows hiding St
theorem mem_plf {ts : SL} {x : Int} {t : List (Int × Int)} (qs : List ((Int × Int) × Int)) : ∀ acc : KL, t ∈ getL (plf ts qs acc) x ↔ t ∈ getL acc x ∨ ∃ q ∈ qs, q.2 = x ∧ ∃ t' ∈ ts, t = q.1 :: t' := by
 induction qs with
 | nil => exact fun acc => ⟨.inl, fun h => h.elim id fun ⟨q, hq, _⟩ => nomatch hq⟩
 | cons q qs ih =>
  intro acc
  show t ∈ getL (plf ts qs (pls acc q ts)) x ↔ _
  rw [ih, getL_pls]
  constructor
  ·rintro (h | ⟨q', h1, h2⟩)
   ·by_cases hx : x = q.2
    ·rw [if_pos hx] at h
     rcases List.mem_append.mp h with z | z
     ·exact .inl z
     ·obtain ⟨t', h3, rfl⟩ := List.mem_map.mp z
      exact .inr ⟨q, List.mem_cons_self, hx.symm, t', h3, rfl⟩
    ·rw [if_neg hx] at h; exact .inl h
   ·exact .inr ⟨q', List.mem_cons_of_mem _ h1, h2⟩
  ·rintro (h | ⟨q', h1, h2, t', h3, rfl⟩)
   ·left
    by_cases hx : x = q.2
    ·rw [if_pos hx]; exact List.mem_append_left _ h
    ·rw [if_neg hx]; exact h
   ·rcases List.mem_cons.mp h1 with rfl | z
    ·left
     rw [if_pos h2.symm]
     exact List.mem_append_right _ (List.mem_map.mpr ⟨t', h3, rfl⟩)
    ·exact .inr ⟨q', z, h2, t', h3, rfl⟩
section
variable {u e l b : Int}
theorem mem_longL {a : Nat} {D : KL} {x : Int} {t : List (Int × Int)} (ps : KL) : ∀ acc : KL, t ∈ getL (longL u e l b a D ps acc) x ↔ t ∈ getL acc x ∨ ∃ p ∈ ps, ∃ q ∈ lps u e l b a p.1, q.2 = x ∧ ∃ t' ∈ getL D p.1, t = q.1 :: t' := by
 induction ps with
 | nil => exact fun acc => ⟨.inl, fun h => h.elim id fun ⟨q, hq, _⟩ => nomatch hq⟩
 | cons p ps ih =>
  intro acc
  show t ∈ getL (longL u e l b a D ps (plf (getL D p.1) (lps u e l b a p.1) acc)) x ↔ _
  rw [ih, mem_plf]
  constructor
  ·rintro ((h | h) | ⟨p', h1, h2⟩)
   ·exact .inl h
   ·exact .inr ⟨p, List.mem_cons_self, h⟩
   ·exact .inr ⟨p', List.mem_cons_of_mem _ h1, h2⟩
  ·rintro (h | ⟨p', h1, h2⟩)
   ·exact .inl (.inl h)
   ·rcases List.mem_cons.mp h1 with rfl | z
    ·exact .inl (.inr h2)
    ·exact .inr ⟨p', z, h2⟩
theorem lefts_lps (a : Nat) (n : Int) : lefts u e l b a n = (lps u e l b a n).map (·.2) := by
 unfold lefts lps
 rw [rods_rp, List.filter_map, List.map_map, List.map_map]
 rfl
theorem lenK_plf (ts : SL) (qs : List ((Int × Int) × Int)) : ∀ acc : KL, lenK (plf ts qs acc) = (qs.map (·.2)).foldl (fun x k => addTo x k (ts.length : Int)) (lenK acc) := by
 induction qs with
 | nil => exact fun acc => rfl
 | cons q qs ih =>
  intro acc
  show lenK (plf ts qs (pls acc q ts)) = _
  rw [ih, lenK_pls]; rfl
theorem lenK_longL (a : Nat) (D : KL) (ps : KL) : ∀ acc : KL, lenK (longL u e l b a D ps acc) = (lenK ps).foldl (fun acc p => (lefts u e l b a p.1).foldl (fun x k => addTo x k (getK (lenK D) p.1)) acc) (lenK acc) := by
 induction ps with
 | nil => exact fun acc => rfl
 | cons p ps ih =>
  intro acc
  show lenK (longL u e l b a D ps (plf (getL D p.1) (lps u e l b a p.1) acc)) = _
  rw [ih, lenK_plf]
  show _ = (lenK ps).foldl _ ((lefts u e l b a p.1).foldl (fun x k => addTo x k (getK (lenK D) p.1)) (lenK acc))
  rw [lefts_lps, getK_len]
theorem lenK_long (a : Nat) (D : KL) : lenK (longL u e l b a D D []) = longF u e l b a (lenK D) := lenK_longL a D D []
theorem fndL_nd : ∀ {D : KL} {p : Int × SL}, ndK (lenK D) → p ∈ D → fndL D p.1 = some p.2
 | [], p, _, h => nomatch h
 | q :: D, p, hn, h => by
  have hn' : q.1 ∉ (lenK D).map (·.1) ∧ ((lenK D).map (·.1)).Nodup := by
   have : ((q.1, (q.2.length : Int)) :: lenK D).map (·.1) = q.1 :: (lenK D).map (·.1) := rfl
   unfold ndK at hn
   exact List.nodup_cons.mp hn
  rw [fndL_cons]
  rcases List.mem_cons.mp h with rfl | z
  ·rw [if_pos rfl]
  ·have : ¬ q.1 = p.1 := fun e => hn'.1 (by
    rw [e]
    exact List.mem_map.mpr ⟨(p.1, (p.2.length : Int)), List.mem_map.mpr ⟨p, z, rfl⟩, rfl⟩)
   rw [if_neg this]
   exact fndL_nd hn'.2 z
theorem getL_key {D : KL} {k : Int} {t : List (Int × Int)} (h : t ∈ getL D k) : ∃ p ∈ D, p.1 = k := by
 unfold getL fndL at h
 cases hq : D.find? fun p => decide (p.1 = k) with
 | none => rw [hq] at h; exact absurd h (by simp)
 | some p => exact ⟨p, List.mem_of_find?_eq_some hq, by simpa using List.find?_some hq⟩
noncomputable def MkD (u e l b N : Int) (r j : Nat) (D : KL) : Prop := ∀ k t, t ∈ getL D k ↔ (j = 0 ∨ (0 ≤ k ∧ k ≤ mostN u e l b (r - j))) ∧ t.length = j ∧ t.all (okP u l) = true ∧ k * b ^ j + val b e t = N
theorem mk_zero (N : Int) (r : Nat) : MkD u e l b N r 0 [(N, [[]])] := fun k t => by
 have : getL [(N, [[]])] k = if N = k then [[]] else [] := by
  unfold getL
  rw [fndL_cons]
  by_cases h : N = k
  ·rw [if_pos h, if_pos h]; rfl
  ·rw [if_neg h, if_neg h]; rfl
 rw [this]
 constructor
 ·intro h
  by_cases hk : N = k
  ·rw [if_pos hk] at h
   rw [List.mem_singleton.mp h]
   exact ⟨.inl rfl, rfl, rfl, by subst hk; simp [val]⟩
  ·rw [if_neg hk] at h; exact absurd h (by simp)
 ·rintro ⟨_, h1, h2, h3⟩
  have : t = [] := List.eq_nil_of_length_eq_zero h1
  subst this
  have : N = k := by simp [val] at h3; omega
  rw [if_pos this]
  exact List.mem_singleton.mpr rfl
theorem mk_step (h : okN u e l b = true) {N : Int} {r j : Nat} (hj : j < r) {D : KL} (H : MkD u e l b N r j D) : MkD u e l b N r (j + 1) (longL u e l b (r - (j + 1)) D D []) := fun k t => by
 obtain ⟨a1, a2, a3, a4, a5, a6, a7, a8, a9, a10⟩ := split_N h
 have hb : 0 < b := by omega
 rw [mem_longL]
 constructor
 ·rintro (z | ⟨q, hq, x, hx, hk, t', ht, rfl⟩)
  ·exact absurd z (by simp [getL, fndL])
  ·obtain ⟨p, hp, rfl⟩ := List.mem_map.mp hx
   obtain ⟨hp1, hp2⟩ := List.mem_filter.mp hp
   simp only [okQ, Bool.and_eq_true, decide_eq_true_eq] at hp2
   obtain ⟨o1, o2, o3⟩ := hp2
   obtain ⟨_, t1, t2, t3⟩ := (H _ _).mp ht
   have hd := Int.mul_ediv_add_emod (q.1 - wt e p) b
   have hk' : (q.1 - wt e p) / b = k := hk
   rw [o1, hk', Int.mul_comm] at hd
   have e1 : k * b + wt e p = q.1 := by omega
   refine ⟨.inr ⟨?_, ?_⟩, by rw [List.length_cons, t1], by rw [List.all_cons, rp_ok hp1, t2]; rfl, ?_⟩
   ·rw [← hk']; exact Int.ediv_nonneg o2 (by omega)
   ·rw [← hk']
    exact Int.le_of_lt_add_one (Int.ediv_lt_of_lt_mul hb (by
     have : (mostN u e l b (r - (j + 1)) + 1) * b = b * mostN u e l b (r - (j + 1)) + b := by rw [Int.add_mul, Int.mul_comm]; omega
     omega))
   ·show k * b ^ (j + 1) + val b e (p :: t') = N
    rw [val_cons, t1, ← t3, ← e1, Int.add_mul, Int.pow_succ, Int.mul_comm (b ^ j) b, ← Int.mul_assoc]
    omega
 ·rintro ⟨hk, t1, t2, t3⟩
  right
  obtain ⟨h0, h1⟩ := hk.resolve_left (by omega)
  cases t with
  | nil => cases t1
  | cons p t =>
   rw [List.all_cons, Bool.and_eq_true] at t2
   have t1' : t.length = j := by simpa using t1
   have w0 := wt_nn a3 t2.1
   obtain ⟨q1, q2, q3, q4⟩ := okP_split t2.1
   have w1 : wt e p ≤ wt e (u, l) := by
    have := Int.mul_le_mul_of_nonneg_right q2 (show 0 ≤ e by omega)
    unfold wt; show p.1 * e + p.2 ≤ u * e + l; omega
   have hr : r - j = (r - (j + 1)) + 1 := by omega
   have hm := mostN_succ (u := u) (e := e) (l := l) (b := b) (r - (j + 1))
   have hkb : k * b ≤ mostN u e l b (r - (j + 1)) * b := Int.mul_le_mul_of_nonneg_right h1 (by omega)
   have hkb0 : 0 ≤ k * b := Int.mul_nonneg h0 (by omega)
   have ht : t ∈ getL D (k * b + wt e p) := (H _ _).mpr ⟨.inr ⟨by omega, by rw [hr, hm]; omega⟩, t1', t2.2, by
    rw [val_cons, t1', Int.pow_succ, Int.mul_comm (b ^ j) b, ← Int.mul_assoc] at t3
    rw [Int.add_mul]; omega⟩
   obtain ⟨q, hq, hq1⟩ := getL_key ht
   have e1 : q.1 - wt e p = k * b := by omega
   refine ⟨q, hq, (p, k), List.mem_map.mpr ⟨p, List.mem_filter.mpr ⟨mem_rp t2.1, ?_⟩, ?_⟩, rfl, t, by rw [hq1]; exact ht, rfl⟩
   ·simp only [okQ, Bool.and_eq_true, decide_eq_true_eq]
    rw [e1]
    refine ⟨Int.mul_emod_left _ _, Int.mul_nonneg h0 (by omega), ?_⟩
    rw [Int.mul_comm]
    exact Int.mul_le_mul_of_nonneg_left h1 (by omega)
   ·rw [e1, Int.mul_ediv_cancel _ (by omega)]
theorem TT_sz (D : KL) : TT D = sz D := by
 unfold TT smK sz lenK
 rw [List.map_map]
 congr 1
 exact List.map_congr_left fun p _ => by simp
theorem keys_dL (kv : KL) : (BX.pairsOf (dL kv)).map (fun r => r.map (·.1)) = some (kv.map fun p => PyData.int p.1) := by
 show some ((encD kv).map (·.1)) = _
 simp [encD, List.map_map, Function.comp_def]
theorem ends_core {M A DD D' : PyData} {ks : List PyData} {y4 y5 y6 : Option PyData} (kk : (BX.pairsOf DD).map (fun r => r.map (·.1)) = some ks) (lp : loopD (asgN 4) bLongerEnds1.1 ks [some M, some A, some DD, some (.dict [(.none, .none)]), none, none, none] = some (.nx [some M, some A, some DD, some D', y4, y5, y6])) : gLongerEnds [M, A, DD] = some D' := by
 refine body_rt rfl ?_
 show bLongerEnds.1 [some M, some A, some DD, none, none, none, none] = _
 simp only [bLongerEnds]
 have key : ∀ {Y : Rho → Option Out} {d : PyData}, Y [some M, some A, some DD, some (.dict [(.none, .none)]), none, none, none] = some (.rt d) → newS 3 (cst (.dict [(.none, .none)])) Y [some M, some A, some DD, none, none, none, none] = some (.rt d) := fun {Y d} hy => by
  have l8 : 3 < [some M, some A, some DD, none, none, none, none].length := by simp
  simp only [newS, seqS, ifS, ifD, andB, orB, notB, tst, op2, chn, calD, tupD, lstD, consA, nilA, lkp, cst, retD, drpS, asgS, asgN, nxtS, nevS, asB, zzA, zzB, zzC, zzD, zzH, zzE, zzI, zzF, zzG, zzJ, zzK, Bool.false_eq_true, if_true, if_false, hy]
  rw [if_pos l8]
 refine key ?_
 refine (seq_nx (ρ1 := [some M, some A, some DD, some D', y4, y5, y6]) ?_).trans ?_
 ·simp only [forS, itD, hid, seqS, ifS, ifD, andB, orB, notB, tst, op2, chn, calD, tupD, lstD, consA, nilA, lkp, cst, retD, drpS, asgS, asgN, nxtS, nevS, asB, zzA, zzB, zzC, zzD, zzH, zzE, zzI, zzF, zzG, zzJ, zzK, Bool.false_eq_true, if_true, if_false, kk]
  exact lp
 simp only [seqS, ifS, ifD, andB, orB, notB, tst, op2, chn, calD, tupD, lstD, consA, nilA, lkp, cst, retD, drpS, asgS, asgN, nxtS, nevS, asB, zzA, zzB, zzC, zzD, zzH, zzE, zzI, zzF, zzG, zzJ, zzK, Bool.false_eq_true, if_true, if_false]
theorem gLongerEnds_eq (h : okN u e l b = true) (a : Nat) (ha : a < 4) {D : KL} (hn : ndK (lenK D)) (ht : ∀ p ∈ D, ∀ t ∈ p.2, t.length ≤ 4) (hl : 48 * (D.length + 1) < 900000) (hT : 49 * TT D < 900000) :
  gLongerEnds [four u e l b, .int (a : Int), dL D] = some (dL (longL u e l b a D D [])) ∧ ndK (lenK (longL u e l b a D D [])) ∧ TT (longL u e l b a D D []) ≤ 48 * TT D ∧ (longL u e l b a D D []).length ≤ 48 * D.length := by
 rw [TT_sz D] at hT
 have t0 : TT [] = 0 := rfl
 obtain ⟨y4, y5, y6, lp, b1, b2, b3⟩ := ends_outs h a ha D D [] none none none (fun p hp => ⟨fndL_nd hn hp, ht p hp⟩) (by simp [ndK, lenK]) (by simpa using hl) (by rw [t0]; omega)
 refine ⟨ends_core (keys_dL D) lp, b1, by rw [TT_sz D]; omega, by simpa using b3⟩
end
end Rods
end
section
namespace Rods
open PySem L2 BX
open PyProof.Rows hiding St
theorem alls_core {M R N D0 D' X Y : PyData} {RR : List PyData} {rr n : Int} {x4 : Option PyData} (hR : R = .int rr) (hN : N = .int n) (ga : gAsked [M, R, N] = some .none) (d0 : PyData.dict [(.none, .none), (.int n, .list [.tuple []])] = D0) (rg : rng3 [.int (rr - 1), .int (-1), .int (-1)] = some RR)
  (lp : loopD (asgN 4) bAllSettings1.1 RR [some M, some R, some N, some D0, none] = some (.nx [some M, some R, some N, some D', x4])) (g2 : dGet2 D' (.int 0) (.list []) = some X) (so : dSortS [X] = some Y) : gAllSettings [M, R, N] = some Y := by
 subst hR hN
 have s1 : dSub (.int rr) (.int 1) = some (.int (rr - 1)) := rfl
 have ng : dNeg (.int 1) = some (.int (-1)) := rfl
 refine body_rt rfl ?_
 show bAllSettings.1 [some M, some (.int rr), some (.int n), none, none] = _
 simp only [bAllSettings]
 refine (seq_nx (ρ1 := [some M, some (.int rr), some (.int n), none, none]) ?_).trans ?_
 ·simp only [seqS, ifS, ifD, andB, orB, notB, tst, op2, chn, calD, tupD, lstD, consA, nilA, lkp, cst, retD, drpS, asgS, asgN, nxtS, nevS, asB, zzA, zzB, zzC, zzD, zzH, zzE, zzI, zzF, zzG, zzJ, zzK, Bool.false_eq_true, if_true, if_false, ga]
 refine (seq_nx (ρ1 := [some M, some (.int rr), some (.int n), some D0, none]) ?_).trans ?_
 ·simp only [dct1, seqS, ifS, ifD, andB, orB, notB, tst, op2, chn, calD, tupD, lstD, consA, nilA, lkp, cst, retD, drpS, asgS, asgN, nxtS, nevS, asB, zzA, zzB, zzC, zzD, zzH, zzE, zzI, zzF, zzG, zzJ, zzK, Bool.false_eq_true, if_true, if_false, d0]
 refine (seq_nx (ρ1 := [some M, some (.int rr), some (.int n), some D', x4]) ?_).trans ?_
 ·simp only [forS, seqS, ifS, ifD, andB, orB, notB, tst, op2, chn, calD, tupD, lstD, consA, nilA, lkp, cst, retD, drpS, asgS, asgN, nxtS, nevS, asB, zzA, zzB, zzC, zzD, zzH, zzE, zzI, zzF, zzG, zzJ, zzK, Bool.false_eq_true, if_true, if_false, s1, ng, rg]
  exact lp
 simp only [get2D, seqS, ifS, ifD, andB, orB, notB, tst, op2, chn, calD, tupD, lstD, consA, nilA, lkp, cst, retD, drpS, asgS, asgN, nxtS, nevS, asB, zzA, zzB, zzC, zzD, zzH, zzE, zzI, zzF, zzG, zzJ, zzK, Bool.false_eq_true, if_true, if_false, few_nil, g2, so]
theorem alls_in {M A R N DD D' : PyData} (g : gLongerEnds [M, A, DD] = some D') : bAllSettings1.1 [some M, some R, some N, some DD, some A] = some (.nx [some M, some R, some N, some D', some A]) := by
 simp only [bAllSettings1, seqS, ifS, ifD, andB, orB, notB, tst, op2, chn, calD, tupD, lstD, consA, nilA, lkp, cst, retD, drpS, asgS, asgN, nxtS, nevS, asB, zzA, zzB, zzC, zzD, zzH, zzE, zzI, zzF, zzG, zzJ, zzK, Bool.false_eq_true, if_true, if_false, g]
section
variable {u e l b : Int}
theorem inS_of (h : okN u e l b = true) {r : Nat} (h1 : 1 ≤ r) {t : List (Int × Int)} (hl : t.length = r) (hp : t.all (okP u l) = true) : inS r t = true := by
 obtain ⟨a1, a2, a3, a4, a5, a6, a7, a8, a9, a10⟩ := split_N h
 simp only [inS, Bool.and_eq_true, decide_eq_true_eq]
 refine ⟨⟨hl, h1⟩, List.all_eq_true.mpr fun p hpp => ?_⟩
 obtain ⟨q1, q2, q3, q4⟩ := okP_split (List.all_eq_true.mp hp p hpp)
 simp only [inP, Bool.and_eq_true, decide_eq_true_eq]
 omega
theorem sort_ok {r : Nat} (L : SL) (hL : ∀ t ∈ L, inS r t = true) (h64 : L.length < 64) : dSortS [eS L] = some (eS (sortG rankS L)) := by
 have e1 : L.map sett = L.map settD := rfl
 show (settsD (L.map sett)).bind _ = _
 rw [e1, settsD_of, zzD]
 have ok : okSS L = true := by
  unfold okSS
  rw [decide_eq_true h64, Bool.true_and]
  refine List.all_eq_true.mpr fun t ht => ?_
  cases L with
  | nil => exact nomatch ht
  | cons x L =>
   have hx := hL x List.mem_cons_self
   have hxl : x.length = r := by simp only [inS, Bool.and_eq_true, decide_eq_true_eq] at hx; exact hx.1.1
   show inS x.length t = true
   rw [hxl]
   exact hL t ht
 rw [if_pos ok]
 rfl
theorem gAllS_eq (H : allN = true) (h : okN u e l b = true) {r : Nat} (h1 : 1 ≤ r) (h3 : r ≤ 3) {n : Int} (h0 : 0 ≤ n) (hn : n ≤ 99999) (hC : CN u e l b r n < 64) : ∃ L : SL, gAllSettings [four u e l b, .int (r : Int), .int n] = some (eS L) ∧ (∀ t, t ∈ L ↔ t.length = r ∧ t.all (okP u l) = true ∧ val b e t = n) ∧ (L.length : Int) = CN u e l b r n := by
 have ga := gAsked_eq H h (r := (r : Int)) (n := n) (by omega) (by omega) h0 hn
 have p48 : ∀ j : Nat, j ≤ 2 → (48 : Nat) ^ j ≤ 2304 := fun j hj => by
  rcases (show j = 0 ∨ j = 1 ∨ j = 2 by omega) with rfl | rfl | rfl <;> decide
 obtain ⟨ρ', hl, hI⟩ := loop_inv (ga := asgN 4) (F := bAllSettings1.1) (fun i ρ => ∃ D x4, ρ = [some (four u e l b), some (.int (r : Int)), some (.int n), some (dL D), x4] ∧ ndK (lenK D) ∧ MkD u e l b n r i D ∧ TT D ≤ ((48 ^ i : Nat) : Int) ∧ D.length ≤ 48 ^ i ∧ smK (lenK D) (CN u e l b (r - i)) = CN u e l b r n) ((List.range r).map fun (j : Nat) => .int (((r - (j + 1) : Nat) : Int))) 0
  [some (four u e l b), some (.int (r : Int)), some (.int n), some (dL [(n, [[]])]), none] ⟨_, _, rfl, by simp [ndK, lenK], mk_zero n r, by simp [TT, smK, lenK], by simp, by simp [smK, lenK]⟩ (fun j d ρ hd hi => by
   obtain ⟨hj, rfl⟩ := get_down hd
   obtain ⟨D, x4, rfl, i1, i2, i3, i4, i5⟩ := hi
   rw [Nat.zero_add] at i2 i3 i4 i5
   have pj := p48 j (by omega)
   have ht : ∀ p ∈ D, ∀ t ∈ p.2, t.length ≤ 4 := fun p hp t htt => by
    have := fndL_nd i1 hp
    have gg : getL D p.1 = p.2 := by unfold getL; rw [this]; rfl
    have := (i2 p.1 t).mp (by rw [gg]; exact htt)
    omega
   obtain ⟨g, n1, t1, l1⟩ := gLongerEnds_eq h (r - (j + 1)) (by omega) i1 ht (by omega) (by omega)
   have s2 := (how_step h (r - (j + 1)) i1).2
   rw [← lenK_long] at s2
   have ps : (48 : Nat) ^ (j + 1) = 48 * 48 ^ j := by rw [Nat.pow_succ, Nat.mul_comm]
   refine ⟨_, _, rfl, alls_in g, _, _, rfl, n1, by rw [Nat.zero_add]; exact mk_step h hj i2, ?_, ?_, ?_⟩
   ·rw [Nat.zero_add, ps]; omega
   ·rw [Nat.zero_add, ps]; omega
   ·rw [Nat.zero_add, s2, show r - (j + 1) + 1 = r - j by omega]; exact i5)
 obtain ⟨D, x4, rfl, i1, i2, i3, i4, i5⟩ := hI
 rw [List.length_map, List.length_range, Nat.zero_add] at i2
 rw [List.length_map, List.length_range, Nat.zero_add, Nat.sub_self, sm_zero i1, getK_len] at i5
 have mem : ∀ t, t ∈ getL D 0 ↔ t.length = r ∧ t.all (okP u l) = true ∧ val b e t = n := fun t => by
  rw [i2 0 t]
  constructor
  ·rintro ⟨_, k1, k2, k3⟩
   rw [Int.zero_mul] at k3
   exact ⟨k1, k2, by omega⟩
  ·rintro ⟨k1, k2, k3⟩
   exact ⟨.inr ⟨Int.le_refl _, by rw [Nat.sub_self]; exact Int.le_refl _⟩, k1, k2, by rw [Int.zero_mul]; omega⟩
 have so := sort_ok (r := r) (getL D 0) (fun t ht => by obtain ⟨k1, k2, _⟩ := (mem t).mp ht; exact inS_of h h1 k1 k2) (by omega)
 have g2 : dGet2 (dL D) (.int 0) (.list []) = some (eS (getL D 0)) := by
  show some ((valM (encD D) 0).getD (.list [])) = _
  rw [valM_encD]
  unfold getL
  cases fndL D 0 <;> rfl
 refine ⟨sortG rankS (getL D 0), alls_core rfl rfl ga rfl (rng3_down h1 h3) hl g2 so, fun t => ?_, ?_⟩
 ·rw [← mem t]; exact (sortG_perm rankS (getL D 0)).mem_iff
 ·rw [(sortG_perm rankS (getL D 0)).length_eq]; exact i5
end
end Rods
end
section
namespace Rods
open PySem L2 BX
open PyProof.Rows hiding St
theorem get_cntL {u e l : Int} (C : Chk u e l) (m : Nat) (hm : m < (u * e + l + 1).toNat) : (cntL u e l)[m]? = some (cnt u e l m) := by
 rw [C.lst, List.getElem?_map, List.getElem?_range hm]; rfl
theorem sum_cut (f : Nat → Int) {M : Nat} : ∀ N : Nat, M ≤ N → (∀ k, M ≤ k → k < N → f k = 0) → ((List.range N).map f).sum = ((List.range M).map f).sum
 | 0, h, _ => by rw [show M = 0 by omega]
 | N + 1, h, hz => by
  by_cases c : M = N + 1
  ·rw [c]
  ·rw [List.range_succ, List.map_append, List.sum_append, sum_cut f N (by omega) fun k h1 h2 => hz k h1 (by omega)]
   simp [hz N (by omega) (by omega)]
section
variable {u e l b : Int}
noncomputable def gW (u e l b : Int) (r : Nat) (n : Int) (k : Nat) : Int := if (n - (k : Int)) % b = 0 then cnt u e l (k : Int) * CN u e l b r ((n - (k : Int)) / b) else 0
theorem CN_gW (h : okN u e l b = true) (r : Nat) {n : Int} (h0 : 0 ≤ n) {M : Nat} (hM : (M : Int) = (if n < u * e + l then n else u * e + l) + 1) : CN u e l b (r + 1) n = ((List.range M).map (gW u e l b r n)).sum := by
 have bm := bnd_most h
 show ((rodsU u l).map fun x => if (n - worthOf e x) % b = 0 ∧ 0 ≤ n - worthOf e x then CN u e l b r ((n - worthOf e x) / b) else 0).sum = _
 rw [sum_worth (worthOf e) (fun w => if (n - w) % b = 0 ∧ 0 ≤ n - w then CN u e l b r ((n - w) / b) else 0) (u * e + l + 1).toNat (rodsU u l) (fun x hx => by have := worth_rng h hx; omega)]
 have hMN : M ≤ (u * e + l + 1).toNat := by split at hM <;> omega
 rw [sum_cut _ (M := M) _ hMN fun k h1 h2 => by
  have : ¬ ((n - (k : Int)) % b = 0 ∧ 0 ≤ n - (k : Int)) := fun z => by split at hM <;> omega
  rw [if_neg this, Int.mul_zero]]
 congr 1
 refine List.map_congr_left fun k hk => ?_
 have hk := List.mem_range.mp hk
 have hkn : 0 ≤ n - (k : Int) := by split at hM <;> omega
 unfold gW
 show cnt u e l (k : Int) * _ = _
 by_cases c : (n - (k : Int)) % b = 0
 ·rw [if_pos ⟨c, hkn⟩, if_pos c]
 ·rw [if_neg (fun z => c z.1), if_neg c, Int.mul_zero]
theorem part_in {m L : PyData} {rr n f w b' c v o : Int} {B : Bool} {x6 : Option PyData} (m3 : dIx m (.int 3) = some (.int b')) (md : dMod (.int (n - w)) (.int b') = some (.int o)) (eq : dEq (.int o) (.int 0) = some (.bool B)) (fd : B = true → dFdiv (.int (n - w)) (.int b') = some (.int ((n - w) / b'))) (ix : B = true → dIx L (.int w) = some (.int c)) (ml : B = true → dMul (.int c) (.int v) = some (.int (c * v)))
  (hw : B = true → (1 < rr ∧ gHow [m, .int (rr - 1), .int ((n - w) / b')] = some (.int v)) ∨ (¬ 1 < rr ∧ v = if (n - w) / b' = 0 then 1 else 0)) :
  ∃ y6, bLParted1.1 [some m, some (.int rr), some (.int n), some L, some (.int f), some (.int w), x6] = some (.nx [some m, some (.int rr), some (.int n), some L, some (.int (f + if B = true then c * v else 0)), some (.int w), y6]) := by
 have s1 : dSub (.int n) (.int w) = some (.int (n - w)) := rfl
 have s2 : dSub (.int rr) (.int 1) = some (.int (rr - 1)) := rfl
 cases B with
 | false =>
  refine ⟨x6, ?_⟩
  simp only [bLParted1, seqS, ifS, ifD, andB, orB, notB, tst, op2, chn, calD, tupD, lstD, consA, nilA, lkp, cst, retD, drpS, asgS, asgN, nxtS, nevS, asB, zzA, zzB, zzC, zzD, zzH, zzE, zzI, zzF, zzG, zzJ, zzK, Bool.false_eq_true, if_true, if_false, s1, m3, md, eq, Int.add_zero]
 | true =>
  have fd := fd rfl
  have ix := ix rfl
  have ml := ml rfl
  have aa : dAdd (.int f) (.int (c * v)) = some (.int (f + c * v)) := rfl
  refine ⟨some (.int ((n - w) / b')), ?_⟩
  have gt : dCmp (fun i j => decide (i > j)) (.int rr) (.int 1) = some (.bool (decide (rr > 1))) := rfl
  generalize (n - w) / b' = q at *
  rcases hw rfl with ⟨h1, hh⟩ | ⟨h1, hv⟩
  ·rw [decide_eq_true (show rr > 1 by omega)] at gt
   simp only [bLParted1, seqS, ifS, ifD, andB, orB, notB, tst, op2, chn, calD, tupD, lstD, consA, nilA, lkp, cst, retD, drpS, asgS, asgN, nxtS, nevS, asB, zzA, zzB, zzC, zzD, zzH, zzE, zzI, zzF, zzG, zzJ, zzK, Bool.false_eq_true, if_true, if_false, s1, m3, md, eq, fd, ix, gt, s2, hh, ml, aa]
  ·rw [decide_eq_false (show ¬ rr > 1 by omega)] at gt
   have e0 : dEq (.int q) (.int 0) = some (.bool (decide (q = 0))) := dEq_int q 0
   have i0 : dIntOf [.bool (decide (q = 0))] = some (.int v) := by
    show some (PyData.int (if decide (q = 0) = true then 1 else 0)) = _
    rw [hv]
    by_cases z : q = 0 <;> simp [z]
   simp only [bLParted1, seqS, ifS, ifD, andB, orB, notB, tst, op2, chn, calD, tupD, lstD, consA, nilA, lkp, cst, retD, drpS, asgS, asgN, nxtS, nevS, asB, zzA, zzB, zzC, zzD, zzH, zzE, zzI, zzF, zzG, zzJ, zzK, Bool.false_eq_true, if_true, if_false, s1, m3, md, eq, fd, ix, gt, e0, i0, ml, aa]
theorem part_core {M L : PyData} {RR : List PyData} {rr n mo F : Int} {y5 y6 : Option PyData} (ct : gCounts [M] = some L) (mt : gMost [M] = some (.int mo)) (rg : rng1 [.int ((if n < mo then n else mo) + 1)] = some RR) (lp : loopD (asgN 5) bLParted1.1 RR [some M, some (.int rr), some (.int n), some L, some (.int 0), none, none] = some (.nx [some M, some (.int rr), some (.int n), some L, some (.int F), y5, y6])) : gLParted [M, .int rr, .int n] = some (.int F) := by
 have mn : dMin2 [.int mo, .int n] = some (.int (if n < mo then n else mo)) := rfl
 have a1 : dAdd (.int (if n < mo then n else mo)) (.int 1) = some (.int ((if n < mo then n else mo) + 1)) := rfl
 generalize (if n < mo then n else mo) = K at *
 refine body_rt rfl ?_
 show bLParted.1 [some M, some (.int rr), some (.int n), none, none, none, none] = _
 simp only [bLParted]
 refine (seq_nx (ρ1 := [some M, some (.int rr), some (.int n), some L, none, none, none]) ?_).trans ?_
 ·simp only [seqS, ifS, ifD, andB, orB, notB, tst, op2, chn, calD, tupD, lstD, consA, nilA, lkp, cst, retD, drpS, asgS, asgN, nxtS, nevS, asB, zzA, zzB, zzC, zzD, zzH, zzE, zzI, zzF, zzG, zzJ, zzK, Bool.false_eq_true, if_true, if_false, ct]
 refine (seq_nx (ρ1 := [some M, some (.int rr), some (.int n), some L, some (.int 0), none, none]) ?_).trans ?_
 ·simp only [seqS, ifS, ifD, andB, orB, notB, tst, op2, chn, calD, tupD, lstD, consA, nilA, lkp, cst, retD, drpS, asgS, asgN, nxtS, nevS, asB, zzA, zzB, zzC, zzD, zzH, zzE, zzI, zzF, zzG, zzJ, zzK, Bool.false_eq_true, if_true, if_false]
 refine (seq_nx (ρ1 := [some M, some (.int rr), some (.int n), some L, some (.int F), y5, y6]) ?_).trans ?_
 ·simp only [forS, seqS, ifS, ifD, andB, orB, notB, tst, op2, chn, calD, tupD, lstD, consA, nilA, lkp, cst, retD, drpS, asgS, asgN, nxtS, nevS, asB, zzA, zzB, zzC, zzD, zzH, zzE, zzI, zzF, zzG, zzJ, zzK, Bool.false_eq_true, if_true, if_false, mt, mn, a1, rg]
  exact lp
 simp only [seqS, ifS, ifD, andB, orB, notB, tst, op2, chn, calD, tupD, lstD, consA, nilA, lkp, cst, retD, drpS, asgS, asgN, nxtS, nevS, asB, zzA, zzB, zzC, zzD, zzH, zzE, zzI, zzF, zzG, zzJ, zzK, Bool.false_eq_true, if_true, if_false]
theorem cnt_le (h : okN u e l b = true) (k : Int) : cnt u e l k ≤ 48 := by
 unfold cnt
 have h1 : ((rodsU u l).filter fun r => worthOf e r == k).length ≤ (rodsU u l).length := List.length_filter_le _ _
 have h2 := rp_few h
 rw [rp_len] at h2
 omega
theorem gLParted_eq (H : allN = true) (h : okN u e l b = true) {r : Nat} (h1 : 1 ≤ r) (h3 : r ≤ 3) {n : Int} (h0 : 0 ≤ n) (hn : n ≤ 99999) : gLParted [four u e l b, .int (r : Int), .int n] = some (.int (CN u e l b r n)) := by
 obtain ⟨a1, a2, a3, a4, a5, a6, a7, a8, a9, a10⟩ := split_N h
 have bm := bnd_most h
 have C := chk_ok H h
 obtain ⟨r, rfl⟩ : ∃ k, r = k + 1 := ⟨r - 1, by omega⟩
 obtain ⟨M, hM⟩ : ∃ M : Nat, (M : Int) = (if n < u * e + l then n else u * e + l) + 1 := ⟨((if n < u * e + l then n else u * e + l) + 1).toNat, by split <;> omega⟩
 have hM30 : M ≤ 30 := by split at hM <;> omega
 rw [CN_gW h r h0 hM]
 have rg : rng1 [.int ((if n < u * e + l then n else u * e + l) + 1)] = some (rngL 0 M) := by
  rw [← hM]; exact rg_nat (by omega)
 obtain ⟨ρ', lp, y5, y6, e'⟩ := loop_inv (ga := asgN 5) (F := bLParted1.1) (fun i ρ => ∃ y5 y6, ρ = [some (four u e l b), some (.int ((r + 1 : Nat) : Int)), some (.int n), some (.list ((cntL u e l).map .int)), some (.int ((List.range i).map (gW u e l b r n)).sum), y5, y6]) (rngL 0 M) 0
  [some (four u e l b), some (.int ((r + 1 : Nat) : Int)), some (.int n), some (.list ((cntL u e l).map .int)), some (.int 0), none, none] ⟨none, none, rfl⟩ (fun j d ρ hd hi => by
   obtain ⟨hj, rfl⟩ := rngL_get hd
   obtain ⟨x5, x6, rfl⟩ := hi
   rw [Nat.zero_add]
   have hjn : 0 ≤ n - (j : Int) ∧ j < (u * e + l + 1).toNat := by split at hM <;> omega
   have hl : (cntL u e l).length < 1000 := by rw [C.lst]; simp; omega
   have ixc : dIx (.list ((cntL u e l).map .int)) (.int (j : Int)) = some (.int (cnt u e l (j : Int))) := by
    have g := get_cntL C j hjn.2
    show (if ((cntL u e l).map PyData.int).length < 1000000 then atI ((cntL u e l).map PyData.int) (j : Int) else none) = _
    rw [if_pos (by rw [List.length_map]; omega)]
    unfold atI
    rw [ixN_of (by omega) (by rw [List.length_map]; have := (List.getElem?_eq_some_iff.mp g).1; simpa using this), zzD, List.getElem?_map, show ((j : Int)).toNat = j by simp, g]
    rfl
   have c48 := cnt_le h (j : Int)
   have c0 := cnt_nonneg u e l (j : Int)
   have dv : 0 ≤ (n - (j : Int)) / b ∧ (n - (j : Int)) / b ≤ 99999 := ⟨Int.ediv_nonneg hjn.1 (by omega), Int.le_trans (Int.ediv_le_self _ hjn.1) (by omega)⟩
   obtain ⟨y6, st⟩ := part_in (m := four u e l b) (L := .list ((cntL u e l).map .int)) (rr := ((r + 1 : Nat) : Int)) (n := n) (f := ((List.range j).map (gW u e l b r n)).sum) (w := (j : Int)) (b' := b) (c := cnt u e l (j : Int)) (v := CN u e l b r ((n - (j : Int)) / b)) (B := decide ((n - (j : Int)) % b = 0)) (x6 := x6) rfl (mod_pos (by omega)) (dEq_int _ 0) (fun _ => fdiv_pos (by omega) (by omega)) (fun _ => ixc) (fun _ => mul_small (by omega)) (fun _ => by
    cases r with
    | zero => exact .inr ⟨by omega, rfl⟩
    | succ r' =>
     refine .inl ⟨by omega, ?_⟩
     rw [show (((r' + 1 + 1 : Nat) : Int) - 1) = ((r' + 1 : Nat) : Int) by omega]
     exact gHow_eq H h (by omega) (by omega) dv.1 dv.2)
   refine ⟨_, _, rfl, st, some (.int (j : Int)), y6, ?_⟩
   have es : ((List.range (j + 1)).map (gW u e l b r n)).sum = ((List.range j).map (gW u e l b r n)).sum + if decide ((n - (j : Int)) % b = 0) = true then cnt u e l (j : Int) * CN u e l b r ((n - (j : Int)) / b) else 0 := by
    rw [List.range_succ, List.map_append, List.sum_append]
    simp [gW]
   rw [es])
 rw [rngL_len, Nat.zero_add] at e'
 subst e'
 exact part_core (counts_eq H h) (most_eq H h) rg lp
end
end Rods
end
section
namespace Rods
open PySem L2 BX
open PyProof.Rows hiding St
section
variable {u e l b : Int}
theorem CN_nn : ∀ (r : Nat) (n : Int), 0 ≤ CN u e l b r n
 | 0, n => by
  show 0 ≤ if n = 0 then (1 : Int) else 0
  split <;> omega
 | r + 1, n => by
  show 0 ≤ ((rodsU u l).map fun x => if (n - worthOf e x) % b = 0 ∧ 0 ≤ n - worthOf e x then CN u e l b r ((n - worthOf e x) / b) else 0).sum
  refine sum_nonneg fun y hy => ?_
  obtain ⟨x, _, rfl⟩ := List.mem_map.mp hy
  by_cases c : (n - worthOf e x) % b = 0 ∧ 0 ≤ n - worthOf e x
  ·simp only [if_pos c]; exact CN_nn r _
  ·simp only [if_neg c]; exact Int.le_refl _
theorem CN_pos (h : okN u e l b = true) : ∀ (r : Nat) (t : List (Int × Int)), t.length = r → t.all (okP u l) = true → 1 ≤ CN u e l b r (val b e t)
 | 0, t, h1, _ => by
  rw [List.eq_nil_of_length_eq_zero h1]
  show 1 ≤ if val b e [] = 0 then (1 : Int) else 0
  rw [if_pos (show val b e [] = 0 from rfl)]; exact Int.le_refl _
 | r + 1, t, h1, h2 => by
  obtain ⟨a1, a2, a3, a4, a5, a6, a7, a8, a9, a10⟩ := split_N h
  obtain ⟨t', p, rfl⟩ : ∃ t' p, t = t' ++ [p] := by
   have hne : t ≠ [] := fun z => by rw [z] at h1; cases h1
   exact ⟨t.dropLast, t.getLast hne, (List.dropLast_concat_getLast hne).symm⟩
  rw [List.all_append, Bool.and_eq_true] at h2
  have hp : okP u l p = true := by simpa using h2.2
  have hl : t'.length = r := by rw [List.length_append] at h1; simpa using h1
  have ih := CN_pos h r t' hl h2.1
  rw [val_snoc]
  have v0 := val_nn h h2.1
  refine Int.le_trans ih ?_
  show _ ≤ ((rodsU u l).map fun x => if (val b e t' * b + wt e p - worthOf e x) % b = 0 ∧ 0 ≤ val b e t' * b + wt e p - worthOf e x then CN u e l b r ((val b e t' * b + wt e p - worthOf e x) / b) else 0).sum
  refine sum_ge (fun y hy => ?_) (List.mem_map.mpr ⟨pr p, by rw [rods_rp]; exact List.mem_map.mpr ⟨p, mem_rp hp, rfl⟩, ?_⟩)
  ·obtain ⟨x, _, rfl⟩ := List.mem_map.mp hy
   by_cases c : (val b e t' * b + wt e p - worthOf e x) % b = 0 ∧ 0 ≤ val b e t' * b + wt e p - worthOf e x
   ·simp only [if_pos c]; exact CN_nn r _
   ·simp only [if_neg c]; exact Int.le_refl _
  ·have e1 : val b e t' * b + wt e p - worthOf e (pr p) = val b e t' * b := by
    show val b e t' * b + wt e p - wt e p = _
    omega
   rw [e1, if_pos ⟨Int.mul_emod_left _ _, Int.mul_nonneg v0 (by omega)⟩, Int.mul_ediv_cancel _ (by omega)]
theorem le_most (h : okN u e l b = true) {r : Nat} {t : List (Int × Int)} (h1 : t.length = r) (h2 : t.all (okP u l) = true) : val b e t ≤ mostN u e l b r := by
 have := CN_pos h r t h1 h2
 by_cases c : mostN u e l b r < val b e t
 ·rw [CN_zero h r _ c] at this; omega
 ·omega
noncomputable def chkTop : Bool := (List.range 4).all fun u => (List.range 6).all fun e => (List.range 12).all fun l => e == 0 || decide (cnt u e l ((u : Int) * e + l) = 1)
theorem chkTop_true : chkTop = true := by decide +kernel
theorem cnt_top (h : okN u e l b = true) : cnt u e l (u * e + l) = 1 := by
 obtain ⟨a1, a2, a3, a4, a5, a6, a7, a8, a9, a10⟩ := split_N h
 have k := chkTop_true
 unfold chkTop at k
 have k1 := List.all_eq_true.mp (List.all_eq_true.mp (List.all_eq_true.mp k u.toNat (List.mem_range.mpr (by omega))) e.toNat (List.mem_range.mpr (by omega))) l.toNat (List.mem_range.mpr (by omega))
 rw [Bool.or_eq_true] at k1
 rcases k1 with z | z
 ·have : e.toNat = 0 := by simpa using z
  omega
 ·have z := of_decide_eq_true z
  rw [show ((u.toNat : Nat) : Int) = u by omega, show ((e.toNat : Nat) : Int) = e by omega, show ((l.toNat : Nat) : Int) = l by omega] at z
  exact z
theorem most_nn (h : okN u e l b = true) (r : Nat) : 0 ≤ mostN u e l b r := val_nn h (all_full h r)
theorem CN_top (h : okN u e l b = true) : ∀ r : Nat, CN u e l b r (mostN u e l b r) = 1
 | 0 => rfl
 | r + 1 => by
  obtain ⟨a1, a2, a3, a4, a5, a6, a7, a8, a9, a10⟩ := split_N h
  have bm := bnd_most h
  have m0 := most_nn h r
  have hm := mostN_succ (u := u) (e := e) (l := l) (b := b) r
  have hw : wt e (u, l) = u * e + l := rfl
  rw [hw] at hm
  have mb : 0 ≤ mostN u e l b r * b := Int.mul_nonneg m0 (by omega)
  rw [CN_gW h r (n := mostN u e l b (r + 1)) (by omega) (M := (u * e + l).toNat + 1) (by rw [if_neg (by omega)]; omega)]
  have ih := CN_top h r
  rw [sum_one (gW u e l b r (mostN u e l b (r + 1))) (u * e + l).toNat ((u * e + l).toNat + 1) (by omega) fun k hk hne => ?_]
  ·unfold gW
   have e1 : mostN u e l b (r + 1) - (((u * e + l).toNat : Nat) : Int) = mostN u e l b r * b := by omega
   rw [e1, if_pos (Int.mul_emod_left _ _), Int.mul_ediv_cancel _ (by omega), ih, show (((u * e + l).toNat : Nat) : Int) = u * e + l by omega, cnt_top h]
   rfl
  ·unfold gW
   by_cases c : (mostN u e l b (r + 1) - (k : Int)) % b = 0
   ·rw [if_pos c, CN_zero h r _ ?_, Int.mul_zero]
    have hd := Int.mul_ediv_add_emod (mostN u e l b (r + 1) - (k : Int)) b
    rw [c, Int.add_zero] at hd
    refine Int.lt_of_not_ge fun z => ?_
    have : b * ((mostN u e l b (r + 1) - (k : Int)) / b) ≤ b * mostN u e l b r := Int.mul_le_mul_of_nonneg_left z (by omega)
    rw [Int.mul_comm b (mostN u e l b r)] at this
    omega
   ·rw [if_neg c]
theorem LB_at {r : Nat} {t : List (Int × Int)} (h1 : t.length = r) (h2 : t.all (okP u l) = true) : ∃ v, LB u e l b r (val b e t) = some v ∧ v ≤ bds t := (LB_min u e l b r (val b e t)).2 (bds t) ⟨t, h1, h2, rfl, rfl⟩
theorem LB_more {r : Nat} {n v : Int} (h : okN u e l b = true) (hv : LB u e l b r n = some v) : ∃ w, LB u e l b (r + 1) n = some w ∧ w ≤ v := by
 obtain ⟨a1, a2, a3, a4, a5, a6, a7, a8, a9, a10⟩ := split_N h
 obtain ⟨t, t1, t2, t3, t4⟩ := (LB_min u e l b r n).1 v hv
 refine (LB_min u e l b (r + 1) n).2 v ⟨(0, 0) :: t, by rw [List.length_cons, t1], ?_, ?_, ?_⟩
 ·rw [List.all_cons, t2, Bool.and_true]
  simp [okP]; omega
 ·rw [val_cons, t3]
  simp [wt]
 ·rw [bds_cons, t4]
  simp [bd]
theorem LB_none (h : okN u e l b = true) {r : Nat} {n : Int} (hn : mostN u e l b r < n) : LB u e l b r n = none := by
 cases hq : LB u e l b r n with
 | none => rfl
 | some v =>
  obtain ⟨t, t1, t2, t3, t4⟩ := (LB_min u e l b r n).1 v hq
  have := le_most h t1 t2
  omega
theorem dgl_more (hb : 0 < b) : ∀ (r : Nat) (n : Int), 1 ≤ r → 0 ≤ n → n < b ^ r → dgl b (r + 1) n = 0 :: dgl b r n
 | 0, n, h, _, _ => by omega
 | 1, n, _, h0, hn => by
  rw [show b ^ 1 = b from pw1 b] at hn
  show [n / b] ++ [n % b] = [0, n]
  rw [Int.ediv_eq_zero_of_lt h0 hn, Int.emod_eq_of_lt h0 hn]; rfl
 | k + 2, n, _, h0, hn => by
  show dgl b (k + 2) (n / b) ++ [n % b] = 0 :: (dgl b (k + 1) (n / b) ++ [n % b])
  rw [dgl_more hb (k + 1) (n / b) (by omega) (Int.ediv_nonneg h0 (by omega)) (div_lt_pw hb hn)]
  rfl
theorem pln_more (H : allN = true) (h : okN u e l b = true) {r : Nat} {n : Int} (h1 : 1 ≤ r) (h0 : 0 ≤ n) (hn : n < b ^ r) : pln (four u e l b) b (r + 1) n = (0, 0) :: pln (four u e l b) b r n := by
 obtain ⟨a1, a2, a3, a4, a5, a6, a7, a8, a9, a10⟩ := split_N h
 unfold pln
 rw [dgl_more (by omega) r n h1 h0 hn, List.map_cons, fpr0 H h]
 rfl
theorem gGreatest_eq (H : allN = true) (h : okN u e l b = true) {r : Nat} (h1 : 1 ≤ r) (h3 : r ≤ 3) : gGreatest [four u e l b, .int (r : Int)] = some (.int (mostN u e l b r)) := by
 have g1 := gCheck_eq (gIsM H h)
 have g2 : gChkRods [.int (r : Int)] = some .none := gChkR_eq (by omega) (by omega)
 have g3 := gFull_eq (u := u) (e := e) (l := l) (b := b) r (by omega)
 have g4 := gNum_eq (ps := List.replicate r (u, l)) h (by rw [List.length_replicate]; omega) (all_full h r)
 have g5 : val b e (List.replicate r (u, l)) = mostN u e l b r := rfl
 rw [g5] at g4
 generalize (r : Int) = rr at *
 refine body_rt rfl ?_
 show bGreatest.1 [some (four u e l b), some (.int rr)] = _
 simp only [bGreatest, seqS, ifS, ifD, andB, orB, notB, tst, op2, chn, calD, tupD, lstD, consA, nilA, lkp, cst, retD, drpS, asgS, asgN, nxtS, nevS, asB, zzA, zzB, zzC, zzD, zzH, zzE, zzI, zzF, zzG, zzJ, zzK, Bool.false_eq_true, if_true, if_false, g1, g2, g3, g4]
end
theorem foldl_min : ∀ (ns : List Int) (a : Int), let m := ns.foldl (fun a b => if decide (b < a) = true then b else a) a; (m = a ∨ m ∈ ns) ∧ m ≤ a ∧ ∀ x ∈ ns, m ≤ x
 | [], a => ⟨.inl rfl, Int.le_refl _, fun _ h => nomatch h⟩
 | n :: ns, a => by
  obtain ⟨h1, h2, h3⟩ := foldl_min ns (if decide (n < a) = true then n else a)
  simp only [List.foldl_cons]
  by_cases c : n < a
  ·rw [if_pos (decide_eq_true c)] at h1 h2 h3 ⊢
   refine ⟨.inr ?_, by omega, fun x hx => ?_⟩
   ·rcases h1 with z | z
    ·rw [z]; exact List.mem_cons_self
    ·exact List.mem_cons_of_mem _ z
   ·rcases List.mem_cons.mp hx with rfl | z
    ·exact h2
    ·exact h3 x z
  ·rw [if_neg (by simpa using c)] at h1 h2 h3 ⊢
   refine ⟨?_, h2, fun x hx => ?_⟩
   ·rcases h1 with z | z
    ·exact .inl z
    ·exact .inr (List.mem_cons_of_mem _ z)
   ·rcases List.mem_cons.mp hx with rfl | z
    ·omega
    ·exact h3 x z
theorem best_min {ns : List Int} {v : Int} (h1 : v ∈ ns) (h2 : ∀ x ∈ ns, v ≤ x) : dBest (fun i j => decide (i < j)) [.list (ns.map .int)] = some (.int v) := by
 show (insOf (ns.map PyData.int)).bind _ = _
 rw [insOf_self, zzD]
 cases ns with
 | nil => exact nomatch h1
 | cons n ns =>
  obtain ⟨k1, k2, k3⟩ := foldl_min ns n
  show (some (PyData.int (ns.foldl (fun a b => if decide (b < a) = true then b else a) n))) = _
  generalize ns.foldl (fun a b => if decide (b < a) = true then b else a) n = m at *
  have a1 : m ≤ v := by
   rcases List.mem_cons.mp h1 with rfl | z
   ·exact k2
   ·exact k3 v z
  have a2 : v ≤ m := by
   rcases k1 with z | z
   ·rw [z]; exact h2 n List.mem_cons_self
   ·exact h2 m (List.mem_cons_of_mem _ z)
  rw [show m = v by omega]
end Rods
end
section
namespace Rods
open PySem L2 BX
open PyProof.Rows hiding St
noncomputable abbrev nineS : Rho → Option Out := ifS (tst (op2 (dCmp fun i j => decide (i < j)) (lkp 5) (cst (.int 60))))
  (seqS (asgS (calD gAllSettings (consA (lkp 1) (consA (lkp 3) (consA (lkp 4) nilA)))) (asgN 7))
   (seqS (ifS (orB (tst (op2 (dIn true) (lkp 2) (lkp 7))) (orB (tst (op2 dNe (calD dLen (consA (lkp 7) nilA)) (lkp 5))) (tst (op2 dNe (compD (itS (lkp 7)) [none, some 4, some 1] (asgN 0) (tst (op2 dNe (calD gValue (consA (lkp 2) (consA (lkp 0) nilA))) (lkp 1))) (lkp 0)) (lstD nilA))))) (seqS (retD (cst (.bool false))) nxtS) nxtS)
    (seqS (ifS (tst (op2 dNe (calD (dBest fun i j => decide (i < j)) (consA (compD (itS (lkp 7)) [none, some 1] (asgN 0) truT (calD gAllBeads (consA (lkp 1) (consA (lkp 0) nilA)))) nilA)) (lkp 6))) (seqS (retD (cst (.bool false))) nxtS) nxtS) nxtS))) nxtS
theorem law_core {S M T PL WD : PyData} {RR : List PyData} {rr n c v fa sm tp bp lp0 : Int} {y9 : Option PyData} (hc1 : 1 ≤ c)
  (d0 : gManner [S, .int 0] = some M) (d1 : gSet [S, .int 10, M, .int 3] = some T) (ln : dLen [T] = some (.int rr)) (vl : gValue [M, T] = some (.int n)) (pt : gLParted [M, .int rr, .int n] = some (.int c)) (hw : gHow [M, .int rr, .int n] = some (.int c))
  (ls : gLeast [M, .int rr, .int n] = some (.int v)) (lm : rr < 3 → ∃ w, gLeast [M, .int (rr + 1), .int n] = some (.int w) ∧ w ≤ v)
  (h9 : c < 60 → ∃ (X : PyData) (xs zs : List PyData), gAllSettings [M, .int rr, .int n] = some X ∧ dIn true T X = some (.bool false) ∧ dLen [X] = some (.int c) ∧ items X = some xs ∧ few xs = true ∧ compL (asgN 0) (tst (op2 dNe (calD gValue (consA (lkp 2) (consA (lkp 0) nilA))) (lkp 1))) (lkp 0) xs [none, some (.int n), some M] = some [] ∧ compL (asgN 0) truT (calD gAllBeads (consA (lkp 1) (consA (lkp 0) nilA))) xs [none, some M] = some zs ∧ dBest (fun i j => decide (i < j)) [.list zs] = some (.int v))
  (rg : rng1 [.int rr] = some RR) (f1 : ∀ x7, loopD (asgN 9) bLaw1.1 RR [some S, some M, some T, some (.int rr), some (.int n), some (.int c), some (.int v), x7, some (.int 1), none, none, none, none, none] = some (.nx [some S, some M, some T, some (.int rr), some (.int n), some (.int c), some (.int v), x7, some (.int fa), y9, none, none, none, none])) (md : dMod (.int n) (.int fa) = some (.int sm)) (p1 : gPlainS [M, .int rr, .int sm] = some PL) (is : gIsSet [M, PL] = some (.bool true)) (pv : gValue [M, PL] = some (.int sm)) (ab : gAllBeads [M, PL] = some (.int bp)) (l2 : gLeast [M, .int rr, .int sm] = some (.int lp0)) (hle : lp0 ≤ bp)
  (p2 : gPlainS [M, .int (rr + 1), .int sm] = some WD) (ad : dAdd (.tuple [.tuple [.int 0, .int 0]]) PL = some WD) (nw : dNe WD WD = some (.bool false)) (gt : gGreatest [M, .int rr] = some (.int tp)) (hnt : n ≤ tp) (l3 : gLeast [M, .int rr, .int (tp + 1)] = some .none) (h1 : gHow [M, .int rr, .int tp] = some (.int 1)) (h2 : gHow [M, .int rr, .int (tp + 1)] = some (.int 0)) :
  bLaw.1 [some S, none, none, none, none, none, none, none, none, none, none, none, none, none] = some (.rt (.bool true)) := by
 have nc : dNe (.int c) (.int c) = some (.bool false) := by rw [ne_int]; simp
 have nv : dNe (.int v) (.int v) = some (.bool false) := by rw [ne_int]; simp
 have ns : dNe (.int sm) (.int sm) = some (.bool false) := by rw [ne_int]; simp
 have c1 : dCmp (fun i j => decide (i < j)) (.int c) (.int 1) = some (.bool false) := by
  show some (PyData.bool (decide (c < 1))) = _
  rw [decide_eq_false (by omega)]
 have a1 : dAdd (.int rr) (.int 1) = some (.int (rr + 1)) := rfl
 have a2 : dAdd (.int tp) (.int 1) = some (.int (tp + 1)) := rfl
 have c3 : dCmp (fun i j => decide (i < j)) (.int bp) (.int lp0) = some (.bool false) := by
  show some (PyData.bool (decide (bp < lp0))) = _
  rw [decide_eq_false (by omega)]
 have c4 : dCmp (fun i j => decide (i > j)) (.int n) (.int tp) = some (.bool false) := by
  show some (PyData.bool (decide (n > tp))) = _
  rw [decide_eq_false (by omega)]
 have nn : dNotN .none .none = some (.bool false) := rfl
 have n0 : dNe (.list []) (.list []) = some (.bool false) := by kernel_rfl
 have e10 : dEq (.list [.int 1, .int 0]) (.list [.int 1, .int 0]) = some (.bool true) := by kernel_rfl
 simp only [bLaw]
 refine (seq_nx (ρ1 := [some S, some M, none, none, none, none, none, none, none, none, none, none, none, none]) ?_).trans ?_
 ·simp only [seqS, ifS, ifD, andB, orB, notB, tst, op2, chn, calD, tupD, lstD, consA, nilA, lkp, cst, retD, drpS, asgS, asgN, nxtS, nevS, asB, zzA, zzB, zzC, zzD, zzH, zzE, zzI, zzF, zzG, zzJ, zzK, Bool.false_eq_true, if_true, if_false, d0]
 refine (seq_nx (ρ1 := [some S, some M, some T, none, none, none, none, none, none, none, none, none, none, none]) ?_).trans ?_
 ·simp only [seqS, ifS, ifD, andB, orB, notB, tst, op2, chn, calD, tupD, lstD, consA, nilA, lkp, cst, retD, drpS, asgS, asgN, nxtS, nevS, asB, zzA, zzB, zzC, zzD, zzH, zzE, zzI, zzF, zzG, zzJ, zzK, Bool.false_eq_true, if_true, if_false, d1]
 refine (seq_nx (ρ1 := [some S, some M, some T, some (.int rr), none, none, none, none, none, none, none, none, none, none]) ?_).trans ?_
 ·simp only [seqS, ifS, ifD, andB, orB, notB, tst, op2, chn, calD, tupD, lstD, consA, nilA, lkp, cst, retD, drpS, asgS, asgN, nxtS, nevS, asB, zzA, zzB, zzC, zzD, zzH, zzE, zzI, zzF, zzG, zzJ, zzK, Bool.false_eq_true, if_true, if_false, ln]
 refine (seq_nx (ρ1 := [some S, some M, some T, some (.int rr), some (.int n), none, none, none, none, none, none, none, none, none]) ?_).trans ?_
 ·simp only [seqS, ifS, ifD, andB, orB, notB, tst, op2, chn, calD, tupD, lstD, consA, nilA, lkp, cst, retD, drpS, asgS, asgN, nxtS, nevS, asB, zzA, zzB, zzC, zzD, zzH, zzE, zzI, zzF, zzG, zzJ, zzK, Bool.false_eq_true, if_true, if_false, vl]
 refine (seq_nx (ρ1 := [some S, some M, some T, some (.int rr), some (.int n), some (.int c), none, none, none, none, none, none, none, none]) ?_).trans ?_
 ·simp only [seqS, ifS, ifD, andB, orB, notB, tst, op2, chn, calD, tupD, lstD, consA, nilA, lkp, cst, retD, drpS, asgS, asgN, nxtS, nevS, asB, zzA, zzB, zzC, zzD, zzH, zzE, zzI, zzF, zzG, zzJ, zzK, Bool.false_eq_true, if_true, if_false, pt]
 refine (seq_nx (ρ1 := [some S, some M, some T, some (.int rr), some (.int n), some (.int c), none, none, none, none, none, none, none, none]) ?_).trans ?_
 ·simp only [seqS, ifS, ifD, andB, orB, notB, tst, op2, chn, calD, tupD, lstD, consA, nilA, lkp, cst, retD, drpS, asgS, asgN, nxtS, nevS, asB, zzA, zzB, zzC, zzD, zzH, zzE, zzI, zzF, zzG, zzJ, zzK, Bool.false_eq_true, if_true, if_false, hw, nc, c1]
 refine (seq_nx (ρ1 := [some S, some M, some T, some (.int rr), some (.int n), some (.int c), some (.int v), none, none, none, none, none, none, none]) ?_).trans ?_
 ·simp only [seqS, ifS, ifD, andB, orB, notB, tst, op2, chn, calD, tupD, lstD, consA, nilA, lkp, cst, retD, drpS, asgS, asgN, nxtS, nevS, asB, zzA, zzB, zzC, zzD, zzH, zzE, zzI, zzF, zzG, zzJ, zzK, Bool.false_eq_true, if_true, if_false, ls]
 refine (seq_nx (ρ1 := [some S, some M, some T, some (.int rr), some (.int n), some (.int c), some (.int v), none, none, none, none, none, none, none]) ?_).trans ?_
 ·have lt : dCmp (fun i j => decide (i < j)) (.int rr) (.int 3) = some (.bool (decide (rr < 3))) := rfl
  by_cases q : rr < 3
  ·obtain ⟨w, g, hwv⟩ := lm q
   have gg : dCmp (fun i j => decide (i > j)) (.int w) (.int v) = some (.bool false) := by
    show some (PyData.bool (decide (w > v))) = _
    rw [decide_eq_false (by omega)]
   rw [decide_eq_true q] at lt
   simp only [seqS, ifS, ifD, andB, orB, notB, tst, op2, chn, calD, tupD, lstD, consA, nilA, lkp, cst, retD, drpS, asgS, asgN, nxtS, nevS, asB, zzA, zzB, zzC, zzD, zzH, zzE, zzI, zzF, zzG, zzJ, zzK, Bool.false_eq_true, if_true, if_false, lt, a1, g, gg]
  ·rw [decide_eq_false q] at lt
   simp only [seqS, ifS, ifD, andB, orB, notB, tst, op2, chn, calD, tupD, lstD, consA, nilA, lkp, cst, retD, drpS, asgS, asgN, nxtS, nevS, asB, zzA, zzB, zzC, zzD, zzH, zzE, zzI, zzF, zzG, zzJ, zzK, Bool.false_eq_true, if_true, if_false, lt]
 obtain ⟨x7, s9⟩ : ∃ x7, nineS [some S, some M, some T, some (.int rr), some (.int n), some (.int c), some (.int v), none, none, none, none, none, none, none] = some (.nx [some S, some M, some T, some (.int rr), some (.int n), some (.int c), some (.int v), x7, none, none, none, none, none, none]) := by
  have lt : dCmp (fun i j => decide (i < j)) (.int c) (.int 60) = some (.bool (decide (c < 60))) := rfl
  by_cases q : c < 60
  ·obtain ⟨X, xs, zs, g1, g2, g3, g4, g5, g6, g7, g8⟩ := h9 q
   rw [decide_eq_true q] at lt
   refine ⟨some X, ?_⟩
   try simp only [seqS, ifS, ifD, andB, orB, notB, tst, op2, chn, calD, tupD, lstD, consA, nilA, lkp, cst, retD, drpS, asgS, asgN, nxtS, nevS, asB, zzA, zzB, zzC, zzD, zzH, zzE, zzI, zzF, zzG, zzJ, zzK, Bool.false_eq_true, if_true, if_false] at g6
   try simp only [seqS, ifS, ifD, andB, orB, notB, tst, op2, chn, calD, tupD, lstD, consA, nilA, lkp, cst, retD, drpS, asgS, asgN, nxtS, nevS, asB, zzA, zzB, zzC, zzD, zzH, zzE, zzI, zzF, zzG, zzJ, zzK, Bool.false_eq_true, if_true, if_false] at g7
   simp only [nineS, compD, itS, capR, List.map_cons, List.map_nil, seqS, ifS, ifD, andB, orB, notB, tst, op2, chn, calD, tupD, lstD, consA, nilA, lkp, cst, retD, drpS, asgS, asgN, nxtS, nevS, asB, zzA, zzB, zzC, zzD, zzH, zzE, zzI, zzF, zzG, zzJ, zzK, Bool.false_eq_true, if_true, if_false, lt, g1, g2, g3, nc, g4, g5, g6, few_nil, n0, g7, g8, nv]
  ·rw [decide_eq_false q] at lt
   refine ⟨none, ?_⟩
   simp only [nineS, seqS, ifS, ifD, andB, orB, notB, tst, op2, chn, calD, tupD, lstD, consA, nilA, lkp, cst, retD, drpS, asgS, asgN, nxtS, nevS, asB, zzA, zzB, zzC, zzD, zzH, zzE, zzI, zzF, zzG, zzJ, zzK, Bool.false_eq_true, if_true, if_false, lt]
 refine (seq_nx s9).trans ?_
 refine (seq_nx (ρ1 := [some S, some M, some T, some (.int rr), some (.int n), some (.int c), some (.int v), x7, some (.int 1), none, none, none, none, none]) ?_).trans ?_
 ·simp only [seqS, ifS, ifD, andB, orB, notB, tst, op2, chn, calD, tupD, lstD, consA, nilA, lkp, cst, retD, drpS, asgS, asgN, nxtS, nevS, asB, zzA, zzB, zzC, zzD, zzH, zzE, zzI, zzF, zzG, zzJ, zzK, Bool.false_eq_true, if_true, if_false, d0]
 refine (seq_nx (ρ1 := [some S, some M, some T, some (.int rr), some (.int n), some (.int c), some (.int v), x7, some (.int fa), y9, none, none, none, none]) ?_).trans ?_
 ·simp only [forS, seqS, ifS, ifD, andB, orB, notB, tst, op2, chn, calD, tupD, lstD, consA, nilA, lkp, cst, retD, drpS, asgS, asgN, nxtS, nevS, asB, zzA, zzB, zzC, zzD, zzH, zzE, zzI, zzF, zzG, zzJ, zzK, Bool.false_eq_true, if_true, if_false, rg]
  exact f1 x7
 refine (seq_nx (ρ1 := [some S, some M, some T, some (.int rr), some (.int n), some (.int c), some (.int v), x7, some (.int fa), y9, some (.int sm), none, none, none]) ?_).trans ?_
 ·simp only [seqS, ifS, ifD, andB, orB, notB, tst, op2, chn, calD, tupD, lstD, consA, nilA, lkp, cst, retD, drpS, asgS, asgN, nxtS, nevS, asB, zzA, zzB, zzC, zzD, zzH, zzE, zzI, zzF, zzG, zzJ, zzK, Bool.false_eq_true, if_true, if_false, md]
 refine (seq_nx (ρ1 := [some S, some M, some T, some (.int rr), some (.int n), some (.int c), some (.int v), x7, some (.int fa), y9, some (.int sm), some PL, none, none]) ?_).trans ?_
 ·simp only [seqS, ifS, ifD, andB, orB, notB, tst, op2, chn, calD, tupD, lstD, consA, nilA, lkp, cst, retD, drpS, asgS, asgN, nxtS, nevS, asB, zzA, zzB, zzC, zzD, zzH, zzE, zzI, zzF, zzG, zzJ, zzK, Bool.false_eq_true, if_true, if_false, p1]
 refine (seq_nx (ρ1 := [some S, some M, some T, some (.int rr), some (.int n), some (.int c), some (.int v), x7, some (.int fa), y9, some (.int sm), some PL, none, none]) ?_).trans ?_
 ·simp only [seqS, ifS, ifD, andB, orB, notB, tst, op2, chn, calD, tupD, lstD, consA, nilA, lkp, cst, retD, drpS, asgS, asgN, nxtS, nevS, asB, zzA, zzB, zzC, zzD, zzH, zzE, zzI, zzF, zzG, zzJ, zzK, Bool.false_eq_true, if_true, if_false, is, pv, ns]
 refine (seq_nx (ρ1 := [some S, some M, some T, some (.int rr), some (.int n), some (.int c), some (.int v), x7, some (.int fa), y9, some (.int sm), some PL, none, none]) ?_).trans ?_
 ·simp only [seqS, ifS, ifD, andB, orB, notB, tst, op2, chn, calD, tupD, lstD, consA, nilA, lkp, cst, retD, drpS, asgS, asgN, nxtS, nevS, asB, zzA, zzB, zzC, zzD, zzH, zzE, zzI, zzF, zzG, zzJ, zzK, Bool.false_eq_true, if_true, if_false, ab, l2, c3]
 refine (seq_nx (ρ1 := [some S, some M, some T, some (.int rr), some (.int n), some (.int c), some (.int v), x7, some (.int fa), y9, some (.int sm), some PL, some WD, none]) ?_).trans ?_
 ·simp only [seqS, ifS, ifD, andB, orB, notB, tst, op2, chn, calD, tupD, lstD, consA, nilA, lkp, cst, retD, drpS, asgS, asgN, nxtS, nevS, asB, zzA, zzB, zzC, zzD, zzH, zzE, zzI, zzF, zzG, zzJ, zzK, Bool.false_eq_true, if_true, if_false, a1, p2]
 refine (seq_nx (ρ1 := [some S, some M, some T, some (.int rr), some (.int n), some (.int c), some (.int v), x7, some (.int fa), y9, some (.int sm), some PL, some WD, none]) ?_).trans ?_
 ·simp only [seqS, ifS, ifD, andB, orB, notB, tst, op2, chn, calD, tupD, lstD, consA, nilA, lkp, cst, retD, drpS, asgS, asgN, nxtS, nevS, asB, zzA, zzB, zzC, zzD, zzH, zzE, zzI, zzF, zzG, zzJ, zzK, Bool.false_eq_true, if_true, if_false, ad, nw]
 refine (seq_nx (ρ1 := [some S, some M, some T, some (.int rr), some (.int n), some (.int c), some (.int v), x7, some (.int fa), y9, some (.int sm), some PL, some WD, some (.int tp)]) ?_).trans ?_
 ·simp only [seqS, ifS, ifD, andB, orB, notB, tst, op2, chn, calD, tupD, lstD, consA, nilA, lkp, cst, retD, drpS, asgS, asgN, nxtS, nevS, asB, zzA, zzB, zzC, zzD, zzH, zzE, zzI, zzF, zzG, zzJ, zzK, Bool.false_eq_true, if_true, if_false, gt]
 refine (seq_nx (ρ1 := [some S, some M, some T, some (.int rr), some (.int n), some (.int c), some (.int v), x7, some (.int fa), y9, some (.int sm), some PL, some WD, some (.int tp)]) ?_).trans ?_
 ·simp only [seqS, ifS, ifD, andB, orB, notB, tst, op2, chn, calD, tupD, lstD, consA, nilA, lkp, cst, retD, drpS, asgS, asgN, nxtS, nevS, asB, zzA, zzB, zzC, zzD, zzH, zzE, zzI, zzF, zzG, zzJ, zzK, Bool.false_eq_true, if_true, if_false, c4, a2, l3, nn]
 have it : items (.tuple [.int tp, .int (tp + 1)]) = some [.int tp, .int (tp + 1)] := rfl
 simp only [compD, itS, capR, List.map_cons, List.map_nil, compL, truT, seqS, ifS, ifD, andB, orB, notB, tst, op2, chn, calD, tupD, lstD, consA, nilA, lkp, cst, retD, drpS, asgS, asgN, nxtS, nevS, asB, zzA, zzB, zzC, zzD, zzH, zzE, zzI, zzF, zzG, zzJ, zzK, Bool.false_eq_true, if_true, if_false, a2, fw2, it, h1, h2, e10]
end Rods
end
section
namespace Rods
open PySem L2 BX
open PyProof.Rows hiding St
noncomputable def kF (ds : List PyData) (x : Option PyData) : Option PyData := ds.foldl (fun _ d => some d) x
theorem far_loop {S M T rr n c v : Option PyData} {u e l b : Int} (hb : 2 ≤ b ∧ b ≤ 16) (hM : M = some (four u e l b)) (ds : List PyData) : ∀ (f : Int) (x7 x9 : Option PyData), 0 ≤ f → f * 16 ^ ds.length < 1000000 → loopD (asgN 9) bLaw1.1 ds [S, M, T, rr, n, c, v, x7, some (.int f), x9, none, none, none, none] = some (.nx [S, M, T, rr, n, c, v, x7, some (.int (f * b ^ ds.length)), kF ds x9, none, none, none, none]) := by
 induction ds with
 | nil => intro f x7 x9 _ _; simp [loopD, kF]
 | cons d ds ih =>
  intro f x7 x9 h0 hf
  have p16 : (0 : Int) < 16 ^ ds.length := pw_pos (b := 16) (by decide) ds.length
  have e1 : f * 16 ^ (d :: ds).length = f * 16 * 16 ^ ds.length := by rw [List.length_cons, Int.pow_succ, Int.mul_comm (16 ^ ds.length) 16, Int.mul_assoc]
  rw [e1] at hf
  have f16 : f * 16 < 1000000 := by
   have : f * 16 * 1 ≤ f * 16 * 16 ^ ds.length := Int.mul_le_mul_of_nonneg_left (by omega) (by omega)
   omega
  have fb : f * b ≤ f * 16 := Int.mul_le_mul_of_nonneg_left hb.2 h0
  have fb0 : 0 ≤ f * b := Int.mul_nonneg h0 (by omega)
  have ml : dMul (.int f) (.int b) = some (.int (f * b)) := mul_small (by omega)
  have i3 : dIx (four u e l b) (.int 3) = some (.int b) := rfl
  have st : bLaw1.1 [S, M, T, rr, n, c, v, x7, some (.int f), some d, none, none, none, none] = some (.nx [S, M, T, rr, n, c, v, x7, some (.int (f * b)), some d, none, none, none, none]) := by
   rw [hM]
   simp only [bLaw1, seqS, ifS, ifD, andB, orB, notB, tst, op2, chn, calD, tupD, lstD, consA, nilA, lkp, cst, retD, drpS, asgS, asgN, nxtS, nevS, asB, zzA, zzB, zzC, zzD, zzH, zzE, zzI, zzF, zzG, zzJ, zzK, Bool.false_eq_true, if_true, if_false, i3, ml]
  have lp := ih (f * b) x7 (some d) fb0 (Int.lt_of_le_of_lt (Int.mul_le_mul_of_nonneg_right fb (by omega)) hf)
  have e2 : f * b ^ (d :: ds).length = f * b * b ^ ds.length := by rw [List.length_cons, Int.pow_succ, Int.mul_comm (b ^ ds.length) b, Int.mul_assoc]
  rw [e2]
  simp only [loopD, asgN, zzD, zzF, zzG, st]
  exact lp
section
variable {u e l b : Int}
theorem in_eS {ps : List (Int × Int)} {L : SL} (h : ps ∈ L) : dIn true (sett ps) (eS L) = some (.bool false) := by
 have o1 : okD (sett ps) = true := okD_sett ps
 have o2 : okD (eS L) = true := shl_ok (n := 4) (shl_lst.mpr fun d hd => by obtain ⟨t, _, rfl⟩ := List.mem_map.mp hd; exact shl_prs t) (by omega)
 have an : ((L.map sett).any fun z => PyData.eqv z (sett ps)) = true := by
  rw [List.any_map]
  exact List.any_eq_true.mpr ⟨ps, h, by show PyData.eqv (sett ps) (sett ps) = true; rw [eqv_sett]; simp⟩
 show (if okD (sett ps) = true ∧ okD (eS L) = true then some (PyData.bool (if true = true then !((L.map sett).any fun z => PyData.eqv z (sett ps)) else _)) else none) = _
 rw [if_pos ⟨o1, o2⟩, an]
 rfl
theorem vals_comp (H : allN = true) (h : okN u e l b = true) {n : Int} {L : SL} (hL : ∀ t ∈ L, okS u l t = true ∧ val b e t = n) : compL (asgN 0) (tst (op2 dNe (calD gValue (consA (lkp 2) (consA (lkp 0) nilA))) (lkp 1))) (lkp 0) (L.map sett) [none, some (.int n), some (four u e l b)] = some [] := by
 have nn : dNe (.int n) (.int n) = some (.bool false) := by rw [ne_int]; simp
 have q := compL_eq (ft := tst (op2 dNe (calD gValue (consA (lkp 2) (consA (lkp 0) nilA))) (lkp 1))) (fe := lkp 0) (i := 0) (fun _ => false) id (L.map sett) [none, some (.int n), some (four u e l b)] (fun d hd => by
  obtain ⟨t, ht, rfl⟩ := List.mem_map.mp hd
  have g := gValue_eq H h (hL t ht).1
  rw [(hL t ht).2] at g
  generalize sett t = Z at *
  simp only [seqS, ifS, ifD, andB, orB, notB, tst, op2, chn, calD, tupD, lstD, consA, nilA, lkp, cst, retD, drpS, asgS, asgN, nxtS, nevS, asB, zzA, zzB, zzC, zzD, zzH, zzE, zzI, zzF, zzG, zzJ, zzK, Bool.false_eq_true, if_true, if_false, g, nn]) (fun d hd z => by cases z)
 rw [q]
 simp
noncomputable def hB (m d : PyData) : PyData := match gAllBeads [m, d] with
 | some x => x
 | none => .none
theorem beads_comp (H : allN = true) (h : okN u e l b = true) {L : SL} (hL : ∀ t ∈ L, okS u l t = true) : compL (asgN 0) truT (calD gAllBeads (consA (lkp 1) (consA (lkp 0) nilA))) (L.map sett) [none, some (four u e l b)] = some ((L.map bds).map .int) := by
 have q := compL_eq (ft := truT) (fe := calD gAllBeads (consA (lkp 1) (consA (lkp 0) nilA))) (i := 0) (fun _ => true) (hB (four u e l b)) (L.map sett) [none, some (four u e l b)] (fun d hd => rfl) (fun d hd _ => by
  obtain ⟨t, ht, rfl⟩ := List.mem_map.mp hd
  have g := gAll_eq H h (hL t ht)
  have hb : hB (four u e l b) (sett t) = .int (bds t) := by unfold hB; rw [g]
  rw [hb]
  generalize sett t = Z at *
  simp only [seqS, ifS, ifD, andB, orB, notB, tst, op2, chn, calD, tupD, lstD, consA, nilA, lkp, cst, retD, drpS, asgS, asgN, nxtS, nevS, asB, zzA, zzB, zzC, zzD, zzH, zzE, zzI, zzF, zzG, zzJ, zzK, Bool.false_eq_true, if_true, if_false, g])
 rw [q, List.filter_eq_self.mpr fun _ _ => rfl, List.map_map, List.map_map]
 congr 1
 refine List.map_congr_left fun t ht => ?_
 show hB (four u e l b) (sett t) = .int (bds t)
 unfold hB
 rw [gAll_eq H h (hL t ht)]
theorem nine_ok (H : allN = true) (h : okN u e l b = true) {r : Nat} (h1 : 1 ≤ r) (h3 : r ≤ 3) {ps : List (Int × Int)} (hl : ps.length = r) (hp : ps.all (okP u l) = true) (hn : val b e ps ≤ 99999) {v : Int} (hv : LB u e l b r (val b e ps) = some v) (hc : CN u e l b r (val b e ps) < 60) :
  ∃ (X : PyData) (xs zs : List PyData), gAllSettings [four u e l b, .int (r : Int), .int (val b e ps)] = some X ∧ dIn true (sett ps) X = some (.bool false) ∧ dLen [X] = some (.int (CN u e l b r (val b e ps))) ∧ items X = some xs ∧ few xs = true ∧ compL (asgN 0) (tst (op2 dNe (calD gValue (consA (lkp 2) (consA (lkp 0) nilA))) (lkp 1))) (lkp 0) xs [none, some (.int (val b e ps)), some (four u e l b)] = some [] ∧ compL (asgN 0) truT (calD gAllBeads (consA (lkp 1) (consA (lkp 0) nilA))) xs [none, some (four u e l b)] = some zs ∧ dBest (fun i j => decide (i < j)) [.list zs] = some (.int v) := by
 obtain ⟨L, g, mem, len⟩ := gAllS_eq H h h1 h3 (val_nn h hp) hn (by omega)
 have hL : ∀ t ∈ L, okS u l t = true ∧ val b e t = val b e ps := fun t ht => by
  obtain ⟨k1, k2, k3⟩ := (mem t).mp ht
  exact ⟨okS_mk (by omega) (by omega) k2, k3⟩
 refine ⟨eS L, L.map sett, (L.map bds).map .int, g, in_eS ((mem ps).mpr ⟨hl, hp, rfl⟩), ?_, rfl, few_lt (by rw [List.length_map]; omega), vals_comp H h hL, beads_comp H h fun t ht => (hL t ht).1, ?_⟩
 ·show some (PyData.int ((L.map sett).length : Nat)) = _
  rw [List.length_map, len]
 ·obtain ⟨t, t1, t2, t3, t4⟩ := (LB_min u e l b r (val b e ps)).1 v hv
  refine best_min (List.mem_map.mpr ⟨t, (mem t).mpr ⟨t1, t2, t3⟩, t4⟩) fun x hx => ?_
  obtain ⟨s, hs, rfl⟩ := List.mem_map.mp hx
  obtain ⟨k1, k2, k3⟩ := (mem s).mp hs
  obtain ⟨m, hm, hle⟩ := (LB_min u e l b r (val b e ps)).2 (bds s) ⟨s, k1, k2, k3, rfl⟩
  rw [hv] at hm
  cases hm
  exact hle
end
theorem gLaw_true (H : allN = true) (ns : List Int) (hn : ns.length < 1000000) : gLaw [scr ns] = some (.bool true) := by
 obtain ⟨u, e, l, b, d0, om⟩ := gManner_ex ns hn 0 (by omega)
 have h := okM_okN om
 obtain ⟨a1, a2, a3, a4, a5, a6, a7, a8, a9, a10⟩ := split_N h
 obtain ⟨ps, d1, hs, hr3⟩ := gSet_ex' hn h (at_ := 10) (by omega) (mo := 3) (by omega) (by omega)
 obtain ⟨h1, h4, hp⟩ := okS_split hs
 obtain ⟨r, hr⟩ : ∃ r, r = ps.length := ⟨_, rfl⟩
 have r1 : 1 ≤ r := by omega
 have r3 : r ≤ 3 := by omega
 have pb : ∀ k : Nat, k ≤ 3 → (2 : Int) * 16 ^ k ≤ 8192 := fun k hk => by
  rcases (show k = 0 ∨ k = 1 ∨ k = 2 ∨ k = 3 by omega) with rfl | rfl | rfl | rfl <;> decide
 have vb := val_bd (e := e) h hp
 have p1 := pb ps.length (by omega)
 have v0 := val_nn (e := e) h hp
 have mb := val_bd (e := e) h (all_full h r)
 rw [List.length_replicate] at mb
 have p2 := pb r r3
 have mm : val b e (List.replicate r (u, l)) = mostN u e l b r := rfl
 rw [mm] at mb
 have m0 := most_nn h r
 obtain ⟨v, hv, _⟩ := LB_at (u := u) (e := e) (l := l) (b := b) hr.symm hp
 have hbp : 0 < b ^ r := pw_pos (b := b) (by omega) r
 have s0 : 0 ≤ val b e ps % b ^ r := Int.emod_nonneg _ (by omega)
 have s1 : val b e ps % b ^ r < b ^ r := Int.emod_lt_of_pos _ hbp
 have s2 : val b e ps % b ^ r ≤ val b e ps := by
  have k1 := Int.mul_ediv_add_emod (val b e ps) (b ^ r)
  have k2 : 0 ≤ b ^ r * (val b e ps / b ^ r) := Int.mul_nonneg (by omega) (Int.ediv_nonneg v0 (by omega))
  omega
 have s1' : val b e ps % b ^ r < b ^ (r + 1) := by
  have : b ^ r * 1 ≤ b ^ r * b := Int.mul_le_mul_of_nonneg_left (by omega) (by omega)
  rw [Int.pow_succ]; omega
 obtain ⟨w, hw, hwb⟩ := LB_plain H h r1 s0 s1
 have pok := pln_ok H h r1 (by omega) s0 s1
 have gv := gValue_eq H h pok
 rw [val_pln H h r _ r1 s0 s1] at gv
 have ls : gLeast [four u e l b, .int (r : Int), .int (val b e ps)] = some (.int v) := by
  rw [gLeast_eq H h r1 r3 v0 (by omega), hv]; rfl
 have l2 : gLeast [four u e l b, .int (r : Int), .int (val b e ps % b ^ r)] = some (.int w) := by
  rw [gLeast_eq H h r1 r3 s0 (by omega), hw]; rfl
 have l3 : gLeast [four u e l b, .int (r : Int), .int (mostN u e l b r + 1)] = some .none := by
  rw [gLeast_eq H h r1 r3 (by omega) (by omega), LB_none h (by omega)]; rfl
 have lm : (r : Int) < 3 → ∃ x, gLeast [four u e l b, .int ((r : Int) + 1), .int (val b e ps)] = some (.int x) ∧ x ≤ v := fun q => by
  obtain ⟨x, hx, hxv⟩ := LB_more h hv
  refine ⟨x, ?_, hxv⟩
  rw [show (r : Int) + 1 = ((r + 1 : Nat) : Int) by omega, gLeast_eq H h (by omega) (by omega) v0 (by omega), hx]; rfl
 have ht1 : gHow [four u e l b, .int (r : Int), .int (mostN u e l b r)] = some (.int 1) := by
  rw [gHow_eq H h r1 r3 m0 (by omega), CN_top h]
 have ht2 : gHow [four u e l b, .int (r : Int), .int (mostN u e l b r + 1)] = some (.int 0) := by
  rw [gHow_eq H h r1 r3 (by omega) (by omega), CN_zero h r _ (by omega)]
 have pw2 := gPlainS_eq H h (r := r + 1) (by omega) (by omega) s0 s1'
 rw [pln_more H h r1 s0 s1, show ((r + 1 : Nat) : Int) = (r : Int) + 1 by omega] at pw2
 have ad : dAdd (.tuple [.tuple [.int 0, .int 0]]) (sett (pln (four u e l b) b r (val b e ps % b ^ r))) = some (sett ((0, 0) :: pln (four u e l b) b r (val b e ps % b ^ r))) := add_tup (.inr trivial) (by rw [List.length_map, pln_len]; simp; omega)
 have nw : dNe (sett ((0, 0) :: pln (four u e l b) b r (val b e ps % b ^ r))) (sett ((0, 0) :: pln (four u e l b) b r (val b e ps % b ^ r))) = some (.bool false) := by rw [ne_sett]; simp
 have rg : rng1 [.int (r : Int)] = some (rngL 0 r) := rg_nat (by omega)
 have f1 := fun x7 => far_loop (S := some (scr ns)) (M := some (four u e l b)) (T := some (sett ps)) (rr := some (.int (r : Int))) (n := some (.int (val b e ps))) (c := some (.int (CN u e l b r (val b e ps)))) (v := some (.int v)) (hb := ⟨a8, a9⟩) rfl (rngL 0 r) 1 x7 none (by omega) (by rw [rngL_len]; omega)
 rw [rngL_len, Int.one_mul] at f1
 have ln : dLen [sett ps] = some (.int (r : Int)) := by rw [len_sett, hr]
 have h9 := nine_ok H h r1 r3 hr.symm hp (by omega) hv
 have cp := CN_pos (e := e) h r ps hr.symm hp
 have md : dMod (.int (val b e ps)) (.int (b ^ r)) = some (.int (val b e ps % b ^ r)) := mod_pos hbp
 refine body_rt rfl ?_
 show bLaw.1 [some (scr ns), none, none, none, none, none, none, none, none, none, none, none, none, none] = _
 exact law_core cp d0 d1 ln (gValue_eq H h hs) (gLParted_eq H h r1 r3 v0 (by omega)) (gHow_eq H h r1 r3 v0 (by omega)) ls lm h9 rg f1 md (gPlainS_eq H h r1 (by omega) s0 s1) (gIsSet_eq H h pok) gv (gAll_eq H h pok) l2 hwb pw2 ad nw (gGreatest_eq H h r1 r3) (le_most h hr.symm hp) l3 ht1 ht2
end Rods
end
section
namespace BX
open PySem L2
open PyProof.Rows hiding St
end BX
namespace Rods
open PySem L2 BX
open PyProof.Rows hiding St
structure Tops (K : PySem.W.Frag) : Prop where
 isWhole : TopFn K "is_whole" sIsWhole
 rodWorth : TopFn K "rod_worth" sRodWorth
 beads : TopFn K "beads" sBeads
 allRods : TopFn K "all_rods" sAllRods
 hasAll : TopFn K "has_all_digits" sHasAll
 isManner : TopFn K "is_manner" sIsManner
 check : TopFn K "check_manner" sCheck
 rodsWith : TopFn K "rods_with" sRodsWith
 fewest : TopFn K "fewest_beads" sFewest
 most : TopFn K "most_on_rod" sMost
 counts : TopFn K "counts" sCounts
 chkRods : TopFn K "check_rods" sCheckRods
 chkNum : TopFn K "check_number" sCheckNumber
 asked : TopFn K "check_asked" sCheckAsked
 num : TopFn K "number_on" sNumberOn
 full : TopFn K "full_rods" sFullRods
 last : TopFn K "last_rods" sLastRods
 digits : TopFn K "digits_by_rods" sDigits
 plainR : TopFn K "plain_rods" sPlainR
 plainS : TopFn K "plain_setting" sPlainS
 isRod : TopFn K "is_rod" sIsRod
 isSet : TopFn K "is_setting" sIsSetting
 chkSet : TopFn K "check_setting" sCheckSetting
 allBeads : TopFn K "all_beads" sAllBeads
 longF : TopFn K "longer_fewest" sLongF
 least : TopFn K "least_beads" sLeast
 cell : TopFn K "_law_cell" sCell
 drawn : TopFn K "_law_drawn" sDrawn
 manner : TopFn K "_law_manner" sManner
 value : TopFn K "value" sValue
 longer : TopFn K "longer_ways" sLonger
 how : TopFn K "how_many" sHowMany
 setting : TopFn K "_law_setting" sSetting
 Greatest : TopFn K "greatest" sGreatest
 LongerEnds : TopFn K "longer_ends" sLongerEnds
 AllSettings : TopFn K "all_settings" sAllSettings
 LParted : TopFn K "_law_parted" sLParted
 law : TopFn K "law" sLaw
structure Consts (K : PySem.W.Frag) (mg : Str → Option Value) : Prop where
 b : Bare mg
 least : GC K mg "LEAST_PARTS" (.tuple [.int 0, .int 1, .int 0, .int 2])
 most : GC K mg "MOST_PARTS" (.tuple [.int 3, .int 16, .int 12, .int 16])
 mostRods : GC K mg "MOST_RODS" (.int 4)
 mostNumber : GC K mg "MOST_NUMBER" (.int 99999)
theorem pa_isWhole : PlainArgs "is_whole" sIsWhole ["thing", "least", "most"] := fun _ _ _ _ _ _ us hl => by obtain ⟨v0, v1, v2, rfl⟩ := pal3 us hl; rfl
theorem pa_rodWorth : PlainArgs "rod_worth" sRodWorth ["manner", "rod"] := fun _ _ _ _ _ _ us hl => by obtain ⟨v0, v1, rfl⟩ := pal2 us hl; rfl
theorem pa_beads : PlainArgs "beads" sBeads ["rod"] := fun _ _ _ _ _ _ us hl => by obtain ⟨v0, rfl⟩ := pal1 us hl; rfl
theorem pa_allRods : PlainArgs "all_rods" sAllRods ["manner"] := fun _ _ _ _ _ _ us hl => by obtain ⟨v0, rfl⟩ := pal1 us hl; rfl
theorem pa_hasAll : PlainArgs "has_all_digits" sHasAll ["manner"] := fun _ _ _ _ _ _ us hl => by obtain ⟨v0, rfl⟩ := pal1 us hl; rfl
theorem pa_isManner : PlainArgs "is_manner" sIsManner ["thing"] := fun _ _ _ _ _ _ us hl => by obtain ⟨v0, rfl⟩ := pal1 us hl; rfl
theorem pa_check : PlainArgs "check_manner" sCheck ["thing"] := fun _ _ _ _ _ _ us hl => by obtain ⟨v0, rfl⟩ := pal1 us hl; rfl
theorem pa_rodsWith : PlainArgs "rods_with" sRodsWith ["manner", "worth"] := fun _ _ _ _ _ _ us hl => by obtain ⟨v0, v1, rfl⟩ := pal2 us hl; rfl
theorem pa_fewest : PlainArgs "fewest_beads" sFewest ["manner", "worth"] := fun _ _ _ _ _ _ us hl => by obtain ⟨v0, v1, rfl⟩ := pal2 us hl; rfl
theorem pa_most : PlainArgs "most_on_rod" sMost ["manner"] := fun _ _ _ _ _ _ us hl => by obtain ⟨v0, rfl⟩ := pal1 us hl; rfl
theorem pa_counts : PlainArgs "counts" sCounts ["manner"] := fun _ _ _ _ _ _ us hl => by obtain ⟨v0, rfl⟩ := pal1 us hl; rfl
theorem pa_chkRods : PlainArgs "check_rods" sCheckRods ["rods"] := fun _ _ _ _ _ _ us hl => by obtain ⟨v0, rfl⟩ := pal1 us hl; rfl
theorem pa_chkNum : PlainArgs "check_number" sCheckNumber ["number"] := fun _ _ _ _ _ _ us hl => by obtain ⟨v0, rfl⟩ := pal1 us hl; rfl
theorem pa_asked : PlainArgs "check_asked" sCheckAsked ["manner", "rods", "number"] := fun _ _ _ _ _ _ us hl => by obtain ⟨v0, v1, v2, rfl⟩ := pal3 us hl; rfl
theorem pa_num : PlainArgs "number_on" sNumberOn ["manner", "setting"] := fun _ _ _ _ _ _ us hl => by obtain ⟨v0, v1, rfl⟩ := pal2 us hl; rfl
theorem pa_full : PlainArgs "full_rods" sFullRods ["manner", "rods"] := fun _ _ _ _ _ _ us hl => by obtain ⟨v0, v1, rfl⟩ := pal2 us hl; rfl
theorem pa_last : PlainArgs "last_rods" sLastRods ["manner", "ahead", "number"] := fun _ _ _ _ _ _ us hl => by obtain ⟨v0, v1, v2, rfl⟩ := pal3 us hl; rfl
theorem pa_digits : PlainArgs "digits_by_rods" sDigits ["base", "rods", "number"] := fun _ _ _ _ _ _ us hl => by obtain ⟨v0, v1, v2, rfl⟩ := pal3 us hl; rfl
theorem pa_plainR : PlainArgs "plain_rods" sPlainR ["manner", "rods", "number"] := fun _ _ _ _ _ _ us hl => by obtain ⟨v0, v1, v2, rfl⟩ := pal3 us hl; rfl
theorem pa_plainS : PlainArgs "plain_setting" sPlainS ["manner", "rods", "number"] := fun _ _ _ _ _ _ us hl => by obtain ⟨v0, v1, v2, rfl⟩ := pal3 us hl; rfl
theorem pa_isRod : PlainArgs "is_rod" sIsRod ["manner", "thing"] := fun _ _ _ _ _ _ us hl => by obtain ⟨v0, v1, rfl⟩ := pal2 us hl; rfl
theorem pa_isSet : PlainArgs "is_setting" sIsSetting ["manner", "thing"] := fun _ _ _ _ _ _ us hl => by obtain ⟨v0, v1, rfl⟩ := pal2 us hl; rfl
theorem pa_chkSet : PlainArgs "check_setting" sCheckSetting ["manner", "thing"] := fun _ _ _ _ _ _ us hl => by obtain ⟨v0, v1, rfl⟩ := pal2 us hl; rfl
theorem pa_allBeads : PlainArgs "all_beads" sAllBeads ["manner", "setting"] := fun _ _ _ _ _ _ us hl => by obtain ⟨v0, v1, rfl⟩ := pal2 us hl; rfl
theorem pa_longF : PlainArgs "longer_fewest" sLongF ["manner", "ahead", "fewest"] := fun _ _ _ _ _ _ us hl => by obtain ⟨v0, v1, v2, rfl⟩ := pal3 us hl; rfl
theorem pa_least : PlainArgs "least_beads" sLeast ["manner", "rods", "number"] := fun _ _ _ _ _ _ us hl => by obtain ⟨v0, v1, v2, rfl⟩ := pal3 us hl; rfl
theorem pa_cell : PlainArgs "_law_cell" sCell ["_law_script", "_law_k"] := fun _ _ _ _ _ _ us hl => by obtain ⟨v0, v1, rfl⟩ := pal2 us hl; rfl
theorem pa_drawn : PlainArgs "_law_drawn" sDrawn ["_law_script", "_law_k", "_law_many"] := fun _ _ _ _ _ _ us hl => by obtain ⟨v0, v1, v2, rfl⟩ := pal3 us hl; rfl
theorem pa_manner : PlainArgs "_law_manner" sManner ["_law_script", "_law_at"] := fun _ _ _ _ _ _ us hl => by obtain ⟨v0, v1, rfl⟩ := pal2 us hl; rfl
theorem pa_value : PlainArgs "value" sValue ["manner", "setting"] := fun _ _ _ _ _ _ us hl => by obtain ⟨v0, v1, rfl⟩ := pal2 us hl; rfl
theorem pa_longer : PlainArgs "longer_ways" sLonger ["manner", "ahead", "ways"] := fun _ _ _ _ _ _ us hl => by obtain ⟨v0, v1, v2, rfl⟩ := pal3 us hl; rfl
theorem pa_how : PlainArgs "how_many" sHowMany ["manner", "rods", "number"] := fun _ _ _ _ _ _ us hl => by obtain ⟨v0, v1, v2, rfl⟩ := pal3 us hl; rfl
theorem pa_setting : PlainArgs "_law_setting" sSetting ["_law_script", "_law_at", "_law_manner_here", "_law_most"] := fun _ _ _ _ _ _ us hl => by obtain ⟨v0, v1, v2, v3, rfl⟩ := pal4 us hl; rfl
theorem pa_Greatest : PlainArgs "greatest" sGreatest ["manner", "rods"] := fun _ _ _ _ _ _ us hl => by obtain ⟨v0, v1, rfl⟩ := pal2 us hl; rfl
theorem pa_LongerEnds : PlainArgs "longer_ends" sLongerEnds ["manner", "ahead", "ends"] := fun _ _ _ _ _ _ us hl => by obtain ⟨v0, v1, v2, rfl⟩ := pal3 us hl; rfl
theorem pa_AllSettings : PlainArgs "all_settings" sAllSettings ["manner", "rods", "number"] := fun _ _ _ _ _ _ us hl => by obtain ⟨v0, v1, v2, rfl⟩ := pal3 us hl; rfl
theorem pa_LParted : PlainArgs "_law_parted" sLParted ["_law_manner_here", "_law_rods_here", "_law_number"] := fun _ _ _ _ _ _ us hl => by obtain ⟨v0, v1, v2, rfl⟩ := pal3 us hl; rfl
theorem claw (HT : allN = true) {P : Program} {w : World} {K : PySem.W.Frag} {h : Heap} {mg : Str → Option Value} {base : Heap} (X : K.In h) (G : h.Ns mainGlobals mg) (T : Tops K) (C : Consts K mg) : CLaw P w K mg base := by
 have c_isWhole : Callee P w K mg base "is_whole" ["thing", "least", "most"] 1 3 gIsWhole := T.isWhole.callee X G pa_isWhole fun f fd F => fn_pure F sc_isWhole fun cdv A outer s H E hr => bIsWhole.2 P w K mg base f cdv A outer s H E C.b hr
 have c_rodWorth : Callee P w K mg base "rod_worth" ["manner", "rod"] 1 2 gRodWorth := T.rodWorth.callee X G pa_rodWorth fun f fd F => fn_pure F sc_rodWorth fun cdv A outer s H E hr => bRodWorth.2 P w K mg base f cdv A outer s H E trivial hr
 have c_beads : Callee P w K mg base "beads" ["rod"] 1 1 gBeads := T.beads.callee X G pa_beads fun f fd F => fn_pure F sc_beads fun cdv A outer s H E hr => bBeads.2 P w K mg base f cdv A outer s H E trivial hr
 have c_allRods : Callee P w K mg base "all_rods" ["manner"] 1 1 gAllRods := T.allRods.callee X G pa_allRods fun f fd F => ok_allRods F C.b
 have c_hasAll : Callee P w K mg base "has_all_digits" ["manner"] 2 1 gHasAll := T.hasAll.callee X G pa_hasAll fun f fd F => fn_pure F sc_hasAll fun cdv A outer s H E hr => bHasAll.2 P w K mg base f cdv A outer s H E ⟨C.b, c_allRods, c_rodWorth⟩ hr
 have c_isManner : Callee P w K mg base "is_manner" ["thing"] 3 1 gIsManner := T.isManner.callee X G pa_isManner fun f fd F => fn_pure F sc_isManner fun cdv A outer s H E hr => bIsManner.2 P w K mg base f cdv A outer s H E ⟨C.b, C.least, C.most, c_isWhole, c_hasAll⟩ hr
 have c_check : Callee P w K mg base "check_manner" ["thing"] 4 1 gCheck := T.check.callee X G pa_check fun f fd F => fn_pure F sc_check fun cdv A outer s H E hr => bCheck.2 P w K mg base f cdv A outer s H E ⟨c_isManner⟩ hr
 have c_rodsWith : Callee P w K mg base "rods_with" ["manner", "worth"] 2 2 gRodsWith := T.rodsWith.callee X G pa_rodsWith fun f fd F => fn_pure F sc_rodsWith fun cdv A outer s H E hr => bRodsWith.2 P w K mg base f cdv A outer s H E ⟨c_allRods, c_rodWorth⟩ hr
 have c_fewest : Callee P w K mg base "fewest_beads" ["manner", "worth"] 3 2 gFewest := T.fewest.callee X G pa_fewest fun f fd F => fn_pure F sc_fewest fun cdv A outer s H E hr => bFewest.2 P w K mg base f cdv A outer s H E ⟨C.b, c_rodsWith, c_beads⟩ hr
 have c_most : Callee P w K mg base "most_on_rod" ["manner"] 2 1 gMost := T.most.callee X G pa_most fun f fd F => fn_pure F sc_most fun cdv A outer s H E hr => bMost.2 P w K mg base f cdv A outer s H E ⟨C.b, c_allRods, c_rodWorth⟩ hr
 have c_counts : Callee P w K mg base "counts" ["manner"] 5 1 gCounts := T.counts.callee X G pa_counts fun f fd F => ok_counts F ⟨c_check, c_most, c_allRods, c_rodWorth⟩
 have c_chkRods : Callee P w K mg base "check_rods" ["rods"] 2 1 gChkRods := T.chkRods.callee X G pa_chkRods fun f fd F => fn_pure F sc_chkRods fun cdv A outer s H E hr => bChkRods.2 P w K mg base f cdv A outer s H E ⟨c_isWhole, C.mostRods⟩ hr
 have c_chkNum : Callee P w K mg base "check_number" ["number"] 2 1 gChkNum := T.chkNum.callee X G pa_chkNum fun f fd F => fn_pure F sc_chkNum fun cdv A outer s H E hr => bChkNum.2 P w K mg base f cdv A outer s H E ⟨c_isWhole, C.mostNumber⟩ hr
 have c_asked : Callee P w K mg base "check_asked" ["manner", "rods", "number"] 5 3 gAsked := T.asked.callee X G pa_asked fun f fd F => fn_pure F sc_asked fun cdv A outer s H E hr => bAsked.2 P w K mg base f cdv A outer s H E ⟨c_check, c_chkRods, c_chkNum⟩ hr
 have c_num : Callee P w K mg base "number_on" ["manner", "setting"] 2 2 gNum := T.num.callee X G pa_num fun f fd F => fn_pure F sc_num fun cdv A outer s H E hr => bNum.2 P w K mg base f cdv A outer s H E ⟨c_rodWorth⟩ hr
 have c_full : Callee P w K mg base "full_rods" ["manner", "rods"] 1 2 gFull := T.full.callee X G pa_full fun f fd F => fn_pure F sc_full fun cdv A outer s H E hr => bFull.2 P w K mg base f cdv A outer s H E trivial hr
 have c_last : Callee P w K mg base "last_rods" ["manner", "ahead", "number"] 3 3 gLast := T.last.callee X G pa_last fun f fd F => fn_pure F sc_last fun cdv A outer s H E hr => bLast.2 P w K mg base f cdv A outer s H E ⟨c_allRods, c_rodWorth, c_num, c_full⟩ hr
 have c_digits : Callee P w K mg base "digits_by_rods" ["base", "rods", "number"] 1 3 gDig := T.digits.callee X G pa_digits fun f fd F => fn_pure F sc_dig fun cdv A outer s H E hr => bDig.2 P w K mg base f cdv A outer s H E C.b hr
 have c_plainR : Callee P w K mg base "plain_rods" ["manner", "rods", "number"] 4 3 gPlainR := T.plainR.callee X G pa_plainR fun f fd F => fn_pure F sc_plainR fun cdv A outer s H E hr => bPlainR.2 P w K mg base f cdv A outer s H E ⟨C.b, c_digits, c_fewest⟩ hr
 have c_plainS : Callee P w K mg base "plain_setting" ["manner", "rods", "number"] 6 3 gPlainS := T.plainS.callee X G pa_plainS fun f fd F => fn_pure F sc_plainS fun cdv A outer s H E hr => bPlainS.2 P w K mg base f cdv A outer s H E ⟨c_asked, c_plainR⟩ hr
 have c_isRod : Callee P w K mg base "is_rod" ["manner", "thing"] 2 2 gIsRod := T.isRod.callee X G pa_isRod fun f fd F => fn_pure F sc_isRod fun cdv A outer s H E hr => bIsRod.2 P w K mg base f cdv A outer s H E ⟨C.b, c_isWhole⟩ hr
 have c_isSet : Callee P w K mg base "is_setting" ["manner", "thing"] 5 2 gIsSet := T.isSet.callee X G pa_isSet fun f fd F => fn_pure F sc_isSet fun cdv A outer s H E hr => bIsSet.2 P w K mg base f cdv A outer s H E ⟨C.b, c_check, c_isRod, C.mostRods⟩ hr
 have c_chkSet : Callee P w K mg base "check_setting" ["manner", "thing"] 6 2 gChkSet := T.chkSet.callee X G pa_chkSet fun f fd F => fn_pure F sc_chkSet fun cdv A outer s H E hr => bChkSet.2 P w K mg base f cdv A outer s H E ⟨c_isSet⟩ hr
 have c_allBeads : Callee P w K mg base "all_beads" ["manner", "setting"] 7 2 gAllBeads := T.allBeads.callee X G pa_allBeads fun f fd F => fn_pure F sc_allBeads fun cdv A outer s H E hr => bAllBeads.2 P w K mg base f cdv A outer s H E ⟨C.b, c_chkSet, c_beads⟩ hr
 have c_longF : Callee P w K mg base "longer_fewest" ["manner", "ahead", "fewest"] 4 3 gLongF := T.longF.callee X G pa_longF fun f fd F => fn_pure F sc_longF fun cdv A outer s H E hr => bLongF.2 P w K mg base f cdv A outer s H E ⟨C.b, c_last, c_beads⟩ hr
 have c_least : Callee P w K mg base "least_beads" ["manner", "rods", "number"] 6 3 gLeast := T.least.callee X G pa_least fun f fd F => fn_pure F sc_least fun cdv A outer s H E hr => bLeast.2 P w K mg base f cdv A outer s H E ⟨C.b, c_asked, c_longF⟩ hr
 have c_cell : Callee P w K mg base "_law_cell" ["_law_script", "_law_k"] 1 2 gCell := T.cell.callee X G pa_cell fun f fd F => fn_pure F sc_cell fun cdv A outer s H E hr => bCell.2 P w K mg base f cdv A outer s H E C.b hr
 have c_drawn : Callee P w K mg base "_law_drawn" ["_law_script", "_law_k", "_law_many"] 2 3 gDrawn := T.drawn.callee X G pa_drawn fun f fd F => fn_pure F sc_drawn fun cdv A outer s H E hr => bDrawn.2 P w K mg base f cdv A outer s H E ⟨c_cell⟩ hr
 have c_manner : Callee P w K mg base "_law_manner" ["_law_script", "_law_at"] 3 2 gManner := T.manner.callee X G pa_manner fun f fd F => fn_pure F sc_manner fun cdv A outer s H E hr => bManner.2 P w K mg base f cdv A outer s H E ⟨C.b, c_drawn⟩ hr
 have c_value : Callee P w K mg base "value" ["manner", "setting"] 7 2 gValue := T.value.callee X G pa_value fun f fd F => fn_pure F sc_value fun cdv A outer s H E hr => bValue.2 P w K mg base f cdv A outer s H E ⟨c_chkSet, c_num⟩ hr
 have c_longer : Callee P w K mg base "longer_ways" ["manner", "ahead", "ways"] 4 3 gLonger := T.longer.callee X G pa_longer fun f fd F => fn_pure F sc_longer fun cdv A outer s H E hr => bLonger.2 P w K mg base f cdv A outer s H E ⟨c_last⟩ hr
 have c_how : Callee P w K mg base "how_many" ["manner", "rods", "number"] 6 3 gHow := T.how.callee X G pa_how fun f fd F => fn_pure F sc_how fun cdv A outer s H E hr => bHow.2 P w K mg base f cdv A outer s H E ⟨C.b, c_asked, c_longer⟩ hr
 have c_setting : Callee P w K mg base "_law_setting" ["_law_script", "_law_at", "_law_manner_here", "_law_most"] 3 4 gSet := T.setting.callee X G pa_setting fun f fd F => fn_pure F sc_set fun cdv A outer s H E hr => bSet.2 P w K mg base f cdv A outer s H E ⟨C.b, c_drawn⟩ hr
 have c_Greatest : Callee P w K mg base "greatest" ["manner", "rods"] 5 2 gGreatest := T.Greatest.callee X G pa_Greatest fun f fd F => fn_pure F sc_Greatest fun cdv A outer s H E hr => bGreatest.2 P w K mg base f cdv A outer s H E ⟨c_check, c_chkRods, c_num, c_full⟩ hr
 have c_LongerEnds : Callee P w K mg base "longer_ends" ["manner", "ahead", "ends"] 4 3 gLongerEnds := T.LongerEnds.callee X G pa_LongerEnds fun f fd F => fn_pure F sc_LongerEnds fun cdv A outer s H E hr => bLongerEnds.2 P w K mg base f cdv A outer s H E ⟨c_last⟩ hr
 have c_AllSettings : Callee P w K mg base "all_settings" ["manner", "rods", "number"] 6 3 gAllSettings := T.AllSettings.callee X G pa_AllSettings fun f fd F => fn_pure F sc_AllSettings fun cdv A outer s H E hr => bAllSettings.2 P w K mg base f cdv A outer s H E ⟨C.b, c_asked, c_LongerEnds⟩ hr
 have c_LParted : Callee P w K mg base "_law_parted" ["_law_manner_here", "_law_rods_here", "_law_number"] 7 3 gLParted := T.LParted.callee X G pa_LParted fun f fd F => fn_pure F sc_LParted fun cdv A outer s H E hr => bLParted.2 P w K mg base f cdv A outer s H E ⟨C.b, c_counts, c_most, c_how⟩ hr
 exact ⟨C.b, c_manner, c_setting, c_value, c_LParted, c_how, c_least, c_AllSettings, c_allBeads, c_plainS, c_isSet, c_Greatest⟩
theorem all_mk (HT : allN = true) {P : Program} {w : World} {K : PySem.W.Frag} {h : Heap} {mg : Str → Option Value} {fa : Addr} (X : K.In h) (G : h.Ns mainGlobals mg) (hfa : mg "law" = some (.ref fa)) (T : Tops K) (C : Consts K mg) :
  ∃ fd : FuncData, (∀ (s : Shared) (v : Value), BindsTo s fd ⟨[v], []⟩ [("_law_script", v)]) ∧ ∀ base : Heap, K.In base → base.Ns mainGlobals mg → FnOk P w K mg base CX0 8 fa fd ["_law_script"] (Pur K 1 gLaw) := by
 have Q : ∀ base : Heap, CLaw P w K mg base := fun base => claw HT X G T C
 obtain ⟨f, oc, od, an, kV, doc, pm, cdv, ct, osl, a, l, c, kp⟩ := T.law
 have e := hfa.symm.trans (PySem.W.mg_of X G a)
 cases e
 have F1 := fun_mk (st := sLaw) l c kp
 exact ⟨_, fun s v => .of_eq rfl, fun base _ _ => fn_pure F1 sc_Law fun cdv A outer s H E hr => bLaw.2 P w K mg base fa cdv A outer s H E (Q base) hr⟩
theorem sp_ok (HT : allN = true) (K : PySem.W.Frag) (H : Hp) (a : Addr) (ns : List Int) (hl : ns.length ≤ 63) (hS : SqL K H a (ns.map V.int)) : Pur K 1 gLaw [.ref a] H (fun v _ => v = .bl true) fun _ _ _ => False :=
 ⟨[scr ns], .bool true, rfl, ⟨_, _, rfl, ⟨a, rfl, .inl ⟨ns, hS, rfl⟩⟩, rfl⟩, gLaw_true HT ns (by omega), fun v H' _ r => r⟩
theorem walk (HT : allN = true) {l : PySem.W.OpenLaw} {q : Program} {loose : List Str} {XP : (Str → Option Value) → Heap → Prop} {YP : World → Heap → Prop} {d : DefRec} {K : Params → PySem.W.Frag} (hn : l.most = some 63) (hdf : d.params.defaults = [])
  (hY : ∀ (w : World) (h : Heap), YP w h → (K w.params).In h) (hnm : d.name = "law")
  (F : ∀ (w : World) (mg : Str → Option Value) (h : Heap), (K w.params).In h → h.Ns mainGlobals mg → Tops (K w.params) ∧ Consts (K w.params) mg) :
  PySem.W.WalkO q loose XP YP l.row.toRowW d [] (fun f vs => PySem.call f vs) :=
 L2.walk_of (n := 63) (k := 8) (x := "_law_script") (CX := fun _ => CX0) (sp := fun w => Pur (K w.params) 1 gLaw) hn (by decide) hdf ⟨rfl, by decide, by decide⟩ hY (fun w mg fa h KX G hm => by
  obtain ⟨T, C⟩ := F w mg h KX G
  rw [hnm] at hm
  exact all_mk HT KX G hm T C) (fun w H a ns hl _ hS => sp_ok HT (K w.params) H a ns hl hS) fun _ _ _ _ _ z => z
end Rods
end
section
namespace Rods
open PySem L2 BX
open PyProof.Rows hiding St
theorem bare_mk {K : PySem.W.Frag} {mg : Str → Option Value} {h : Heap} (X : K.In h) (G : h.Ns mainGlobals mg) (z1 : PySem.W.nsIn K mainGlobals "isinstance" = some none) (z2 : PySem.W.nsIn K mainGlobals "bool" = some none) (z3 : PySem.W.nsIn K mainGlobals "int" = some none) (z4 : PySem.W.nsIn K mainGlobals "tuple" = some none) (z5 : PySem.W.nsIn K mainGlobals "zip" = some none) (z6 : PySem.W.nsIn K mainGlobals "range" = some none) (z7 : PySem.W.nsIn K mainGlobals "all" = some none) (z8 : PySem.W.nsIn K mainGlobals "len" = some none) (z9 : PySem.W.nsIn K mainGlobals "max" = some none) (z10 : PySem.W.nsIn K mainGlobals "min" = some none) (z11 : PySem.W.nsIn K mainGlobals "sum" = some none) (z12 : PySem.W.nsIn K mainGlobals "sorted" = some none) (z13 : PySem.W.nsIn K mainGlobals "abs" = some none) (z14 : PySem.W.nsIn K mainGlobals "list" = some none) (z15 : PySem.W.nsIn K mainGlobals "enumerate" = some none) (z16 : PySem.W.nsIn K mainGlobals "ValueError" = some none) (z17 : PySem.W.nsIn K mainGlobals "str" = some none) (z18 : PySem.W.nsIn K mainGlobals "set" = some none) (z19 : PySem.W.nsIn K mainGlobals "dict" = some none) : Bare mg :=
 have f : ∀ {x : Str}, PySem.W.nsIn K mainGlobals x = some none → mg x = none := fun z => PySem.W.mg_none_of X G z
 ⟨f z1, f z2, f z3, f z4, f z5, f z6, f z7, f z8, f z9, f z10, f z11, f z12, f z13, f z14, f z15, f z16, f z17, f z18, f z19⟩
theorem gc4 {K : PySem.W.Frag} {mg : Str → Option Value} {h : Heap} {x : Str} {a : Addr} {od : Option Addr} {n : Nat} {osl : Array (Option Value)} {i1 i2 i3 i4 : Int} {t1 t2 t3 t4 : Tok} (X : K.In h) (G : h.Ns mainGlobals mg) (e : PySem.W.nsIn K mainGlobals x = some (some (.ref a)))
  (l : K.lookup a = some ⟨.type "tuple", od, .seq #[.int i1 t1, .int i2 t2, .int i3 t3, .int i4 t4] n, osl⟩) : GC K mg x (.tuple [.int i1, .int i2, .int i3, .int i4]) :=
 gc_tuple X G e l rfl ⟨_, _, [.int i1, .int i2, .int i3, .int i4], rfl, (by show 4 ≤ sizeLine; rw [sizeLine_eq]; decide), .cons ⟨_, rfl⟩ (.cons ⟨_, rfl⟩ (.cons ⟨_, rfl⟩ (.cons ⟨_, rfl⟩ .nil))), fun H => ⟨_, _, rfl, rfl, _, _, rfl, rfl, _, _, rfl, rfl, _, _, rfl, rfl, rfl⟩⟩
theorem gcI {K : PySem.W.Frag} {mg : Str → Option Value} {h : Heap} {x : Str} {i : Int} {t : Tok} (X : K.In h) (G : h.Ns mainGlobals mg) (e : PySem.W.nsIn K mainGlobals x = some (some (.int i t))) : GC K mg x (.int i) :=
 ⟨.int i, _, PySem.W.mg_of X G e, ⟨t, rfl⟩, fun H => rfl⟩
end Rods
def PySem.W.Fast.tw6147575309886712154 : Unit := ()
def PySem.W.Fast.tw364587325614649902 : Unit := ()
def PySem.W.Fast.tw424715314628037842 : Unit := ()
def PySem.W.Fast.tw2617984252404669972 : Unit := ()
def PySem.W.Fast.tw12360590129644443859 : Unit := ()
def PySem.W.Fast.tw12680989158474059736 : Unit := ()
def PySem.W.Fast.tw7030399338670819687 : Unit := ()
def PySem.W.Fast.tw11559748117060168205 : Unit := ()
open PySem PySem.W PyProof.Rows
set_option maxRecDepth 100000 in
set_option maxHeartbeats 0 in
theorem PySem.Challenge.cw_beadrods_k12_whole_settings_holds : PySem.Challenge.rw_beadrods_k12_whole_settings.Holds := by
  w_on; o_law; k_head; (case hw => w_witness2)
  k_fill
  refine Rods.walk Rods.allN_true (l := PySem.Challenge.rw_beadrods_k12_whole_settings) rfl rfl (fun w h Y => PySem.W.kIn_of Y) rfl ?F
  case F =>
    intro w mg h KX G
    refine ⟨⟨?f1, ?f2, ?f3, ?f4, ?f5, ?f6, ?f7, ?f8, ?f9, ?f10, ?f11, ?f12, ?f13, ?f14, ?f15, ?f16, ?f17, ?f18, ?f19, ?f20, ?f21, ?f22, ?f23, ?f24, ?f25, ?f26, ?f27, ?f28, ?f29, ?f30, ?f31, ?f32, ?f33, ?f34, ?f35, ?f36, ?f37, ?f38⟩, ⟨?b, ?c1, ?c2, ?c3, ?c4⟩⟩
    case b => refine' Rods.bare_mk KX G ?_ ?_ ?_ ?_ ?_ ?_ ?_ ?_ ?_ ?_ ?_ ?_ ?_ ?_ ?_ ?_ ?_ ?_ ?_ <;> k_is
    case c1 =>
      refine' Rods.gc4 KX G ?a ?l
      (case a => k_is); (case l => k_is)
    case c2 =>
      refine' Rods.gc4 KX G ?a ?l
      (case a => k_is); (case l => k_is)
    case c3 =>
      refine' Rods.gcI KX G ?a
      (case a => k_is)
    case c4 =>
      refine' Rods.gcI KX G ?a
      (case a => k_is)
    all_goals
      refine' BX.topfn_mk ?a ?l ?c ?k
      (case a => k_is); (case l => k_is); (case c => k_is); (case k => k_is)
#print axioms PySem.Challenge.cw_beadrods_k12_whole_settings_holds
end
